import PyProof.Rows.All
import Wide.All
import OpenK.AllK
import Wide.FinOn
import HandS.ForMost
import HandS.Exc
import HandS.ExcOwn
import HandS.ExcInit
import HandS.ExcField
import HandS.ExcIs
import HandS.TryOnly
import HandS.TryMany
import HandS.WordsExc
import HandS.CallSlots
import HandS.IsInst
import HandS.Codes
import HandS.Walk
import HandS.Steps
import HandS.StrMore
import HandS.Strs
import HandS.TupSets
import HandS.Zip
import PyProof.Rows.SortStr
import HandS.OwnIter
import HandS.OwnEq
import HandS.IterVal
import HandS.More
import KE.KDictKeyed
import PyProof.Rows.TupTab
import HandS.Deep
import PyProof.EnumMake
import PyProof.DictMoreH
import HandS.NamedTupGet
import HandS.Conv
import HandS.FStr
import KE.KxField
import HandS.Defaults
import KE.KUnpackStar
import PySem.Challenge.RW_redopages_k12_texts_of_formulas
set_option Elab.async false
set_option linter.all false
set_option maxRecDepth 100000
set_option maxHeartbeats 4000000
/-! readings by named steps -/
namespace Fw
open PySem PySem.Spec L2

/-! ### a def of the top -/
structure Df (K : PySem.W.Frag) (mg : Str → Option Value) (nm qual : Str) (st : Stmt) (ps : List Str) where
  f : Addr
  fd : FuncData
  F : Fun K nm qual st f fd
  g : mg nm = some (.ref f)
  b : Binds K fd ps []
/-- a method: where it stands -/
structure Mf (K : PySem.W.Frag) (nm qual : Str) (st : Stmt) (ps : List Str) where
  f : Addr
  fd : FuncData
  F : Fun K nm qual st f fd
  b : Binds K fd ps []

section
variable {X : Cx}
/-! ### named relations -/
def rLtS : R2 := fun x y H Q => ∃ i j, x = .str i ∧ y = .str j ∧ Q (.bl (decide (i.cps.toList < j.cps.toList))) H
theorem op_ltS : OpR X (compareOp .Lt) rLtS := op_lt_str
def rLeS : R2 := fun x y H Q => ∃ i j, x = .str i ∧ y = .str j ∧ Q (.bl (!decide (j.cps.toList < i.cps.toList))) H
theorem op_leS : OpR X (compareOp .LtE) rLeS := op_le_str
def rLtA : R2 := fun x y H Q => rI0 (fun i j => .bl (decide (i < j))) x y H Q ∨ rLtS x y H Q
theorem op_ltA : OpR X (compareOp .Lt) rLtA := op_lt.or op_ltS
def rLeA : R2 := fun x y H Q => rI0 (fun i j => .bl (decide (i ≤ j))) x y H Q ∨ rLeS x y H Q
theorem op_leA : OpR X (compareOp .LtE) rLeA := op_le.or op_leS
def rGtI : R2 := rI0 fun i j => .bl (decide (j < i))
theorem op_gtI : OpR X (compareOp .Gt) rGtI := op_gt
def rGeI : R2 := rI0 fun i j => .bl (decide (j ≤ i))
theorem op_geI : OpR X (compareOp .GtE) rGeI := op_ge
def rAddA : R2 := fun x y H Q => rI0 (fun i j => .int (i + j)) x y H Q ∨ rAddS x y H Q ∨ rCat x y H Q
theorem op_addA : OpR X (binaryOp .Add) rAddA := op_add.or (OpR.or (r := rAddS) op_add_str op_cat)
def rSubI : R2 := rI0 fun i j => .int (i - j)
theorem op_subI : OpR X (binaryOp .Sub) rSubI := op_sub
def rModI : R2 := rI (fun _ j => 0 < j) fun i j => .int (i % j)
theorem op_modI : OpR X (binaryOp .Mod) rModI := op_mod
def rDivI : R2 := rI CDiv fun i j => .int (i / j)
theorem op_divI : OpR X (binaryOp .FloorDiv) rDivI := op_fdiv
def rPowI : R2 := rI CPow fun i j => .int (i ^ j.toNat)
theorem op_powI : OpR X (binaryOp .Pow) rPowI := op_pow
/-- == and != : of scalars, of data -/
def rEqA (K : PySem.W.Frag) : R2 := fun x y H Q => rEq x y H Q ∨ rEqD K x y H Q
def rNeA (K : PySem.W.Frag) : R2 := fun x y H Q => rNe x y H Q ∨ rNeD K x y H Q
theorem op_eqA (hu : X.A.units + 64 < cLine) : OpR X (compareOp .Eq) (rEqA X.K) := op_eq.or (op_eqD hu)
theorem op_neA (hu : X.A.units + 64 < cLine) : OpR X (compareOp .NotEq) (rNeA X.K) := op_ne.or (op_neD hu)
def rLenA (K : PySem.W.Frag) : List V → Hp → VK → Prop := fun xs H Q => ∃ x n, xs = [x] ∧ LenV K x H n ∧ Q (.int n) H
theorem call_lenA : CallR X (.builtin "len") (rLenA X.K) := call_len
def rInt1 : List V → Hp → VK → Prop := fun xs H Q => (∃ i, xs = [.int i] ∧ Q (.int i) H) ∨ ∃ k, xs = [.bl k] ∧ Q (.int (if k then 1 else 0)) H
theorem call_intA : CallR X (.type "int") rInt1 := call_int1
def rSlA (K : PySem.W.Frag) : V → Option Int → Option Int → Hp → VK → Prop := fun x lo hi H Q => rSlL K x lo hi H Q ∨ rSlS x lo hi H Q
theorem sl_any : SlR X (rSlA X.K) := sl_list.or sl_str
def rJoin (K : PySem.W.Frag) : V → List V → Hp → VK → Prop := fun x xs H Q => ∃ a p, ∃ ys : List Str, x = .str a ∧ xs = [.ref p] ∧ (SqL K H p (ys.map V.str) ∨ SqT K H p (ys.map V.str)) ∧
    (ys.map (·.length)).sum + ys.length * a.length ≤ 16777216 ∧ Q (.str (Txt.join a ys)) H
def rUpper : V → List V → Hp → VK → Prop := fun x xs H Q => ∃ a, x = .str a ∧ xs = [] ∧ a.length ≤ 5592405 ∧ Q (.str (Txt.upper a)) H
theorem pe_joinA {o e : Expr} {to te : TE} {apos pos : Pos} (ho : PE X o to) (he : PE X e te) (hs : starEach [e] X.env = [(false, eval e X.env)] := by rfl) (hbase : attributeBase o "join" X.env (eval o X.env) = eval o X.env := by rfl) (hline : (apos.endLine == pos.line) = true := by rfl) :
    PE X (.Call (.Attribute o "join" apos) [e] [] pos) (tM1 (rJoin X.K) to te) := pe_join ho he hs hbase hline
theorem pe_upperA {o : Expr} {to : TE} {apos pos : Pos} (ho : PE X o to) (hbase : attributeBase o "upper" X.env (eval o X.env) = eval o X.env := by rfl) (hline : (apos.endLine == pos.line) = true := by rfl) :
    PE X (.Call (.Attribute o "upper" apos) [] [] pos) (tM0 rUpper to) := pe_upper ho hbase hline

/-! ### calls of defs -/
theorem pe_cf {P : Program} {w : World} {K : PySem.W.Frag} {mg : Str → Option Value} {base : Heap} {nm q : Str} {st : Stmt} {ps : List Str} {CX : CXT} {k : Nat} {sp : Sp} {E : XK} {e : Expr} {es : List Expr} {t : TA} {p pos : Pos} (d : Df K mg nm q st ps) (F : FnOk P w K mg base CX k d.f d.fd ps sp) (hr : Room k X.A) (hx : Passes CX X E)
    (ha : PA X (e :: es) t) (h1 : X.prog = P := by rfl) (h2 : X.w = w := by rfl) (h3 : X.K = K := by rfl) (h4 : X.mg = mg := by rfl) (h5 : X.base = base := by rfl) (hg : Gl X nm := by rfl) (hd : (nm == ("__debug__" : Str)) = false := by decide) (he : starEach (e :: es) X.env = (false, eval e X.env) :: starEach es X.env := by rfl) (hpl : (backTo pos (starEach es X.env)).any (·.1) = false := by rfl) :
    PE X (.Call (.Name nm p) (e :: es) [] pos) (tCall sp [] E t) := by
  subst h1 h2 h3 h4 h5
  exact pe_call F hr hg d.g d.F.kp d.b .nil hx ha hd he hpl
end

/-! ### readings, step by step -/
namespace Rd
variable {K : PySem.W.Frag} {σ : St} {H : Hp} {Q : VK} {x y z v : V} {ta tb te tc to tx : TE} {t u : TS} {i j : Int} {a b p : Addr} {N : St → Hp → Prop} {r : VK} {bk ct : St → Hp → Prop} {g : Int → Int → V}
theorem var {i : Nat} (h : σ[i]? = some (some v)) (q : Q v H) : tVar i σ H Q := ⟨v, h, q⟩
theorem con (q : Q v H) : tC v σ H Q := q
theorem op {r : R2} (h : ta σ H fun x H1 => tb σ H1 fun y H2 => r x y H2 Q) : tOp r ta tb σ H Q := h
theorem i0 (q : Q (g i j) H) : rI0 g (.int i) (.int j) H Q := ⟨i, j, rfl, rfl, q⟩
theorem ii {C : Int → Int → Prop} (c : C i j) (q : Q (g i j) H) : rI C g (.int i) (.int j) H Q := ⟨i, j, rfl, rfl, c, q⟩
theorem addI (q : Q (.int (i + j)) H) : rAddA (.int i) (.int j) H Q := .inl ⟨i, j, rfl, rfl, q⟩
theorem addS {x y : Str} (h : x.length + y.length ≤ sizeLine) (q : Q (.str (x ++ y)) H) : rAddA (.str x) (.str y) H Q := .inr (.inl ⟨x, y, rfl, rfl, h, q⟩)
theorem addL {xs ys : List V} (h1 : H a = some (.lst xs)) (h2 : H b = some (.lst ys)) (hl : xs.length + ys.length ≤ sizeLine) (q : ∀ p, H p = none → Q (.ref p) (upd H p (.lst (xs ++ ys)))) : rAddA (.ref a) (.ref b) H Q :=
  .inr (.inr ⟨a, b, xs, ys, rfl, rfl, h1, h2, hl, q⟩)
theorem subI (q : Q (.int (i - j)) H) : rSubI (.int i) (.int j) H Q := ⟨i, j, rfl, rfl, q⟩
theorem modI (h : 0 < j) (q : Q (.int (i % j)) H) : rModI (.int i) (.int j) H Q := ⟨i, j, rfl, rfl, h, q⟩
theorem divI (h : CDiv i j) (q : Q (.int (i / j)) H) : rDivI (.int i) (.int j) H Q := ⟨i, j, rfl, rfl, h, q⟩
theorem powI (h : CPow i j) (q : Q (.int (i ^ j.toNat)) H) : rPowI (.int i) (.int j) H Q := ⟨i, j, rfl, rfl, h, q⟩
theorem gtI (q : Q (.bl (decide (j < i))) H) : rGtI (.int i) (.int j) H Q := ⟨i, j, rfl, rfl, q⟩
theorem geI (q : Q (.bl (decide (j ≤ i))) H) : rGeI (.int i) (.int j) H Q := ⟨i, j, rfl, rfl, q⟩
theorem ltI (q : Q (.bl (decide (i < j))) H) : rLtA (.int i) (.int j) H Q := .inl ⟨i, j, rfl, rfl, q⟩
theorem leI (q : Q (.bl (decide (i ≤ j))) H) : rLeA (.int i) (.int j) H Q := .inl ⟨i, j, rfl, rfl, q⟩
theorem ltS {x y : Str} (q : Q (.bl (decide (x.cps.toList < y.cps.toList))) H) : rLtA (.str x) (.str y) H Q := .inr ⟨x, y, rfl, rfl, q⟩
theorem leS {x y : Str} (q : Q (.bl (!decide (y.cps.toList < x.cps.toList))) H) : rLeA (.str x) (.str y) H Q := .inr ⟨x, y, rfl, rfl, q⟩
theorem eqI (q : Q (.bl (decide (i = j))) H) : rEqA K (.int i) (.int j) H Q := .inl ⟨rfl, by
  have e : decide (V.int i = V.int j) = decide (i = j) := decide_eq_decide.mpr ⟨fun z => V.int.inj z, fun z => by rw [z]⟩
  rw [e]; exact q⟩
theorem neI (q : Q (.bl (!decide (i = j))) H) : rNeA K (.int i) (.int j) H Q := .inl ⟨rfl, by
  have e : decide (V.int i = V.int j) = decide (i = j) := decide_eq_decide.mpr ⟨fun z => V.int.inj z, fun z => by rw [z]⟩
  rw [e]; exact q⟩
theorem eqS {x y : Str} (q : Q (.bl (decide (x = y))) H) : rEqA K (.str x) (.str y) H Q := .inl ⟨rfl, by
  have e : decide (V.str x = V.str y) = decide (x = y) := decide_eq_decide.mpr ⟨fun z => V.str.inj z, fun z => by rw [z]⟩
  rw [e]; exact q⟩
theorem neS {x y : Str} (q : Q (.bl (!decide (x = y))) H) : rNeA K (.str x) (.str y) H Q := .inl ⟨rfl, by
  have e : decide (V.str x = V.str y) = decide (x = y) := decide_eq_decide.mpr ⟨fun z => V.str.inj z, fun z => by rw [z]⟩
  rw [e]; exact q⟩
theorem eqD {d e : PyData} (h1 : Dp K H x d) (h2 : Dp K H y e) (s1 : SeqAt.shaped d = true) (s2 : SeqAt.shaped e = true) (q : Q (.bl (PyData.eqv d e)) H) : rEqA K x y H Q := .inr ⟨d, e, h1, h2, s1, s2, q⟩
theorem neD {d e : PyData} (h1 : Dp K H x d) (h2 : Dp K H y e) (s1 : SeqAt.shaped d = true) (s2 : SeqAt.shaped e = true) (q : Q (.bl (!PyData.eqv d e)) H) : rNeA K x y H Q := .inr ⟨d, e, h1, h2, s1, s2, q⟩
theorem int1 (q : Q (.int i) H) : rInt1 [.int i] H Q := .inl ⟨i, rfl, q⟩
theorem lenL {xs : List V} (h : SqL K H p xs) (q : Q (.int xs.length) H) : rLenA K [.ref p] H Q := ⟨_, _, rfl, .inl ⟨xs, h, rfl⟩, q⟩
theorem lenT {xs : List V} (h : SqT K H p xs) (q : Q (.int xs.length) H) : rLenA K [.ref p] H Q := ⟨_, _, rfl, .inr ⟨xs, h, rfl⟩, q⟩
theorem lenS {x : Str} (h : x.length ≤ sizeLine) (q : Q (.int x.length) H) : rLenA K [.str x] H Q := ⟨_, _, rfl, ⟨h, rfl⟩, q⟩
theorem ixL {xs : List V} (h : SqL K H p xs) (h2 : atI xs i = some v) (q : Q v H) : rIx K (.ref p) (.int i) H Q := .inl ⟨p, xs, i, v, rfl, rfl, h, h2, q⟩
theorem ixT {xs : List V} (h : SqT K H p xs) (h2 : atI xs i = some v) (q : Q v H) : rIx K (.ref p) (.int i) H Q := .inr (.inl ⟨p, xs, i, v, rfl, rfl, h, h2, q⟩)
theorem ixS {x : Str} {c : Nat} (h : x.length ≤ sizeLine) (h2 : atI x.cps.toList i = some c) (q : Q (.str ⟨#[c]⟩) H) : rIx K (.str x) (.int i) H Q := .inr (.inr ⟨x, i, c, rfl, rfl, h, h2, q⟩)
theorem slL {xs : List V} {lo hi : Option Int} (h : SqL K H a xs) (q : ∀ p, H p = none → Q (.ref p) (upd H p (.lst (cutV xs lo hi)))) : rSlA K (.ref a) lo hi H Q := .inl ⟨a, xs, rfl, h, q⟩
theorem slS {x : Str} {lo hi : Option Int} (h : x.length ≤ sizeLine) (q : Q (.str (cutS x lo hi)) H) : rSlA K (.str x) lo hi H Q := .inr ⟨x, rfl, h, q⟩
theorem sl {r : V → Option Int → Option Int → Hp → VK → Prop} {tl th : TO} (h : te σ H fun x H1 => tl σ H1 fun l H2 => th σ H2 fun u H3 => r x l u H3 Q) : tSl r te tl th σ H Q := h
theorem noPart {Q : Option Int → Hp → Prop} (q : Q none H) : tNoPart σ H Q := q
theorem part {Q : Option Int → Hp → Prop} (h : te σ H fun x H1 => ∃ i, x = .int i ∧ Q (some i) H1) : tPart te σ H Q := h
theorem exint {P : Int → Prop} (h : P i) : ∃ k, V.int i = .int k ∧ P k := ⟨i, rfl, h⟩
/-- tests -/
theorem test {Q : Bool → Hp → Prop} (h : te σ H fun x H' => ∃ k, x = .bl k ∧ Q k H') : tTest te σ H Q := h
theorem tbv {Q : Bool → Hp → Prop} (h : te σ H fun x H' => ∃ k, x = .bl k ∧ Q k H') : tB te σ H Q := h
theorem exbl {b : Bool} {P : Bool → Prop} (h : P b) : ∃ k, V.bl b = .bl k ∧ P k := ⟨b, rfl, h⟩
theorem yes {Q : Bool → Hp → Prop} (q : Q true H) : tYes σ H Q := q
theorem andT {t u : TT} {Q : Bool → Hp → Prop} (h : t σ H fun c H1 => if c = true then u σ H1 Q else Q false H1) : tAnd t u σ H Q := h
theorem orT {t u : TT} {Q : Bool → Hp → Prop} (h : t σ H fun c H1 => if c = true then Q true H1 else u σ H1 Q) : tOr t u σ H Q := h
theorem notT {t : TT} {Q : Bool → Hp → Prop} (h : t σ H fun c H1 => Q (!c) H1) : tNot t σ H Q := h
theorem andV (h : ta σ H fun x H1 => ∃ c, x = .bl c ∧ if c = true then tb σ H1 Q else Q (.bl false) H1) : tAndV ta tb σ H Q := h
theorem orV (h : ta σ H fun x H1 => ∃ c, x = .bl c ∧ if c = true then Q (.bl true) H1 else tb σ H1 Q) : tOrV ta tb σ H Q := h
theorem notV (h : ta σ H fun x H1 => ∃ c, x = .bl c ∧ Q (.bl (!c)) H1) : tNotV ta σ H Q := h
theorem chain {r r' : R2} (h : ta σ H fun x H1 => tb σ H1 fun y H2 => r x y H2 fun z H3 => ∃ k, z = .bl k ∧ (if k = true then tc σ H3 fun w' H4 => r' y w' H4 Q else Q (.bl false) H3)) : tChain r r' ta tb tc σ H Q := h
/-- statements -/
theorem seq (h : t (Ends.mk (u (Ends.mk N r bk ct)) r bk ct) σ H) : tSeq t u (Ends.mk N r bk ct) σ H := h
theorem asg {i : Nat} (h : te σ H fun x H1 => N (σ.set i (some x)) H1) : tAsg te (gName i) (Ends.mk N r bk ct) σ H := h
theorem drop (h : te σ H fun _ H1 => N σ H1) : tDrop te (Ends.mk N r bk ct) σ H := h
theorem ret (h : te σ H r) : tRet te (Ends.mk N r bk ct) σ H := h
theorem retN (h : r .non H) : tRetN (Ends.mk N r bk ct) σ H := h
theorem next (h : N σ H) : tNext (Ends.mk N r bk ct) σ H := h
theorem ifS {c : TT} (h : c σ H fun b H1 => if b = true then t (Ends.mk N r bk ct) σ H1 else u (Ends.mk N r bk ct) σ H1) : tIfS c t u (Ends.mk N r bk ct) σ H := h
theorem iteT {A B : Prop} (h : A) : if true = true then A else B := by rw [if_pos rfl]; exact h
theorem iteF {A B : Prop} (h : B) : if false = true then A else B := by rw [if_neg Bool.false_ne_true]; exact h
theorem iteNF {A B : Prop} (h : A) : if (!false) = true then A else B := h
theorem iteNT {A B : Prop} (h : B) : if (!true) = true then A else B := h
theorem iteD {c A B : Prop} [Decidable c] (h1 : c → A) (h2 : ¬ c → B) : if decide c = true then A else B := by
  by_cases h : c
  · rw [decide_eq_true h, if_pos rfl]; exact h1 h
  · rw [decide_eq_false h, if_neg Bool.false_ne_true]; exact h2 h
theorem iteN {c A B : Prop} [Decidable c] (h1 : ¬ c → A) (h2 : c → B) : if (!decide c) = true then A else B := by
  by_cases h : c
  · rw [decide_eq_true h]; rw [if_neg (by decide)]; exact h2 h
  · rw [decide_eq_false h]; rw [if_pos (by decide)]; exact h1 h
/-- calls, displays -/
theorem cons {tr : TA} {Q : List V → Hp → Prop} (h : ta σ H fun x H1 => tr σ H1 fun xs H2 => Q (x :: xs) H2) : tCons ta tr σ H Q := h
theorem nil {Q : List V → Hp → Prop} (q : Q [] H) : tNil σ H Q := q
theorem call {sp : Sp} {E : XK} {t : TA} (h : t σ H fun vs H1 => sp (vs ++ []) H1 Q E) : tCall sp [] E t σ H Q := h
theorem cb {r : List V → Hp → VK → Prop} {t : TA} (h : t σ H fun vs H1 => r vs H1 Q) : tCB r t σ H Q := h
theorem tup {t : TA} (h : t σ H fun xs H1 => xs.length ≤ sizeLine ∧ ∀ p, H1 p = none → Q (.ref p) (upd H1 p (.tup xs))) : tTup t σ H Q := h
theorem lst {t : TA} (h : t σ H fun xs H1 => xs.length ≤ sizeLine ∧ ∀ p, H1 p = none → Q (.ref p) (upd H1 p (.lst xs))) : tLst t σ H Q := h
theorem m0 {r : V → List V → Hp → VK → Prop} (h : to σ H fun x H1 => (∃ a, x = .str a) ∧ r x [] H1 Q) : tM0 r to σ H Q := h
theorem m1 {r : V → List V → Hp → VK → Prop} (h : to σ H fun x H1 => (∃ a, x = .str a) ∧ te σ H1 fun y H2 => r x [y] H2 Q) : tM1 r to te σ H Q := h
theorem isStr {x : Str} {A : Prop} (h : A) : (∃ a, V.str x = .str a) ∧ A := ⟨⟨x, rfl⟩, h⟩
theorem upper {x : Str} (h : x.length ≤ 5592405) (q : Q (.str (Txt.upper x)) H) : rUpper (.str x) [] H Q := ⟨x, rfl, rfl, h, q⟩
theorem join {x : Str} {ys : List Str} (h : SqL K H p (ys.map V.str)) (hz : (ys.map (·.length)).sum + ys.length * x.length ≤ 16777216) (q : Q (.str (Txt.join x ys)) H) : rJoin K (.str x) [.ref p] H Q := ⟨x, p, ys, rfl, rfl, .inl h, hz, q⟩
theorem fld {f : Str} (h : ta σ H fun x H1 => ∃ a C dx fs v, x = .ref a ∧ H1 a = some (.ins C dx fs) ∧ Cls K C ∧ NoAttr K C f ∧ fs.lookup f = some v ∧ Q v H1) : tFld K ta f σ H Q := h
theorem start_ {t : TS} {D : Ends} {σ' : St} (e : σ = σ') (h : t D σ' H) : t D σ H := by rw [e]; exact h
end Rd

/-- heaps -/
theorem same_new {H : Hp} {p : Addr} {o : HO} (h : H p = none) : Same H (upd H p o) := fun a u e => by
  rw [upd_ne (ne_of_none e h)]; exact e
theorem same_upd {H0 H : Hp} {p : Addr} {o : HO} (e : Same H0 H) (h : H0 p = none) : Same H0 (upd H p o) := fun a u ha => by
  rw [upd_ne (ne_of_none ha h)]; exact e a u ha
theorem Same.sqt {K : PySem.W.Frag} {H H' : Hp} {a : Addr} {xs : List V} (e : Same H H') (h : SqT K H a xs) : SqT K H' a xs := by
  rcases h with (h | ⟨o, h⟩) | h
  · exact .inl (.inl (e _ _ h))
  · exact .inl (.inr ⟨o, e _ _ h⟩)
  · exact .inr h
end Fw
namespace Fw
open PySem PySem.Spec L2
/-- the built-ins that the program leaves alone -/
structure Bt (mg : Str → Option Value) : Prop where
  len : mg "len" = none
  sum : mg "sum" = none
  int : mg "int" = none
  range : mg "range" = none
  isinstance : mg "isinstance" = none
  any : mg "any" = none
  all : mg "all" = none
  list : mg "list" = none
  tuple : mg "tuple" = none
  sorted : mg "sorted" = none
  set : mg "set" = none
  bool : mg "bool" = none
  ValueError : mg "ValueError" = none
section
variable {X : Cx}
def rMulS : R2 := fun x y H Q => ∃ z i, x = .str z ∧ y = .int i ∧ 0 ≤ i ∧ i < 1000 ∧ z.length ≤ 1000 ∧ Q (.str (Txt.mul z i)) H
theorem op_mulS : OpR X (binaryOp .Mult) rMulS := by
  intro pins s σ H x y v u Q I rx ry h
  obtain ⟨z, i, rfl, rfl, h0, h1, h2, q⟩ := h
  obtain ⟨t, rfl⟩ := rx
  obtain ⟨t', rfl⟩ := ry
  have e : i.toNat ≤ 1000 := by omega
  have hm : z.length * i.toNat ≤ 1000 * 1000 := Nat.mul_le_mul h2 e
  refine PySem.SB.mul ⟨?_, fun hn _ => ?_, fun hn _ => ?_⟩ fun t' k => ⟨.str _, H, I.tok k, ⟨t', rfl⟩, q⟩
  · rw [decide_eq_false (by omega), decide_eq_false (by omega)]; rfl
  · have hd : 1000 ≤ (2 ^ 63 - 1) / i := by
      rw [Int.le_ediv_iff_mul_le (by omega)]
      omega
    omega
  · show decide _ = false
    apply decide_eq_false
    have q : sizeLine = 16777216 := sizeLine_eq
    omega
def rMulA : R2 := fun x y H Q => rI CMul (fun i j => .int (i * j)) x y H Q ∨ rMulS x y H Q
theorem op_mulA : OpR X (binaryOp .Mult) rMulA := op_mul.or op_mulS
end
namespace Rd
variable {H : Hp} {Q : VK} {i j : Int} 
theorem mulI (h : CMul i j) (q : Q (.int (i * j)) H) : rMulA (.int i) (.int j) H Q := .inl ⟨i, j, rfl, rfl, h, q⟩
theorem mulS {z : Str} (h0 : 0 ≤ i) (h1 : i < 1000) (h2 : z.length ≤ 1000) (q : Q (.str (Txt.mul z i)) H) : rMulA (.str z) (.int i) H Q := .inr ⟨z, i, rfl, rfl, h0, h1, h2, q⟩
theorem asgSub {σ : St} {N : St → Hp → Prop} {r : VK} {bk ct : St → Hp → Prop} {te to ti : TE} {t : TSet} (h : te σ H fun v H1 => to σ H1 fun o H2 => ti σ H2 fun i H3 => t o i v H3 fun H4 => N σ H4) : tAsg te (gSub to ti t) (Ends.mk N r bk ct) σ H := h
theorem setL {p : Addr} {v : V} {xs : List V} {j : Nat} {Q : Hp → Prop} (h : H p = some (.lst xs)) (h2 : ixN xs.length i = some j) (q : Q (upd H p (.lst (xs.set j v)))) : rSetL (.ref p) (.int i) v H Q := ⟨p, xs, i, j, rfl, rfl, h, h2, q⟩
theorem sumL {K : PySem.W.Frag} {a : Addr} {ns : List Int} (h : SqL K H a (ns.map V.int)) (q : Q (.int ns.sum) H) : rSum K [.ref a] H Q := ⟨a, ns, rfl, h, q⟩
end Rd
end Fw
namespace Fw
open PySem PySem.Spec L2
/-- what is left of a comprehension, of a for, once the thing to walk is known -/
def LcGo (J : It) (g : TG) (tt : TT) (te : TE) (vs : List Nat) (σ : St) (H1 : Hp) (Q : VK) : Prop := tLc (fun _ H R => R J H) g tt te vs σ H1 Q
def FoGo (J : It) (g : TG) (tb : TS) (D : Ends) (σ : St) (H : Hp) : Prop := tFor (fun _ H R => R J H) g tb D σ H
abbrev Flat (Itm : Nat → V → Prop) : Nat → Hp → V → Hp → Prop := fun i H x H' => H' = H ∧ Itm i x
namespace Rd
variable {K : PySem.W.Frag} {σ : St} {H : Hp} {Q : VK} {te tl : TE} {ta : TA} {tt : TT} {g : TG} {vs : List Nat} {tb : TS} {D : Ends} {J : It} {n : Nat} {G : Hp → Prop} {Itm : Nat → V → Prop}
theorem lcL (h : tl σ H fun x H1 => ∃ a, x = .ref a ∧ (∃ xs, SqL K H1 a xs) ∧ LcGo (Itl K a) g tt te vs σ H1 Q) : tLc (iList K tl) g tt te vs σ H Q := h
theorem lcT (h : tl σ H fun x H1 => ∃ a, x = .ref a ∧ (∃ xs, SqT K H1 a xs) ∧ LcGo (Itt K a) g tt te vs σ H1 Q) : tLc (iTup K tl) g tt te vs σ H Q := h
theorem lcR (h : ta σ H fun us H1 => ∃ j : Int, us = [.int j] ∧ -(2 ^ 62) ≤ j ∧ j < 2 ^ 62 ∧ LcGo (Itr 0 j.toNat) g tt te vs σ H1 Q) : tLc (iRng1 ta) g tt te vs σ H Q := h
theorem lcS (h : tl σ H fun v H1 => ∃ x, v = .str x ∧ LcGo (Its x) g tt te vs σ H1 Q) : tLc (iStr tl) g tt te vs σ H Q := h
theorem foL (h : tl σ H fun x H1 => ∃ a, x = .ref a ∧ (∃ xs, SqL K H1 a xs) ∧ FoGo (Itl K a) g tb D σ H1) : tFor (iList K tl) g tb D σ H := h
theorem foT (h : tl σ H fun x H1 => ∃ a, x = .ref a ∧ (∃ xs, SqT K H1 a xs) ∧ FoGo (Itt K a) g tb D σ H1) : tFor (iTup K tl) g tb D σ H := h
theorem foR (h : ta σ H fun us H1 => ∃ j : Int, us = [.int j] ∧ -(2 ^ 62) ≤ j ∧ j < 2 ^ 62 ∧ FoGo (Itr 0 j.toNat) g tb D σ H1) : tFor (iRng1 ta) g tb D σ H := h
theorem exrange {i : Int} {P : Int → Prop} (h1 : -(2 ^ 62) ≤ i) (h2 : i < 2 ^ 62) (h : P i) : ∃ j : Int, [V.int i] = [.int j] ∧ -(2 ^ 62) ≤ j ∧ j < 2 ^ 62 ∧ P j := ⟨i, rfl, h1, h2, h⟩
theorem exstr {x : Str} {P : Str → Prop} (h : P x) : ∃ z, V.str x = .str z ∧ P z := ⟨x, rfl, h⟩
theorem exlist {a : Addr} {xs : List V} {P : Addr → Prop} (hs : SqL K H a xs) (h : P a) : ∃ b, V.ref a = .ref b ∧ (∃ xs, SqL K H b xs) ∧ P b := ⟨a, rfl, ⟨xs, hs⟩, h⟩
theorem extup {a : Addr} {xs : List V} {P : Addr → Prop} (hs : SqT K H a xs) (h : P a) : ∃ b, V.ref a = .ref b ∧ (∃ xs, SqT K H b xs) ∧ P b := ⟨a, rfl, ⟨xs, hs⟩, h⟩
/-- a comprehension: Jv by turn, items made and heap -/
theorem lcW {s : Nat} (w : Walk J n G (Flat Itm)) (hn : n < sizeLine) (Jv : Nat → List V → Hp → Prop) (h0 : Jv 0 [] H)
    (hst : ∀ D, H D = none → ∀ i acc ys H', Jv i acc H' → Jv i acc (upd H' D (.lst ys))) (hG : ∀ i acc H', i ≤ n → Jv i acc H' → G H')
    (step : ∀ D, H D = none → ∀ i x acc H', i < n → Itm i x → H' D = some (.lst acc) → acc.length ≤ i → Jv i acc H' → ∀ (Kt : V → Hp → Prop) (Kf : Hp → Prop), (∀ y H4, H4 D = some (.lst acc) → Jv (i + 1) (acc ++ [y]) H4 → Kt y H4) → (∀ H3, H3 D = some (.lst acc) → Jv (i + 1) acc H3 → Kf H3) →
      tt ((σ.set s none).set s (some x)) H' fun b H3 => if b = true then te ((σ.set s none).set s (some x)) H3 Kt else Kf H3)
    (fin : ∀ D acc H', H D = none → H' D = some (.lst acc) → acc.length ≤ n → Jv n acc H' → Q (.ref D) H') : LcGo J (gName s) tt te [s] σ H Q := by
  intro D hD
  refine lc_it w (fun i H' => ∃ acc, H' D = some (.lst acc) ∧ acc.length ≤ i ∧ Jv i acc H') ⟨[], upd_same, Nat.le_refl _, hst D hD _ _ _ _ h0⟩ (fun i H' hi ⟨acc, _, _, j⟩ => hG i acc H' hi j) ?_ (fun H' ⟨acc, a1, a2, a3⟩ => fin D acc H' hD a1 a2 a3)
  rintro i x H' H2 hi ⟨acc, a1, a2, a3⟩ ⟨rfl, hx⟩
  show wipe (((wipe σ [s])).set s (some x)) [s] = wipe σ [s] ∧ _
  refine ⟨?_, ?_⟩
  · show ((σ.set s none).set s (some x)).set s none = σ.set s none
    rw [List.set_set, List.set_set]
  · exact step D hD i x acc _ hi hx a1 a2 a3 _ _
      (fun y H4 b1 b2 => ⟨acc, b1, Nat.lt_of_le_of_lt a2 (Nat.lt_trans hi hn), acc ++ [y], upd_same, by rw [List.length_append, List.length_singleton]; omega, hst D hD _ _ _ _ b2⟩)
      (fun H3 b1 b2 => ⟨acc, b1, Nat.le_succ_of_le a2, b2⟩)
/-- a for: Pv by turn, slots and heap -/
theorem foW {s : Nat} {N : St → Hp → Prop} {r : VK} {bk ct : St → Hp → Prop} (w : Walk J n G (Flat Itm)) (Pv : Nat → St → Hp → Prop) (h0 : Pv 0 σ H) (hG : ∀ i σ H, i ≤ n → Pv i σ H → G H)
    (step : ∀ i x σ H, i < n → Itm i x → Pv i σ H → tb (Ends.mk (Pv (i + 1)) r N (Pv (i + 1))) (σ.set s (some x)) H) (fin : ∀ σ H, Pv n σ H → N σ H) : FoGo J (gName s) tb (Ends.mk N r bk ct) σ H :=
  for_it w Pv h0 hG (fun i x σ H H' hi p ⟨e, hx⟩ => by subst e; exact step i x σ _ hi hx p) fin
theorem wList {a : Addr} {xs : List V} : Walk (Itl K a) xs.length (fun H => SqL K H a xs) (Flat fun i x => xs[i]? = some x) := walk_list
theorem wTup {a : Addr} {xs : List V} : Walk (Itt K a) xs.length (fun H => SqT K H a xs) (Flat fun i x => xs[i]? = some x) := walk_tup
theorem wRange {n : Nat} : Walk (Itr 0 n) n (fun _ => True) (Flat fun i x => x = .int (0 + i)) := walk_range
theorem wStr {z : Str} : Walk (Its z) z.cps.size (fun _ => True) (Flat fun i v => ∃ c, z.cps[i]? = some c ∧ v = .str ⟨#[c]⟩) := walk_str
end Rd
end Fw
namespace Fw
open PySem PySem.Spec L2
section
variable {X : Cx} (K : PySem.W.Frag)
theorem kix (h : X.K = K := by rfl) : IxR X (rIx K) := by subst h; exact ix_seq
theorem keq (hu : X.A.units + 64 < cLine) (h : X.K = K := by rfl) : OpR X (compareOp .Eq) (rEqA K) := by subst h; exact op_eqA hu
theorem kne (hu : X.A.units + 64 < cLine) (h : X.K = K := by rfl) : OpR X (compareOp .NotEq) (rNeA K) := by subst h; exact op_neA hu
theorem klen (h : X.K = K := by rfl) : CallR X (.builtin "len") (rLenA K) := by subst h; exact call_lenA
theorem ksum (hc : X.calm = true := by rfl) (h : X.K = K := by rfl) : CallR X (.builtin "sum") (rSum K) := by subst h; exact cr_sum hc
theorem kany (hc : X.calm = true := by rfl) (h : X.K = K := by rfl) : CallR X (.builtin "any") (rAny K) := by subst h; exact cr_any hc
theorem kall (hc : X.calm = true := by rfl) (h : X.K = K := by rfl) : CallR X (.builtin "all") (rAll K) := by subst h; exact cr_all hc
theorem kisi (h : X.K = K := by rfl) : CallR X (.builtin "isinstance") (rIsi K) := by subst h; exact call_isi
def rListOf (K : PySem.W.Frag) : List V → Hp → VK → Prop := fun xs H Q => ∃ p ys, xs = [.ref p] ∧ (SqL K H p ys ∨ SqT K H p ys) ∧ ∀ l, H l = none → Q (.ref l) (upd H l (.lst ys))
def rTupOf (K : PySem.W.Frag) : List V → Hp → VK → Prop := fun xs H Q => ∃ p ys, xs = [.ref p] ∧ ((SqL K H p ys ∧ ∀ l, H l = none → Q (.ref l) (upd H l (.tup ys))) ∨ (SqT K H p ys ∧ Q (.ref p) H))
theorem klist (h : X.K = K := by rfl) : CallR X (.type "list") (rListOf K) := by subst h; exact call_list_of
theorem ktuple (h : X.K = K := by rfl) : CallR X (.type "tuple") (rTupOf K) := by subst h; exact call_tuple_of
theorem ksl (h : X.K = K := by rfl) : SlR X (rSlA K) := by subst h; exact sl_any
theorem kin (h : X.K = K := by rfl) : OpR X (compareOp .In) (rIn K false) := by subst h; exact op_in_seq
theorem knin (h : X.K = K := by rfl) : OpR X (compareOp .NotIn) (rIn K true) := by subst h; exact op_notIn_seq
theorem kpl {tg l : Expr} {tl : TE} (hl : PE X l tl) (h : X.K = K := by rfl) : PI X tg l (iList K tl) := by subst h; exact pi_list hl
theorem kpt {tg l : Expr} {tl : TE} (hl : PE X l tl) (h : X.K = K := by rfl) : PI X tg l (iTup K tl) := by subst h; exact pi_tup hl
theorem kjoin {o e : Expr} {to te : TE} {apos pos : Pos} (ho : PE X o to) (he : PE X e te) (h : X.K = K := by rfl) (hs : starEach [e] X.env = [(false, eval e X.env)] := by rfl) (hbase : attributeBase o "join" X.env (eval o X.env) = eval o X.env := by rfl) (hline : (apos.endLine == pos.line) = true := by rfl) :
    PE X (.Call (.Attribute o "join" apos) [e] [] pos) (tM1 (rJoin K) to te) := by subst h; exact pe_joinA ho he hs hbase hline
theorem kfld {e : Expr} {f : Str} {ta : TE} {pos : Pos} (he : PE X e ta) (h : X.K = K := by rfl) (hb : attributeBase e f X.env (eval e X.env) = eval e X.env := by rfl) : PE X (.Attribute e f pos) (tFld K ta f) := by subst h; exact pe_fld he hb
theorem kcon {e : Expr} {f : Str} {ta : TE} {pos : Pos} (he : PE X e ta) (h : X.K = K := by rfl) (hb : attributeBase e f X.env (eval e X.env) = eval e X.env := by rfl) : PE X (.Attribute e f pos) (tCon K ta f) := by subst h; exact pe_con he hb
end
namespace Rd
variable {K : PySem.W.Frag} {H : Hp} {Q : VK} {p : Addr}
theorem listL {ys : List V} (h : SqL K H p ys) (q : ∀ l, H l = none → Q (.ref l) (upd H l (.lst ys))) : rListOf K [.ref p] H Q := ⟨p, ys, rfl, .inl h, q⟩
theorem listT {ys : List V} (h : SqT K H p ys) (q : ∀ l, H l = none → Q (.ref l) (upd H l (.lst ys))) : rListOf K [.ref p] H Q := ⟨p, ys, rfl, .inr h, q⟩
theorem tupL {ys : List V} (h : SqL K H p ys) (q : ∀ l, H l = none → Q (.ref l) (upd H l (.tup ys))) : rTupOf K [.ref p] H Q := ⟨p, ys, rfl, .inl ⟨h, q⟩⟩
theorem tupT {ys : List V} (h : SqT K H p ys) (q : Q (.ref p) H) : rTupOf K [.ref p] H Q := ⟨p, ys, rfl, .inr ⟨h, q⟩⟩
/-- xs.append(y) -/
theorem bm {T : String} {r : V → List V → Hp → VK → Prop} {to : TE} {t : TA} {σ : St} (h : to σ H fun x H1 => tyV K T x H1 ∧ t σ H1 fun xs H2 => r x xs H2 Q) : tBM K T r to t σ H Q := h
theorem tyL {xs : List V} {A : Prop} (h : H p = some (.lst xs)) (q : A) : tyV K "list" (.ref p) H ∧ A := ⟨.inl ⟨rfl, _, SqL.of h⟩, q⟩
theorem append {xs : List V} {y : V} (h : H p = some (.lst xs)) (hl : xs.length < sizeLine) (q : Q .non (upd H p (.lst (xs ++ [y])))) : rAppend (.ref p) [y] H Q := ⟨p, xs, y, rfl, rfl, h, hl, q⟩
end Rd
end Fw

namespace Fw
open PySem PySem.Spec L2
theorem kapp {X : Cx} (K : PySem.W.Frag) {o e : Expr} {to : TE} {t : TA} {apos cpos : Pos} (ho : PE X o to) (ha : PA X [e] t) (h : X.K = K := by rfl)
    (hbase : attributeBase o "append" X.env (eval o X.env) = eval o X.env := by rfl)
    (hfew : ((backTo cpos (starEach [e] X.env)).all (fun x => !x.1) && (backToKw cpos (keywordEach [] X.env)).all (fun x => x.1.isSome)
      && decide (([e] : List Expr).length + ([] : List Keyword).length + (if ([] : List Keyword).isEmpty then 0 else 1) < 30)) = true := by rfl)
    (hline : (apos.endLine == cpos.line) = true := by rfl) (hs : starEach [e] X.env = (false, eval e X.env) :: starEach [] X.env := by rfl) (hplain : (backTo cpos (starEach [] X.env)).any (·.1) = false := by rfl) :
    PE X (.Call (.Attribute o "append" apos) [e] [] cpos) (tBM K "list" rAppend to t) := by
  subst h
  exact pe_bm PySem.F.plainAttrs_list PySem.F.slot_list_append PySem.F.type_list_append mt_append ho ha hbase hfew hline hs hplain
end Fw

namespace Fw
open PySem PySem.Spec L2
abbrev S (l : List Nat) : Str := ⟨l.toArray⟩
theorem pe_lit {X : Cx} (l : List Nat) {x : Str} {j pos} (h : x = S l) : PE X (.Constant (.str x) j pos) (tC (.str (S l))) := by subst h; exact pe_str
theorem dec_S {a b : List Nat} : decide (S a = S b) = decide (a = b) := decide_eq_decide.mpr ⟨fun h => SX.S_inj h, fun h => by rw [h]⟩
theorem sIx_ge {n d : Nat} {i : Int} (h : 0 ≤ i) : HT.sIx n d (some i) = min i.toNat n := by
  have e : i = ((i.toNat : Nat) : Int) := by omega
  rw [e, HT.sIx_nat]
  rfl
theorem cut_to {l : List Nat} {i : Int} (h : 0 ≤ i) : cutS (S l) none (some i) = S (l.take i.toNat) := by
  show (⟨((l.toArray.toList.drop 0).take (HT.sIx l.toArray.size l.toArray.size (some i) - 0)).toArray⟩ : Str) = ⟨(l.take i.toNat).toArray⟩
  rw [sIx_ge h, List.drop_zero, Nat.sub_zero, List.size_toArray]
  show (⟨(l.take (min i.toNat l.length)).toArray⟩ : Str) = ⟨(l.take i.toNat).toArray⟩
  by_cases hl : i.toNat ≤ l.length
  · rw [Nat.min_eq_left hl]
  · have e1 : min i.toNat l.length = l.length := by omega
    have e2 : l.take i.toNat = l := List.take_of_length_le (by omega)
    rw [e1, e2, List.take_length]
theorem cut_fromto {l : List Nat} {i j : Int} (h : 0 ≤ i) (h2 : 0 ≤ j) : cutS (S l) (some i) (some j) = S ((l.drop i.toNat).take (j.toNat - i.toNat)) := by
  show (⟨((l.toArray.toList.drop (HT.sIx l.toArray.size 0 (some i))).take (HT.sIx l.toArray.size l.toArray.size (some j) - HT.sIx l.toArray.size 0 (some i))).toArray⟩ : Str) = _
  rw [sIx_ge h, sIx_ge h2, List.size_toArray]
  show (⟨((l.drop (min i.toNat l.length)).take (min j.toNat l.length - min i.toNat l.length)).toArray⟩ : Str) = ⟨((l.drop i.toNat).take (j.toNat - i.toNat)).toArray⟩
  by_cases hl : i.toNat ≤ l.length
  · rw [Nat.min_eq_left hl]
    by_cases hj : j.toNat ≤ l.length
    · rw [Nat.min_eq_left hj]
    · have e1 : min j.toNat l.length = l.length := by omega
      have e2 : (l.drop i.toNat).take (l.length - i.toNat) = l.drop i.toNat := List.take_of_length_le (by rw [List.length_drop]; omega)
      have e3 : (l.drop i.toNat).take (j.toNat - i.toNat) = l.drop i.toNat := List.take_of_length_le (by rw [List.length_drop]; omega)
      rw [e1, e2, e3]
  · have e1 : min i.toNat l.length = l.length := by omega
    have e2 : l.drop i.toNat = [] := List.drop_of_length_le (by omega)
    have e3 : l.drop l.length = [] := List.drop_of_length_le (Nat.le_refl _)
    rw [e1, e2, e3, List.take_nil, List.take_nil]
theorem cut_from {l : List Nat} {i : Int} (h : 0 ≤ i) : cutS (S l) (some i) none = S (l.drop i.toNat) := by
  show (⟨((l.toArray.toList.drop (HT.sIx l.toArray.size 0 (some i))).take (l.toArray.size - HT.sIx l.toArray.size 0 (some i))).toArray⟩ : Str) = _
  rw [sIx_ge h, List.size_toArray]
  show (⟨((l.drop (min i.toNat l.length)).take (l.length - min i.toNat l.length)).toArray⟩ : Str) = ⟨(l.drop i.toNat).toArray⟩
  have e2 : (l.drop (min i.toNat l.length)).take (l.length - min i.toNat l.length) = l.drop (min i.toNat l.length) := List.take_of_length_le (by rw [List.length_drop]; omega)
  rw [e2]
  by_cases hl : i.toNat ≤ l.length
  · rw [Nat.min_eq_left hl]
  · have e1 : min i.toNat l.length = l.length := by omega
    have e2 : l.drop i.toNat = [] := List.drop_of_length_le (by omega)
    have e3 : l.drop l.length = [] := List.drop_of_length_le (Nat.le_refl _)
    rw [e1, e2, e3]
theorem foldl_cps (l : List Nat) : ∀ (n : Nat) (acc : Array Nat), ((List.replicate n l.toArray).foldl (· ++ ·) acc).toList = acc.toList ++ (List.replicate n l).flatten
  | 0, acc => by simp
  | n + 1, acc => by
    rw [List.replicate_succ, List.foldl_cons, foldl_cps l n]
    simp [List.replicate_succ]
theorem mul_S {l : List Nat} {n : Int} (h : 1 < n) (hl : 1 ≤ l.length) : Txt.mul (S l) n = S ((List.replicate n.toNat l).flatten) := by
  unfold Txt.mul
  rw [if_neg (by omega), if_neg]
  · have e := foldl_cps l n.toNat #[]
    rw [List.nil_append] at e
    show (⟨(List.replicate n.toNat l.toArray).foldl (· ++ ·) #[]⟩ : Str) = ⟨_⟩
    congr 1
    rw [← e]
  · intro z
    rw [Bool.or_eq_true] at z
    rcases z with z | z
    · have := eq_of_beq z; omega
    · have := eq_of_beq z
      rw [SX.S_len] at this
      omega
theorem rep_len (l : List Nat) (n : Nat) : ((List.replicate n l).flatten).length = n * l.length := by
  induction n with
  | zero => simp
  | succ n ih => rw [List.replicate_succ, List.flatten_cons, List.length_append, ih, Nat.succ_mul, Nat.add_comm]
namespace RS
theorem mul {H : Hp} {Q : VK} {i : Int} {l : List Nat} (h : 1 < i) (h1 : i < 1000) (hl : 1 ≤ l.length) (h2 : l.length ≤ 1000) (q : Q (.str (S ((List.replicate i.toNat l).flatten))) H) : rMulA (.str (S l)) (.int i) H Q :=
  Rd.mulS (by omega) h1 (by show l.toArray.size ≤ _; rw [List.size_toArray]; exact h2) (by rw [mul_S h hl]; exact q)
variable {H : Hp} {Q : VK} {i j : Int} {l a b : List Nat}
theorem len_S {l : List Nat} (h : l.length ≤ 1000) : (S l).length ≤ sizeLine := by
  have q : sizeLine = 16777216 := sizeLine_eq
  show l.toArray.size ≤ _
  rw [List.size_toArray]; omega
theorem slTo {K : PySem.W.Frag} (h : 0 ≤ i) (hl : l.length ≤ 1000) (q : Q (.str (S (l.take i.toNat))) H) : rSlA K (.str (S l)) none (some i) H Q := Rd.slS (len_S hl) (by rw [cut_to h]; exact q)
theorem slFrom {K : PySem.W.Frag} (h : 0 ≤ i) (hl : l.length ≤ 1000) (q : Q (.str (S (l.drop i.toNat))) H) : rSlA K (.str (S l)) (some i) none H Q := Rd.slS (len_S hl) (by rw [cut_from h]; exact q)
theorem slFT {K : PySem.W.Frag} (h : 0 ≤ i) (h2 : 0 ≤ j) (hl : l.length ≤ 1000) (q : Q (.str (S ((l.drop i.toNat).take (j.toNat - i.toNat)))) H) : rSlA K (.str (S l)) (some i) (some j) H Q := Rd.slS (len_S hl) (by rw [cut_fromto h h2]; exact q)
theorem add (h : a.length + b.length ≤ 1000) (q : Q (.str (S (a ++ b))) H) : rAddA (.str (S a)) (.str (S b)) H Q := by
  refine Rd.addS ?_ ?_
  · have q : sizeLine = 16777216 := sizeLine_eq
    show a.toArray.size + b.toArray.size ≤ _
    rw [List.size_toArray, List.size_toArray]; omega
  · rw [SX.S_cat]; exact q
theorem eq {K : PySem.W.Frag} (q : Q (.bl (decide (a = b))) H) : rEqA K (.str (S a)) (.str (S b)) H Q := Rd.eqS (by rw [dec_S]; exact q)
theorem ne {K : PySem.W.Frag} (q : Q (.bl (!decide (a = b))) H) : rNeA K (.str (S a)) (.str (S b)) H Q := Rd.neS (by rw [dec_S]; exact q)
theorem ix {K : PySem.W.Frag} {c : Nat} (h : l.length ≤ 1000) (h2 : atI l i = some c) (q : Q (.str (S [c])) H) : rIx K (.str (S l)) (.int i) H Q := Rd.ixS (len_S h) h2 q
theorem upper (h : l.all (· < 128) = true) (hl : l.length ≤ 1000) (q : Q (.str (S (l.map PyProof.Rows.up1))) H) : rUpper (.str (S l)) [] H Q := ⟨_, rfl, rfl, by
  show l.toArray.size ≤ _
  rw [List.size_toArray]; omega, by rw [SX.upper_S h]; exact q⟩
theorem len {K : PySem.W.Frag} (h : l.length ≤ 1000) (q : Q (.int l.length) H) : rLenA K [.str (S l)] H Q := Rd.lenS (len_S h) (by
  have e : (S l).length = l.length := SX.S_len l
  rw [e]; exact q)
end RS
end Fw

namespace Fw
open PySem PySem.Spec L2
/-- an own error class over ValueError, its __init__ one that stores its argument as fld -/
structure Er (K : PySem.W.Frag) (mg : Str → Option Value) (nm qual fld : Str) (st : Stmt) where
  C : Addr
  f : Addr
  fd : FuncData
  T : OexC K C
  iC : PySem.W.findIn K (.ref C) "__init__" = some (some (.ref f))
  tI : PySem.W.typeIn K (.ref f) = some (.type "function")
  g : mg nm = some (.ref C)
  no : PySem.W.findIn K (.ref C) fld = some none
  F : Fun K "__init__" qual st f fd
  b : Binds K fd ["self", fld] []
  xf : XfC K C
  xc : ExcC K C
  te : PySem.W.exmOne K (.ref C) (.ref C) = some true
/-- what such an __init__ keeps -/
def spErI (C : Addr) (fld : Str) : Sp := fun vs H Q _ => ∃ (a : Addr) (v : V), vs = [.ref a, v] ∧ H a = some (exo a C none) ∧ ∀ dx, H dx = none → dx ≠ a → Q .non (upd (upd H dx (exd dx [(fld, v)])) a (exo a C (some dx)))
theorem kost {X : Cx} (K : PySem.W.Frag) {o e : Expr} {to te : TE} {f : Str} {p' pos : Pos} (ho : PE X o to) (he : PE X e te) (h : X.K = K := by rfl) (hs : swapsWith e (some (.Attribute o f p')) pos.line X.env = pure false := by rfl) : PS X (.Assign [.Attribute o f p'] e pos) (tOst K f to te) := by
  subst h; exact ps_ost ho he hs
section
variable {X : Cx}
theorem pmk_er {P : Program} {w : World} {K : PySem.W.Frag} {mg : Str → Option Value} {base : Heap} {nm qual fld : Str} {st : Stmt} {k : Nat} {e : Expr} {es : List Expr} {ta : TA} {p pos : Pos} (r : Er K mg nm qual fld st) (F1 : FnOk P w K mg base CX0 k r.f r.fd ["self", fld] (spErI r.C fld)) (hr : Room (k + 1) X.A) (ha : PA X (e :: es) ta)
    (h1 : X.prog = P := by rfl) (h2 : X.w = w := by rfl) (h3 : X.K = K := by rfl) (h4 : X.mg = mg := by rfl) (h5 : X.base = base := by rfl) (hg : Gl X nm := by rfl)
    (hdb : (nm == ("__debug__" : Str)) = false := by decide) (he : starEach (e :: es) X.env = (false, eval e X.env) :: starEach es X.env := by rfl) (hpl : (backTo pos (starEach es X.env)).any (·.1) = false := by rfl) :
    PMk X (.Call (.Name nm p) (e :: es) [] pos) (tMkO r.C (spErI r.C fld) [] ta) := by
  subst h1 h2 h3 h4 h5
  exact pmk_oex (pos := pos) (p := p) r.T r.iC r.tI F1 hr r.b .nil pass0 hg r.g ha hdb he hpl
end
/-- what is left of raise C(v) -/
def ErGo (C : Addr) (fld : Str) (vs : List V) (H1 : Hp) (Q : XK) : Prop := vs.length ≤ 1000 ∧ ∀ a, H1 a = none → spErI C fld (.ref a :: (vs ++ [])) (upd H1 a (exo a C none))
  (fun v H2 => v = .non ∧ ∃ (d : Addr) (fs : List (Str × V)), H2 a = some (exo a C (some d)) ∧ H2 d = some (exd d fs) ∧ H1 d = none ∧ Q (.ref C) (some d) (upd (del H2 a) d (.xd fs))) (fun _ _ _ => False)
namespace Rd
theorem raise {t : St → Hp → XK → Prop} {W : WX} {σ : St} {H : Hp} {N : St → Hp → Prop} {r : VK} {bk ct : St → Hp → Prop} (h : t σ H fun cls d H' => W cls d σ H') : (fun (_ : Ends) (σ : St) (H : Hp) => t σ H fun cls d H' => W cls d σ H') (Ends.mk N r bk ct) σ H := h
theorem mko {C : Addr} {fld : Str} {ta : TA} {σ : St} {H : Hp} {Q : XK} (h : ta σ H fun vs H1 => ErGo C fld vs H1 Q) : tMkO C (spErI C fld) [] ta σ H Q := h
theorem erGo {C : Addr} {fld : Str} {v : V} {H1 : Hp} {Q : XK} (q : ∀ d, H1 d = none → Q (.ref C) (some d) (upd H1 d (.xd [(fld, v)]))) : ErGo C fld [v] H1 Q := by
  refine ⟨Nat.succ_le_succ (Nat.zero_le _), fun a ha => ⟨a, v, rfl, upd_same, fun dx hx ne => ⟨rfl, dx, [(fld, v)], upd_same, by rw [upd_ne ne]; exact upd_same, ?_, ?_⟩⟩⟩
  · rw [upd_ne ne] at hx; exact hx
  · rw [upd_ne ne] at hx
    have e2 : upd (del (upd (upd (upd H1 a (exo a C none)) dx (exd dx [(fld, v)])) a (exo a C (some dx))) a) dx (.xd [(fld, v)]) = upd H1 dx (.xd [(fld, v)]) := by
      funext b
      by_cases hb : b = dx
      · rw [hb, upd_same, upd_same]
      · rw [upd_ne hb, upd_ne hb]
        by_cases hb2 : b = a
        · rw [hb2, del_same, ha]
        · rw [del_ne hb2, upd_ne hb2, upd_ne hb, upd_ne hb2]
    rw [e2]
    exact q dx hx
/-- self.f = v in such an __init__ -/
theorem ost {K : PySem.W.Frag} {f : Str} {to te : TE} {σ : St} {H : Hp} {N : St → Hp → Prop} {r : VK} {bk ct : St → Hp → Prop} (h : te σ H fun y H1 => to σ H1 fun x H2 => ∃ a C : Addr, x = .ref a ∧ OexC K C ∧ PySem.W.findIn K (.ref C) f = some none ∧
  ((H2 a = some (exo a C none) ∧ ∀ dx, H2 dx = none → dx ≠ a → N σ (upd (upd H2 dx (exd dx [(f, y)])) a (exo a C (some dx)))) ∨
    ∃ (dx : Addr) (fs : List (Str × V)), H2 a = some (exo a C (some dx)) ∧ H2 dx = some (exd dx fs) ∧ fs.length ≤ 900 ∧ N σ (upd H2 dx (exd dx ((f, y) :: fs))))) : tOst K f to te (Ends.mk N r bk ct) σ H := h
theorem leC {H : Hp} {Q : VK} {a b : Nat} (q : Q (.bl (decide (a ≤ b))) H) : rLeA (.str (S [a])) (.str (S [b])) H Q := by
  refine Rd.leS ?_
  have e : (!decide ((S [b]).cps.toList < (S [a]).cps.toList)) = decide (a ≤ b) := by
    show (!decide ([b] < [a])) = decide (a ≤ b)
    by_cases h : a ≤ b
    · have n : ¬ [b] < [a] := by
        intro z
        cases z with
        | rel z => have z' : b < a := z; omega
        | cons z => cases z
      rw [decide_eq_true h, decide_eq_false n]; rfl
    · have n : [b] < [a] := List.Lex.rel (show b < a by omega)
      rw [decide_eq_false h, decide_eq_true n]; rfl
  rw [e]; exact q
end Rd
end Fw

namespace Fw
open PySem PySem.Spec L2
/-- what is left of C(..) -/
def MkGo (C : Addr) (sp : Sp) (vs : List V) (H1 : Hp) (Q : VK) (E : XK) : Prop := ∀ x dx, H1 x = none → H1 dx = none → dx ≠ x → sp (.ref x :: (vs ++ [])) (upd (upd H1 dx (.own x)) x (.ins C dx [])) (fun v H2 => v = .non ∧ Q (.ref x) H2) E

namespace Rd
variable {K : PySem.W.Frag} {σ : St} {H : Hp} {Q : VK} {te to ta tv : TE} {t : TA} {N : St → Hp → Prop} {r : VK} {bk ct : St → Hp → Prop}
theorem make {C : Addr} {sp : Sp} {E : XK} (h : t σ H fun vs H1 => MkGo C sp vs H1 Q E) : tMake C sp [] E t σ H Q := h
theorem meth {C : Addr} {m : Str} {sp : Sp} {E : XK} (h : ta σ H fun x H1 => ∃ a dx fs, x = .ref a ∧ H1 a = some (.ins C dx fs) ∧ fs.lookup m = none ∧ t σ H1 fun vs H2 => sp (x :: (vs ++ [])) H2 Q E) : tMeth C m sp [] E ta t σ H Q := h
theorem sfld {f : Str} (h : tv σ H fun y H1 => ta σ H1 fun x H2 => ∃ a C dx fs, x = .ref a ∧ H2 a = some (.ins C dx fs) ∧ Cls K C ∧ NoAttr K C f ∧ fs.length < 1000 ∧ N σ (upd H2 a (.ins C dx (putF f y fs)))) : sFld K ta tv f (Ends.mk N r bk ct) σ H := h
theorem con_ {f : Str} (h : ta σ H fun x H1 => ∃ a C dx fs v u, x = .ref a ∧ H1 a = some (.ins C dx fs) ∧ Cls K C ∧ Con K C f v u ∧ fs.lookup f = none ∧ Q v H1) : tCon K ta f σ H Q := h
end Rd
section
variable {X : Cx}
theorem kset {K : PySem.W.Frag} {o value : Expr} {f : Str} {ta tv : TE} {pos pos' : Pos} (ha : PE X o ta) (hv : PE X value tv) (h : X.K = K := by rfl) (hs : swapsWith value (some (.Attribute o f pos')) pos.line X.env = pure false := by rfl) : PS X (.Assign [.Attribute o f pos'] value pos) (sFld K ta tv f) := by
  subst h; exact ps_fld ha hv hs
theorem pe_mk {P : Program} {w : World} {K : PySem.W.Frag} {mg : Str → Option Value} {base : Heap} {CX : CXT} {x qual : Str} {st : Stmt} {C : Addr} {k : Nat} {ps : List Str} {sp : Sp} {E : XK} {e : Expr} {es : List Expr} {t : TA} {p pos : Pos} (d : Mf K "__init__" qual st ps) (M : Mk K C d.f) (hm : mg x = some (.ref C)) (F : FnOk P w K mg base CX k d.f d.fd ps sp) (hr : Room (k + 1) X.A) (hx : Passes CX X E) (ha : PA X (e :: es) t)
    (h1 : X.prog = P := by rfl) (h2 : X.w = w := by rfl) (h3 : X.K = K := by rfl) (h4 : X.mg = mg := by rfl) (h5 : X.base = base := by rfl) (hg : Gl X x := by rfl)
    (hdb : (x == ("__debug__" : Str)) = false := by decide) (he : starEach (e :: es) X.env = (false, eval e X.env) :: starEach es X.env := by rfl) (hpl : (backTo pos (starEach es X.env)).any (·.1) = false := by rfl) :
    PE X (.Call (.Name x p) (e :: es) [] pos) (tMake C sp [] E t) := by
  subst h1 h2 h3 h4 h5
  exact pe_make M F hr hg hm d.b .nil hx ha hdb he hpl
/-- o.m() on an instance of the class at C -/
theorem pe_m00 {pl : Sem Bool} {P : Program} {w : World} {K : PySem.W.Frag} {mg : Str → Option Value} {base : Heap} {CX : CXT} {m qual : Str} {st : Stmt} {C : Addr} {k : Nat} {ps : List Str} {sp : Sp} {E : XK} {o : Expr} {ta : TE} {apos pos : Pos} {nm : Str} (he : PE X o ta) (c : Cls K C) (d : Mf K nm qual st ps) (hm : Meth K C m d.f) (F : FnOk P w K mg base CX k d.f d.fd ps sp) (hr : Room k X.A) (hx : Passes CX X E)
    (h1 : X.prog = P := by rfl) (h2 : X.w = w := by rfl) (h3 : X.K = K := by rfl) (h4 : X.mg = mg := by rfl) (h5 : X.base = base := by rfl)
    (ht : eval (.Call (.Attribute o m apos) [] [] pos) X.env = (do
      let ov ← eval o X.env
      standAt apos.atName
      let (f, first) ← holding [ov] (getMethod ov m pl)
      callWith pos f first (backTo pos (starEach [] X.env)) (backToKw pos (keywordEach [] X.env))) := by rfl) :
    PE X (.Call (.Attribute o m apos) [] [] pos) (tMeth C m sp [] E ta tNil) := by
  subst h1 h2 h3 h4 h5
  exact pe_meth0 (pl := pl) he c hm F hr d.b .nil hx ht
end
end Fw

namespace Fw
open PySem PySem.Spec L2
section
open PySem.W PySem.Calls PyProof.Rows
variable {prog : Program} {w : World} {A : Around} {E : Value → Shared → Prop} {s : Shared} {K : PySem.W.Frag} {x D : Addr} {ox od : Obj}
/-- the class of a caught error that has a dict -/
theorem class_ofX {Q : Option Value → Shared → Prop} (T : ExcC K D) (X : K.In s.heap) (I : InstAt s.heap x ox D (some od)) (h : Q (some (.ref D)) { s with toks := s.toks + 1 }) : wpAny (model prog w) A (getAttr? (.ref x) "__class__") Q E s := by
  have hsome : (clsIn K D).isSome = true := by obtain ⟨c0, hc0, _⟩ := any_some T.hd; rw [hc0]; rfl
  have found : findObj K D (some od) "__class__" = some (.bind (.builtin "getset_descriptor.__get__") (.builtin "object.__class__")) := findObj_data hsome T.ha T.hn T.ht
  obtain ⟨hp, g, d, t, os⟩ := s
  have ly := I.type (M := model prog w)
  have lga := looks_findIn (M := model prog w) X T.hg
  have lgt := looks_findIn (M := model prog w) X T.hk
  have lfd := looks_find (M := model prog w) X I found
  have lsb : Looks (model prog w) hp (isInstance (.ref x) (.type "BaseException")) true := ly.andThen (looks_subIn X T.hs)
  have ne0 : (Value.builtin "BaseException.__getattribute__" == Value.builtin "object.__getattribute__") = false := by decide +kernel
  have nb0 : (onTheHeap (Value.ref D) && Value.builtin "BaseException.__getattribute__" == Value.builtin "object.__getattribute__") = false := by rw [ne0]; rfl
  unfold getAttr? getAttrBy? getAttrBy; refine wpAny_bind (wpAny_mkText (wpAny_bind (wpAny_attempt (wpAny_holding (wpAny_bind (ly.at (wpAny_bind (lga.at ?_))))))))
  show wpAny _ _ (if (onTheHeap (Value.ref D) && Value.builtin "BaseException.__getattribute__" == Value.builtin "object.__getattribute__") = true then _ else _) _ _ _; rw [nb0, if_neg Bool.false_ne_true]
  unfold getAttrByItsOwn hookBefore; refine wpAny_bind ?_; rw [if_pos (show onTheHeap (Value.ref D) = true from rfl)]
  refine lgt.at ?_; refine wpAny_bind (wpAny_attempt (wpAny_holding ?_))
  unfold callGetattribute boundAndCalled; rw [show (false && onTheHeap (Value.builtin "BaseException.__getattribute__")) = false from rfl, if_neg Bool.false_ne_true]
  rw [PySem.F.excAttr_ValueError.ga.bind (.ref x)]; refine wpAny_bind (wpAny_pure ?_)
  show wpAny _ _ (call (.builtin "BaseException.__getattribute__") [.ref x, .str "__class__" t]) _ _ _; refine wpAny_call (codeAny_call_builtin PySem.F.excAttr_ValueError.ga.plain PySem.F.entry_bexc_ga ?_)
  refine @check_slot (model prog w) _ _ ⟨hp, g, d, t + 1, os⟩ "BaseException.__getattribute__" "BaseException" "__getattribute__" (.ref x) [.str "__class__" t] [] _ (by decide +kernel) (by decide +kernel) lsb (PySem.F.args_bexc_ga (.ref x) (.str "__class__" t)) ?_
  unfold Builtin.«object.__getattribute__»; refine wpAny_bind (wpAny_of_eq (a := ((Value.ref x : Value), [Value.str "__class__" t])) (by first | rfl | (simp only [slotArgs]; rfl)) ?_)
  refine wpAny_bind (wpAny_pure (wpAny_bind (ly.at (wpAny_bind (lfd.at ?_)))))
  show wpAny _ _ (holding [Value.builtin "object.__class__"] (call (.builtin "getset_descriptor.__get__") [.builtin "object.__class__", .ref x, .ref D]) >>= ret) _ _ _
  refine wpAny_bind (wpAny_holding (wpAny_call (class_get (s := ⟨hp, g, d, t + 1, os⟩) (ox := ox) (od := some od) X I T.hm ?_))); refine wpAny_pure ?_
  show wpAny _ _ (handedOut (.ref D)) _ _ _; rw [handedOut_of (v := .ref D) rfl]
  first | exact wpAny_pure (wpAny_pure h) | exact wpAny_pure h | exact wpAny_pure (wpAny_bind (wpAny_pure (wpAny_pure h)))
theorem kitX (T : ExcC K D) : KitX K (.ref x) (.ref D) (fun h => InstAt h x ox D (some od)) where
  ty := fun _ _ _ I => I.type
  it := fun M h X _ => by
    obtain ⟨c0, hc0, _⟩ := any_some T.hd
    unfold clsIn at hc0; split at hc0
    · next ho =>
      intro A' Q' E' s' k q
      obtain ⟨h1, g1, d1, t1, o1⟩ := s'
      exact ks_wpAny_isType_cls (k _ _ (X _ _ ho)) rfl q
    · cases hc0
  ne := fun h tp dd its n sl X htp => by
    obtain ⟨c0, hc0, _⟩ := any_some T.hd
    unfold clsIn at hc0; split at hc0
    · next ho =>
      refine Bool.eq_false_iff.mpr fun q => ?_
      have e := Value.ref.inj (beq_iff_eq.mp q)
      rw [← e, X _ _ ho] at htp; cases htp
    · cases hc0
  ca := fun X I k => class_ofX T X I k
end
/-- isinstance(e, c), e the error that the suite holds, with its dict -/
def rIsX (K : PySem.W.Frag) (D a : Addr) (cls : Value) (d : Option Addr) : List V → Hp → VK → Prop := fun xs H Q => ∃ (c : V) (cv : Value) (b : Bool) (dd : Addr) (fs : List (Str × V)), xs = [.ref a, c] ∧ (∀ u, RelV c u → u = cv) ∧ cls = .ref D ∧ d = some dd ∧ H dd = some (.xd fs) ∧ PySem.W.kitOne K (.ref D) cv = some b ∧ Q (.bl b) H
theorem call_isX {X : Cx} {K : PySem.W.Frag} {a D : Addr} {oe : Obj} {cls : Value} {d : Option Addr} {pn : List (Addr × Obj)} (C : ExcC K D) (hz : Zc cls d oe) (hf : ∃ vs, oe.data = .fields vs) (hK : X.K = K := by rfl) : CallR (X.suite a ((a, oe) :: pn)) (.builtin "isinstance") (rIsX K D a cls d) := by
  subst hK
  intro pins s σ H xs us Q I r h
  obtain ⟨c, cv, b, dd, fs, rfl, hcv, rfl, rfl, hd, e, q⟩ := h
  obtain ⟨u1, u2, rfl, r1, r2⟩ := vals2 r
  cases r1
  have ec := hcv _ r2
  subst ec
  obtain ⟨hget, _⟩ := I.pin (a, oe) (List.mem_append.mpr (.inl List.mem_cons_self))
  obtain ⟨vs, hv⟩ := hf
  obtain ⟨mA, ⟨o0, es, ep, ho0, _⟩, _⟩ := (show ObjOk X.prog X.w H s.heap dd (.xd fs) from I.hok dd _ hd)
  have J : PySem.W.InstAt s.heap a oe D (some o0) := ⟨hget, hz.1, by unfold PySem.W.notCls; rw [hv] <;> rfl, by rw [hz.2]; exact ho0⟩
  exact PySem.W.kia_one (kitX C) I.kIn J e (fun z => nomatch z) fun tk => ⟨.bl b, H, I.kept (t' := tk) fun _ _ z => z, rfl, q⟩
/-- e.f in the suite -/
theorem kxf {X : Cx} {K : PySem.W.Frag} {a C : Addr} {oe : Obj} {cls : Value} {d : Option Addr} {pn : List (Addr × Obj)} {e : Expr} {te : TE} {pos : Pos} {n : Str} (T : XfC K C) (hno : PySem.W.findIn K (.ref C) n = some none) (hz : Zc cls d oe) (hf : ∃ vs, oe.data = .fields vs) (he : PE (X.suite a ((a, oe) :: pn)) e te) (hK : X.K = K := by rfl) (hb : attributeBase e n X.env (eval e X.env) = eval e X.env := by rfl) :
    PE (X.suite a ((a, oe) :: pn)) (.Attribute e n pos) (tXf a cls d C n te) := by
  subst hK
  exact pe_xf T hno hz hf he hb
namespace Rd
theorem xf {a : Addr} {cls : Value} {d : Option Addr} {C : Addr} {f : Str} {te : TE} {σ : St} {H : Hp} {Q : VK} (h : te σ H fun x H1 => x = .ref a ∧ cls = .ref C ∧ ∃ (dd : Addr) (fs : List (Str × V)) (v : V), d = some dd ∧ H1 dd = some (.xd fs) ∧ fs.lookup f = some v ∧ Q v H1) : tXf a cls d C f te σ H Q := h
end Rd
end Fw

namespace Fw
open PySem PySem.Spec L2
/-- try: .. except C as n: .. (nothing else leaves) -/
def tTryAs (K : PySem.W.Frag) (c : Value) (i : Nat) (tb : WX → TS) (ts : Addr → Value → Option Addr → TS) : TS := fun D σ H => tb (wAs K c i ts (fun _ _ _ _ => False) D) D σ H
section
variable {X : Cx} {x n : Str} {c : Value} {body suite : List Stmt} {b₀ : Stmt} {np pos pos' : Pos} {tb : WX → TS} {ts : Addr → Value → Option Addr → TS}
theorem ktry_as (K : PySem.W.Frag) (i : Nat) (hN : X.N.Nodup) (hc : Names X x c)
    (hb : ∀ (W : WX) (pn : List (Addr × Obj)) (xe : Value → Shared → Prop), Takes (X.tr pn xe) W → PassesOwn (model X.prog X.w) X.A X.env xe → PSs (X.tr pn xe) body (tb W))
    (hsu : ∀ (a : Addr) (oe : Obj) (cls : Value) (d : Option Addr) (pn : List (Addr × Obj)), Zc cls d oe → (∃ vs, oe.data = .fields vs) → PSs (X.suite a ((a, oe) :: pn)) (b₀ :: suite) (ts a cls d))
    (hK : X.K = K := by rfl) (hs : X.stack = X.env :: X.outer := by rfl) (hf : X.env.frame = some X.env.locals := by rfl) (hi : X.N[i]? = some n := by rfl) (hln : X.env.kindOf n = some .local := by rfl) :
    PS X (.Try body [.ExceptHandler (some (.Name x np)) (some n) (b₀ :: suite) pos'] [] [] pos) (tTryAs K c i tb ts) := by
  subst hK
  exact ps_try_as hs hf hN hi hln hc takes0 hb hsu
/-- a call within a try's body -/
theorem pe_cfS {P : Program} {w : World} {K : PySem.W.Frag} {mg : Str → Option Value} {base : Heap} {nm q : Str} {st : Stmt} {ps : List Str} {k : Nat} {sp : Sp} {W : WX} {e : Expr} {es : List Expr} {t : TA} {p pos : Pos} (d : Df K mg nm q st ps) (F : FnOk P w K mg base (L2.CX P w) k d.f d.fd ps sp) (hr : Room k X.A) (tk : Takes X W)
    (ha : PA X (e :: es) t) (h1 : X.prog = P := by rfl) (h2 : X.w = w := by rfl) (h3 : X.K = K := by rfl) (h4 : X.mg = mg := by rfl) (h5 : X.base = base := by rfl) (hg : Gl X nm := by rfl) (hd : (nm == ("__debug__" : Str)) = false := by decide) (he : starEach (e :: es) X.env = (false, eval e X.env) :: starEach es X.env := by rfl) (hpl : (backTo pos (starEach es X.env)).any (·.1) = false := by rfl) :
    PE X (.Call (.Name nm p) (e :: es) [] pos) (tCallS sp (WE W) t) := by
  subst h1 h2 h3 h4 h5
  exact pe_callS F hr hg d.g d.F.kp d.b (fun σ => passAt tk σ) ha hd he hpl
end
namespace Rd
variable {K : PySem.W.Frag} {σ : St} {H : Hp} {Q : VK} {N : St → Hp → Prop} {r : VK} {bk ct : St → Hp → Prop}
theorem tryAs {c : Value} {i : Nat} {tb : WX → TS} {ts : Addr → Value → Option Addr → TS} (h : tb (wAs K c i ts (fun _ _ _ _ => False) (Ends.mk N r bk ct)) (Ends.mk N r bk ct) σ H) : tTryAs K c i tb ts (Ends.mk N r bk ct) σ H := h
theorem callS {sp : Sp} {E : St → XK} {t : TA} (h : t σ H fun vs H1 => sp vs H1 Q (E σ)) : tCallS sp E t σ H Q := h
/-- the clause takes it -/
theorem wAs_yes {c cls : Value} {d : Option Addr} {i : Nat} {ts : Addr → Value → Option Addr → TS} {Wo : WX} (te : PySem.W.exmOne K cls c = some true) (h : ∀ a, H a = none → ts a cls d (Ends.mk (fun σ' H' => N (σ'.set i none) H') r (fun σ' H' => bk (σ'.set i none) H') (fun σ' H' => ct (σ'.set i none) H')) (σ.set i (some (.ref a))) H) :
    WE (wAs K c i ts Wo (Ends.mk N r bk ct)) σ cls d H := ⟨true, te, fun _ a ha => h a ha, fun q => nomatch q⟩
theorem isX {D a dd : Addr} {cls cv : Value} {d : Option Addr} {c : V} {b : Bool} {fs : List (Str × V)} (hc : ∀ u, RelV c u → u = cv) (e1 : cls = .ref D) (e2 : d = some dd) (hd : H dd = some (.xd fs)) (e : PySem.W.kitOne K (.ref D) cv = some b) (q : Q (.bl b) H) : rIsX K D a cls d [.ref a, c] H Q := ⟨c, cv, b, dd, fs, rfl, hc, e1, e2, hd, e, q⟩
theorem isi {x c : V} {t u : Value} {b : Bool} (k : ClsV c u) (ty : TyX K H x t) (e : PySem.W.kitOne K t u = some b) (q : Q (.bl b) H) : rIsi K [x, c] H Q := ⟨x, c, t, u, b, rfl, k, ty, e, q⟩
end Rd
end Fw
namespace Fw
open PySem PySem.Spec L2
/-! ### lists and tuples of numbers, bools and texts, compared -/
def okV : V → Bool
  | .non => true
  | .bl _ => true
  | .int _ => true
  | .str x => PyData.canLay0 (.str x)
  | _ => false
def dOf : V → PyData
  | .bl b => .bool b
  | .int i => .int i
  | .str x => .str x
  | _ => .none
section
variable {K : PySem.W.Frag} {H : Hp} {Q : VK} {a b : Addr} {xs : List V}
theorem dp_all : ∀ {xs : List V}, xs.all okV = true → DpAll K H xs (xs.map dOf)
  | [], _ => .nil
  | x :: xs, h => by
    rw [List.all_cons, Bool.and_eq_true] at h
    refine .cons ?_ (dp_all h.2)
    cases x with
    | non => exact .non
    | bl b => exact .bl b
    | int i => exact .int i
    | str x => exact .str x
    | byt _ => exact Bool.noConfusion h.1
    | flt _ => exact Bool.noConfusion h.1
    | ref _ => exact Bool.noConfusion h.1
    | ty _ => exact Bool.noConfusion h.1
theorem can_all : ∀ {xs : List V}, xs.all okV = true → PyData.canLayAll0 (xs.map dOf) = true
  | [], _ => rfl
  | x :: xs, h => by
    rw [List.all_cons, Bool.and_eq_true] at h
    show (PyData.canLay0 (dOf x) && PyData.canLayAll0 (xs.map dOf)) = true
    rw [can_all h.2, Bool.and_true]
    cases x with
    | str x => exact h.1
    | _ => first | rfl | exact Bool.noConfusion h.1
theorem depth_all : ∀ xs : List V, PyData.depthAll (xs.map dOf) = 0
  | [] => rfl
  | x :: xs => by
    show max (PyData.depth (dOf x)) (PyData.depthAll (xs.map dOf)) = 0
    rw [depth_all xs]
    cases x <;> rfl
theorem shL (h : xs.all okV = true) : SeqAt.shaped (.list (xs.map dOf)) = true := by
  show (PyData.canLayAll0 (xs.map dOf) && decide (PyData.depthAll (xs.map dOf) + 1 ≤ 64)) = true
  rw [can_all h, depth_all]; rfl
theorem shT (h : xs.all okV = true) : SeqAt.shaped (.tuple (xs.map dOf)) = true := by
  show (PyData.canLayAll0 (xs.map dOf) && decide (PyData.depthAll (xs.map dOf) + 1 ≤ 64)) = true
  rw [can_all h, depth_all]; rfl
theorem reflL (h : xs.all okV = true) : PyData.eqv (.list (xs.map dOf)) (.list (xs.map dOf)) = true := SeqAt.eqv_refl _ (can_all h)
theorem reflT (h : xs.all okV = true) : PyData.eqv (.tuple (xs.map dOf)) (.tuple (xs.map dOf)) = true := SeqAt.eqv_refl _ (can_all h)
namespace Rd
theorem eqLs (h1 : SqL K H a xs) (h2 : SqL K H b xs) (h : xs.all okV = true) (q : Q (.bl true) H) : rEqA K (.ref a) (.ref b) H Q := Rd.eqD (.lst h1 (dp_all h)) (.lst h2 (dp_all h)) (shL h) (shL h) (by rw [reflL h]; exact q)
theorem neLs (h1 : SqL K H a xs) (h2 : SqL K H b xs) (h : xs.all okV = true) (q : Q (.bl false) H) : rNeA K (.ref a) (.ref b) H Q := Rd.neD (.lst h1 (dp_all h)) (.lst h2 (dp_all h)) (shL h) (shL h) (by rw [reflL h]; exact q)
theorem eqTs (h1 : SqT K H a xs) (h2 : SqT K H b xs) (h : xs.all okV = true) (q : Q (.bl true) H) : rEqA K (.ref a) (.ref b) H Q := Rd.eqD (.tup h1 (dp_all h)) (.tup h2 (dp_all h)) (shT h) (shT h) (by rw [reflT h]; exact q)
theorem neTs (h1 : SqT K H a xs) (h2 : SqT K H b xs) (h : xs.all okV = true) (q : Q (.bl false) H) : rNeA K (.ref a) (.ref b) H Q := Rd.neD (.tup h1 (dp_all h)) (.tup h2 (dp_all h)) (shT h) (shT h) (by rw [reflT h]; exact q)
theorem iteBT {b : Bool} {A B : Prop} (hb : b = true) (h : A) : if b = true then A else B := by rw [if_pos hb]; exact h
theorem iteBF {b : Bool} {A B : Prop} (hb : b = false) (h : B) : if b = true then A else B := by rw [hb, if_neg Bool.false_ne_true]; exact h
theorem iteDT {c A B : Prop} [Decidable c] (hc : c) (h : A) : if decide c = true then A else B := by rw [decide_eq_true hc, if_pos rfl]; exact h
theorem iteDF {c A B : Prop} [Decidable c] (hc : ¬ c) (h : B) : if decide c = true then A else B := by rw [decide_eq_false hc, if_neg Bool.false_ne_true]; exact h
theorem iteNDT {c A B : Prop} [Decidable c] (hc : c) (h : B) : if (!decide c) = true then A else B := by rw [decide_eq_true hc]; exact h
theorem iteNDF {c A B : Prop} [Decidable c] (hc : ¬ c) (h : A) : if (!decide c) = true then A else B := by rw [decide_eq_false hc]; exact h
end Rd
end
/-- o.m(), by the facts -/
theorem pe_m0g {X : Cx} {pl : Sem Bool} {P : Program} {w : World} {K : PySem.W.Frag} {mg : Str → Option Value} {base : Heap} {CX : CXT} {m : Str} {C f : Addr} {fd : FuncData} {k : Nat} {ps : List Str} {sp : Sp} {E : XK} {o : Expr} {ta : TE} {apos pos : Pos} (he : PE X o ta) (c : Cls K C) (hm : Meth K C m f) (F : FnOk P w K mg base CX k f fd ps sp) (hr : Room k X.A) (hx : Passes CX X E) (hb : Binds K fd ps [])
    (h1 : X.prog = P := by rfl) (h2 : X.w = w := by rfl) (h3 : X.K = K := by rfl) (h4 : X.mg = mg := by rfl) (h5 : X.base = base := by rfl)
    (ht : eval (.Call (.Attribute o m apos) [] [] pos) X.env = (do let ov ← eval o X.env; standAt apos.atName; let (f, first) ← holding [ov] (getMethod ov m pl); callWith pos f first (backTo pos (starEach [] X.env)) (backToKw pos (keywordEach [] X.env))) := by rfl) :
    PE X (.Call (.Attribute o m apos) [] [] pos) (tMeth C m sp [] E ta tNil) := by
  subst h1 h2 h3 h4 h5
  exact pe_meth0 (pl := pl) he c hm F hr hb .nil hx ht
end Fw

namespace Fw
open PySem PySem.Spec L2
/-- one expression, read in one of several ways (an object of one of several classes) -/
def tAltN (n : Nat) (t : Nat → TE) : TE := fun σ H Q => ∃ m, m < n ∧ t m σ H Q
theorem pe_altN {X : Cx} {e : Expr} {n : Nat} {t : Nat → TE} (h : ∀ m, m < n → PE X e (t m)) : PE X e (tAltN n t) := ⟨fun pins s σ H Q I ⟨m, hm, q⟩ => (h m hm).run pins s σ H Q I q⟩
theorem Rd.alt {n m : Nat} {t : Nat → TE} {σ : St} {H : Hp} {Q : VK} (hm : m < n) (h : t m σ H Q) : tAltN n t σ H Q := ⟨m, hm, h⟩
end Fw

set_option Elab.async false
set_option linter.all false
set_option maxRecDepth 100000
set_option maxHeartbeats 4000000
/-! more readings: enumerate, two for, two except clauses -/
namespace Fw
open PySem PySem.Spec L2
section
variable {X : Cx} (K : PySem.W.Frag)
theorem kenum {e : Expr} {ta : TA} {p pos tpos : Pos} {elts : List Expr} {kk : Nat} (hm : X.mg "enumerate" = none) (ha : PA X [e] ta) (h : X.K = K := by rfl) (hg : Gl X "enumerate" := by rfl) (hs : starEach [e] X.env = [(false, eval e X.env)] := by rfl) :
    PI X (.Tuple elts kk tpos) (.Call (.Name "enumerate" p) [e] [] pos) (iEnum K ta) := by subst h; exact pi_enum hg hm ha hs
theorem kgt2 {e1 e2 : Expr} {k : Nat} {t1 t2 : TG} {pos : Pos} (h1 : PG X e1 t1) (h2 : PG X e2 t2) (hc : X.calm = true := by rfl) (h : X.K = K := by rfl) (hn : (assignEach [e1, e2] X.env).length = 2 := by rfl) (hst : (assignEach [e1, e2] X.env).findIdx? (·.1) = none := by rfl)
    (hs : (assignEach [e1, e2] X.env).map (·.2) = assign e1 X.env :: (assignEach [e2] X.env).map (·.2) := by rfl) (hs2 : (assignEach [e2] X.env).map (·.2) = assign e2 X.env :: (assignEach [] X.env).map (·.2) := by rfl) :
    PG X (.Tuple [e1, e2] k pos) (gTup K 2 (gCons t1 (gCons t2 gNil))) := by
  subst h; exact pg_tup hc (pgs_cons h1 (pgs_cons h2 pgs_nil hs2) hs) hn hst
end
/-- what is left of a comprehension with two for -/
def Lc2Go (J : It) (g : TG) (tt : TT) (wi1 : TI) (g1 : TG) (tt1 : TT) (te : TE) (vs vs1 : List Nat) (σ : St) (H1 : Hp) (Q : VK) : Prop := tLc2 (fun _ H R => R J H) g tt wi1 g1 tt1 te vs vs1 σ H1 Q
namespace Rd
variable {K : PySem.W.Frag} {σ : St} {H : Hp} {Q : VK} {te tl tl1 : TE} {ta : TA} {tt tt1 : TT} {g g1 : TG} {wi1 : TI} {vs vs1 : List Nat} {tb : TS} {D : Ends} {J : It} {n : Nat}
theorem foE (h : ta σ H fun us H1 => ∃ a, us = [.ref a] ∧ (∃ xs, SqL K H1 a xs) ∧ FoGo (Ite K a) g tb D σ H1) : tFor (iEnum K ta) g tb D σ H := by
  unfold tFor iEnum
  have e : (fun us H1 => ∃ a, us = [V.ref a] ∧ (∃ xs, SqL K H1 a xs) ∧ FoGo (Ite K a) g tb D σ H1) = fun us H1 => ∃ a xs, us = [V.ref a] ∧ SqL K H1 a xs ∧ FoGo (Ite K a) g tb D σ H1 := by
    funext us H1
    exact propext ⟨fun ⟨a, e, ⟨xs, h⟩, k⟩ => ⟨a, xs, e, h, k⟩, fun ⟨a, xs, e, h, k⟩ => ⟨a, e, ⟨xs, h⟩, k⟩⟩
  rw [e] at h
  exact h
theorem exlist1 {a : Addr} {xs : List V} {P : Addr → Prop} (hs : SqL K H a xs) (h : P a) : ∃ b, [V.ref a] = [.ref b] ∧ (∃ xs, SqL K H b xs) ∧ P b := ⟨a, rfl, ⟨xs, hs⟩, h⟩
/-- for i, x in enumerate(xs) -/
theorem foP {a : Addr} {xs : List V} {s1 s2 : Nat} {N : St → Hp → Prop} {r : VK} {bk ct : St → Hp → Prop} (Pv : Nat → St → Hp → Prop) (h0 : Pv 0 σ H) (hG : ∀ i σ H, i ≤ xs.length → Pv i σ H → SqL K H a xs)
    (step : ∀ i x σ H T, i < xs.length → xs[i]? = some x → Pv i σ H → H T = none → tb (Ends.mk (Pv (i + 1)) r N (Pv (i + 1))) ((σ.set s1 (some (.int (i : Nat)))).set s2 (some x)) (upd H T (.tup [.int (i : Nat), x]))) (fin : ∀ σ H, Pv xs.length σ H → N σ H) :
    FoGo (Ite K a) (gTup K 2 (gCons (gName s1) (gCons (gName s2) gNil))) tb (Ends.mk N r bk ct) σ H :=
  for_it walk_enum Pv h0 hG (fun i v σ H H' hi p ⟨T, y, x, e1, e2, e3, e4, e5⟩ => by
    cases e4; subst e1; subst e3
    exact ⟨T, _, rfl, SqT.of upd_same, rfl, _, _, rfl, _, _, rfl, rfl, step i x σ H T hi e5 p e2⟩) fin
theorem lc2L (h : tl σ H fun x H1 => ∃ a, x = .ref a ∧ (∃ xs, SqL K H1 a xs) ∧ Lc2Go (Itl K a) g tt wi1 g1 tt1 te vs vs1 σ H1 Q) : tLc2 (iList K tl) g tt wi1 g1 tt1 te vs vs1 σ H Q := h
/-- [e for x in xs for y in ys if t]: Jv by the two turns, items made and heap -/
theorem lc2W {s s1 : Nat} {a b : Addr} {xs ys : List V} (hss : s ≠ s1) (hn : xs.length * ys.length < sizeLine) (Jv : Nat → Nat → List V → Hp → Prop) (h0 : Jv 0 0 [] H)
    (hst : ∀ D, H D = none → ∀ i j acc zs H', (∀ a o, H' a = some (.tup o) → a ≠ D) → Jv i j acc H' → Jv i j acc (upd H' D (.lst zs))) (hG : ∀ i j acc H', Jv i j acc H' → SqL K H' a xs ∧ SqL K H' b ys)
    (hin : ∀ x H', tl1 (((σ.set s1 none).set s none).set s (some x)) H' fun z H1 => z = .ref b ∧ H1 = H') (hmono : ∀ (σ : St) (H : Hp) (Q R : VK), (∀ v H, Q v H → R v H) → tl1 σ H Q → tl1 σ H R)
    (hend : ∀ i acc H', i < xs.length → Jv i ys.length acc H' → Jv (i + 1) 0 acc H')
    (step : ∀ D, H D = none → ∀ i j x y acc H', xs[i]? = some x → ys[j]? = some y → H' D = some (.lst acc) → Jv i j acc H' → ∀ (Kt : V → Hp → Prop) (Kf : Hp → Prop), (∀ z H4, H4 D = some (.lst acc) → Jv i (j + 1) (acc ++ [z]) H4 → Kt z H4) → (∀ H3, H3 D = some (.lst acc) → Jv i (j + 1) acc H3 → Kf H3) →
      tt1 ((((σ.set s1 none).set s none).set s (some x)).set s1 (some y)) H' fun c H3 => if c = true then te ((((σ.set s1 none).set s none).set s (some x)).set s1 (some y)) H3 Kt else Kf H3)
    (fin : ∀ D acc H', H D = none → H' D = some (.lst acc) → acc.length ≤ xs.length * ys.length → Jv xs.length 0 acc H' → Q (.ref D) H') :
    Lc2Go (Itl K a) (gName s) tYes (iList K tl1) (gName s1) tt1 te [s, s1] [s1] σ H Q := by
  intro D hD
  refine ⟨fun i m H' => m = xs.length - i ∧ i ≤ xs.length ∧ ∃ acc, H' D = some (.lst acc) ∧ acc.length ≤ i * ys.length ∧ Jv i 0 acc H', ⟨_, rfl, Nat.zero_le _, [], upd_same, Nat.zero_le _, hst D hD _ _ _ _ _ (fun a o e z => by rw [z, hD] at e; cases e) h0⟩, ?_⟩
  rintro i m H' ⟨rfl, hi, acc, a1, a2, a3⟩
  rcases Nat.lt_or_ge i xs.length with lt | ge
  · refine .inr ⟨⟨xs, xs[i], (hG _ _ _ _ a3).1, List.getElem?_eq_getElem lt⟩, fun H'' => i + 1 ≤ xs.length ∧ ∃ acc, H'' D = some (.lst acc) ∧ acc.length ≤ (i + 1) * ys.length ∧ Jv (i + 1) 0 acc H'', fun H'' q => ⟨xs.length - (i + 1), by omega, rfl, q.1, q.2⟩, ?_⟩
    rintro x H2 ⟨rfl, hx⟩
    have hx' := hx xs (hG _ _ _ _ a3).1
    have w0 : wipe σ [s, s1] = (σ.set s1 none).set s none := rfl
    rw [w0]
    refine ⟨?_, ?_⟩
    · show ((((σ.set s1 none).set s none).set s (some x)).set s1 none).set s none = (σ.set s1 none).set s none
      rw [List.set_set, List.set_comm (some x) none hss, List.set_set, List.set_set]
    · show tl1 _ _ _
      refine hmono _ _ _ _ (fun z H1 ⟨e1, e2⟩ => ?_) (hin x _)
      subst e1 e2
      refine ⟨b, rfl, ⟨ys, (hG _ _ _ _ a3).2⟩, ?_⟩
      refine ⟨fun j k H'' => k = ys.length - j ∧ j ≤ ys.length ∧ ∃ acc, H'' D = some (.lst acc) ∧ acc.length ≤ i * ys.length + j ∧ Jv i j acc H'', ⟨_, rfl, Nat.zero_le _, acc, a1, a2, a3⟩, ?_⟩
      rintro j k H'' ⟨rfl, hj, acc, b1, b2, b3⟩
      rcases Nat.lt_or_ge j ys.length with lt1 | ge1
      · refine .inr ⟨⟨ys, ys[j], (hG _ _ _ _ b3).2, List.getElem?_eq_getElem lt1⟩, fun H3 => j + 1 ≤ ys.length ∧ ∃ acc, H3 D = some (.lst acc) ∧ acc.length ≤ i * ys.length + (j + 1) ∧ Jv i (j + 1) acc H3, fun H3 q => ⟨ys.length - (j + 1), by omega, rfl, q.1, q.2⟩, ?_⟩
        rintro y H3 ⟨rfl, hy⟩
        have hy' := hy ys (hG _ _ _ _ b3).2
        have w1 : wipe ((((σ.set s1 none).set s none).set s (some x))) [s1] = ((σ.set s1 none).set s none).set s (some x) := by
          show (((σ.set s1 none).set s none).set s (some x)).set s1 none = _
          rw [List.set_set, List.set_comm (some x) none hss, List.set_set]
        rw [w1]
        refine ⟨?_, ?_⟩
        · show ((((σ.set s1 none).set s none).set s (some x)).set s1 (some y)).set s1 none = _
          rw [List.set_set]
          exact w1
        · have lt2 : i * ys.length + j < xs.length * ys.length := Nat.lt_of_lt_of_le (show i * ys.length + j < (i + 1) * ys.length by rw [Nat.succ_mul]; omega) (Nat.mul_le_mul_right _ lt)
          refine step D hD i j x y acc _ hx' hy' b1 b3 _ _ (fun z H4 c1 c2 => ⟨acc, c1, by omega, lt1, acc ++ [z], upd_same, by rw [List.length_append, List.length_singleton]; omega, hst D hD _ _ _ _ _ (fun a o e z => by rw [z, c1] at e; cases e) c2⟩) fun H3 c1 c2 => ⟨lt1, acc, c1, by omega, c2⟩
      · have ej : j = ys.length := by omega
        subst ej
        exact .inl ⟨⟨ys, (hG _ _ _ _ b3).2, Nat.le_refl _⟩, lt, acc, b1, by rw [Nat.succ_mul]; exact b2, hend i acc _ lt b3⟩
  · have ei : i = xs.length := by omega
    subst ei
    exact .inl ⟨⟨xs, (hG _ _ _ _ a3).1, Nat.le_refl _⟩, fin D acc _ hD a1 a2 a3⟩
end Rd
end Fw

set_option Elab.async false
set_option linter.all false
set_option maxRecDepth 100000
set_option maxHeartbeats 4000000
/-! a set made of a list, whatever its items: one item after another -/
namespace Sets
open PySem PySem.Spec PyProof.Rows
/-- the set that is under way at S: J i h, it holds the first i items -/
structure Grows (P : Program) (w : World) (B : Around) (S : Addr) (n : Nat) (Pv : Nat → Value → Prop) (wr : List Addr) (J : Nat → Heap → Prop) : Prop where
  keep : ∀ {i : Nat} {h h' : Heap}, J i h → (∀ b o, b ∉ wr → h.get? b = some o → h'.get? b = some o) → J i h'
  add : ∀ {i : Nat} {v : Value} {s : Shared} {E : Value → Shared → Prop} {Q : Bool → Shared → Prop}, i < n → Pv i v → J i s.heap →
    (∀ (b : Bool) (h' : Heap) (tk : Nat), s.toks ≤ tk → Heap.SameBut S s.heap h' → J (i + 1) h' → Q b { s with heap := h', toks := tk }) → wpAny (model P w) B (setAdd S v) Q E s
section
variable {P : Program} {w : World} {A : Around} {R : Result → Shared → Prop} {I S : Addr} {fp wr : List Addr} {G : Array GenState → Array GenState → Prop} {n : Nat} {Pv : Nat → Value → Prop} {St : Nat → Shared → Prop} {J : Nat → Heap → Prop}
theorem grow_loop (W : WalksS P w A.in1 I fp wr G n Pv St) (hS : S ∉ fp) (g : Grows P w A.in1 S n Pv wr J) (d : Nat) :
    ∀ (i : Nat) (s : Shared), i + d = n → St i s → J i s.heap → (∀ z, Moved (S :: wr) G s z → J n z.heap → R (.ok (.ret .none)) z) → codeAny (model P w) A (.builtin "set.update.loop" ⟨[.ref S, .ref I], []⟩) R s := by
  have more : ∀ b, b ∈ wr → b ∈ S :: wr := fun b m => List.mem_cons.mpr (.inr m)
  induction d with
  | zero =>
    intro i s e st j k
    have e' : i = n := e
    subst e'
    refine codeAny_builtin F.entry_set_update_loop ?_; rw [Around.under_plainId F.plain_set_update_loop _]
    refine wpAny_bind (m := pyNext (.ref I)) (W.done s _ _ st fun z mv => ?_)
    exact wpAny_pure (M := model P w) (k z (mv.mono more) (g.keep j fun b o nb q => mv.heap b o nb q))
  | succ d ih =>
    intro i s e st j k
    refine codeAny_builtin F.entry_set_update_loop ?_; rw [Around.under_plainId F.plain_set_update_loop _]
    refine wpAny_bind (m := pyNext (.ref I)) (W.item i s _ _ (by omega) st fun v z pv st' mv => ?_)
    refine wpAny_bind (m := holding [v] (setAdd S v)) (wpAny_holding (g.add (by omega) pv (g.keep j fun b o nb q => mv.heap b o nb q) fun r h' tk ht sb j' => ?_))
    have far : ∀ b, b ≠ S → ∀ o, z.heap.get? b = some o → h'.get? b = some o := fun b nb o q => (sb.2 b nb).trans q
    refine wpAny_pure ⟨plainId_quiet F.plain_set_update_loop _, ih (i + 1) _ (by omega) (W.frame _ z _ _ st' ht fun b m o q => far b (fun x => hS (x ▸ m)) o q) j' fun z' mv' j'' => ?_⟩
    exact k z' (Moved.trans W.gtrans ((mv.mono more).then_heap ht fun b o nb q => far b (fun x => nb (x ▸ List.mem_cons_self)) o q) mv') j''
end
/-- a set just made -/
abbrev newSet0 (led : Bool) : Obj := { cls := .type "set", dict := none, data := .set #[] 0 (.fresh 0 0 led) }
section
variable {P : Program} {w : World} {A : Around} {E : Value → Shared → Prop} {s : Shared} {J : Nat → Heap → Prop} {l : Addr} {items : Array Value} {Q : Value → Shared → Prop}
/-- set(xs), xs a list -/
theorem set_of (hh : A.handled = none) (hl : s.heap.IsList l items) (h0 : ∀ led : Bool, (w.params.followText "set-order" = true ∨ led = true) → J 0 (s.heap.push (newSet0 led)))
    (g : Grows P w A.in1.in1.in1 s.heap.objs.size items.size (fun i v => items[i]? = some v) [s.heap.objs.size + 1] J)
    (k : ∀ (h' : Heap) (tk : Nat), J items.size h' → (∀ b o, b < s.heap.objs.size → s.heap.get? b = some o → h'.get? b = some o) → Q (.ref s.heap.objs.size) { s with heap := h', toks := tk }) :
    wpAny (model P w) A (call (.type "set") [.ref l]) Q E s := by
  obtain ⟨c, tl, q_mro⟩ := PySem.F.called_set.mro
  have q_made := PySem.F.called_set.made
  have q_sub := PySem.F.called_set.sub; have q_nt := PySem.F.called_set.notType
  have q_can := PySem.F.called_set.canCreate; have q_tc := PySem.F.typeCall_set_1 (.ref l)
  refine wpAny_call (codeAny_of_tree ?_)
  refine wpAny_pure (M := model P w) ⟨Code.quiet_builtin _ (by decide +kernel), codeAny_builtin PySem.F.entry_type_call ?_⟩
  rw [Around.under_plain (weight_type_call_type "set" [.ref l] []) rfl]
  repeat (any_goals (first | assumption | wp_step))
  refine codeAny_mono (L2.code_set_led1 (.ref l) (E := E) (Q₁ := fun x z => ∃ led : Bool, (w.params.followText "set-order" = true ∨ led = true) ∧ x = .ref s.heap.objs.size ∧ z = { s with heap := s.heap.push (newSet0 led) }) ⟨_, by cases w.params.followText "set-order" <;> simp, rfl, rfl⟩) fun r s₁ hr => ?_
  match r, hr with
  | .error e, hr => exact hr
  | .ok (.ret obj), hr =>
    obtain ⟨led, hled, rfl, rfl⟩ := hr
    have q_at : (s.heap.push (newSet0 led)).get? s.heap.objs.size = some (newSet0 led) := Heap.get?_push_size _ rfl
    have q_ty : Shared.TypeIs { s with heap := s.heap.push (newSet0 led) } (.ref s.heap.objs.size) "set" := ⟨_, q_at, rfl⟩
    have q_il := PySem.F.called_set.init.lookup
    have q_ib := PySem.F.called_set.init.bind (.ref s.heap.objs.size)
    repeat (any_goals (first | assumption | wp_step))
    refine codeAny_mono (codeAny_call_builtin (R := wants (fun x z => x = .none ∧ ∃ h' tk, z = { s with heap := h', toks := tk } ∧ J items.size h' ∧ (∀ b o, b < s.heap.objs.size → s.heap.get? b = some o → h'.get? b = some o)) E)
      PySem.F.called_set.init.plain PySem.F.entry_set_init (check_set_init_1 q_ty ?_)) fun r₂ s₂ hr₂ => ?_
    · obtain ⟨⟨oc, od, oD, os⟩, q_ol, q_c, q_n, q_d⟩ := hl
      simp only at q_c q_d
      subst q_c; subst q_d
      have q_ol' : (s.heap.push (newSet0 led)).get? l = some ⟨.type "list", od, .seq items q_n, os⟩ := Heap.get?_push_of_some _ q_ol
      have q_s1 := PySem.F.sub_list_set; have q_s2 := PySem.F.sub_list_frozenset
      have q_ne : (Value.type "list" == Value.type "dict") = false := by decide
      have q_il2 : (s.heap.push (newSet0 led)).IsList l items := ⟨_, q_ol', rfl, q_n, rfl⟩
      unfold Builtin.«set.__init__» noKeywords Builtin.Frozenset.updateFrom
      generalize q_pi : pyIter = PI
      wp_walk
      subst q_pi
      refine wpAny_pyIter_list q_il2 ?_; refine wpAny_bind (wpAny_runValue ?_)
      have lt : l < s.heap.objs.size := Heap.lt_size q_ol
      have z1 : (s.heap.push (newSet0 led)).objs.size = s.heap.objs.size + 1 := Heap.size_push ..
      have n1 : l ≠ s.heap.objs.size + 1 := Nat.ne_of_lt (Nat.lt_succ_of_lt lt)
      have n2 : ¬ s.heap.objs.size = s.heap.objs.size + 1 := Nat.ne_of_lt (Nat.lt_succ_self _)
      have n3 : ¬ s.heap.objs.size = l := Nat.ne_of_gt lt
      have far1 : ∀ b o, s.heap.get? b = some o → ((s.heap.push (newSet0 led)).push { cls := .type "list_iterator", data := .fields #[.ref l, .int 0 0] }).get? b = some o := fun b o e => Heap.get?_push_of_some _ (Heap.get?_push_of_some _ e)
      refine grow_loop ((Walks.list (I := (s.heap.push (newSet0 led)).objs.size) (by simp [hh]) l (z1.symm ▸ n1) items).toS) (S := s.heap.objs.size) (z1.symm ▸ fun m => (List.mem_cons.mp m).elim n2 fun m => n3 (List.mem_singleton.mp m)) (z1.symm ▸ g) items.size 0 _ (by omega)
        ⟨⟨_, Heap.get?_push_size _ rfl, rfl, rfl⟩, q_il2.push _⟩ (g.keep (h0 led hled) fun b o _ e => Heap.get?_push_of_some _ e) fun z mv j => ?_
      obtain ⟨h', g', d', tk', os'⟩ := z
      have eg : g' = s.gens := mv.gens
      have ed : d' = s.drawn := mv.drawn
      have eo : os' = s.os := mv.os
      subst eg ed eo
      show wpAny _ _ _ _ _ _
      refine wpAny_pure ?_
      refine wpAny_pure (M := model P w) ⟨rfl, h', tk', rfl, j, fun b o lb e => mv.heap b o (fun m => ?_) (far1 b o e)⟩
      have lb' : ∀ c, s.heap.objs.size ≤ c → b ≠ c := fun c q => Nat.ne_of_lt (Nat.lt_of_lt_of_le lb q)
      rcases List.mem_cons.mp m with e1 | e1
      · exact lb' _ (Nat.le_refl _) e1
      · exact lb' _ (by rw [z1]; exact Nat.le_succ _) (List.mem_singleton.mp e1)
    · match r₂, hr₂ with
      | .error e, hr₂ => exact hr₂
      | .ok (.ret x), hr₂ =>
        obtain ⟨rfl, h', tk, rfl, j, kp⟩ := hr₂
        repeat (any_goals (first | assumption | wp_step))
        exact k _ _ j kp
      | .ok .next, hr₂ => exact hr₂.elim
end
end Sets

set_option Elab.async false
set_option linter.all false
set_option maxRecDepth 100000
set_option maxHeartbeats 4000000
/-! len(set(xs)), xs a list of texts -/
namespace Sets
open PySem PySem.Spec PyProof.Rows L2
/-- the set at S holds the first i texts -/
def HasT (P : Program) (w : World) (S : Addr) (xs : List Str) (i : Nat) (h : Heap) : Prop :=
  ∃ m, h.SetOf (strKind P w) S (fun k => (xs.take i).any (· == k)) m ∧ m ≤ i ∧ (m = i ↔ (xs.take i).Nodup)
theorem any_next {xs : List Str} {i : Nat} {x : Str} (hx : xs[i]? = some x) (k : Str) : ((xs.take i).any (· == k) || decide (k = x)) = (xs.take (i + 1)).any (· == k) := by
  rw [List.take_add_one, hx, List.any_append]
  congr 1
  show decide (k = x) = ((x == k) || false)
  rw [Bool.or_false]
  by_cases e : k = x
  · subst e; simp
  · rw [decide_eq_false e]; exact (beq_eq_false_iff_ne.mpr fun q => e q.symm).symm
theorem nodup_next {xs : List Str} {i : Nat} {x : Str} (hx : xs[i]? = some x) : (xs.take (i + 1)).Nodup ↔ (xs.take i).Nodup ∧ (xs.take i).any (· == x) = false := by
  rw [List.take_add_one, hx]
  show (xs.take i ++ [x]).Nodup ↔ _
  rw [List.nodup_append]
  constructor
  · rintro ⟨a, _, c⟩
    exact ⟨a, List.any_eq_false.mpr fun y hy e => c y hy x (List.mem_singleton.mpr rfl) (eq_of_beq e)⟩
  · rintro ⟨a, b⟩
    refine ⟨a, by simp, fun y hy z hz e => ?_⟩
    have := List.any_eq_false.mp b y hy
    rw [List.mem_singleton] at hz
    subst e hz
    exact this (beq_self_eq_true _)
theorem grows_texts {P : Program} {w : World} {B : Around} {S I : Addr} {xs : List Str} {n : Nat} {Pv : Nat → Value → Prop} (hn : n ≤ xs.length) (hb : xs.length ≤ 4000) (hSI : S ≠ I) (hv : ∀ i v, Pv i v → ∃ t, v = .str (xs.getD i Str.empty) t) : Grows P w B S n Pv [I] (HasT P w S xs) where
  keep := fun {i h h'} ⟨m, ⟨o, es, ep, t, ho, r⟩, q⟩ k => ⟨m, ⟨o, es, ep, t, k S o (fun z => hSI (List.mem_singleton.mp z)) ho, r⟩, q⟩
  add := fun {i v s E Q} hi pv ⟨m, hS, hm, hd⟩ k => by
    obtain ⟨t, rfl⟩ := hv i v pv
    have hx : xs[i]? = some (xs.getD i Str.empty) := by
      have : i < xs.length := by omega
      simp [List.getD, this]
    generalize xs.getD i Str.empty = x at hx ⊢
    unfold setAdd
    refine wpAny_holding (wpAny_bind ((strKind P w).pyHash (k := x) (strKind_is _ _ _ _) ?_))
    refine wpAny_setAddHashed_of (s := { s with toks := s.toks + 1 }) (knd := strKind P w) (strKind_is _ _ _ _) rfl hS (by unfold scanBound; omega) fun h' sb hS' => ?_
    refine k _ h' _ (Nat.le_succ _) sb ⟨_, SetOf_congr hS' (any_next hx) rfl, ?_, ?_⟩
    · split <;> omega
    · rw [nodup_next hx, ← hd]
      try dsimp only
      cases (xs.take i).any (· == x)
      · simp only [Bool.false_eq_true, if_false]
        constructor
        · intro q; exact ⟨by omega, by simp⟩
        · intro q; omega
      · simp only [if_true]
        constructor
        · intro q; omega
        · intro q; exact absurd q.2 (by simp)
def tLenSetT (K : PySem.W.Frag) (ta : TE) : TE := fun σ H Q => ta σ H fun x H1 => ∃ (l : Addr) (xs : List Str), x = .ref l ∧ SqL K H1 l (xs.map V.str) ∧ xs.length ≤ 4000 ∧ ∀ m : Nat, m ≤ xs.length → (m = xs.length ↔ xs.Nodup) → Q (.int m) H1
theorem pe_lenSetT {X : Cx} {a : Expr} {ta : TE} {p p2 q pos : Pos} (hg : Gl X "len") (hm : X.mg "len" = none) (hg2 : Gl X "set") (hm2 : X.mg "set" = none) (ha : PE X a ta) (hc : X.calm = true := by rfl)
    (na : starEach [a] X.env = (false, eval a X.env) :: starEach [] X.env := by rfl) : PE X (.Call (.Name "len" p) [.Call (.Name "set" p2) [a] [] q] [] pos) (tLenSetT X.K ta) := by
  constructor
  intro pins s σ H Q I h
  refine Call_ (ld_blt I hg hm boot_len (callWith_builtin1 (args_cons ?_ rfl) rfl rfl))
  refine Call_ (ld_blt I hg2 hm2 boot_set (callWith_type1 (args_cons (thn (ha.run pins s σ H _ I h) fun v z ⟨x, H1, I1, r1, q1⟩ => args_nil ?_) na) na rfl))
  obtain ⟨l, xs, rfl, hq, hl, q1⟩ := q1
  cases r1
  obtain ⟨its, r, pl, _⟩ := I1.list hq
  have sa := Vals.strs r
  have hlen : its.toArray.size = xs.length := by rw [List.size_toArray, ← r.length, List.length_map]
  have hv : ∀ (i : Nat) (v : Value), its.toArray[i]? = some v → ∃ t, v = .str (xs.getD i Str.empty) t := fun i v e => SS.strs_at sa i v (by simpa using e)
  refine set_of (J := HasT X.prog X.w z.heap.objs.size xs) (I1.ok.hd hc) pl.isList (fun led _ => ⟨0, ?_, Nat.le_refl _, by simp⟩) (grows_texts (by omega) hl (Nat.ne_of_lt (Nat.lt_succ_self _)) hv) fun h' tk ⟨m, hS, hm', hd⟩ kp => ?_
  · exact SetOf_congr ((setObjOf_fresh (knd := strKind X.prog X.w) led).setOf (Heap.get?_push_size _ rfl) (by unfold scanBound; omega)) (fun _ => rfl) rfl
  · refine args_nil ?_
    rw [hlen, List.take_length] at hd
    rw [hlen] at hm'
    obtain ⟨o, es, ep, t, ho, ex, dt, _, _, _, hf, hn⟩ := hS
    have I2 : Inv X pins σ H1 { z with heap := h', toks := tk } := I1.kept fun b o e => kp b o (Heap.lt_size e) e
    exact call_len_set ho ex dt hf (by rw [hn]; omega) ⟨.int m, H1, I2.tok _, ⟨_, by rw [hn]⟩, q1 m (by omega) (by rw [← hd])⟩
end Sets
namespace Rd
open PySem PySem.Spec L2
theorem lenSetT {K : PySem.W.Frag} {ta : TE} {σ : St} {H : Hp} {Q : VK} (h : ta σ H fun x H1 => ∃ (l : Addr) (xs : List Str), x = .ref l ∧ SqL K H1 l (xs.map V.str) ∧ xs.length ≤ 4000 ∧ ∀ m : Nat, m ≤ xs.length → (m = xs.length ↔ xs.Nodup) → Q (.int m) H1) : Sets.tLenSetT K ta σ H Q := h
end Rd

set_option Elab.async false
set_option linter.all false
set_option maxRecDepth 100000
set_option maxHeartbeats 4000000
/-! sorted(set(xs)), xs a list of texts -/
namespace Sets
open PySem PySem.Spec PyProof.Rows L2
def tkey (e : Int × Value) : Str := match e.2 with | .str x _ => x | _ => Str.empty
/-- what a set of texts is made of: S its texts, at most n -/
structure TxBody (P : Program) (w : World) (S : Str → Bool) (n : Nat) (es : Array (Int × Value)) (t : SetTable) : Prop where
  good : ∀ e ∈ es.toList, ∃ x tk, e.2 = Value.str x tk ∧ e.1 = (strKind P w).hash x
  nd : (es.toList.map tkey).Nodup
  mem : ∀ k, S k = true ↔ k ∈ es.toList.map tkey
  most : es.size ≤ n
  few : n < scanBound
  fits : t.fits es.size = true
  ris : Ris t.place.toList
  led : w.params.followText "set-order" = true ∨ t.led = true
def TxSet (P : Program) (w : World) (h : Heap) (a : Addr) (S : Str → Bool) (n : Nat) : Prop := ∃ o es ep t, h.get? a = some o ∧ o.ExactSet ∧ o.data = .set es ep t ∧ TxBody P w S n es t
section
variable {P : Program} {w : World} {A : Around} {E : Value → Shared → Prop} {s : Shared} {a : Addr} {S : Str → Bool} {n : Nat} {es : Array (Int × Value)} {t : SetTable}
theorem TxSet.at {h h' : Heap} (R : TxSet P w h a S n) (k : ∀ o, h.get? a = some o → h'.get? a = some o) : TxSet P w h' a S n := by
  obtain ⟨o, es, ep, t, ho, r⟩ := R
  exact ⟨o, es, ep, t, k o ho, r⟩
theorem TxBody.elems (B : TxBody P w S n es t) : ElemsOf (strKind P w) es.toList := fun e he => by
  obtain ⟨x, tk, e2, e1⟩ := B.good e he
  rw [e2]
  exact ⟨⟨x, strKind_is P w x tk, e1⟩, rfl⟩
theorem TxBody.is (B : TxBody P w S n es t) {k : Str} : (∃ e ∈ es.toList, (strKind P w).is k e.2 = true) ↔ k ∈ es.toList.map tkey := by
  constructor
  · rintro ⟨e, he, q⟩
    obtain ⟨x, tk, e2, _⟩ := B.good e he
    rw [e2] at q
    have := (strKind P w).inj _ _ _ q (strKind_is P w x tk)
    exact List.mem_map.mpr ⟨e, he, by unfold tkey; rw [e2, this]⟩
  · intro q
    obtain ⟨e, he, z⟩ := List.mem_map.mp q
    obtain ⟨x, tk, e2, _⟩ := B.good e he
    have ex : x = k := by rw [← z]; unfold tkey; rw [e2]
    exact ⟨e, he, by rw [e2, ex]; exact strKind_is P w k tk⟩
theorem TxBody.perm (B : TxBody P w S n es t) {es' : Array (Int × Value)} {t' : SetTable} (p : es'.toList.Perm es.toList) (f : t'.fits es'.size = true) (r : Ris t'.place.toList) (l : t'.led = t.led) : TxBody P w S n es' t' := by
  have pk := p.map tkey
  have sz : es'.size = es.size := by rw [← Array.length_toList, p.length_eq, Array.length_toList]
  exact ⟨fun e he => B.good e (p.mem_iff.mp he), pk.nodup_iff.mpr B.nd, fun k => (B.mem k).trans pk.mem_iff.symm, by rw [sz]; exact B.most, B.few, f, r, B.led.imp id fun z => by rw [l]; exact z⟩
theorem TxBody.more (B : TxBody P w S n es t) {es' : Array (Int × Value)} {t' : SetTable} {k : Str} {tk : Tok} (hk : S k = false) (p : es'.toList.Perm (es.toList ++ [((strKind P w).hash k, Value.str k tk)])) (f : t'.fits es'.size = true) (r : Ris t'.place.toList) (l : t'.led = t.led) (hn : n + 1 < scanBound) :
    TxBody P w (fun j => S j || decide (j = k)) (n + 1) es' t' := by
  have pc := p.trans (List.perm_append_singleton _ _)
  have pk : (es'.toList.map tkey).Perm (k :: es.toList.map tkey) := pc.map tkey
  have sz : es'.size = es.size + 1 := by rw [← Array.length_toList, pc.length_eq, List.length_cons, Array.length_toList]
  refine ⟨fun e he => ?_, pk.nodup_iff.mpr (List.nodup_cons.mpr ⟨fun z => ?_, B.nd⟩), fun j => ?_, by have := B.most; omega, hn, f, r, B.led.imp id fun z => by rw [l]; exact z⟩
  · rcases List.mem_cons.mp (pc.mem_iff.mp he) with z | z
    · exact ⟨k, tk, by rw [z], by rw [z]⟩
    · exact B.good e z
  · rw [(B.mem k).mpr z] at hk; cases hk
  · rw [pk.mem_iff, List.mem_cons, ← B.mem j, Bool.or_eq_true, decide_eq_true_eq]
    exact Or.comm
theorem TxBody.same (B : TxBody P w S n es t) {k : Str} (hk : S k = true) (hn : n + 1 < scanBound) : TxBody P w (fun j => S j || decide (j = k)) (n + 1) es t :=
  ⟨B.good, B.nd, fun j => by rw [Bool.or_eq_true, decide_eq_true_eq, ← B.mem j]; exact ⟨fun z => z.elim id fun e => e ▸ hk, .inl⟩, Nat.le_succ_of_le B.most, hn, B.fits, B.ris, B.led⟩
theorem kept_at {h : Heap} {o : Obj} {es' : Array (Int × Value)} {ep : Nat} {t' : SetTable} (ho : h.get? a = some o) (hd : o.data = .set es ep t) : (h.update a (Obj.putSet es' t')).get? a = some { o with data := .set es' (ep + 1) t' } := L2.store_at ho hd
/-- one text more -/
theorem tx_add {k : Str} {tk : Tok} {Q : Bool → Shared → Prop} (R : TxSet P w s.heap a S n) (room : n + 1 < scanBound)
    (q : ∀ (b : Bool) h', Heap.SameBut a s.heap h' → TxSet P w h' a (fun j => S j || decide (j = k)) (n + 1) → Q b { s with heap := h' }) : wpAny (model P w) A (setAddHashed a (.str k tk) ((strKind P w).hash k)) Q E s := by
  obtain ⟨o, es, ep, t, ho, ex, hd, B⟩ := R
  have few : es.size < scanBound := Nat.lt_of_le_of_lt B.most B.few
  unfold setAddHashed setAddHashedIn
  refine wpAny_holding (wpAny_bind (wpAny_setState_of ho hd B.fits ?_)); dsimp only
  rw [byScan_of rfl few B.elems]; simp only [↓reduceIte]
  unfold setAddByScan
  refine wpAny_bind (wpAny_bind (wpAny_rule (wpAny_bind (wpAny_setScan_of (strKind_is P w k tk) ho hd B.fits B.elems ?_))))
  cases found : List.findIdx? (fun e => (strKind P w).is k e.2) es.toList with
  | some j =>
    obtain ⟨hj, pj, _⟩ := List.findIdx?_eq_some_iff_getElem.mp found
    have yes : S k = true := (B.mem k).mpr (B.is.mp ⟨es.toList[j], List.getElem_mem hj, pj⟩)
    exact wpAny_pure (wpAny_pure (q false s.heap (Heap.SameBut.refl a s.heap) ⟨o, es, ep, t, ho, ex, hd, B.same yes room⟩))
  | none =>
    have no : S k = false := by
      cases z : S k with
      | false => rfl
      | true =>
        obtain ⟨e, he, y⟩ := B.is.mpr ((B.mem k).mp z)
        have c := List.findIdx?_eq_none_iff.mp found e he
        rw [y] at c; cases c
    dsimp only
    have p1 := layNew_perm t es ((strKind P w).hash k) (.str k tk)
    have f1 := layNew_fits t es ((strKind P w).hash k) (.str k tk)
    have r1 := L2.layNew_ris t es ((strKind P w).hash k) (.str k tk) B.ris
    have l1 := L2.layNew_led t es ((strKind P w).hash k) (.str k tk)
    generalize layNew t es ((strKind P w).hash k) (.str k tk) = Z at p1 f1 r1 l1 ⊢
    obtain ⟨es1, t1, dmy, gave⟩ := Z
    dsimp only at p1 f1 r1 l1 ⊢
    rw [Array.toList_push] at p1
    have give : ∀ (b : Bool) {z : Shared} {Q' : Unit → Shared → Prop}, Q' () z → wpAny (model P w) A (match b with | true => rule "set.scan.the-table-gave-way" | false => pure ()) Q' E z := fun b z Q' y => by
      cases b
      · exact wpAny_pure y
      · exact wpAny_rule y
    refine wpAny_bind (give _ ?_)
    -- the store, and the laying anew
    have tail : ∀ t2 : SetTable, t2.fits es1.size = true → Ris t2.place.toList → t2.led = t.led → ∀ (g : Bool → Sem Unit), (∀ (b : Bool) (z : Shared) (Q' : Unit → Shared → Prop), Q' () z → wpAny (model P w) A (g b) Q' E z) → ∀ (W : Option Bool → Shared → Prop),
        (∀ h', Heap.SameBut a s.heap h' → TxSet P w h' a (fun j => S j || decide (j = k)) (n + 1) → W (some true) { s with heap := h' }) →
        wpAny (model P w) A (do
          storeSet a es1 t2
          if (!dmy && t2.tooFull) = true then do
            g (relayAll t2 es1 (SetTable.grown es1.size)).2.2; storeSet a (relayAll t2 es1 (SetTable.grown es1.size)).1 (relayAll t2 es1 (SetTable.grown es1.size)).2.1; pure (some true)
          else pure (some true)) W E s := by
      intro t2 f2 r2 l2 g hg W hW
      have B2 : TxBody P w (fun j => S j || decide (j = k)) (n + 1) es1 t2 := B.more no p1 f2 r2 l2 room
      have few2 : es1.size < scanBound := Nat.lt_of_le_of_lt B2.most room
      refine wpAny_bind (wpAny_storeSet_of ho hd ?_ (fits_of_scanBound few2))
      have o1 := kept_at (es' := es1) (t' := t2) ho hd
      have sb := Heap.SameBut.update s.heap a (Obj.putSet es1 t2)
      split
      · have p3 := relayAll_perm t2 es1 (SetTable.grown es1.size)
        have f3 := relayAll_fits t2 es1 (SetTable.grown es1.size)
        have r3 := L2.relayAll_ris t2 es1 (SetTable.grown es1.size)
        have l3 := L2.relayAll_led t2 es1 (SetTable.grown es1.size)
        generalize relayAll t2 es1 (SetTable.grown es1.size) = Y at p3 f3 r3 l3 ⊢
        obtain ⟨es3, t3, gave3⟩ := Y
        dsimp only at p3 f3 r3 l3 ⊢
        have B3 := B2.perm p3 f3 r3 l3
        refine wpAny_bind (hg _ _ _ (wpAny_bind (wpAny_storeSet_of o1 rfl ?_ (fits_of_scanBound (Nat.lt_of_le_of_lt B3.most room)))))
        exact wpAny_pure (hW _ (sb.trans (Heap.SameBut.update _ a _)) ⟨_, es3, _, t3, kept_at o1 rfl, ex, rfl, B3⟩)
      · exact wpAny_pure (hW _ sb ⟨_, es1, _, t2, o1, ex, rfl, B2⟩)
    have done : ∀ h', Heap.SameBut a s.heap h' → TxSet P w h' a (fun j => S j || decide (j = k)) (n + 1) → Q true { s with heap := h' } := fun h' sb r => q true h' sb r
    have gv : ∀ (b : Bool) (z : Shared) (Q' : Unit → Shared → Prop), Q' () z → wpAny (model P w) A (match b with | true => rule "set.scan.the-table-gave-way" | false => pure ()) Q' E z := fun b z Q' y => give b y
    split
    · rw [hashByValue_scannable 8 rfl]
      refine wpAny_bind (wpAny_pure ?_)
      refine tail _ ?_ ?_ ?_ _ (fun b z Q' y => by cases b <;> first | exact wpAny_pure y | exact wpAny_rule y) _ fun h' sb r => wpAny_pure (done h' sb r)
      · split
        · exact f1
        · exact SetTable.fits_plain_off f1
      · split <;> exact r1
      · split <;> exact l1
    · refine wpAny_bind (wpAny_pure ?_)
      simp only [↓reduceIte]
      exact tail _ f1 r1 l1 _ (fun b z Q' y => by cases b <;> first | exact wpAny_pure y | exact wpAny_rule y) _ fun h' sb r => wpAny_pure (done h' sb r)
end
end Sets

set_option Elab.async false
set_option linter.all false
set_option maxRecDepth 100000
set_option maxHeartbeats 4000000
/-! sorted(set(xs)), xs a list of texts: the rule -/
namespace Sets
open PySem PySem.Spec PyProof.Rows L2
section
variable {P : Program} {w : World} {A : Around} {E : Value → Shared → Prop} {s : Shared} {a : Addr} {S : Str → Bool} {n : Nat}
theorem strs_vals (es : List (Int × Value)) (h : ∀ e ∈ es, ∃ x tk, e.2 = Value.str x tk) : StrsAre (es.map (·.2)) (es.map tkey) := by
  induction es with
  | nil => exact .nil
  | cons e es ih =>
    obtain ⟨x, tk, q⟩ := h e List.mem_cons_self
    have k : tkey e = x := by unfold tkey; rw [q]
    show StrsAre (e.2 :: es.map (·.2)) (tkey e :: es.map tkey)
    rw [k, q]
    exact .cons x tk (ih fun e he => h e (List.mem_cons_of_mem _ he))
def vkey (v : Value) : Str := match v with | .str x _ => x | _ => Str.empty
theorem strs_of (l : List Value) (h : ∀ v ∈ l, ∃ x tk, v = Value.str x tk) : StrsAre l (l.map vkey) := by
  induction l with
  | nil => exact .nil
  | cons v l ih =>
    obtain ⟨x, tk, rfl⟩ := h v List.mem_cons_self
    exact .cons x tk (ih fun v hv => h v (List.mem_cons_of_mem _ hv))
/-- sorted(the set at a) -/
theorem tx_sorted {Q : Value → Shared → Prop} (R : TxSet P w s.heap a S n) (hh : A.handled = none) (h64 : n < 64)
    (q : ∀ z p (out : Array Value) (c : Nat) (ks : List Str), (∀ b o, s.heap.get? b = some o → z.heap.get? b = some o) → z.gens = s.gens → z.os = s.os → s.heap.objs.size ≤ p →
      z.heap.get? p = some (seqObj "list" out c) → StrsAre out.toList ks → sortedS ks = true → ks.Nodup → (∀ k, k ∈ ks ↔ S k = true) → ks.length ≤ n → Q (.ref p) z) : wpAny (model P w) A (call (.builtin "sorted") [.ref a]) Q E s := by
  obtain ⟨o, es, ep, t, ho, ex, hd, B⟩ := R
  have few : es.size < scanBound := Nat.lt_of_le_of_lt B.most B.few
  refine Calls.call_function_entry kind_sorted plain_sorted entry_sorted (args_sorted1 _) ?_
  unfold Builtin.«sorted»
  refine wpAny_bind (m := checkCount "sorted" 1 1 _) (wpAny_pure (wpAny_bind (collect_set (A := A.in1) hh ⟨o, ho, ex.1, hd⟩ B.fits few B.ris B.led fun z vs kp hz hg hos pm => ?_)))
  have lv : vs.length ≤ n := by rw [pm.length_eq, List.length_map, Array.length_toList]; exact B.most
  have hS : StrsAre vs (vs.map vkey) := strs_of vs fun v hv => by
    obtain ⟨e, he, y⟩ := List.mem_map.mp (pm.mem_iff.mp hv)
    obtain ⟨x, tk, h1, _⟩ := B.good e he
    exact ⟨x, tk, y ▸ h1⟩
  have pk : (vs.map vkey).Perm (es.toList.map tkey) := by
    have y := pm.map vkey
    rw [List.map_map] at y
    exact y
  refine wpAny_bind (wpAny_newList ?_ (by rw [sizeLine_eq]; omega))
  have oL : (z.heap.push (seqObj "list" vs.toArray 0)).get? z.heap.objs.size = some (seqObj "list" vs.toArray 0) := Heap.get?_push_size _ rfl
  refine wpAny_bind (wpAny_holding (wpAny_call_entry slot_list_sort ⟨_, oL, rfl⟩ entry_list_sort (list_sort_treeK strKind_oneLt oL hS.keysOf (fun v₁ v₂ rest e => keyKind_strs (by rw [← e]; exact hS)) (by omega) fun st' hp hs => ⟨_, rfl, ?_⟩) (args_list_sort _)))
  obtain ⟨ks, k1, k2, k3⟩ := sorted_out_str hS hp hs
  obtain ⟨c, hc⟩ := sortedHeap_at (vs := vs) (out := (arrOf st').map (·.2)) oL
  have pn := k2.trans pk
  refine wpAny_pure ⟨_, rfl, q _ z.heap.objs.size _ c ks (fun b u e => ?_) hg hos hz hc k1 k3 (pn.nodup_iff.mpr B.nd) (fun k => by rw [pn.mem_iff, ← B.mem k]) (by rw [pn.length_eq, List.length_map, Array.length_toList]; exact B.most)⟩
  have y := kp b u e
  have lt := Heap.lt_size y
  show (sortedHeap (z.heap.push (seqObj "list" vs.toArray 0)) z.heap.objs.size vs _).get? b = some u
  rw [sortedHeap_old (Nat.ne_of_lt lt) (by rw [size_push']; exact Nat.lt_succ_of_lt lt)]
  exact Heap.get?_push_of_some _ y
end
/-- the set at S holds the first i texts -/
def HasW (P : Program) (w : World) (a : Addr) (xs : List Str) (i : Nat) (h : Heap) : Prop := TxSet P w h a (fun k => (xs.take i).any (· == k)) i
theorem TxSet.congr {P : Program} {w : World} {h : Heap} {a : Addr} {S S' : Str → Bool} {n : Nat} (R : TxSet P w h a S n) (e : ∀ k, S k = S' k) : TxSet P w h a S' n := by
  have : S = S' := funext e
  subst this
  exact R
theorem grows_tx {P : Program} {w : World} {B : Around} {a I : Addr} {xs : List Str} {n : Nat} {Pv : Nat → Value → Prop} (hn : n ≤ xs.length) (hb : xs.length ≤ 4000) (hSI : a ≠ I) (hv : ∀ i v, Pv i v → ∃ t, v = .str (xs.getD i Str.empty) t) : Grows P w B a n Pv [I] (HasW P w a xs) where
  keep := fun {i h h'} R k => R.at fun o e => k a o (fun z => hSI (List.mem_singleton.mp z)) e
  add := fun {i v s E Q} hi pv R k => by
    obtain ⟨t, rfl⟩ := hv i v pv
    have hx : xs[i]? = some (xs.getD i Str.empty) := by
      have : i < xs.length := by omega
      simp [List.getD, this]
    generalize xs.getD i Str.empty = x at hx ⊢
    unfold setAdd
    refine wpAny_holding (wpAny_bind ((strKind P w).pyHash (k := x) (strKind_is _ _ _ _) ?_))
    refine tx_add (s := { s with toks := s.toks + 1 }) R (by unfold scanBound; omega) fun b h' sb R' => ?_
    exact k b h' _ (Nat.le_succ _) sb (R'.congr (any_next hx))
theorem tx_fresh {P : Program} {w : World} {h : Heap} {led : Bool} (hl : w.params.followText "set-order" = true ∨ led = true) : TxSet P w (h.push (newSet0 led)) h.objs.size (fun _ => false) 0 :=
  ⟨_, #[], 0, _, Heap.get?_push_size _ rfl, ⟨rfl, rfl, rfl⟩, rfl, fun e he => by simp at he, List.nodup_nil, fun k => by simp, Nat.le_refl _, by unfold scanBound; omega, rfl, List.Pairwise.nil, hl⟩
def tSortSetT (K : PySem.W.Frag) (ta : TE) : TE := fun σ H Q => ta σ H fun x H1 => ∃ (l : Addr) (xs : List Str), x = .ref l ∧ SqL K H1 l (xs.map V.str) ∧ xs.length < 64 ∧ ∀ (ks : List Str) p, sortedS ks = true → ks.Nodup → (∀ k, k ∈ ks ↔ k ∈ xs) → H1 p = none → Q (.ref p) (upd H1 p (.lst (ks.map V.str)))
theorem pe_sortSetT {X : Cx} {a : Expr} {ta : TE} {p p2 q pos : Pos} (hg : Gl X "sorted") (hm : X.mg "sorted" = none) (hg2 : Gl X "set") (hm2 : X.mg "set" = none) (ha : PE X a ta) (hc : X.calm = true := by rfl)
    (na : starEach [a] X.env = (false, eval a X.env) :: starEach [] X.env := by rfl) : PE X (.Call (.Name "sorted" p) [.Call (.Name "set" p2) [a] [] q] [] pos) (tSortSetT X.K ta) := by
  constructor
  intro pins s σ H Q I h
  refine Call_ (ld_blt I hg hm boot_sorted (callWith_builtin1 (args_cons ?_ rfl) rfl rfl))
  refine Call_ (ld_blt I hg2 hm2 boot_set (callWith_type1 (args_cons (thn (ha.run pins s σ H _ I h) fun v z ⟨x, H1, I1, r1, q1⟩ => args_nil ?_) na) na rfl))
  obtain ⟨l, xs, rfl, hq, hl, q1⟩ := q1
  cases r1
  obtain ⟨its, r, pl, _⟩ := I1.list hq
  have sa := Vals.strs r
  have hlen : its.toArray.size = xs.length := by rw [List.size_toArray, ← r.length, List.length_map]
  have hv : ∀ (i : Nat) (v : Value), its.toArray[i]? = some v → ∃ t, v = .str (xs.getD i Str.empty) t := fun i v e => SS.strs_at sa i v (by simpa using e)
  refine set_of (J := HasW X.prog X.w z.heap.objs.size xs) (I1.ok.hd hc) pl.isList (fun led hled => (tx_fresh hled).congr fun k => rfl) (grows_tx (by omega) (by omega) (Nat.ne_of_lt (Nat.lt_succ_self _)) hv) fun h' tk R kp => ?_
  refine args_nil ?_
  have R1 : TxSet X.prog X.w h' z.heap.objs.size (fun k => (xs.take its.toArray.size).any (· == k)) its.toArray.size := R
  rw [hlen, List.take_length] at R1
  have I2 : Inv X pins σ H1 { z with heap := h', toks := tk } := I1.kept fun b o e => kp b o (Heap.lt_size e) e
  refine tx_sorted (s := { z with heap := h', toks := tk }) R1 (I1.ok.hd hc) hl fun z2 p2 out c ks k1 g1 o1 hp2 hobj hks srt nd mem len => ?_
  have free : H1 p2 = none := I2.hok.fresh hp2
  have J : Inv X pins σ (upd H1 p2 (.lst (ks.map V.str))) { z with heap := z2.heap, gens := z2.gens, drawn := z2.drawn, toks := z2.toks } :=
    Inv.call (s := { z with heap := h', toks := tk }) I2 (ch := []) (Un.laid k1 hp2 free) (I2.hok.laid k1 hp2 ⟨by rw [List.length_map, sizeLine_eq]; omega, out.toList, c, vals_of_strs hks, hobj⟩) (by rw [g1]; exact I2.bare) (fun _ y => nomatch y)
  have ez : z2 = { z with heap := z2.heap, gens := z2.gens, drawn := z2.drawn, toks := z2.toks } := by
    obtain ⟨_, _, _, _, _⟩ := z2
    cases o1
    rfl
  rw [ez]
  refine ⟨.ref p2, _, J, rfl, q1 ks p2 srt nd (fun k => (mem k).trans ?_) free⟩
  rw [List.any_eq_true]
  constructor
  · rintro ⟨x, hx, e⟩
    rw [← eq_of_beq e]; exact hx
  · intro hx
    exact ⟨k, hx, beq_self_eq_true k⟩
end Sets
namespace Rd
open PySem PySem.Spec L2
theorem sortSetT {K : PySem.W.Frag} {ta : TE} {σ : St} {H : Hp} {Q : VK} (h : ta σ H fun x H1 => ∃ (l : Addr) (xs : List Str), x = .ref l ∧ SqL K H1 l (xs.map V.str) ∧ xs.length < 64 ∧ ∀ (ks : List Str) p, PyProof.Rows.sortedS ks = true → ks.Nodup → (∀ k, k ∈ ks ↔ k ∈ xs) → H1 p = none → Q (.ref p) (upd H1 p (.lst (ks.map V.str)))) : Sets.tSortSetT K ta σ H Q := h
end Rd

set_option Elab.async false
set_option linter.all false
set_option maxRecDepth 100000
set_option maxHeartbeats 4000000
/-! len(o), o of an own class with __len__ -/
namespace Fw
open PySem PySem.Spec PyProof.Rows L2
section
variable {X : Cx} {pins : List (Addr × Obj)} {σ : L2.St} {H : Hp} {s : Shared} {n : Nat} {a f C : Addr} {fd : FuncData} {sp : Sp}
/-- a method without arguments, called by a built-in -/
theorem own_run {A1 : Around} {Q : VK} {ps : List Str} (sb : Sub X n A1) (F : FnOk X.prog X.w X.K X.mg X.base CX0 n f fd ps sp) (b : Binds X.K fd ps []) (I : Inv X pins σ H s) (h : sp [.ref a] H Q E0) :
    wpAny (model X.prog X.w) A1 (call (.ref f) [.ref a]) (EP X pins σ Q) X.xe s := by
  have e := I.env0
  have e1 : Env0 X.prog X.w X.K X.mg X.base A1 X.stack s H := ⟨by rw [sb.fr]; exact e.frames, e.mod, e.bs, e.bsz, e.funs, e.frf, e.hok, e.bare⟩
  have hl := F.len _ _ _ _ h
  have bd := b s [.ref a] I.kIn (by rw [List.append_nil]; exact hl)
  rw [List.append_nil] at bd
  refine wpAny_call (codeAny_mono (F.run A1 X.stack s H ⟨[.ref a], []⟩ [.ref a] [.ref a] Q E0 sb.room e1 bd (.cons rfl .nil) h) fun r z hq => ?_)
  match r, hq with
  | .error e, hq => exact pass0 pins σ H s e z I hq
  | .ok (.ret u), hq => exact I.after hq
  | .ok .next, hq => exact hq.elim
  | .ok .brk, hq => exact hq.elim
  | .ok .cont, hq => exact hq.elim
/-- len(o) -/
def rLenO (K : PySem.W.Frag) (C : Addr) (sp : Sp) : List V → Hp → VK → Prop := fun xs H Q => ∃ (a dx : Addr) (fs : List (Str × V)), xs = [.ref a] ∧ H a = some (.ins C dx fs) ∧ sp [.ref a] H (fun v H' => ∃ i : Nat, v = .int i ∧ i < 1000000 ∧ Q (.int i) H') E0
theorem call_lenO {ps : List Str} (hs : PySem.W.findIn X.K (.ref C) "__len__" = some (some (.ref f))) (hf : PySem.W.isFn X.K (.ref f) = true) (F : FnOk X.prog X.w X.K X.mg X.base CX0 n f fd ps sp) (b : Binds X.K fd ps []) (hr : Room (n + 1) X.A) : CallR X (.builtin "len") (rLenO X.K C sp) := by
  intro pins s σ H xs us Q I r h
  obtain ⟨a, dx, fs, rfl, ha, h⟩ := h
  rw [Vals.ref1 r]
  obtain ⟨mA, J, _⟩ := ins_get I.hok ha
  obtain ⟨od, J, _⟩ := J.look
  obtain ⟨m0, hF⟩ := I.fr
  have sb : Sub X n X.A.in1 := ⟨hr.in1, rfl⟩
  refine Calls.call_function_entry kind_len plain_len entry_len (args_len1 _) ?_
  unfold Builtin.«len»
  refine wpAny_bind (m := oneArg "len" _) (wpAny_pure ?_)
  refine wpAny_bind (m := callSpecial? (.ref a) (PySem.Str.ofString "__len__")) ?_
  simp only [callSpecial?]
  refine wpAny_bind (wpAny_bind (J.type.here ((PySem.W.looks_findIn I.kIn hs).here ?_)))
  refine wpAny_holding (wpAny_bind ((PySem.W.bind_fn I.kIn _ (beq_iff_eq.mp hf)).here ?_))
  refine wpAny_bind (wpAny_mono (own_run sb F b I h) (fun u z hz => ?_) fun _ _ y => y)
  obtain ⟨v, H', I', rv, i, rfl, hi, q⟩ := hz
  obtain ⟨tk, rfl⟩ := rv
  refine wpAny_pure ?_
  refine wpAny_bind (wpAny_holding (wpAny_pure ?_))
  refine wpAny_bind (wpAny_letGo ?_)
  show wpAny _ _ (if ((i : Nat) : Int) < 0 then _ else _) _ _ _
  rw [if_neg (by omega)]
  show wpAny _ _ (if ((i : Nat) : Int) ≥ 2 ^ 63 then _ else _) _ _ _
  rw [if_neg (by omega)]
  exact wpAny_bind (wpAny_mkInt (wpAny_pure ⟨_, rfl, ⟨.int i, H', I'.tok _, ⟨_, rfl⟩, q⟩⟩))
end
end Fw

set_option Elab.async false
set_option linter.all false
set_option maxRecDepth 100000
set_option maxHeartbeats 4000000
/-! iter(tuple); for x in o, o of an own class whose __iter__ gives such an iterator -/
namespace Fw
open PySem PySem.Spec PyProof.Rows L2
/-- at it an iterator over the tuple at l, not yet asked -/
def TitO (l it : Addr) : HO := .ext fun h => h.IsTupleIter it l 0
theorem titO_ok {P : Program} {w : World} {H : Hp} {h : Heap} {l it : Addr} (e : h.IsTupleIter it l 0) : ObjOk P w H h it (TitO l it) := by
  obtain ⟨o, e1, e2, e3⟩ := e
  exact ⟨⟨o, e1, e2, e3⟩, ⟨o, e1⟩, fun h1 h2 ⟨u, a, b, c⟩ k => ⟨u, k u a, b, c⟩⟩
def rIterT (K : PySem.W.Frag) (n : Nat) : List V → Hp → VK → Prop := fun xs H Q => ∃ (l : Addr) (zs : List V), xs = [.ref l] ∧ SqT K H l zs ∧ ∀ it, H it = none → n ≤ it → Q (.ref it) (upd H it (TitO l it))
section
variable {X : Cx}
theorem call_iterT : CallR X (.builtin "iter") (rIterT X.K X.s_0.heap.objs.size) := by
  intro pins s σ H xs us Q I r h
  obtain ⟨l, zs, rfl, hq, q⟩ := h
  rw [Vals.ref1 r]
  obtain ⟨its, rv, pl, hz⟩ := I.tuple hq
  refine Calls.call_function_entry (by decide +kernel) (by decide +kernel) PySem.W.kdk_entry_iter (PySem.W.kdk_args_iter _) ?_
  unfold Builtin.«iter»
  refine wpAny_bind (m := someArgs "iter" 1 2 _) (wpAny_of_eq (a := [Value.ref l]) (by first | rfl | kernel_rfl!) ?_)
  refine wpAny_bind (m := pyIter (.ref l)) (wpAny_pyIter_tuple (show s.heap.IsTuple l its.toArray from pl) ?_)
  have new : (s.heap.push { cls := .type "tuple_iterator", data := .fields #[.ref l, .int 0 0] }).IsTupleIter s.heap.objs.size l 0 := ⟨_, Heap.get?_push_size _ rfl, rfl, rfl⟩
  exact wpAny_pure ⟨_, rfl, .ref s.heap.objs.size, _, I.laid (t' := s.toks) (fun b u e => Heap.get?_push_of_some _ e) (Nat.le_refl _) (titO_ok new), rfl, q _ (I.hok.fresh (Nat.le_refl _)) I.sz⟩
variable {n : Nat} {f C : Addr} {fd : FuncData} {sp : Sp}
theorem own_runE {pins : List (Addr × Obj)} {σ : L2.St} {H : Hp} {s : Shared} {a : Addr} {A1 : Around} {Q : VK} {ps : List Str} (sb : Sub X n A1) (F : FnOk X.prog X.w X.K X.mg X.base CX0 n f fd ps sp) (b : Binds X.K fd ps []) (I : Inv X pins σ H s) (h : sp [.ref a] H Q E0) :
    wpAny (model X.prog X.w) A1 (call (.ref f) [.ref a]) (CE X.stack X.prog X.w H s Q) X.xe s := by
  have e := I.env0
  have e1 : Env0 X.prog X.w X.K X.mg X.base A1 X.stack s H := ⟨by rw [sb.fr]; exact e.frames, e.mod, e.bs, e.bsz, e.funs, e.frf, e.hok, e.bare⟩
  have hl := F.len _ _ _ _ h
  have bd := b s [.ref a] I.kIn (by rw [List.append_nil]; exact hl)
  rw [List.append_nil] at bd
  refine wpAny_call (codeAny_mono (F.run A1 X.stack s H ⟨[.ref a], []⟩ [.ref a] [.ref a] Q E0 sb.room e1 bd (.cons rfl .nil) h) fun r z hq => ?_)
  match r, hq with
  | .error e, hq => exact pass0 pins σ H s e z I hq
  | .ok (.ret u), hq => exact hq
  | .ok .next, hq => exact hq.elim
  | .ok .brk, hq => exact hq.elim
  | .ok .cont, hq => exact hq.elim
end
end Fw

set_option Elab.async false
set_option linter.all false
set_option maxRecDepth 100000
set_option maxHeartbeats 4000000
/-! a def's contract that may speak of the state at its start; for x in o by an own __iter__ -/
namespace Fw
open PySem PySem.Spec PyProof.Rows L2
abbrev SpY := Shared → List V → Hp → VK → Prop
structure FnY (P : Program) (w : World) (K : PySem.W.Frag) (mg : Str → Option Value) (base : Heap) (k : Nat) (f : Addr) (fd : FuncData) (ps : List Str) (sp : SpY) : Prop where
  len : ∀ s vs H Q, sp s vs H Q → vs.length = ps.length
  run : ∀ (A : Around) (outer : List Env) (s : Shared) (H : Hp) (args : Args) (us : List Value) (vs : List V) (Q : VK), Room k A → Env0 P w K mg base A outer s H → BindsTo s fd args (ps.zip us) → Vals vs us → sp s vs H Q →
    codeAny (model P w) A (.call (.ref f) args) (CR CX0 outer P w H s Q E0) s
theorem Fun.okY {P : Program} {w : World} {K : PySem.W.Frag} {mg : Str → Option Value} {base : Heap} {x qual : Str} {st : Stmt} {f : Addr} {fd : FuncData} {N ps : List Str} {k : Nat} {sp : SpY} (F : Fun K x qual st f fd) (S : FnScope N ps (defScope st)) (len : ∀ s vs H Q, sp s vs H Q → vs.length = ps.length)
    (hb : ∀ (cdv : Value) (A : Around) (outer : List Env) (s : Shared) (H : Hp) (vs : List V) (Q : VK), Room k (A.deeper (envOfC qual (defScope st) s.heap.objs.size f cdv)) → sp s vs H Q →
      ∃ t, PSs (cxOf CX0 P w K mg base N qual (defScope st) f cdv A outer s H E0).nox (defBody st) t ∧ t { nx := fun _ H' => Q .non H', rt := Q } (start N vs) H) : FnY P w K mg base (k + 1) f fd ps sp := by
  obtain ⟨_, _, _, _, _, _, cdv, _, _, rfl, lk, hcd⟩ := F.ex
  constructor
  · exact len
  intro A outer s H args us vs Q hr e0 bnd r h
  have In1 : K.In s.heap := e0.mod.kin.keeps fun b o e => (e0.bs b o e).1
  have kinds : ∀ y ∈ ps.zip us, (defScope st).names.lookup y.1 = some .local ∨ ((defScope st).names.lookup y.1 = some .cell ∧ ((cellsFrom (s.heap.objs.size + 1) (defScope st).names []).lookup y.1).isSome = true) := by
    rintro ⟨n, v⟩ hy
    exact (S.par n (List.of_mem_zip hy).1).imp id fun q => ⟨q, PySem.W.cellsFrom_some _ _ _ (.inl q)⟩
  refine codeAny_call_function hr.depth (In1 _ _ lk) rfl S.co S.gen rfl (PySem.W.codeRec_of In1 hcd) (bnd _ _ _ _ (wpAny_newFunctionEnv_cells S.kind kinds fun env he s1 y => ?_))
  subst he
  obtain ⟨t, ht, q⟩ := hb cdv A outer s H vs Q (hr.deeper _) h
  have nolim : s.heap.NoLimit := e0.mod.nolimit.keeps fun b o e => (e0.bs b o e).1
  have J : Inv (cxOf CX0 P w K mg base N qual (defScope st) f cdv A outer s H E0) [] (start N vs) H s1 := inv_start S hr.hd e0 (len _ _ _ _ h) r y
  have out : ∀ {σ : L2.St} {H' : Hp} {v : V} {u : Value} {z : Shared}, Inv (cxOf CX0 P w K mg base N qual (defScope st) f cdv A outer s H E0) [] σ H' z → RelV v u → Q v H' → CE outer P w H s Q u z := fun I rv q => ⟨_, _, I.os, I.bare, I.base, I.hok, rv, q⟩
  refine ⟨nolim.keeps y.toInCall.keep, codeAny_func (wpAny_mono (ht.nox.run [] s1 (start N vs) H _ J q) (fun fl z hz => ?_) fun e z hz => hz)⟩
  match fl, hz with
  | .ret u, ⟨_, _, _, I, rv, q⟩ => exact out I rv q
  | .next, ⟨_, _, I, q⟩ => exact out (v := V.non) (u := Value.none) I rfl q
  | .brk, ⟨_, _, _, q⟩ => exact q.elim
  | .cont, ⟨_, _, _, q⟩ => exact q.elim
section
variable {X : Cx} {n : Nat} {f C : Addr} {fd : FuncData}
/-- what such an __iter__ gives: a new iterator over the tuple at l -/
def spIterT (L : Hp → Addr → Addr → Prop) : SpY := fun s vs H Q => ∃ a l, vs = [.ref a] ∧ L H a l ∧ ∀ it, H it = none → s.heap.objs.size ≤ it → Q (.ref it) (upd H it (TitO l it))
/-- for x in o -/
def iOwn (C : Addr) (L : Hp → Addr → Addr → Prop) (K : PySem.W.Frag) (te : TE) : TI := fun σ H R => te σ H fun x H1 => ∃ (a dx : Addr) (fs : List (Str × V)) (l : Addr), x = .ref a ∧ H1 a = some (.ins C dx fs) ∧ L H1 a l ∧ R (Itt K l) H1
theorem pi_own {L : Hp → Addr → Addr → Prop} {tg o : Expr} {te : TE} {ps : List Str} (he : PE X o te) (hs : PySem.W.findIn X.K (.ref C) "__iter__" = some (some (.ref f))) (hf : PySem.W.isFn X.K (.ref f) = true) (F : FnY X.prog X.w X.K X.mg X.base n f fd ps (spIterT L)) (b : Binds X.K fd ps []) (hr : Room n X.A) :
    PI X tg o (iOwn C L X.K te) := by
  refine ⟨fun pins s σ H R I h => ?_⟩
  refine thn (he.run pins s σ H _ I h) fun v s1 ⟨x, H1, I1, r1, a, dx, fs, l, ex, ha, hL, q⟩ => ?_
  subst ex
  cases r1
  obtain ⟨mA, J, _⟩ := ins_get I1.hok ha
  obtain ⟨od, J, _⟩ := J.look
  obtain ⟨m0, hF⟩ := I1.fr
  refine PySem.W.owit_iter hF I1.ok.mod.kin J hs hf ?_
  have e := I1.env0
  let QQ : VK := fun v H2 => ∃ it, v = .ref it ∧ H1 it = none ∧ s1.heap.objs.size ≤ it ∧ H2 = upd H1 it (TitO l it)
  have hsp : spIterT L s1 [.ref a] H1 QQ := ⟨a, l, rfl, hL, fun it hn hy => ⟨it, rfl, hn, hy, rfl⟩⟩
  have hl := F.len _ _ _ _ hsp
  have bd := b s1 [.ref a] I1.kIn (by rw [List.append_nil]; exact hl)
  rw [List.append_nil] at bd
  refine wpAny_call (codeAny_mono (F.run X.A X.stack s1 H1 ⟨[.ref a], []⟩ [.ref a] [.ref a] QQ hr e bd (.cons rfl .nil) hsp) fun r z hq => ?_)
  match r, hq with
  | .error e, hq => exact pass0 pins σ H1 s1 e z I1 hq
  | .ok .next, hq => exact hq.elim
  | .ok .brk, hq => exact hq.elim
  | .ok .cont, hq => exact hq.elim
  | .ok (.ret u), hq =>
    obtain ⟨v2, H2, I2, rv, it, rfl, hn, hy, rfl⟩ := I1.after hq
    cases rv
    have hit : z.heap.IsTupleIter it l 0 := (show ObjOk X.prog X.w _ z.heap it (TitO l it) from I2.hok it _ upd_same).1
    obtain ⟨oi, g1, g2, _⟩ := id hit
    have I3 := ItX.inv_drop I2 (show (upd H1 it (TitO l it)) it = some (.ext _) from upd_same)
    rw [ItX.dropH_upd hn] at I3
    refine wpAny_specialOf (T := "tuple_iterator") ⟨oi, g1, g2⟩ PySem.F.slot_tuple_iterator_next.lookup ?_
    exact ⟨it, [it], _, Itt X.K l, _, rfl, I3, turn_tuple l it, hit, fun b hb => by rw [List.mem_singleton.mp hb]; exact I1.fpOk hy hn, q⟩
end
end Fw

set_option Elab.async false
set_option linter.all false
set_option maxRecDepth 100000
set_option maxHeartbeats 4000000
/-! several clauses 'except C as n'; calls of classes and methods in a try -/
namespace Fw
open PySem PySem.Spec PyProof.Rows L2
abbrev Cl := Value × (Addr → Value → Option Addr → TS)
/-- what the clauses wish of an error of the body -/
def wAsN (K : PySem.W.Frag) (i : Nat) (Wout : WX) (D : Ends) : List Cl → WX
  | [] => Wout
  | q :: r => wAs K q.1 i q.2 (wAsN K i Wout D r) D
inductive ClsOk (X : Cx) (n : Str) : List ExceptHandler → List Cl → Prop
  | nil : ClsOk X n [] []
  | cons {x : Str} {c : Value} {ts : Addr → Value → Option Addr → TS} {b : Stmt} {bs : List Stmt} {p p' : Pos} {hds : List ExceptHandler} {l : List Cl} (hc : Names X x c)
      (k : ∀ (a : Addr) (oe : Obj) (cls : Value) (d : Option Addr) (pn : List (Addr × Obj)), Zc cls d oe → (∃ vs, oe.data = .fields vs) → PSs (X.suite a ((a, oe) :: pn)) (b :: bs) (ts a cls d)) (r : ClsOk X n hds l) :
      ClsOk X n (.ExceptHandler (some (.Name x p)) (some n) (b :: bs) p' :: hds) ((c, ts) :: l)
section
variable {X : Cx} {n : Str} {i : Nat} {body : List Stmt} {h₀ : ExceptHandler} {hds : List ExceptHandler} {l : List Cl} {pos : Pos} {tb : WX → TS} {Wout : WX}
theorem ps_try_asN (hs : X.stack = X.env :: X.outer) (hf : X.env.frame = some X.env.locals) (hN : X.N.Nodup) (hi : X.N[i]? = some n) (hln : X.env.kindOf n = some .local) (tk : Takes X Wout)
    (hb : ∀ (W : WX) (pn : List (Addr × Obj)) (xe : Value → Shared → Prop), Takes (X.tr pn xe) W → PassesOwn (model X.prog X.w) X.A X.env xe → PSs (X.tr pn xe) body (tb W)) (hh : ClsOk X n (h₀ :: hds) l) :
    PS X (.Try body (h₀ :: hds) [] [] pos) (fun D σ H => tb (wAsN X.K i Wout D l) D σ H) := by
  constructor
  intro pins s σ H D I h
  have q_ok := I.ok
  have q_fr : X.A.frames = some (X.env :: X.outer) := hs ▸ q_ok.frames
  refine wpAny_Try_except (wpAny_mono ((hb (wAsN X.K i Wout D l) (X.pn ++ pins) (fun e z => wpAny (model X.prog X.w) X.A (noteFrame e X.env) (fun _ z => wpAny (model X.prog X.w) X.A (setFlight e none)
    (fun _ z => wpAny (model X.prog X.w) X.A (handleBy e X.env (h₀ :: hds)) (SP X pins D) X.xe z) X.xe z) X.xe z) (fun u z xx => ?_) PassesOwn.looking).run [] s σ H D (I.toTry _) h) (fun f z hsp => ?_) fun e z he => he)
  · obtain ⟨a, B, sI, pins', σ', H', cls, d, rfl, J', nb, up, sky, na, os, ag, wish⟩ := xx
    have J : Inv X pins σ' H' sI := J'.ofTry q_ok
    rw [hs] at sky
    refine Sky.land (M := model X.prog X.w) Zc.steady q_fr hf sky fun h3 fl3 up3 => ?_
    have J3 : Inv X pins σ' H' { z with heap := h3 } := J.landed nb fl3.1 (up.trans up3) os ag
    obtain ⟨o3, v3, at3, zc3, da3⟩ := fl3.there
    have away : a ∉ frs (X.env :: X.outer) := fun m => by
      obtain ⟨_, o', e', no⟩ := fl3.2.2.1.mem m
      rw [at3] at e'; cases e'
      exact no _ da3
    have nL : a ≠ X.env.locals := fun e => away (List.mem_filterMap.mpr ⟨X.env, List.mem_cons.mpr (.inl rfl), by rw [hf, e]⟩)
    have nF : a ∉ X.fs := fun m => let ⟨e, he, q⟩ := List.mem_filterMap.mp m; away (List.mem_filterMap.mpr ⟨e, List.mem_cons.mpr (.inr he), q⟩)
    have S3 := J3.suite at3 da3 na nL nF
    have all : ∀ {hds' : List ExceptHandler} {l' : List Cl}, ClsOk X n hds' l' → wAsN X.K i Wout D l' cls d σ' H' → wpAny (model X.prog X.w) X.A (handleBy (.ref a) X.env hds') (SP X pins D) X.xe { z with heap := h3 } := by
      intro hds' l' ok
      induction ok with
      | nil =>
        intro wish
        obtain ⟨_, _, _, oe, vs, T, oT, ts', at_, _, da, f1, _⟩ := id fl3
        have go : wpAny (model X.prog X.w) X.A (setFlight (.ref a) X.env.frame) (fun _ z => wpAny (model X.prog X.w) X.A (throw (.ref a) : Sem Flow) (SP X pins D) X.xe z) X.xe { z with heap := h3 } := by
          rw [hf]
          exact HandSPX.setFlight_upZ fl3 fun h4 fl4 up4 => wpAny_throw (tk _ _ ⟨a, B, sI, pins, σ', H', cls, d, rfl, J, nb, (up.trans up3).trans up4, .inr (.inr (hs ▸ fl4)), na, os, ag, wish⟩)
        refine wpAny_handleBy_nil ?_
        unfold PySem.passOn
        refine wpAny_bind (wpAny_field at_ da f1 ?_)
        rw [if_neg (by simp)]
        first | exact wpAny_bind go | exact wpAny_bind (wpAny_pure (wpAny_bind go))
      | @cons x c ts b bs p p' hds2 l2 hc k r ih =>
        rintro ⟨yes, te, w1, w2⟩
        have LM := PySem.W.exm_one (M := model X.prog X.w) J3.kIn (fun A Q E s k q => wpAny_typeOf_ref (k _ _ at3) (by rw [zc3.1]; exact q)) te
        have named : ∀ {Q : Value → Shared → Prop} {E : Value → Shared → Prop}, Q c { z with heap := h3 } → wpAny (model X.prog X.w) (X.A.mark (some (.ref a))) (eval (.Name x p) X.env) Q E { z with heap := h3 } := by
          intro Q E q
          rcases hc with ⟨g, db, m | ⟨m, v, nn⟩⟩
          · exact ld_glob (X := X.suite a ((a, o3) :: (X.pn ++ pins))) S3 g m q db
          · exact ld_blt (X := X.suite a ((a, o3) :: (X.pn ++ pins))) S3 g m v q nn db
        refine wpAny_handleBy_cons (codeAny_handlers_test (named (LM.here ?_))) (fun e => by cases e)
        match yes, w1, w2 with
        | false, _, w2 => exact ih (w2 rfl)
        | true, w1, _ =>
          refine codeAny_handlers_suite_as (HandSPX.lands_againZ fl3 fun h4 fl4 up4 => ?_)
          have J4 : Inv X pins σ' H' { z with heap := h4 } := J.landed nb fl4.1 ((up.trans up3).trans up4) os ag
          obtain ⟨o4, v4, at4, zc4, da4⟩ := fl4.there
          refine store_ok (X := X.suite a ((a, o4) :: (X.pn ++ pins))) (v := .ref a) (J4.suite at4 da4 na nL nF) hN hi (.inl hln) rfl (fun s5 S5 => ?_) (.inr hln)
          refine wpAny_mono ((k a o4 cls d (X.pn ++ pins) zc4 ⟨_, da4⟩).run [] s5 _ H' _ S5 (w1 rfl a na)) (fun f s6 hsp => ?_) fun _ _ e => e.elim
          have close : ∀ {σ6 : L2.St} {H6 : Hp} {Q : Shared → Prop}, Inv (X.suite a ((a, o4) :: (X.pn ++ pins))) [] σ6 H6 s6 → (∀ s7, Inv X pins (σ6.set i none) H6 s7 → Q s7) →
              wpAny (model X.prog X.w) X.A (do bindName X.env n .none; unbindBehindTheSuite X.env n p') (fun _ s7 => Q s7) X.xe s6 := fun S6 q => gone_ok (S6.unsuite q_ok) hN hi hln q
          match f, hsp with
          | .next, ⟨_, _, S6, q6⟩ => exact close S6 fun _ J7 => ⟨_, _, J7, q6⟩
          | .brk, ⟨_, _, S6, q6⟩ => exact close S6 fun _ J7 => ⟨_, _, J7, q6⟩
          | .cont, ⟨_, _, S6, q6⟩ => exact close S6 fun _ J7 => ⟨_, _, J7, q6⟩
          | .ret u, ⟨_, _, _, S6, r6, q6⟩ => exact close S6 fun _ J7 => ⟨_, _, _, J7, r6, q6⟩
    exact all hh wish
  · match f, hsp with
    | .next, ⟨_, _, J', q⟩ => exact wpAny_execs_nil ⟨_, _, J'.ofTry q_ok, q⟩
    | .brk, ⟨_, _, J', q⟩ => exact ⟨_, _, J'.ofTry q_ok, q⟩
    | .cont, ⟨_, _, J', q⟩ => exact ⟨_, _, J'.ofTry q_ok, q⟩
    | .ret u, ⟨_, _, _, J', r, q⟩ => exact ⟨_, _, _, J'.ofTry q_ok, r, q⟩
end
end Fw

set_option Elab.async false
set_option linter.all false
set_option maxRecDepth 100000
set_option maxHeartbeats 4000000
/-! C(..) and o.m(..) in a try's body -/
namespace Fw
open PySem PySem.Spec PyProof.Rows L2
section
variable {X : Cx} {CX : CXT} {k : Nat} {f C : Addr} {fd : FuncData} {ps : List Str} {sp : Sp} {E : L2.St → XK} {x m : Str} {p pos apos : Pos} {e o : Expr} {es : List Expr} {ta : TE} {t : TA}
theorem run_makeS {pins : List (Addr × Obj)} {σ : L2.St} {H : Hp} {s : Shared} {Q : VK} {us : List Value} {vs : List V} (M : Mk X.K C f) (F : FnOk X.prog X.w X.K X.mg X.base CX k f fd ps sp) (hr : Room (k + 1) X.A) (hb : Binds X.K fd ps []) (hx : PassesAt CX X σ (E σ)) (I : Inv X pins σ H s) (r : Vals vs us)
    (h : ∀ x dx, H x = none → H dx = none → dx ≠ x → sp (.ref x :: vs) (upd (upd H dx (.own x)) x (.ins C dx [])) (fun v H2 => v = .non ∧ Q (.ref x) H2) (E σ)) : wpAny (model X.prog X.w) X.A (call (.ref C) us) (EP X pins σ Q) X.xe s := by
  have q := h (s.heap.objs.size + 1) s.heap.objs.size (I.hok.fresh (Nat.le_succ _)) (I.hok.fresh (Nat.le_refl _)) (Nat.ne_of_lt (Nat.lt_succ_self _))
  have J := Inv.made (C := C) I
  have rr : Vals (V.ref (s.heap.objs.size + 1) :: vs) (Value.ref (s.heap.objs.size + 1) :: us) := .cons rfl r
  have len : (Value.ref (s.heap.objs.size + 1) :: us).length = ps.length := rr.length.symm.trans (F.len _ _ _ _ q)
  have bnd := hb _ (Value.ref (s.heap.objs.size + 1) :: us) J.kIn (by rw [List.append_nil]; exact len)
  rw [List.append_nil] at bnd
  refine wpAny_call (make_map (f := f) I.kIn M.makes M.init (beq_iff_eq.mp M.fn) (codeAny_mono (F.run _ X.stack _ _ ⟨_, []⟩ _ _ _ (E σ) (hr.make C us []) (J.env0.make C us []) bnd rr q) fun r z hq => ?_))
  match r, hq with
  | .error e, hq => exact hx pins _ _ e z J hq
  | .ok (.ret u), hq =>
    obtain ⟨v, G, I3, rv, ev, q3⟩ := J.after hq
    cases ev
    exact ⟨rv, V.ref _, G, I3, rfl, q3⟩
  | .ok .next, hq => exact hq.elim
  | .ok .brk, hq => exact hq.elim
  | .ok .cont, hq => exact hq.elim
def tMakeT (C : Addr) (sp : Sp) (E : L2.St → XK) (t : TA) : TE := fun σ H Q => t σ H fun vs H1 => MkGo C (fun us => sp us) vs H1 Q (E σ)
theorem pe_makeT (M : Mk X.K C f) (F : FnOk X.prog X.w X.K X.mg X.base CX k f fd ps sp) (hr : Room (k + 1) X.A) (hg : Gl X x) (hm : X.mg x = some (.ref C)) (hb : Binds X.K fd ps []) (hx : ∀ σ, PassesAt CX X σ (E σ))
    (ha : PA X (e :: es) t) (hdb : (x == ("__debug__" : Str)) = false := by decide) (he : starEach (e :: es) X.env = (false, eval e X.env) :: starEach es X.env := by rfl) (hpl : (backTo pos (starEach es X.env)).any (·.1) = false := by rfl) :
    PE X (.Call (.Name x p) (e :: es) [] pos) (tMakeT C sp E t) := by
  constructor
  intro pins s σ H Q I h
  refine wpAny_Call_Name_kw (ld_glob I hg hm (PySem.W.callWith_K (h₀ := X.base) I.ok.mod.kin M.kp (thn (ha.run pos pins s σ H _ I h) fun us s1 ⟨vs, H1, I1, r, q⟩ => ⟨I1.kIn, ?_⟩) he hpl) hdb)
  refine run_makeS M F hr hb (hx σ) I1 r fun x dx a b c => ?_
  have z := q x dx a b c
  rw [List.append_nil] at z
  exact z
def tMethT (C : Addr) (m : Str) (sp : Sp) (E : L2.St → XK) (ta : TE) (t : TA) : TE := fun σ H Q => ta σ H fun x H1 => ∃ a dx fs, x = .ref a ∧ H1 a = some (.ins C dx fs) ∧ fs.lookup m = none ∧ t σ H1 fun vs H2 => sp (x :: vs) H2 Q (E σ)
theorem pe_methT {pl : Sem Bool} (he : PE X o ta) (c : Cls X.K C) (hm : Meth X.K C m f) (F : FnOk X.prog X.w X.K X.mg X.base CX k f fd ps sp) (hr : Room k X.A) (hb : Binds X.K fd ps []) (hx : ∀ σ, PassesAt CX X σ (E σ)) (ha : PA X (e :: es) t)
    (hst : starEach (e :: es) X.env = (false, eval e X.env) :: starEach es X.env := by rfl) (hpl : (backTo pos (starEach es X.env)).any (·.1) = false := by rfl)
    (ht : eval (.Call (.Attribute o m apos) (e :: es) [] pos) X.env = (do let ov ← eval o X.env; standAt apos.atName; let (f, first) ← holding [ov] (getMethod ov m pl); callWith pos f first (backTo pos (starEach (e :: es) X.env)) (backToKw pos (keywordEach [] X.env))) := by rfl) :
    PE X (.Call (.Attribute o m apos) (e :: es) [] pos) (tMethT C m sp E ta t) := by
  constructor
  intro pins s σ H Q I h
  refine PySem.W.methodCall_KW (pl := pl) (thn (he.run pins s σ H _ I h) fun u s1 ⟨x, H1, I1, rx, a, dx, fs, ex, ea, l, q⟩ => ?_) ht
  subst ex
  cases rx
  refine getmeth_ok I1 ea c hm l (PySem.W.callWith_K (first := [.ref a]) (h₀ := X.base) I.ok.mod.kin hm.kp (thn (ha.run pos pins s1 σ H1 _ I1 q) fun us s2 ⟨vs, H2, I2, r, q2⟩ => ⟨I2.kIn, ?_⟩) hst hpl)
  exact run_fnS (us := .ref a :: us) (vs := .ref a :: vs) F hr hb (hx σ) I2 (.cons rfl r) q2
/-- K-explicit: C(..) in a try's body -/
theorem pe_mkT {P : Program} {w : World} {K : PySem.W.Frag} {mg : Str → Option Value} {base : Heap} {qual : Str} {st : Stmt} {W : WX} (d : Mf K "__init__" qual st ps) (M : Mk K C d.f) (hm : mg x = some (.ref C)) (F : FnOk P w K mg base (L2.CX P w) k d.f d.fd ps sp) (hr : Room (k + 1) X.A) (tk : Takes X W) (ha : PA X (e :: es) t)
    (h1 : X.prog = P := by rfl) (h2 : X.w = w := by rfl) (h3 : X.K = K := by rfl) (h4 : X.mg = mg := by rfl) (h5 : X.base = base := by rfl) (hg : Gl X x := by rfl)
    (hdb : (x == ("__debug__" : Str)) = false := by decide) (he : starEach (e :: es) X.env = (false, eval e X.env) :: starEach es X.env := by rfl) (hpl : (backTo pos (starEach es X.env)).any (·.1) = false := by rfl) :
    PE X (.Call (.Name x p) (e :: es) [] pos) (tMakeT C sp (WE W) t) := by
  subst h1 h2 h3 h4 h5
  exact pe_makeT M F hr hg hm d.b (fun σ => passAt tk σ) ha hdb he hpl
/-- o.m(..) in a try's body -/
theorem pe_mT {pl : Sem Bool} {P : Program} {w : World} {K : PySem.W.Frag} {mg : Str → Option Value} {base : Heap} {nm qual : Str} {st : Stmt} {W : WX} (he : PE X o ta) (c : Cls K C) (d : Mf K nm qual st ps) (hm : Meth K C m d.f) (F : FnOk P w K mg base (L2.CX P w) k d.f d.fd ps sp) (hr : Room k X.A) (tk : Takes X W) (ha : PA X (e :: es) t)
    (h1 : X.prog = P := by rfl) (h2 : X.w = w := by rfl) (h3 : X.K = K := by rfl) (h4 : X.mg = mg := by rfl) (h5 : X.base = base := by rfl)
    (hst : starEach (e :: es) X.env = (false, eval e X.env) :: starEach es X.env := by rfl) (hpl : (backTo pos (starEach es X.env)).any (·.1) = false := by rfl)
    (ht : eval (.Call (.Attribute o m apos) (e :: es) [] pos) X.env = (do let ov ← eval o X.env; standAt apos.atName; let (f, first) ← holding [ov] (getMethod ov m pl); callWith pos f first (backTo pos (starEach (e :: es) X.env)) (backToKw pos (keywordEach [] X.env))) := by rfl) :
    PE X (.Call (.Attribute o m apos) (e :: es) [] pos) (tMethT C m sp (WE W) ta t) := by
  subst h1 h2 h3 h4 h5
  exact pe_methT (pl := pl) he c hm F hr d.b (fun σ => passAt tk σ) ha hst hpl ht
/-- o.m(..), the errors passing on -/
theorem pe_mA {pl : Sem Bool} {P : Program} {w : World} {K : PySem.W.Frag} {mg : Str → Option Value} {base : Heap} {nm qual : Str} {st : Stmt} {E : XK} (he : PE X o ta) (c : Cls K C) (d : Mf K nm qual st ps) (hm : Meth K C m d.f) (F : FnOk P w K mg base CX k d.f d.fd ps sp) (hr : Room k X.A) (hx : Passes CX X E) (ha : PA X (e :: es) t)
    (h1 : X.prog = P := by rfl) (h2 : X.w = w := by rfl) (h3 : X.K = K := by rfl) (h4 : X.mg = mg := by rfl) (h5 : X.base = base := by rfl)
    (hst : starEach (e :: es) X.env = (false, eval e X.env) :: starEach es X.env := by rfl) (hpl : (backTo pos (starEach es X.env)).any (·.1) = false := by rfl)
    (ht : eval (.Call (.Attribute o m apos) (e :: es) [] pos) X.env = (do let ov ← eval o X.env; standAt apos.atName; let (f, first) ← holding [ov] (getMethod ov m pl); callWith pos f first (backTo pos (starEach (e :: es) X.env)) (backToKw pos (keywordEach [] X.env))) := by rfl) :
    PE X (.Call (.Attribute o m apos) (e :: es) [] pos) (tMeth C m sp [] E ta t) := by
  subst h1 h2 h3 h4 h5
  exact pe_meth (pl := pl) he c hm F hr d.b .nil hx ha hst hpl ht
/-- try: .. except C as n: .. except C2 as n: .. -/
def tTryAsN (K : PySem.W.Frag) (i : Nat) (tb : WX → TS) (l : List Cl) : TS := fun D σ H => tb (wAsN K i (fun _ _ _ _ => False) D l) D σ H
theorem ktry_asN (K : PySem.W.Frag) (i : Nat) {n : Str} {body : List Stmt} {h₀ : ExceptHandler} {hds : List ExceptHandler} {l : List Cl} {tb : WX → TS} (hN : X.N.Nodup)
    (hb : ∀ (W : WX) (pn : List (Addr × Obj)) (xe : Value → Shared → Prop), Takes (X.tr pn xe) W → PassesOwn (model X.prog X.w) X.A X.env xe → PSs (X.tr pn xe) body (tb W)) (hh : ClsOk X n (h₀ :: hds) l)
    (hK : X.K = K := by rfl) (hs : X.stack = X.env :: X.outer := by rfl) (hf : X.env.frame = some X.env.locals := by rfl) (hi : X.N[i]? = some n := by rfl) (hln : X.env.kindOf n = some .local := by rfl) :
    PS X (.Try body (h₀ :: hds) [] [] pos) (tTryAsN K i tb l) := by
  subst hK
  exact ps_try_asN hs hf hN hi hln takes0 hb hh
end
namespace Rd
variable {K : PySem.W.Frag} {σ : L2.St} {H : Hp} {Q : VK} {N : L2.St → Hp → Prop} {r : VK} {bk ct : L2.St → Hp → Prop}
theorem tryAsN {i : Nat} {tb : WX → TS} {l : List Cl} (h : tb (wAsN K i (fun _ _ _ _ => False) (Ends.mk N r bk ct) l) (Ends.mk N r bk ct) σ H) : tTryAsN K i tb l (Ends.mk N r bk ct) σ H := h
theorem makeT {C : Addr} {sp : Sp} {E : L2.St → XK} {t : TA} (h : t σ H fun vs H1 => MkGo C sp vs H1 Q (E σ)) : tMakeT C sp E t σ H Q := h
theorem methT {C : Addr} {m : Str} {sp : Sp} {E : L2.St → XK} {ta : TE} {t : TA} (h : ta σ H fun x H1 => ∃ a dx fs, x = .ref a ∧ H1 a = some (.ins C dx fs) ∧ fs.lookup m = none ∧ t σ H1 fun vs H2 => sp (x :: vs) H2 Q (E σ)) : tMethT C m sp E ta t σ H Q := h
/-- the next clause is asked -/
theorem wAs_no {c cls : Value} {d : Option Addr} {i : Nat} {ts : Addr → Value → Option Addr → TS} {Wo : WX} {D : Ends} (te : PySem.W.exmOne K cls c = some false) (h : WE Wo σ cls d H) : WE (wAs K c i ts Wo D) σ cls d H := ⟨false, te, fun q => (nomatch q), fun _ => h⟩
end Rd
end Fw

set_option Elab.async false
set_option linter.all false
set_option maxRecDepth 100000
set_option maxHeartbeats 4000000
/-! [e for x in xs for y in f(x) if t], what the inner for walks depending on x -/
namespace Fw
open PySem PySem.Spec L2
namespace Rd
variable {σ : St} {H : Hp} {Q : VK} {te : TE} {tt1 : TT} {wi1 : TI} {J : It} {n : Nat} {G : Hp → Prop} {Itm : Nat → V → Prop}
theorem lc2D {s s1 M : Nat} (w : Walk J n G (Flat Itm)) (J1 : Nat → It) (m : Nat → Nat) (G1 : Nat → Hp → Prop) (Itm1 : Nat → Nat → V → Prop) (w1 : ∀ i, i < n → Walk (J1 i) (m i) (G1 i) (Flat (Itm1 i))) (hm : ∀ i, i < n → m i ≤ M) (hss : s ≠ s1) (hn : n * M < sizeLine)
    (Jv : Nat → Nat → List V → Hp → Prop) (h0 : Jv 0 0 [] H) (hst : ∀ D, H D = none → ∀ i j acc zs H', (∀ o, H' D = some o → ∃ ys, o = .lst ys) → Jv i j acc H' → Jv i j acc (upd H' D (.lst zs)))
    (hG : ∀ i acc H', i ≤ n → Jv i 0 acc H' → G H') (hG1 : ∀ i j acc H', i < n → j ≤ m i → Jv i j acc H' → G1 i H')
    (hin : ∀ i x acc H', i < n → Itm i x → Jv i 0 acc H' → ∀ R : It → Hp → Prop, R (J1 i) H' → wi1 (((σ.set s1 none).set s none).set s (some x)) H' R)
    (hend : ∀ i acc H', i < n → Jv i (m i) acc H' → Jv (i + 1) 0 acc H')
    (step : ∀ D, H D = none → ∀ i j x y acc H', i < n → j < m i → Itm i x → Itm1 i j y → H' D = some (.lst acc) → Jv i j acc H' → ∀ (Kt : V → Hp → Prop) (Kf : Hp → Prop), (∀ z H4, H4 D = some (.lst acc) → Jv i (j + 1) (acc ++ [z]) H4 → Kt z H4) → (∀ H3, H3 D = some (.lst acc) → Jv i (j + 1) acc H3 → Kf H3) →
      tt1 ((((σ.set s1 none).set s none).set s (some x)).set s1 (some y)) H' fun c H3 => if c = true then te ((((σ.set s1 none).set s none).set s (some x)).set s1 (some y)) H3 Kt else Kf H3)
    (fin : ∀ D acc H', H D = none → H' D = some (.lst acc) → acc.length ≤ n * M → Jv n 0 acc H' → Q (.ref D) H') :
    Lc2Go J (gName s) tYes wi1 (gName s1) tt1 te [s, s1] [s1] σ H Q := by
  intro D hD
  refine ⟨fun i k H' => k = n - i ∧ i ≤ n ∧ ∃ acc, H' D = some (.lst acc) ∧ acc.length ≤ i * M ∧ Jv i 0 acc H', ⟨_, rfl, Nat.zero_le _, [], upd_same, Nat.zero_le _, hst D hD _ _ _ _ _ (fun o e => by rw [hD] at e; cases e) h0⟩, ?_⟩
  rintro i k H' ⟨rfl, hi, acc, a1, a2, a3⟩
  rcases Nat.lt_or_ge i n with lt | ge
  · refine .inr ⟨w.goes i H' lt (hG _ _ _ hi a3), fun H'' => i + 1 ≤ n ∧ ∃ acc, H'' D = some (.lst acc) ∧ acc.length ≤ (i + 1) * M ∧ Jv (i + 1) 0 acc H'', fun H'' q => ⟨n - (i + 1), by omega, rfl, q.1, q.2⟩, ?_⟩
    intro x H2 yl
    obtain ⟨rfl, hx⟩ := w.yields i _ x H2 lt (hG _ _ _ hi a3) yl
    have w0 : wipe σ [s, s1] = (σ.set s1 none).set s none := rfl
    rw [w0]
    refine ⟨?_, ?_⟩
    · show ((((σ.set s1 none).set s none).set s (some x)).set s1 none).set s none = (σ.set s1 none).set s none
      rw [List.set_set, List.set_comm (some x) none hss, List.set_set, List.set_set]
    · refine hin i x acc _ lt hx a3 _ ?_
      refine ⟨fun j k H'' => k = m i - j ∧ j ≤ m i ∧ ∃ acc, H'' D = some (.lst acc) ∧ acc.length ≤ i * M + j ∧ Jv i j acc H'', ⟨_, rfl, Nat.zero_le _, acc, a1, a2, a3⟩, ?_⟩
      rintro j k H'' ⟨rfl, hj, acc, b1, b2, b3⟩
      have hmi := hm i lt
      rcases Nat.lt_or_ge j (m i) with lt1 | ge1
      · refine .inr ⟨(w1 i lt).goes j H'' lt1 (hG1 _ _ _ _ lt hj b3), fun H3 => j + 1 ≤ m i ∧ ∃ acc, H3 D = some (.lst acc) ∧ acc.length ≤ i * M + (j + 1) ∧ Jv i (j + 1) acc H3, fun H3 q => ⟨m i - (j + 1), by omega, rfl, q.1, q.2⟩, ?_⟩
        intro y H3 yl1
        obtain ⟨rfl, hy⟩ := (w1 i lt).yields j _ y H3 lt1 (hG1 _ _ _ _ lt hj b3) yl1
        have w2 : wipe (((σ.set s1 none).set s none).set s (some x)) [s1] = ((σ.set s1 none).set s none).set s (some x) := by
          show (((σ.set s1 none).set s none).set s (some x)).set s1 none = _
          rw [List.set_set, List.set_comm (some x) none hss, List.set_set]
        rw [w2]
        refine ⟨?_, ?_⟩
        · show ((((σ.set s1 none).set s none).set s (some x)).set s1 (some y)).set s1 none = _
          rw [List.set_set]
          exact w2
        · have lt2 : i * M + j < n * M := Nat.lt_of_lt_of_le (show i * M + j < (i + 1) * M by rw [Nat.succ_mul]; omega) (Nat.mul_le_mul_right _ lt)
          exact step D hD i j x y acc _ lt lt1 hx hy b1 b3 _ _ (fun z H4 c1 c2 => ⟨acc, c1, by omega, lt1, acc ++ [z], upd_same, by rw [List.length_append, List.length_singleton]; omega, hst D hD _ _ _ _ _ (fun o e => by rw [c1] at e; cases e; exact ⟨_, rfl⟩) c2⟩) fun H3 c1 c2 => ⟨lt1, acc, c1, by omega, c2⟩
      · have ej : j = m i := by omega
        subst ej
        exact .inl ⟨(w1 i lt).stops _ (hG1 _ _ _ _ lt (Nat.le_refl _) b3), lt, acc, b1, by rw [Nat.succ_mul]; omega, hend i acc _ lt b3⟩
  · have ei : i = n := by omega
    subst ei
    exact .inl ⟨w.stops _ (hG _ _ _ (Nat.le_refl _) a3), fin D acc _ hD a1 a2 a3⟩
end Rd
end Fw

set_option Elab.async false
set_option linter.all false
set_option maxRecDepth 100000
set_option maxHeartbeats 4000000
/-! more readings: list.insert, list.clear, comprehensions that name their own list, rising lists -/
namespace Fw
open PySem PySem.Spec L2
def rInsert : V → List V → Hp → VK → Prop := fun x vs H Q => ∃ (l : Addr) (xs : List V) (i : Int) (y : V), x = .ref l ∧ vs = [.int i, y] ∧ H l = some (.lst xs) ∧ xs.length < sizeLine ∧ 0 ≤ i ∧ i < 2 ^ 63 ∧
    Q .non (upd H l (.lst (xs.take i.toNat ++ [y] ++ xs.drop i.toNat)))
theorem kins {X : Cx} (K : PySem.W.Frag) {o e e2 : Expr} {to : TE} {t : TA} {apos cpos : Pos} (ho : PE X o to) (ha : PA X [e, e2] t) (h : X.K = K := by rfl)
    (hbase : attributeBase o "insert" X.env (eval o X.env) = eval o X.env := by rfl)
    (hfew : ((backTo cpos (starEach [e, e2] X.env)).all (fun x => !x.1) && (backToKw cpos (keywordEach [] X.env)).all (fun x => x.1.isSome)
      && decide (([e, e2] : List Expr).length + ([] : List Keyword).length + (if ([] : List Keyword).isEmpty then 0 else 1) < 30)) = true := by rfl)
    (hline : (apos.endLine == cpos.line) = true := by rfl) (hs : starEach [e, e2] X.env = (false, eval e X.env) :: starEach [e2] X.env := by rfl) (hplain : (backTo cpos (starEach [e2] X.env)).any (·.1) = false := by rfl) :
    PE X (.Call (.Attribute o "insert" apos) [e, e2] [] cpos) (tBM K "list" rInsert to t) := by
  subst h
  exact pe_bm PySem.F.plainAttrs_list PySem.F.slot_list_insert PySem.F.type_list_insert mt_insert ho ha hbase hfew hline hs hplain
theorem kclear {X : Cx} (K : PySem.W.Frag) {o : Expr} {to : TE} {apos cpos : Pos} (ho : PE X o to) (h : X.K = K := by rfl) (hbase : attributeBase o "clear" X.env (eval o X.env) = eval o X.env := by rfl) (hline : (apos.endLine == cpos.line) = true := by rfl) :
    PE X (.Call (.Attribute o "clear" apos) [] [] cpos) (tBM0 K "list" rClear to) := by
  subst h
  exact pe_bm0 PySem.F.plainAttrs_list PySem.F.slot_list_clear PySem.F.type_list_clear mt_clear ho hbase hline
namespace Rd
variable {K : PySem.W.Frag} {σ : St} {H : Hp} {Q : VK} {te : TE} {tt : TT} {J : It} {n : Nat} {G : Hp → Prop} {Itm : Nat → V → Prop}
theorem insert {p : Addr} {xs : List V} {i : Nat} {y : V} (h : H p = some (.lst xs)) (hl : xs.length < sizeLine) (hi : i < 100000) (q : Q .non (upd H p (.lst (xs.take i ++ [y] ++ xs.drop i)))) : rInsert (.ref p) [.int (i : Nat), y] H Q :=
  ⟨p, xs, (i : Nat), y, rfl, rfl, h, hl, by omega, by omega, by rw [Int.toNat_natCast]; exact q⟩
theorem clear {p : Addr} {xs : List V} (h : H p = some (.lst xs)) (q : Q .non (upd H p (.lst []))) : rClear (.ref p) [] H Q := ⟨p, xs, rfl, rfl, h, q⟩
theorem bm0 {T : String} {r : V → List V → Hp → VK → Prop} {to : TE} (h : to σ H fun x H1 => tyV K T x H1 ∧ r x [] H1 Q) : tBM0 K T r to σ H Q := h
theorem lcO {C : Addr} {L : Hp → Addr → Addr → Prop} {tl : TE} {g : TG} {vs : List Nat} (h : tl σ H fun x H1 => ∃ (a dx : Addr) (fs : List (Str × V)) (l : Addr), x = .ref a ∧ H1 a = some (.ins C dx fs) ∧ L H1 a l ∧ LcGo (Itt K l) g tt te vs σ H1 Q) : tLc (iOwn C L K tl) g tt te vs σ H Q := h
theorem foO {C : Addr} {L : Hp → Addr → Addr → Prop} {tl : TE} {g : TG} {tb : TS} {D : Ends} (h : tl σ H fun x H1 => ∃ (a dx : Addr) (fs : List (Str × V)) (l : Addr), x = .ref a ∧ H1 a = some (.ins C dx fs) ∧ L H1 a l ∧ FoGo (Itt K l) g tb D σ H1) : tFor (iOwn C L K tl) g tb D σ H := h
/-- an assertion between two statements -/
theorem mid {t : TS} {N : St → Hp → Prop} {r : VK} {bk ct : St → Hp → Prop} (Mid : St → Hp → Prop) (hN : ∀ σ H, Mid σ H → N σ H) (h : ∀ N', (∀ σ H, Mid σ H → N' σ H) → t (Ends.mk N' r bk ct) σ H) : t (Ends.mk N r bk ct) σ H := h N hN
/-- while: W by measure, slots and heap -/
theorem whW {c : TT} {tb : TS} {N : St → Hp → Prop} {r : VK} {bk ct : St → Hp → Prop} (W : Nat → St → Hp → Prop) (m : Nat) (h0 : W m σ H)
    (step : ∀ m σ H, W m σ H → c σ H fun b H1 => if b = true then ∃ N' : St → Hp → Prop, (∀ σ' H', N' σ' H' → ∃ m', m' < m ∧ W m' σ' H') ∧ tb (Ends.mk N' r N N') σ H1 else N σ H1) : tWhile c tb (Ends.mk N r bk ct) σ H :=
  ⟨W, ⟨m, h0⟩, step⟩
theorem whGo {m : Nat} {W : Nat → St → Hp → Prop} {P : (St → Hp → Prop) → Prop} (h : P fun σ' H' => ∃ m', m' < m ∧ W m' σ' H') : ∃ N' : St → Hp → Prop, (∀ σ' H', N' σ' H' → ∃ m', m' < m ∧ W m' σ' H') ∧ P N' := ⟨_, fun _ _ h => h, h⟩
/-- a comprehension whose word knows its own list, at D -/
theorem lcZ {s : Nat} (w : Walk J n G (Flat Itm)) (hn : n < sizeLine) (Jv : Addr → Nat → List V → Hp → Prop) (h0 : ∀ D, H D = none → Jv D 0 [] (upd H D (.lst []))) (hG : ∀ D i acc H', i ≤ n → Jv D i acc H' → G H')
    (step : ∀ D, H D = none → ∀ i x acc H', i < n → Itm i x → H' D = some (.lst acc) → acc.length ≤ i → Jv D i acc H' → ∀ (Kt : V → Hp → Prop) (Kf : Hp → Prop), (∀ y H4, H4 D = some (.lst acc) → Jv D (i + 1) (acc ++ [y]) (upd H4 D (.lst (acc ++ [y]))) → Kt y H4) → (∀ H3, H3 D = some (.lst acc) → Jv D (i + 1) acc H3 → Kf H3) →
      tt ((σ.set s none).set s (some x)) H' fun b H3 => if b = true then te ((σ.set s none).set s (some x)) H3 Kt else Kf H3)
    (fin : ∀ D acc H', H D = none → H' D = some (.lst acc) → acc.length ≤ n → Jv D n acc H' → Q (.ref D) H') : LcGo J (gName s) tt te [s] σ H Q := by
  intro D hD
  refine lc_it w (fun i H' => ∃ acc, H' D = some (.lst acc) ∧ acc.length ≤ i ∧ Jv D i acc H') ⟨[], upd_same, Nat.le_refl _, h0 D hD⟩ (fun i H' hi ⟨acc, _, _, j⟩ => hG D i acc H' hi j) ?_ (fun H' ⟨acc, a1, a2, a3⟩ => fin D acc H' hD a1 a2 a3)
  rintro i x H' H2 hi ⟨acc, a1, a2, a3⟩ ⟨rfl, hx⟩
  refine ⟨?_, ?_⟩
  · show ((σ.set s none).set s (some x)).set s none = σ.set s none
    rw [List.set_set, List.set_set]
  · exact step D hD i x acc _ hi hx a1 a2 a3 _ _
      (fun y H4 b1 b2 => ⟨acc, b1, Nat.lt_of_le_of_lt a2 (Nat.lt_trans hi hn), acc ++ [y], upd_same, by rw [List.length_append, List.length_singleton]; omega, b2⟩)
      (fun H3 b1 b2 => ⟨acc, b1, Nat.le_succ_of_le a2, b2⟩)
end Rd
/-! ### data of any depth under growing heaps -/
mutual
theorem Dp.mono {K : PySem.W.Frag} {H H' : Hp} (e : Same H H') : ∀ (d : PyData) {v : V}, Dp K H v d → Dp K H' v d
  | .none, _, h => by cases h; exact .non
  | .bool _, _, h => by cases h; exact .bl _
  | .int _, _, h => by cases h; exact .int _
  | .str _, _, h => by cases h; exact .str _
  | .list ds, _, h => by
    cases h with
    | lst h1 h2 => exact .lst (e.seq h1) (DpAll.mono e ds h2)
  | .tuple ds, _, h => by
    cases h with
    | tup h1 h2 => exact .tup (Fw.Same.sqt e h1) (DpAll.mono e ds h2)
  | .dict _, _, h => nomatch h
theorem DpAll.mono {K : PySem.W.Frag} {H H' : Hp} (e : Same H H') : ∀ (ds : List PyData) {vs : List V}, DpAll K H vs ds → DpAll K H' vs ds
  | [], _, h => by cases h; exact .nil
  | d :: ds, _, h => by
    cases h with
    | cons h1 h2 => exact .cons (Dp.mono e d h1) (DpAll.mono e ds h2)
end
/-! ### strictly rising lists -/
section
variable {α : Type} {lt : α → α → Prop}
theorem rise_ext (irr : ∀ x, ¬ lt x x) (tr : ∀ x y z, lt x y → lt y z → lt x z) : ∀ {xs ys : List α}, xs.Pairwise lt → ys.Pairwise lt → (∀ x, x ∈ xs ↔ x ∈ ys) → xs = ys
  | [], [], _, _, _ => rfl
  | [], y :: ys, _, _, h => absurd ((h y).mpr List.mem_cons_self) List.not_mem_nil
  | x :: xs, [], _, _, h => absurd ((h x).mp List.mem_cons_self) List.not_mem_nil
  | x :: xs, y :: ys, hx, hy, h => by
    rw [List.pairwise_cons] at hx hy
    have e : x = y := by
      rcases List.mem_cons.mp ((h x).mp List.mem_cons_self) with e | e
      · exact e
      · rcases List.mem_cons.mp ((h y).mpr List.mem_cons_self) with e' | e'
        · exact e'.symm
        · exact absurd (tr _ _ _ (hy.1 _ e) (hx.1 _ e')) (irr _)
    subst e
    rw [rise_ext irr tr hx.2 hy.2 fun z => ⟨fun hz => ?_, fun hz => ?_⟩]
    · rcases List.mem_cons.mp ((h z).mp (List.mem_cons_of_mem _ hz)) with e | e
      · rw [e] at hz; exact absurd (hx.1 _ hz) (irr _)
      · exact e
    · rcases List.mem_cons.mp ((h z).mpr (List.mem_cons_of_mem _ hz)) with e | e
      · rw [e] at hz; exact absurd (hy.1 _ hz) (irr _)
      · exact e
end
end Fw

set_option Elab.async false
set_option linter.all false
set_option maxRecDepth 100000
set_option maxHeartbeats 4000000
/-! dicts whose keys are tuples of any depth, held as abstract objects -/
namespace ND
open PySem PySem.Spec PyProof.Rows L2
mutual
/-- the value is such a key -/
inductive NkAt (H : Hp) : V → NestedKey → Prop
  | int (i : Int) : NkAt H (.int i) (.num i)
  | str (x : Str) : NkAt H (.str x) (.text x)
  | tup {a : Addr} {xs : List V} {ks : List NestedKey} : H a = some (.tup xs) → NkAll H xs ks → NkAt H (.ref a) (.tup ks)
inductive NkAll (H : Hp) : List V → List NestedKey → Prop
  | nil : NkAll H [] []
  | cons {v : V} {k : NestedKey} {vs : List V} {ks : List NestedKey} : NkAt H v k → NkAll H vs ks → NkAll H (v :: vs) (k :: ks)
end
mutual
theorem NkAt.mono {H H' : Hp} (e : ∀ a xs, H a = some (.tup xs) → H' a = some (.tup xs)) : ∀ (k : NestedKey) {v : V}, NkAt H v k → NkAt H' v k
  | .none, _, h => nomatch h
  | .num _, _, h => by cases h; exact .int _
  | .text _, _, h => by cases h; exact .str _
  | .tup ks, _, h => by
    cases h with
    | tup h1 h2 => exact .tup (e _ _ h1) (NkAll.mono e ks h2)
theorem NkAll.mono {H H' : Hp} (e : ∀ a xs, H a = some (.tup xs) → H' a = some (.tup xs)) : ∀ (ks : List NestedKey) {vs : List V}, NkAll H vs ks → NkAll H' vs ks
  | [], _, h => by cases h; exact .nil
  | k :: ks, _, h => by
    cases h with
    | cons h1 h2 => exact .cons (NkAt.mono e k h1) (NkAll.mono e ks h2)
end
section
variable {P : Program} {w : World} {H : Hp} {h : Heap}
mutual
theorem nk_is (ok : HOk P w H h) : ∀ (k : NestedKey) {v : V} {u : Value}, NkAt H v k → RelV v u → NestedIs h k u
  | .none, _, _, h, _ => nomatch h
  | .num i, _, _, h, r => by
    cases h
    obtain ⟨t, rfl⟩ := r
    exact .int i t
  | .text x, _, _, h, r => by
    cases h
    obtain ⟨t, rfl⟩ := r
    exact .text x t
  | .tup ks, _, _, h, r => by
    cases h with
    | @tup a xs _ h1 h2 =>
      cases r
      obtain ⟨_, its, r, o, e1, e2, n, e3⟩ := (show ObjOk P w H _ a (.tup xs) from ok a _ h1)
      exact .tup e1 e2 e3 (by simpa using nk_all ok ks h2 r)
theorem nk_all (ok : HOk P w H h) : ∀ (ks : List NestedKey) {vs : List V} {us : List Value}, NkAll H vs ks → Vals vs us → NestedAll h ks us
  | [], _, _, h, r => by
    cases h
    cases r
    exact .nil
  | k :: ks, _, _, h, r => by
    cases h with
    | cons h1 h2 =>
      cases r with
      | cons r1 r2 => exact .cons (nk_is ok k h1 r1) (nk_all ok ks h2 r2)
end
end
abbrev Row := NestedKey × Addr × V
def RelRows : List Row → List (NestedKey × Addr × Value) → Prop := Paired fun p q => p.1 = q.1 ∧ p.2.1 = q.2.1 ∧ RelV p.2.2 q.2.2
/-- the dict at d: its rows, in order -/
def DctO (P : Program) (w : World) (d : Addr) (xs : List Row) : HO := .ext fun h => xs.length ≤ sizeLine ∧ (d == sysModules) = false ∧ ∃ rows, RelRows xs rows ∧
  ∃ o es ep, h.get? d = some o ∧ o.ExactDict ∧ o.data = .dict es ep ∧ es.toList = rows.map (entryOfKey (nestedKind P w))
def RowsOk (H : Hp) (xs : List Row) : Prop := (∀ p ∈ xs, NkAt H (.ref p.2.1) p.1 ∧ p.1.depth ≤ 8) ∧ (xs.map (·.1)).Nodup
def atN (xs : List Row) (k : NestedKey) : Option V := (xs.find? fun p => decide (p.1 = k)).map (·.2.2)
def putN (xs : List Row) (k : NestedKey) (b : Addr) (v : V) : List Row := if (atN xs k).isSome then xs.map (fun p => if p.1 = k then (p.1, p.2.1, v) else p) else xs ++ [(k, b, v)]
theorem RelRows.keys {xs : List Row} {rows : List (NestedKey × Addr × Value)} (r : RelRows xs rows) : rows.map (·.1) = xs.map (·.1) := by
  unfold RelRows at r
  induction r with
  | nil => rfl
  | cons h _ ih => rw [List.map_cons, List.map_cons, ih, h.1]
theorem RelRows.at {xs : List Row} {rows : List (NestedKey × Addr × Value)} (r : RelRows xs rows) (k : NestedKey) : RelO (atN xs k) ((atKey rows k).map (·.2)) := by
  unfold RelRows at r
  unfold atN atKey
  induction r with
  | nil => exact True.intro
  | @cons p q ps qs h _ ih =>
    rw [List.find?_cons, List.find?_cons, ← h.1]
    by_cases e : p.1 = k
    · rw [decide_eq_true e]
      exact h.2.2
    · rw [decide_eq_false e]
      exact ih
theorem relO_isSome {a : Option V} {b : Option Value} (h : RelO a b) : b.isSome = a.isSome := by
  cases a <;> cases b <;> first | rfl | exact h.elim
theorem RelRows.isSome {xs : List Row} {rows : List (NestedKey × Addr × Value)} (r : RelRows xs rows) (k : NestedKey) : (atKey rows k).isSome = (atN xs k).isSome := by
  have := relO_isSome (r.at k)
  rw [Option.isSome_map] at this
  exact this
theorem RelRows.put {xs : List Row} {rows : List (NestedKey × Addr × Value)} (r : RelRows xs rows) (k : NestedKey) (b : Addr) {v : V} {u : Value} (rv : RelV v u) : RelRows (putN xs k b v) (storedH rows k b u) := by
  unfold putN storedH
  rw [r.isSome k]
  split
  · rename_i hsome
    clear hsome
    unfold RelRows at r ⊢
    induction r with
    | nil => exact .nil
    | @cons p q ps qs h _ ih =>
      rw [List.map_cons, List.map_cons]
      refine .cons ?_ ih
      unfold putAt
      rw [← h.1]
      by_cases e : p.1 = k
      · rw [if_pos e, if_pos e]; exact ⟨rfl, h.2.1, rv⟩
      · rw [if_neg e, if_neg e]; exact h
  · exact Paired.snoc r ⟨rfl, rfl, rv⟩
theorem RelRows.is {P : Program} {w : World} {H : Hp} {h : Heap} {xs : List Row} {rows : List (NestedKey × Addr × Value)} (ok : HOk P w H h) (r : RelRows xs rows) (g : ∀ p ∈ xs, NkAt H (.ref p.2.1) p.1 ∧ p.1.depth ≤ 8) : ∀ x ∈ rows, (nestedKind P w).is h x.1 x.2.1 := by
  unfold RelRows at r
  induction r with
  | nil => intro x hx; exact nomatch hx
  | @cons p q ps qs hq _ ih =>
    intro x hx
    rcases List.mem_cons.mp hx with e | hx
    · subst e
      have := g p List.mem_cons_self
      rw [hq.1, hq.2.1] at this
      exact ⟨nk_is ok _ this.1 rfl, this.2⟩
    · exact ih (fun y hy => g y (List.mem_cons_of_mem _ hy)) x hx
section
variable {X : Cx} {pins : List (Addr × Obj)} {σ : L2.St} {H : Hp} {s : Shared} {d b : Addr} {xs : List Row} {k : NestedKey} {A : Around} {E : Value → Shared → Prop}
theorem dct_of (I : Inv X pins σ H s) (e : H d = some (DctO X.prog X.w d xs)) (g : RowsOk H xs) : xs.length ≤ sizeLine ∧ (d == sysModules) = false ∧ ∃ rows, RelRows xs rows ∧ s.heap.DictOfH (nestedKind X.prog X.w) d rows := by
  obtain ⟨⟨z, hd, rows, r, o, es, ep, h1, h2, h3, h4⟩, _⟩ := (show ObjOk X.prog X.w H s.heap d (DctO X.prog X.w d xs) from I.hok d _ e)
  exact ⟨z, hd, rows, r, o, es, ep, h1, h2, h3, h4, r.is I.hok g.1, by rw [r.keys]; exact g.2⟩
theorem dct_new {P : Program} {w : World} {H' : Hp} {h' : Heap} {rows : List (NestedKey × Addr × Value)} (z : xs.length ≤ sizeLine) (hd : (d == sysModules) = false) (r : RelRows xs rows) (dd : h'.DictOfH (nestedKind P w) d rows) : ObjOk P w H' h' d (DctO P w d xs) := by
  obtain ⟨o, es, ep, h1, h2, h3, h4, _, _⟩ := dd
  exact ⟨⟨z, hd, rows, r, o, es, ep, h1, h2, h3, h4⟩, ⟨o, h1⟩, fun a b ⟨z, hd, rows, r, o, es, ep, h1, q⟩ k => ⟨z, hd, rows, r, o, es, ep, k o h1, q⟩⟩
theorem room_of (hu : X.A.units + 64 < cLine) : (nestedKind X.prog X.w).room X.A.in1 := by
  show X.A.in1.units + 8 < cLine
  rw [Around.in1_units]
  omega
/-- {} -/
def tDNew (P : Program) (w : World) : TE := fun _ H Q => ∀ p, H p = none → Q (.ref p) (upd H p (DctO P w p []))
theorem pe_dnew {pos : Pos} : PE X (.Dict [] [] pos) (tDNew X.prog X.w) := ⟨fun pins s σ H Q I h =>
  wpAny_Dict_empty ⟨.ref s.heap.objs.size, _, I.laid (a := s.heap.objs.size) (o := DctO X.prog X.w s.heap.objs.size []) (t' := s.toks) (fun _ _ q => Heap.get?_push_of_some _ q) (Nat.le_refl _)
    (dct_new (rows := []) (Nat.zero_le _) (beq_eq_false_iff_ne.mpr (Ne.symm (Nat.ne_of_lt I.big))) .nil (Heap.DictOfH.new s.heap)), rfl, h _ (I.hok.fresh (Nat.le_refl _))⟩⟩
/-- a key in the dict, not in it -/
def rNIn (P : Program) (w : World) (neg : Bool) : R2 := fun x y H Q => ∃ (d b : Addr) (xs : List Row) (k : NestedKey), y = .ref d ∧ x = .ref b ∧ H d = some (DctO P w d xs) ∧ RowsOk H xs ∧ NkAt H (.ref b) k ∧ k.depth ≤ 8 ∧ Q (.bl (if neg then !(atN xs k).isSome else (atN xs k).isSome)) H
theorem op_nin (hu : X.A.units + 64 < cLine) : OpR X (compareOp .In) (rNIn X.prog X.w false) := by
  intro pins s σ H x y v u Q I rx ry h
  obtain ⟨d, b, xs, k, rfl, rfl, e, g, hk, hdp, q⟩ := h
  cases rx
  cases ry
  obtain ⟨z, hd, rows, r, dd⟩ := dct_of I e g
  refine wpAny_in_heap (room_of hu) ⟨nk_is I.hok k hk rfl, hdp⟩ hd dd ?_
  rw [r.isSome]
  exact ⟨.bl _, H, I.tok _, rfl, q⟩
theorem op_nnotin (hu : X.A.units + 64 < cLine) : OpR X (compareOp .NotIn) (rNIn X.prog X.w true) := by
  intro pins s σ H x y v u Q I rx ry h
  obtain ⟨d, b, xs, k, rfl, rfl, e, g, hk, hdp, q⟩ := h
  cases rx
  cases ry
  obtain ⟨z, hd, rows, r, dd⟩ := dct_of I e g
  refine wpAny_notIn_heap (room_of hu) ⟨nk_is I.hok k hk rfl, hdp⟩ hd dd ?_
  rw [r.isSome]
  exact ⟨.bl _, H, I.tok _, rfl, q⟩
/-- d[k], there -/
def rNGet (P : Program) (w : World) : R2 := fun x y H Q => ∃ (d b : Addr) (xs : List Row) (k : NestedKey) (v : V), x = .ref d ∧ y = .ref b ∧ H d = some (DctO P w d xs) ∧ RowsOk H xs ∧ NkAt H (.ref b) k ∧ k.depth ≤ 8 ∧ atN xs k = some v ∧ Q v H
theorem ix_nget (hu : X.A.units + 64 < cLine) : IxR X (rNGet X.prog X.w) := by
  intro value slice pins s σ H x y v u Q I rx ry h hs
  obtain ⟨d, b, xs, k, z, rfl, rfl, e, g, hk, hdp, hv, q⟩ := h
  cases rx
  cases ry
  obtain ⟨_, hd, rows, r, dd⟩ := dct_of I e g
  obtain ⟨w', hw, rw'⟩ := RelO.some_of (v := z) (o := (atKey rows k).map (·.2)) (by rw [← hv]; exact r.at k)
  obtain ⟨p, hp, hp2⟩ := Option.map_eq_some_iff.mp hw
  refine subscriptTail_builtinR (x := w') dd.typeIs PySem.F.slot_dict_getitem.lookup (wpAny_getItem_heap (room_of hu) ⟨nk_is I.hok k hk rfl, hdp⟩ dd hp ?_) hs
  rw [hp2]
  exact ⟨rfl, z, H, I.tok _, rw', q⟩
/-- d[k] = v -/
def rNPut (P : Program) (w : World) : TSet := fun o i v H Q => ∃ (d b : Addr) (xs : List Row) (k : NestedKey), o = .ref d ∧ i = .ref b ∧ H d = some (DctO P w d xs) ∧ RowsOk H xs ∧ NkAt H (.ref b) k ∧ k.depth ≤ 8 ∧ xs.length < sizeLine ∧ Q (upd H d (DctO P w d (putN xs k b v)))
theorem putN_len (xs : List Row) (k : NestedKey) (b : Addr) (v : V) : (putN xs k b v).length ≤ xs.length + 1 := by
  unfold putN
  split
  · rw [List.length_map]; exact Nat.le_succ _
  · rw [List.length_append]; exact Nat.le_refl _
theorem set_nput (hu : X.A.units + 64 < cLine) : PSet X (rNPut X.prog X.w) := by
  intro pins s σ H o i v ov iv u Q I ro ri rv h
  obtain ⟨d, b, xs, k, rfl, rfl, e, g, hk, hdp, hl, q⟩ := h
  cases ro
  cases ri
  obtain ⟨_, hd, rows, r, dd⟩ := dct_of I e g
  have hz : rows.length ≤ sizeLine := by rw [← Paired.length r]; omega
  refine wpAny_setItem_heap (hsz := hz) (room_of hu) ⟨nk_is I.hok k hk rfl, hdp⟩ dd fun h' dd' hs => ⟨_, ?_, q⟩
  have he : ∃ o, h'.get? d = some o := let ⟨o, _, _, ho, _⟩ := dd'; ⟨o, ho⟩
  exact d_write I (by rw [e]; exact True.intro) hs he (dct_new (by have := putN_len xs k b v; omega) hd (r.put k b rv) dd')
end
section
variable {X : Cx} (P : Program) (w : World)
theorem knin_ (hu : X.A.units + 64 < cLine) (h : X.prog = P := by rfl) (h2 : X.w = w := by rfl) : OpR X (compareOp .In) (rNIn P w false) := by subst h h2; exact op_nin hu
theorem knnot (hu : X.A.units + 64 < cLine) (h : X.prog = P := by rfl) (h2 : X.w = w := by rfl) : OpR X (compareOp .NotIn) (rNIn P w true) := by subst h h2; exact op_nnotin hu
theorem knget (hu : X.A.units + 64 < cLine) (h : X.prog = P := by rfl) (h2 : X.w = w := by rfl) : IxR X (rNGet P w) := by subst h h2; exact ix_nget hu
theorem knput (hu : X.A.units + 64 < cLine) (h : X.prog = P := by rfl) (h2 : X.w = w := by rfl) : PSet X (rNPut P w) := by subst h h2; exact set_nput hu
theorem kdnew {pos : Pos} (h : X.prog = P := by rfl) (h2 : X.w = w := by rfl) : PE X (.Dict [] [] pos) (tDNew P w) := by subst h h2; exact pe_dnew
end
end ND

set_option Elab.async false
set_option linter.all false
set_option maxRecDepth 100000
set_option maxHeartbeats 4000000
/-! more readings: the sign, x in l and l.index(x) of data -/
namespace Fw
open PySem PySem.Spec L2
section
variable {X : Cx} (K : PySem.W.Frag)
theorem kinD (hu : X.A.units + 64 < cLine) (hu2 : X.A.units + 65 < cLine) (h : X.K = K := by rfl) : OpR X (compareOp .In) (rInD K) := by subst h; exact op_inD hu2
theorem kninD (hu : X.A.units + 64 < cLine) (hu2 : X.A.units + 65 < cLine) (h : X.K = K := by rfl) : OpR X (compareOp .NotIn) (rNotInD K) := by subst h; exact op_notInD hu2
theorem kindex {o e : Expr} {to : TE} {t : TA} {apos cpos : Pos} (hu2 : X.A.units + 65 < cLine) (ho : PE X o to) (ha : PA X [e] t) (h : X.K = K := by rfl)
    (hbase : attributeBase o "index" X.env (eval o X.env) = eval o X.env := by rfl)
    (hfew : ((backTo cpos (starEach [e] X.env)).all (fun x => !x.1) && (backToKw cpos (keywordEach [] X.env)).all (fun x => x.1.isSome)
      && decide (([e] : List Expr).length + ([] : List Keyword).length + (if ([] : List Keyword).isEmpty then 0 else 1) < 30)) = true := by rfl)
    (hline : (apos.endLine == cpos.line) = true := by rfl) (hs : starEach [e] X.env = (false, eval e X.env) :: starEach [] X.env := by rfl) (hplain : (backTo cpos (starEach [] X.env)).any (·.1) = false := by rfl) :
    PE X (.Call (.Attribute o "index" apos) [e] [] cpos) (tBM K "list" (rIndexD K) to t) := by
  subst h
  exact pe_bm PySem.F.plainAttrs_list PySem.F.slot_list_index PySem.F.type_list_index (mt_indexD hu2) ho ha hbase hfew hline hs hplain
end
namespace Rd
variable {K : PySem.W.Frag} {σ : St} {H : Hp} {Q : VK} {ta : TE}
theorem un {r : V → Hp → VK → Prop} (h : ta σ H fun x H1 => r x H1 Q) : tUn r ta σ H Q := h
theorem negI {i : Int} (q : Q (.int (-i)) H) : rU (fun i => V.int (-i)) (.int i) H Q := ⟨i, rfl, q⟩
end Rd
end Fw
namespace Fw
open PySem PySem.Spec L2
theorem pe_mk0 {X : Cx} {P : Program} {w : World} {K : PySem.W.Frag} {mg : Str → Option Value} {base : Heap} {CX : CXT} {x qual : Str} {st : Stmt} {C : Addr} {k : Nat} {ps : List Str} {sp : Sp} {E : XK} {p pos : Pos} (d : Mf K "__init__" qual st ps) (M : Mk K C d.f) (hm : mg x = some (.ref C)) (F : FnOk P w K mg base CX k d.f d.fd ps sp) (hr : Room (k + 1) X.A) (hx : Passes CX X E)
    (h1 : X.prog = P := by rfl) (h2 : X.w = w := by rfl) (h3 : X.K = K := by rfl) (h4 : X.mg = mg := by rfl) (h5 : X.base = base := by rfl) (hg : Gl X x := by rfl)
    (hdb : (x == ("__debug__" : Str)) = false := by decide) :
    PE X (.Call (.Name x p) [] [] pos) (tMake C sp [] E tNil) := by
  subst h1 h2 h3 h4 h5
  exact pe_make0 M F hr hg hm d.b .nil hx hdb
theorem klenO {X : Cx} (K : PySem.W.Frag) {n : Nat} {f C : Addr} {fd : FuncData} {sp : Sp} {ps : List Str} (hs : PySem.W.findIn K (.ref C) "__len__" = some (some (.ref f))) (hf : PySem.W.isFn K (.ref f) = true) (F : FnOk X.prog X.w K X.mg X.base CX0 n f fd ps sp) (b : Binds K fd ps []) (hr : Room (n + 1) X.A) (h : X.K = K := by rfl) : CallR X (.builtin "len") (rLenO K C sp) := by
  subst h; exact call_lenO hs hf F b hr
theorem u65 {k : Nat} {A : Around} (r : Room (k + 1) A) : A.units + 65 < cLine := by have := r.un; omega
end Fw

set_option Elab.async false
set_option linter.all false
set_option maxRecDepth 100000
set_option maxHeartbeats 4000000
/-! enumerate over a tuple; zip in walks; loops over pairs -/
namespace Fw
open PySem PySem.Spec PyProof.Rows L2
open Sem (wp)
open AutoSeq1 (wpAny_loadPart')
section
variable {prog : Program} {w : World} {A : Around} {E : Value → Shared → Prop} {s : Shared}
theorem enT_item {e it l : Addr} {i : Nat} {items : Array Value} {x old : Value} {Q : Value → Shared → Prop}
    (he : IsEnum s.heap e it i old) (hit : s.heap.IsTupleIter it l i) (hl : s.heap.IsTuple l items) (hx : items[i]? = some x) (hne : e ≠ it)
    (hQ : ∀ h', IsEnumOut h' e it ((i : Int) + 1) x s.heap.objs.size → h'.IsTupleIter it l (i + 1) →
      h'.get? s.heap.objs.size = some { cls := .type "tuple", data := .seq #[.int i s.toks, x] } → h'.objs.size = s.heap.objs.size + 1 →
      (∀ b o, b ≠ e → b ≠ it → s.heap.get? b = some o → h'.get? b = some o) → Q (.ref s.heap.objs.size) { s with heap := h', toks := s.toks + 1 }) :
    wpAny (model prog w) A (Builtin.«enumerate.__next__» ⟨[.ref e], []⟩) (fun fin s' => ∃ v, fin = .done (.ret v) ∧ Q v s') E s := by
  obtain ⟨hp, g, d, tk, os⟩ := s
  show wpAny _ _ (field (.ref e) 2 >>= _) _ _ _
  refine wpAny_bind (wpAny_field he rfl (x := .ref it) rfl ?_)
  refine wpAny_bind (RZ.nextOf_tuple_item hit hl hx fun h₁ hit₁ hs₁ => ?_)
  replace hs₁ : Heap.SameBut it hp h₁ := hs₁
  have he₁ : IsEnum h₁ e it i old := (hs₁.2 e hne).trans he
  show wpAny _ _ (field (.ref e) 3 >>= _) _ _ ⟨h₁, g, d, tk, os⟩
  refine wpAny_bind (wpAny_field he₁ rfl (x := rawInt i) rfl ?_)
  show wpAny _ _ (field (.ref e) 4 >>= _) _ _ ⟨h₁, g, d, tk, os⟩
  refine wpAny_bind (wpAny_field he₁ rfl (x := .none) rfl ?_)
  show wpAny _ _ (mkInt i >>= _) _ _ ⟨h₁, g, d, tk, os⟩
  refine wpAny_bind (wpAny_mkInt ?_)
  show wpAny _ _ (setField (.ref e) 3 (rawInt ((i : Int) + 1)) >>= _) _ _ ⟨h₁, g, d, tk + 1, os⟩
  refine wpAny_bind (wpAny_setField_rec he₁ (by simp) fun h₂ he₂ hs₂ => ?_)
  replace hs₂ : Heap.SameBut e h₁ h₂ := hs₂
  replace he₂ : IsEnum h₂ e it ((i : Int) + 1) old := he₂
  show wpAny _ _ (setField (.ref e) 4 .none >>= _) _ _ ⟨h₂, g, d, tk + 1, os⟩
  refine wpAny_bind (wpAny_setField_rec he₂ (by simp) fun h₃ he₃ hs₃ => ?_)
  replace hs₃ : Heap.SameBut e h₂ h₃ := hs₃
  replace he₃ : IsEnum h₃ e it ((i : Int) + 1) old := he₃
  show wpAny _ _ (newTuple [.int i tk, x] >>= _) _ _ ⟨h₃, g, d, tk + 1, os⟩
  refine wpAny_bind (wpAny_newTuple ?_)
  have hsz : h₃.objs.size = hp.objs.size := by rw [hs₃.1, hs₂.1, hs₁.1]
  have hel : e < hp.objs.size := Heap.lt_size he
  have step : ∃ h₄ : Heap, h₄ = h₃.push { cls := .type "tuple", data := .seq #[.int i tk, x] } := ⟨_, rfl⟩
  obtain ⟨h₄, e₄⟩ := step
  rw [← e₄]
  have he₄ : IsEnum h₄ e it ((i : Int) + 1) old := by rw [e₄]; exact Heap.get?_push_of_some _ he₃
  have ht₄ : h₄.get? hp.objs.size = some { cls := .type "tuple", data := .seq #[.int i tk, x] } := by rw [e₄, ← hsz]; exact Heap.get?_push_size _ rfl
  have hz₄ : h₄.objs.size = hp.objs.size + 1 := by rw [e₄, Heap.size_push, hsz]
  have hk₄ : ∀ b o, b ≠ e → b ≠ it → hp.get? b = some o → h₄.get? b = some o := fun b o hbe hbi hb => by
    rw [e₄]; exact Heap.get?_push_of_some _ (hs₃.extBut b o hbe (hs₂.extBut b o hbe (hs₁.extBut b o hbi hb)))
  have hit₄ : h₄.IsTupleIter it l (i + 1) := by
    obtain ⟨o, ho, r⟩ := hit₁
    exact ⟨o, by rw [e₄]; exact Heap.get?_push_of_some _ (hs₃.extBut _ _ (Ne.symm hne) (hs₂.extBut _ _ (Ne.symm hne) ho)), r⟩
  show wpAny _ _ (Builtin.SmallTypes.ownedTupleIsFree (.ref e) >>= _) _ _ ⟨h₄, g, d, tk + 1, os⟩
  rw [hsz]
  clear e₄ he₃ hs₃ he₂ hs₂ he₁ hs₁ hit₁ hsz h₃ h₂ h₁
  refine wpAny_bind ?_
  unfold Builtin.SmallTypes.ownedTupleIsFree
  refine wpAny_bind (wpAny_field he₄ rfl (x := .none) rfl (wpAny_pure ?_))
  simp only [if_true]
  refine wpAny_bind (wpAny_rule ?_)
  refine wpAny_bind (wpAny_field he₄ rfl (x := old) rfl ?_)
  refine wpAny_bind (wpAny_setField_rec he₄ (by simp) fun h₅ he₅ hs₅ => ?_)
  replace hs₅ : Heap.SameBut e h₄ h₅ := hs₅
  replace he₅ : IsEnum h₅ e it ((i : Int) + 1) x := he₅
  show wpAny _ _ (Builtin.SmallTypes.ownedTupleHandOut (.ref e) (.ref hp.objs.size) >>= _) _ _ ⟨h₅, g, d, tk + 1, os⟩
  refine wpAny_bind ?_
  unfold Builtin.SmallTypes.ownedTupleHandOut
  refine wpAny_bind (wpAny_setField_rec he₅ (by simp) fun h₆ he₆ hs₆ => ?_)
  replace hs₆ : Heap.SameBut e h₅ h₆ := hs₆
  replace he₆ : IsEnumOut h₆ e it ((i : Int) + 1) x hp.objs.size := he₆
  refine wpAny_setField_rec he₆ (by simp) fun h₇ he₇ hs₇ => ?_
  replace hs₇ : Heap.SameBut e h₆ h₇ := hs₇
  replace he₇ : IsEnumOut h₇ e it ((i : Int) + 1) x hp.objs.size := he₇
  have up : ∀ b o, b ≠ e → h₄.get? b = some o → h₇.get? b = some o := fun b o n q => hs₇.extBut b o n (hs₆.extBut b o n (hs₅.extBut b o n q))
  refine wpAny_bind (wpAny_letGo (wpAny_pure ⟨_, rfl, hQ h₇ he₇ ?_ (up _ _ (Nat.ne_of_gt hel) ht₄) (by rw [hs₇.1, hs₆.1, hs₅.1, hz₄]) fun b o hbe hbi hb => up b o hbe (hk₄ b o hbe hbi hb)⟩))
  obtain ⟨o, ho, r⟩ := hit₄
  exact ⟨o, up _ _ (Ne.symm hne) ho, r⟩
theorem nextT_item {e it l : Addr} {i : Nat} {items : Array Value} {x old : Value} {Q : Option Value → Shared → Prop}
    (he : IsEnum s.heap e it i old) (hit : s.heap.IsTupleIter it l i) (hl : s.heap.IsTuple l items) (hx : items[i]? = some x) (hne : e ≠ it)
    (hQ : ∀ h', IsEnumOut h' e it ((i : Int) + 1) x s.heap.objs.size → h'.IsTupleIter it l (i + 1) →
      h'.get? s.heap.objs.size = some { cls := .type "tuple", data := .seq #[.int i s.toks, x] } → h'.objs.size = s.heap.objs.size + 1 →
      (∀ b o, b ≠ e → b ≠ it → s.heap.get? b = some o → h'.get? b = some o) → Q (some (.ref s.heap.objs.size)) { s with heap := h', toks := s.toks + 1 }) :
    wpAny (model prog w) A (pyNext (.ref e)) Q E s := by
  have hT : s.TypeIs (.ref e) "enumerate" := ⟨_, he, rfl⟩
  unfold pyNext
  exact wpAny_bind (wpAny_attempt (wpAny_callSpecial?_slot (name := Str.ofString "__next__") hT F.slot_enumerate_next
    (wpAny_call_entry F.slot_enumerate_next hT F.entry_enumerate_next
      (enT_item he hit hl hx hne fun h' a b c d k => wpAny_pure (hQ h' a b c d k)) (F.args_enumerate_next_1 _))))
theorem nextT_end {e it l : Addr} {i : Nat} {items : Array Value} {old : Value} {Q : Option Value → Shared → Prop} (hh : A.handled = none)
    (he : IsEnum s.heap e it i old) (hit : s.heap.IsTupleIter it l i) (hl : s.heap.IsTuple l items) (hx : items[i]? = none)
    (hQ : ∀ h', Heap.ExtBut it s.heap h' → Q none { s with heap := h' }) : wpAny (model prog w) A (pyNext (.ref e)) Q E s := by
  have hT : s.TypeIs (.ref e) "enumerate" := ⟨_, he, rfl⟩
  unfold pyNext
  refine wpAny_bind (wpAny_attempt (wpAny_callSpecial?_slot (name := Str.ofString "__next__") hT F.slot_enumerate_next
    (wpAny_call_entry F.slot_enumerate_next hT F.entry_enumerate_next ?_ (F.args_enumerate_next_1 _))))
  show wpAny _ _ (field (.ref e) 2 >>= _) _ _ _
  refine wpAny_bind (wpAny_field he rfl (x := .ref it) rfl ?_)
  refine wpAny_bind (RZ.nextOf_tuple_end hh hit hl hx fun h' x he' hx' => ?_)
  obtain ⟨o, ho, hc⟩ := hx'
  refine wpAny_bind (wpAny_isInstance (T := "StopIteration") (b := true) ⟨o, ho, hc⟩ isSubtype_stop ?_)
  exact wpAny_pure (hQ _ he')
end
theorem meets_enT (l : Addr) (items : Array Value) (n : Nat) (dct : Option Addr) (sl : Array (Option Value)) :
    Meets (Builtin.«enumerate.__new__» ⟨[.type "enumerate", .ref l], []⟩) (fun _ R s => s.heap.get? l = some { cls := .type "tuple", dict := dct, data := .seq items n, slots := sl } ∧
      R (.ok (.ret (.ref (s.heap.push { cls := .type "tuple_iterator", data := .fields #[.ref l, .int 0 0] }).objs.size)))
        { s with heap := (s.heap.push { cls := .type "tuple_iterator", data := .fields #[.ref l, .int 0 0] }).push { cls := .type "enumerate", data := .fields #[.none, .bool false, .ref s.heap.objs.size, rawInt 0, .none, .none] } }) :=
  .of_wp fun prog w A R s h => by
    obtain ⟨hp, g, d, tk, os⟩ := s; obtain ⟨hl, h⟩ := h
    have hsub := sub_enumerate
    have hL : Heap.IsTuple (Shared.heap ⟨hp, g, d, tk, os⟩) l items := ⟨_, hl, rfl, n, rfl⟩
    wp_walk using wpAny_loadPart' hl
    refine wpAny_stack_any fun st => wpAny_pure ?_
    split
    · rename_i c _ _ _ _ _
      cases (c == Value.type "enumerate")
      · wp_walk using wpAny_loadPart' hl, wpAny_pyIter_tuple hL
        exact ⟨_, rfl, h⟩
      · wp_walk using wpAny_loadPart' hl, wpAny_pyIter_tuple hL
        exact ⟨_, rfl, h⟩
    · wp_walk using wpAny_loadPart' hl, wpAny_pyIter_tuple hL
      exact ⟨_, rfl, h⟩
section
variable {prog : Program} {w : World} {A : Around} {E : Value → Shared → Prop} {s : Shared}
theorem call_enT {l : Addr} {items : Array Value} {Q : Value → Shared → Prop} (hL : s.heap.IsTuple l items)
    (h : ∀ h', IsEnum h' (s.heap.objs.size + 1) s.heap.objs.size 0 .none → h'.IsTupleIter s.heap.objs.size l 0 →
      (∀ b o, s.heap.get? b = some o → h'.get? b = some o) → Q (.ref (s.heap.objs.size + 1)) { s with heap := h' }) :
    wpAny (model prog w) A (call (.type "enumerate") [.ref l]) Q E s := by
  obtain ⟨⟨c, dct, dt, sl⟩, hl, hc, n, hd⟩ := hL
  replace hc : c = .type "tuple" := hc
  replace hd : dt = .seq items n := hd
  subst hc hd
  refine callType_new F.called_enumerate (by decide) (F.typeCall_enumerate_1 _) (F.newCall_enumerate_1 _) (fun obj => F.args_object_init_2 obj _) F.entry_enumerate_new
    (meets_enT l items n dct sl) ⟨hl, ?_⟩
  have hz : (s.heap.push { cls := .type "tuple_iterator", data := .fields #[.ref l, .int 0 0] }).objs.size = s.heap.objs.size + 1 := Heap.size_push ..
  show _ ∧ _
  rw [hz]
  have he : IsEnum ((s.heap.push { cls := .type "tuple_iterator", data := .fields #[.ref l, .int 0 0] }).push
      { cls := .type "enumerate", data := .fields #[.none, .bool false, .ref s.heap.objs.size, rawInt 0, .none, .none] }) (s.heap.objs.size + 1) s.heap.objs.size 0 .none := by
    have q := Heap.get?_push_size (s.heap.push { cls := .type "tuple_iterator", data := .fields #[.ref l, .int 0 0] })
      (o := { cls := .type "enumerate", data := .fields #[.none, .bool false, .ref s.heap.objs.size, rawInt 0, .none, .none] }) rfl
    rw [hz] at q; exact q
  exact ⟨⟨_, he, rfl⟩, h _ he ⟨_, Heap.get?_push_of_some _ (Heap.get?_push_size _ rfl), rfl, rfl⟩ fun b o x => Heap.get?_push_of_some _ (Heap.get?_push_of_some _ x)⟩
end
/-! ### in walks -/
def Itet (K : PySem.W.Frag) (a : Addr) : It :=
  ⟨fun i H => ∃ (xs : List V) (x : V), SqT K H a xs ∧ xs[i]? = some x, fun i H v H' => ∃ T x, v = .ref T ∧ H T = none ∧ H' = upd H T (.tup [.int (i : Nat), x]) ∧ ∀ xs, SqT K H a xs → xs[i]? = some x, fun i H => ∃ xs : List V, SqT K H a xs ∧ xs.length ≤ i⟩
theorem turn_enumT {P : Program} {w : World} {K : PySem.W.Frag} {elts : List Expr} {kk : Nat} {tpos : Pos} (a e it : Addr) :
    Turn P w K (.Tuple elts kk tpos) (Itet K a) [e, it] e (fun i h => (∃ old, IsEnum h e it ((i : Nat) : Int) old) ∧ h.IsTupleIter it a i ∧ e ≠ it) where
  mem := by simp
  obj := fun i h st b hb => by
    obtain ⟨⟨old, he⟩, ⟨o, ho, hc, hd⟩, _⟩ := st
    rcases (show b = e ∨ b = it by simpa using hb) with z | z
    · rw [z]; exact ⟨_, he, fun v q => nomatch q⟩
    · rw [z]; exact ⟨o, ho, fun v q => by rw [hd] at q; cases q⟩
  keep := fun i h h' st k => let ⟨⟨old, he⟩, hi, hne⟩ := st; ⟨⟨old, k e (by simp) _ he⟩, hi.at fun o q => k it (by simp) o q, hne⟩
  item := by
    intro X hP hw hK hc i pins s σ H E I hf st hg
    subst hP hw hK
    obtain ⟨⟨old, he⟩, hit, hne⟩ := st
    obtain ⟨xs, x, hq, hx⟩ := hg
    obtain ⟨its, rv, p, hz⟩ := I.tuple hq
    obtain ⟨u, hu, ru⟩ := rv.get hx
    have hel : e < s.heap.objs.size := Heap.lt_size he
    have hil : it < s.heap.objs.size := by obtain ⟨_, q, _⟩ := hit; exact Heap.lt_size q
    refine nextT_item he hit p (x := u) (by simpa using hu) hne fun h' ho hit' hT hsz hk => ?_
    refine ⟨_, rfl, wpAny_letOwnedTupleGo_enum (s := { s with heap := h', toks := s.toks + 1 }) ho fun h'' he' sb => ?_⟩
    have hT2 : h''.get? s.heap.objs.size = some { cls := .type "tuple", data := .seq #[.int i s.toks, u] } := (sb.2 _ (Nat.ne_of_gt hel)).trans hT
    have new : ObjOk X.prog X.w (upd H s.heap.objs.size (.tup [.int (i : Nat), x])) h'' s.heap.objs.size (.tup [.int (i : Nat), x]) :=
      ⟨by show 2 ≤ sizeLine; decide, [.int i s.toks, u], .cons ⟨_, rfl⟩ (.cons ru .nil), ⟨_, hT2, rfl, _, rfl⟩⟩
    have I1 : Inv X pins σ (upd H s.heap.objs.size (.tup [.int (i : Nat), x])) { s with heap := h'', toks := s.toks + 1 } :=
      I.turnedNew (ch := [e, it]) (fun b ob hb q => (sb.2 b (fun z => hb (by simp [z]))).trans (hk b ob (fun z => hb (by simp [z])) (fun z => hb (by simp [z])) q)) hf (Nat.le_refl _) new
    refine ⟨.ref s.heap.objs.size, _, I1, rfl, ⟨_, x, rfl, I.hok.fresh (Nat.le_refl _), rfl, fun ys hy => by rw [I.tuple_inj hy hq]; exact hx⟩, ⟨⟨u, ?_⟩, hit'.at fun o q => (sb.2 it (Ne.symm hne)).trans q, hne⟩, fun b hb => ?_⟩
    · have e1 : ((i + 1 : Nat) : Int) = (i : Int) + 1 := by omega
      rw [e1]; exact he'
    · have hb' : b < s.heap.objs.size := by
        rcases (show b = e ∨ b = it by simpa using hb) with z | z
        · rw [z]; exact hel
        · rw [z]; exact hil
      rw [upd_ne (Nat.ne_of_lt hb')]
      exact (hf b hb).1
  done := by
    intro X hP hw hK hc i pins s σ H E I hf st hg
    subst hP hw hK
    obtain ⟨⟨old, he⟩, hit, hne⟩ := st
    obtain ⟨xs, hq, hx⟩ := hg
    obtain ⟨its, rv, p, hz⟩ := I.tuple hq
    obtain ⟨f0, f1, f2, f3, f4, f5⟩ := hf it (by simp)
    have hl := rv.length
    exact nextT_end (I.ok.hd hc) he hit p (by simp; omega) fun h' eb => ⟨rfl, I.turned (t' := s.toks) (fun b o hb q => eb b o hb q) f0 f1 f3 f4 f5⟩
  self := fun A i s Q E st h => let ⟨⟨_, he⟩, _⟩ := st; wpAny_pyIter_enum he h
/-- a list or a tuple -/
def SqX (K : PySem.W.Frag) (b : Bool) (H : Hp) (a : Addr) (xs : List V) : Prop := if b = true then SqT K H a xs else SqL K H a xs
def ItX (K : PySem.W.Frag) (b : Bool) (a : Addr) : It := if b = true then Itet K a else Ite K a
def iEnumX (K : PySem.W.Frag) (ta : TA) : TI := fun σ H R => ta σ H fun vs H1 => ∃ b a xs, vs = [.ref a] ∧ SqX K b H1 a xs ∧ R (ItX K b a) H1
theorem pi_enumX {X : Cx} {e : Expr} {ta : TA} {p pos tpos : Pos} {elts : List Expr} {kk : Nat} (hg : Gl X "enumerate") (hm : X.mg "enumerate" = none) (ha : PA X [e] ta) (hs : starEach [e] X.env = [(false, eval e X.env)] := by rfl) :
    PI X (.Tuple elts kk tpos) (.Call (.Name "enumerate" p) [e] [] pos) (iEnumX X.K ta) := by
  refine ⟨fun pins s σ H R I h => ?_⟩
  refine Call_ (ld_blt I hg hm boot_enumerate (PyProof.Rows.callWith_type1 (thn (ha.run pos pins s σ H _ I h) fun us s1 ⟨vs, H1, I1, r1, q1⟩ => ?_) hs rfl))
  obtain ⟨b, a, xs, ex, hq, q⟩ := q1
  subst ex
  cases r1 with
  | cons r rr =>
    cases rr
    cases r
    have fp : ∀ c ∈ [s1.heap.objs.size + 1, s1.heap.objs.size], FpOk X pins H1 c := fun c hc => by
      have hle : s1.heap.objs.size ≤ c := by
        rcases (show c = s1.heap.objs.size + 1 ∨ c = s1.heap.objs.size by simpa using hc) with z | z
        · rw [z]; exact Nat.le_add_right _ _
        · rw [z]; exact Nat.le_refl _
      exact I1.fpOk hle (I1.hok.fresh hle)
    cases b with
    | false =>
      have hq : SqL X.K H1 a xs := hq
      obtain ⟨its, rv, p', hz⟩ := I1.list hq
      refine call_enumerate_list p'.isList fun h' he hit hsz hk => wpAny_pyIter_enum he ?_
      have I2 : Inv X pins σ H1 { s1 with heap := h' } := I1.kept (t' := s1.toks) hk
      exact ⟨s1.heap.objs.size + 1, [s1.heap.objs.size + 1, s1.heap.objs.size], _, _, H1, rfl, I2, turn_enum a (s1.heap.objs.size + 1) s1.heap.objs.size, ⟨⟨.none, he⟩, hit, Nat.succ_ne_self _⟩, fp, q⟩
    | true =>
      have hq : SqT X.K H1 a xs := hq
      obtain ⟨its, rv, p', hz⟩ := I1.tuple hq
      refine call_enT (show s1.heap.IsTuple a its.toArray from p') fun h' he hit hk => wpAny_pyIter_enum he ?_
      have I2 : Inv X pins σ H1 { s1 with heap := h' } := I1.kept (t' := s1.toks) hk
      exact ⟨s1.heap.objs.size + 1, [s1.heap.objs.size + 1, s1.heap.objs.size], _, _, H1, rfl, I2, turn_enumT a (s1.heap.objs.size + 1) s1.heap.objs.size, ⟨⟨.none, he⟩, hit, Nat.succ_ne_self _⟩, fp, q⟩
section
variable {X : Cx} (K : PySem.W.Frag)
theorem kenumX {e : Expr} {ta : TA} {p pos tpos : Pos} {elts : List Expr} {kk : Nat} (hm : X.mg "enumerate" = none) (ha : PA X [e] ta) (h : X.K = K := by rfl) (hg : Gl X "enumerate" := by rfl) (hs : starEach [e] X.env = [(false, eval e X.env)] := by rfl) :
    PI X (.Tuple elts kk tpos) (.Call (.Name "enumerate" p) [e] [] pos) (iEnumX K ta) := by subst h; exact pi_enumX hg hm ha hs
theorem kzip {e e2 : Expr} {ta : TA} {p pos tpos : Pos} {elts : List Expr} {kk : Nat} (hm : X.mg "zip" = none) (ha : PA X [e, e2] ta) (h : X.K = K := by rfl) (hg : Gl X "zip" := by rfl)
    (hs : starEach [e, e2] X.env = (false, eval e X.env) :: starEach [e2] X.env := by rfl) (hpl : (backTo pos (starEach [e2] X.env)).any (·.1) = false := by rfl) :
    PI X (.Tuple elts kk tpos) (.Call (.Name "zip" p) [e, e2] [] pos) (RZ.iZipA K ta) := by subst h; exact RZ.pi_zipA hg hm ha hs hpl
end
section
variable {K : PySem.W.Frag} {a b : Addr} {xs ys : List V}
theorem walk_enumX {t : Bool} : Walk (ItX K t a) xs.length (fun H => SqX K t H a xs) (YPair (fun i => some (.int (i : Nat))) (fun i => xs[i]?)) := by
  cases t with
  | false => exact walk_enum
  | true =>
    refine ⟨fun i _ hi q => ⟨xs, xs[i], q, by simp [hi]⟩, fun _ q => ⟨xs, q, Nat.le_refl _⟩, fun i H v H' _ q y => ?_⟩
    obtain ⟨T, x, h1, h2, h3, h4⟩ := y
    exact ⟨T, .int (i : Nat), x, h1, h2, h3, rfl, h4 xs q⟩
theorem walk_zipT {n : Nat} (hx : n = xs.length) (hy : n = ys.length) : Walk (RZ.ItzT K a b) n (fun H => SqT K H a xs ∧ SqT K H b ys) (YPair (fun i => xs[i]?) (fun i => ys[i]?)) := by
  refine ⟨fun i _ hi q => ?_, fun _ q => ⟨xs, ys, q.1, q.2, by omega⟩, fun i H v H' _ q y => ?_⟩
  · have h1 : i < xs.length := by omega
    have h2 : i < ys.length := by omega
    exact ⟨xs, ys, xs[i], ys[i], q.1, q.2, by simp [h1], by simp [h2]⟩
  · obtain ⟨T, x, z, h1, h2, h3, h4, h5⟩ := y
    exact ⟨T, x, z, h1, h2, h3, h4 xs q.1, h5 ys q.2⟩
end
namespace Rd
variable {K : PySem.W.Frag} {σ : L2.St} {H : Hp} {Q : VK} {te : TE} {ta : TA} {tt : TT} {g : TG} {vs : List Nat} {tb : TS} {D : Ends}
theorem foEX (h : ta σ H fun us H1 => ∃ b a xs, us = [.ref a] ∧ SqX K b H1 a xs ∧ FoGo (ItX K b a) g tb D σ H1) : tFor (iEnumX K ta) g tb D σ H := h
theorem foZ (h : ta σ H fun us H1 => ∃ a b xs ys, us = [.ref a, .ref b] ∧ ((SqL K H1 a xs ∧ SqL K H1 b ys ∧ FoGo (Itz K a b) g tb D σ H1) ∨ (SqT K H1 a xs ∧ SqT K H1 b ys ∧ FoGo (RZ.ItzT K a b) g tb D σ H1))) : tFor (RZ.iZipA K ta) g tb D σ H := h
theorem lcZp (h : ta σ H fun us H1 => ∃ a b xs ys, us = [.ref a, .ref b] ∧ ((SqL K H1 a xs ∧ SqL K H1 b ys ∧ LcGo (Itz K a b) g tt te vs σ H1 Q) ∨ (SqT K H1 a xs ∧ SqT K H1 b ys ∧ LcGo (RZ.ItzT K a b) g tt te vs σ H1 Q))) : tLc (RZ.iZipA K ta) g tt te vs σ H Q := h
/-- for i, (u, v) in enumerate(xs) -/
theorem foN {t : Bool} {a : Addr} {xs : List V} {s1 s2 s3 : Nat} {N : L2.St → Hp → Prop} {r : VK} {bk ct : L2.St → Hp → Prop} (Pv : Nat → L2.St → Hp → Prop) (h0 : Pv 0 σ H) (hG : ∀ i σ H, i ≤ xs.length → Pv i σ H → SqX K t H a xs)
    (hE : ∀ i x σ H, xs[i]? = some x → Pv i σ H → ∃ p u v, x = .ref p ∧ H p = some (.tup [u, v]))
    (step : ∀ i p u v σ H T, i < xs.length → xs[i]? = some (.ref p) → H p = some (.tup [u, v]) → Pv i σ H → H T = none → tb (Ends.mk (Pv (i + 1)) r N (Pv (i + 1))) (((σ.set s1 (some (.int (i : Nat)))).set s2 (some u)).set s3 (some v)) (upd H T (.tup [.int (i : Nat), .ref p]))) (fin : ∀ σ H, Pv xs.length σ H → N σ H) :
    FoGo (ItX K t a) (gTup K 2 (gCons (gName s1) (gCons (gTup K 2 (gCons (gName s2) (gCons (gName s3) gNil))) gNil))) tb (Ends.mk N r bk ct) σ H :=
  for_it walk_enumX Pv h0 hG (fun i w σ H H' hi q ⟨T, y, x, e1, e2, e3, e4, e5⟩ => by
    cases e4; subst e1; subst e3
    obtain ⟨p, u, v, rfl, hp⟩ := hE i x σ H e5 q
    have hp' : upd H T (.tup [.int (i : Nat), .ref p]) p = some (.tup [u, v]) := by rw [upd_ne (fun z => by rw [z, e2] at hp; cases hp)]; exact hp
    exact ⟨T, _, rfl, SqT.of upd_same, rfl, _, _, rfl, _, _, rfl, p, _, rfl, SqT.of hp', rfl, _, _, rfl, _, _, rfl, rfl, rfl, step i p u v σ H T hi e5 hp q e2⟩) fin
/-- for x, y in zip(xs, ys), of tuples -/
theorem foZT {a b : Addr} {xs ys : List V} {n s1 s2 : Nat} {N : L2.St → Hp → Prop} {r : VK} {bk ct : L2.St → Hp → Prop} (hx : n = xs.length) (hy : n = ys.length) (Pv : Nat → L2.St → Hp → Prop) (h0 : Pv 0 σ H) (hG : ∀ i σ H, i ≤ n → Pv i σ H → SqT K H a xs ∧ SqT K H b ys)
    (step : ∀ i x y σ H T, i < n → xs[i]? = some x → ys[i]? = some y → Pv i σ H → H T = none → tb (Ends.mk (Pv (i + 1)) r N (Pv (i + 1))) ((σ.set s1 (some x)).set s2 (some y)) (upd H T (.tup [x, y]))) (fin : ∀ σ H, Pv n σ H → N σ H) :
    FoGo (RZ.ItzT K a b) (gTup K 2 (gCons (gName s1) (gCons (gName s2) gNil))) tb (Ends.mk N r bk ct) σ H :=
  for_it (walk_zipT hx hy) Pv h0 hG (fun i w σ H H' hi q ⟨T, x, y, e1, e2, e3, e4, e5⟩ => by
    subst e1; subst e3
    exact ⟨T, _, rfl, SqT.of upd_same, rfl, _, _, rfl, _, _, rfl, rfl, step i x y σ H T hi e4 e5 q e2⟩) fin
/-- [e for x, y in zip(xs, ys) if t], of tuples -/
theorem lcZT {a b : Addr} {xs ys : List V} {n s1 s2 : Nat} (hss : s1 ≠ s2) (hx : n = xs.length) (hy : n = ys.length) (hn : n < sizeLine) (Jv : Nat → List V → Hp → Prop) (h0 : Jv 0 [] H)
    (hst : ∀ D, H D = none → ∀ i acc zs H', Jv i acc H' → Jv i acc (upd H' D (.lst zs))) (hG : ∀ i acc H', i ≤ n → Jv i acc H' → SqT K H' a xs ∧ SqT K H' b ys)
    (step : ∀ D, H D = none → ∀ i x y acc H' T, i < n → xs[i]? = some x → ys[i]? = some y → H' D = some (.lst acc) → acc.length ≤ i → Jv i acc H' → H' T = none → T ≠ D → ∀ (Kt : V → Hp → Prop) (Kf : Hp → Prop), (∀ z H4, H4 D = some (.lst acc) → Jv (i + 1) (acc ++ [z]) H4 → Kt z H4) → (∀ H3, H3 D = some (.lst acc) → Jv (i + 1) acc H3 → Kf H3) →
      tt ((((σ.set s2 none).set s1 none).set s1 (some x)).set s2 (some y)) (upd H' T (.tup [x, y])) fun c H3 => if c = true then te ((((σ.set s2 none).set s1 none).set s1 (some x)).set s2 (some y)) H3 Kt else Kf H3)
    (fin : ∀ D acc H', H D = none → H' D = some (.lst acc) → acc.length ≤ n → Jv n acc H' → Q (.ref D) H') :
    LcGo (RZ.ItzT K a b) (gTup K 2 (gCons (gName s1) (gCons (gName s2) gNil))) tt te [s1, s2] σ H Q := by
  intro D hD
  refine lc_it (walk_zipT hx hy) (fun i H' => ∃ acc, H' D = some (.lst acc) ∧ acc.length ≤ i ∧ Jv i acc H') ⟨[], upd_same, Nat.le_refl _, hst D hD _ _ _ _ h0⟩ (fun i H' hi ⟨acc, _, _, j⟩ => hG i acc H' hi j) ?_ (fun H' ⟨acc, a1, a2, a3⟩ => fin D acc H' hD a1 a2 a3)
  rintro i w H' H2 hi ⟨acc, a1, a2, a3⟩ ⟨T, x, y, rfl, hT, rfl, hx', hy'⟩
  refine ⟨T, _, rfl, SqT.of upd_same, rfl, _, _, rfl, _, _, rfl, rfl, ?_, ?_⟩
  · show (((((σ.set s2 none).set s1 none).set s1 (some x)).set s2 (some y)).set s2 none).set s1 none = (σ.set s2 none).set s1 none
    rw [List.set_set, List.set_set, List.set_comm (some x) none hss, List.set_set, List.set_set]
  · exact step D hD i x y acc _ T hi hx' hy' a1 a2 a3 hT (fun z => by rw [z, a1] at hT; cases hT) _ _
      (fun z H4 b1 b2 => ⟨acc, b1, Nat.lt_of_le_of_lt a2 (Nat.lt_trans hi hn), acc ++ [z], upd_same, by rw [List.length_append, List.length_singleton]; omega, hst D hD _ _ _ _ b2⟩)
      (fun H3 b1 b2 => ⟨acc, b1, Nat.le_succ_of_le a2, b2⟩)
end Rd
end Fw

set_option Elab.async false
set_option linter.all false
set_option maxRecDepth 100000
set_option maxHeartbeats 4000000
/-! d.setdefault(k, x), the keys tuples of any depth -/
namespace ND
open PySem PySem.Spec PyProof.Rows L2
def tDSet (P : Program) (w : World) (to : TE) (ta : TA) : TE := fun σ H Q => to σ H fun x H1 => ∃ d, x = .ref d ∧ (∃ xs, H1 d = some (DctO P w d xs)) ∧ ta σ H1 fun vs H2 => ∃ (b : Addr) (v : V) (ys : List Row) (k : NestedKey), vs = [.ref b, v] ∧
  H2 d = some (DctO P w d ys) ∧ RowsOk H2 ys ∧ NkAt H2 (.ref b) k ∧ k.depth ≤ 8 ∧ ys.length < sizeLine ∧ (∀ z, atN ys k = some z → Q z H2) ∧ (atN ys k = none → Q v (upd H2 d (DctO P w d (putN ys k b v))))
theorem pe_dset {X : Cx} {o e e2 : Expr} {to : TE} {t : TA} {apos cpos : Pos} (hu : X.A.units + 64 < cLine) (ho : PE X o to) (ha : PA X [e, e2] t)
    (hbase : attributeBase o "setdefault" X.env (eval o X.env) = eval o X.env := by rfl)
    (hfew : ((backTo cpos (starEach [e, e2] X.env)).all (fun x => !x.1) && (backToKw cpos (keywordEach [] X.env)).all (fun x => x.1.isSome)
      && decide (([e, e2] : List Expr).length + ([] : List Keyword).length + (if ([] : List Keyword).isEmpty then 0 else 1) < 30)) = true := by rfl)
    (hline : (apos.endLine == cpos.line) = true := by rfl) (hs : starEach [e, e2] X.env = (false, eval e X.env) :: starEach [e2] X.env := by rfl) (hplain : (backTo cpos (starEach [e2] X.env)).any (·.1) = false := by rfl) :
    PE X (.Call (.Attribute o "setdefault" apos) [e, e2] [] cpos) (tDSet X.prog X.w to t) := by
  refine ⟨fun pins s σ H Q I h => ?_⟩
  refine wpAny_Call_method_late hbase hfew hline rfl (thn (ho.run pins s σ H _ I h) fun v s1 ⟨x, H1, I1, r1, d, ex, ⟨xs, hd⟩, q1⟩ => ?_)
  subst ex
  cases r1
  obtain ⟨⟨z, hsys, rows, r, o', es, ep, h1, h2, h3, h4⟩, _⟩ := (show ObjOk X.prog X.w H1 s1.heap d (DctO X.prog X.w d xs) from I1.hok d _ hd)
  refine ⟨"dict", "dict.setdefault", F.plainAttrs_dict, F.slot_dict_setdefault, F.type_dict_setdefault, ⟨o', h1, h2.1⟩, fun a ea => ?_, ?_⟩
  · cases ea
    exact ⟨o', h1, h2.2.1⟩
  have hA := ha.run cpos pins s1 σ H1 _ I1 q1
  rw [hs] at hA ⊢
  refine Calls.callWith_builtin (by show (false || (backTo cpos (starEach [e2] X.env)).any (·.1)) = false; rw [hplain] <;> rfl) (Calls.evalArgs_plain ?_)
  refine thn hA fun us s2 ⟨vs, H2, I2, r2, b, v, ys, k, ev, hd2, g, hk, hdp, hl, q2, q3⟩ => ?_
  subst ev
  obtain ⟨u1, u2, rfl, r3, r4⟩ := r2.two
  cases r3
  obtain ⟨_, _, rows2, rr, dd⟩ := dct_of I2 hd2 g
  have hz : rows2.length ≤ sizeLine := by rw [← Paired.length rr]; omega
  refine call_setdefault_heap (hsz := hz) (room_of hu) ⟨nk_is I2.hok k hk rfl, hdp⟩ hsys dd (fun p hp => ?_) fun hn h' dd' hs' => ?_
  · obtain ⟨z', hz1, hz2⟩ : ∃ z', atN ys k = some z' ∧ RelV z' p.2 := by
      have e := rr.at k
      rw [hp] at e
      cases hc : atN ys k with
      | none => rw [hc] at e; exact e.elim
      | some z' => rw [hc] at e; exact ⟨z', rfl, e⟩
    exact ⟨z', H2, I2.tok _, hz2, q2 z' hz1⟩
  · have hn' : atN ys k = none := by
      have e := rr.isSome k
      rw [hn] at e
      cases hc : atN ys k with
      | none => rfl
      | some z' => rw [hc] at e; cases e
    have he : ∃ o, h'.get? d = some o := let ⟨o, _, _, ho, _⟩ := dd'; ⟨o, ho⟩
    exact ⟨v, _, d_write I2 (by rw [hd2]; exact True.intro) hs' he (dct_new (by have := putN_len ys k b v; omega) hsys (rr.put k b r4) dd'), r4, q3 hn'⟩
theorem kdset {X : Cx} (P : Program) (w : World) {o e e2 : Expr} {to : TE} {t : TA} {apos cpos : Pos} (hu : X.A.units + 64 < cLine) (ho : PE X o to) (ha : PA X [e, e2] t) (h : X.prog = P := by rfl) (h2 : X.w = w := by rfl)
    (hbase : attributeBase o "setdefault" X.env (eval o X.env) = eval o X.env := by rfl)
    (hfew : ((backTo cpos (starEach [e, e2] X.env)).all (fun x => !x.1) && (backToKw cpos (keywordEach [] X.env)).all (fun x => x.1.isSome)
      && decide (([e, e2] : List Expr).length + ([] : List Keyword).length + (if ([] : List Keyword).isEmpty then 0 else 1) < 30)) = true := by rfl)
    (hline : (apos.endLine == cpos.line) = true := by rfl) (hs : starEach [e, e2] X.env = (false, eval e X.env) :: starEach [e2] X.env := by rfl) (hplain : (backTo cpos (starEach [e2] X.env)).any (·.1) = false := by rfl) :
    PE X (.Call (.Attribute o "setdefault" apos) [e, e2] [] cpos) (tDSet P w to t) := by
  subst h h2
  exact pe_dset hu ho ha hbase hfew hline hs hplain
theorem Rd_dset {P : Program} {w : World} {to : TE} {t : TA} {σ : L2.St} {H : Hp} {Q : VK} (h : to σ H fun x H1 => ∃ d, x = .ref d ∧ (∃ xs, H1 d = some (DctO P w d xs)) ∧ t σ H1 fun vs H2 => ∃ (b : Addr) (v : V) (ys : List Row) (k : NestedKey), vs = [.ref b, v] ∧
  H2 d = some (DctO P w d ys) ∧ RowsOk H2 ys ∧ NkAt H2 (.ref b) k ∧ k.depth ≤ 8 ∧ ys.length < sizeLine ∧ (∀ z, atN ys k = some z → Q z H2) ∧ (atN ys k = none → Q v (upd H2 d (DctO P w d (putN ys k b v))))) : tDSet P w to t σ H Q := h
end ND

set_option Elab.async false
set_option linter.all false
set_option maxRecDepth 100000
set_option maxHeartbeats 4000000
/-! a list or a tuple: slices from the left, `in` of data -/
namespace Fw
open PySem PySem.Spec L2
def rSlX (K : PySem.W.Frag) : V → Option Int → Option Int → Hp → VK → Prop := fun x lo hi H Q => rSlA K x lo hi H Q ∨ rSlT K x lo hi H Q
def rInT (K : PySem.W.Frag) : R2 := fun x y H Q => ∃ d ds, Dp K H x d ∧ Dp K H y (.tuple ds) ∧ SeqAt.shaped d = true ∧ SeqAt.shaped (.tuple ds) = true ∧ Q (.bl (ds.any fun z => PyData.eqv z d)) H
def rInX (K : PySem.W.Frag) : R2 := fun x y H Q => rInD K x y H Q ∨ rInT K x y H Q
section
variable {X : Cx}
theorem op_inT (hu : X.A.units + 65 < cLine) : OpR X (compareOp .In) (rInT X.K) := by
  intro pins s σ H x y v u Q I rx ry h
  obtain ⟨d, ds, hd, he, sd, se, q⟩ := h
  obtain ⟨as, r1⟩ := Dp.reads I d x v hd rx
  obtain ⟨bs, r2⟩ := Dp.reads I (.tuple ds) y u he ry
  exact SeqAt.in_tuple_reads r2 r1 (SeqAt.canLay_of_shaped se) (SeqAt.canLay_of_shaped sd) (PyProof.Rows.room_in_shaped sd hu) ⟨.bl _, H, I, rfl, q⟩
variable (K : PySem.W.Frag)
theorem kinX (hu : X.A.units + 65 < cLine) (h : X.K = K := by rfl) : OpR X (compareOp .In) (rInX K) := by subst h; exact (op_inD hu).or (op_inT hu)
theorem kslX (h : X.K = K := by rfl) : SlR X (rSlX K) := by subst h; exact sl_any.or sl_tup
end
/-- a list or a tuple as it lies -/
def seqO (b : Bool) (xs : List V) : HO := if b = true then .tup xs else .lst xs
section
variable {K : PySem.W.Frag} {H : Hp} {Q : VK} {a : Addr} {xs : List V}
theorem SqX.of {b : Bool} (h : H a = some (seqO b xs)) : SqX K b H a xs := by
  cases b with
  | true => exact SqT.of h
  | false => exact SqL.of h
theorem Same.sqx {H' : Hp} (e : Same H H') {b : Bool} (h : SqX K b H a xs) : SqX K b H' a xs := by
  cases b with
  | true => exact Fw.Same.sqt e h
  | false => exact e.seq h
theorem cutV_to' (xs : List V) (i : Nat) : cutV xs none (some (i : Nat)) = xs.take i := by
  unfold cutV
  rw [HT.sIx_none, HT.sIx_nat, List.drop_zero, Nat.sub_zero]
  rcases Nat.le_total i xs.length with h | h
  · rw [Nat.min_eq_left h]
  · rw [Nat.min_eq_right h, List.take_of_length_le (Nat.le_refl _), List.take_of_length_le h]
namespace Rd
theorem slX {b : Bool} {i : Nat} (h : SqX K b H a xs) (hi : i < xs.length) (q : ∀ p, H p = none → Q (.ref p) (upd H p (seqO b (xs.take i)))) : rSlX K (.ref a) none (some (i : Nat)) H Q := by
  cases b with
  | false => exact .inl (slL h fun p hp => by rw [cutV_to']; exact q p hp)
  | true =>
    refine .inr ⟨a, xs, rfl, h, fun z => ?_, fun p hp => by rw [cutV_to']; exact q p hp⟩
    have e := z.2
    rw [HT.sIx_nat] at e
    omega
theorem inX {b : Bool} {x : V} {d : PyData} {ds : List PyData} (hx : Dp K H x d) (h : SqX K b H a xs) (hd : DpAll K H xs ds) (s1 : SeqAt.shaped d = true) (s2 : SeqAt.shaped (.list ds) = true) (q : Q (.bl (ds.any fun z => PyData.eqv z d)) H) : rInX K x (.ref a) H Q := by
  cases b with
  | false => exact .inl ⟨d, ds, hx, .lst h hd, s1, s2, q⟩
  | true => exact .inr ⟨d, ds, hx, .tup h hd, s1, s2, q⟩
theorem lenX {b : Bool} (h : SqX K b H a xs) (q : Q (.int (xs.length : Nat)) H) : rLenA K [.ref a] H Q := by
  cases b with
  | false => exact lenL h q
  | true => exact lenT h q
theorem ixX {b : Bool} {i : Int} {v : V} (h : SqX K b H a xs) (h2 : atI xs i = some v) (q : Q v H) : rIx K (.ref a) (.int i) H Q := by
  cases b with
  | false => exact ixL h h2 q
  | true => exact ixT h h2 q
end Rd
end
end Fw

set_option Elab.async false
set_option linter.all false
set_option maxRecDepth 100000
set_option maxHeartbeats 4000000
/-! own error classes that keep two arguments -/
namespace Fw
open PySem PySem.Spec L2
structure Er2 (K : PySem.W.Frag) (mg : Str → Option Value) (nm qual f1 f2 : Str) (st : Stmt) where
  C : Addr
  f : Addr
  fd : FuncData
  T : OexC K C
  iC : PySem.W.findIn K (.ref C) "__init__" = some (some (.ref f))
  tI : PySem.W.typeIn K (.ref f) = some (.type "function")
  g : mg nm = some (.ref C)
  no1 : PySem.W.findIn K (.ref C) f1 = some none
  no2 : PySem.W.findIn K (.ref C) f2 = some none
  F : Fun K "__init__" qual st f fd
  b : Binds K fd ["self", f1, f2] []
  xf : XfC K C
  xc : ExcC K C
  te : PySem.W.exmOne K (.ref C) (.ref C) = some true
def spErI2 (C : Addr) (f1 f2 : Str) : Sp := fun vs H Q _ => ∃ (a : Addr) (v1 v2 : V), vs = [.ref a, v1, v2] ∧ H a = some (exo a C none) ∧ ∀ dx, H dx = none → dx ≠ a → Q .non (upd (upd (upd H dx (exd dx [(f1, v1)])) a (exo a C (some dx))) dx (exd dx [(f2, v2), (f1, v1)]))
section
variable {X : Cx}
theorem pmk_er2 {P : Program} {w : World} {K : PySem.W.Frag} {mg : Str → Option Value} {base : Heap} {nm qual f1 f2 : Str} {st : Stmt} {k : Nat} {e : Expr} {es : List Expr} {ta : TA} {p pos : Pos} (r : Er2 K mg nm qual f1 f2 st) (F1 : FnOk P w K mg base CX0 k r.f r.fd ["self", f1, f2] (spErI2 r.C f1 f2)) (hr : Room (k + 1) X.A) (ha : PA X (e :: es) ta)
    (h1 : X.prog = P := by rfl) (h2 : X.w = w := by rfl) (h3 : X.K = K := by rfl) (h4 : X.mg = mg := by rfl) (h5 : X.base = base := by rfl) (hg : Gl X nm := by rfl)
    (hdb : (nm == ("__debug__" : Str)) = false := by decide) (he : starEach (e :: es) X.env = (false, eval e X.env) :: starEach es X.env := by rfl) (hpl : (backTo pos (starEach es X.env)).any (·.1) = false := by rfl) :
    PMk X (.Call (.Name nm p) (e :: es) [] pos) (tMkO r.C (spErI2 r.C f1 f2) [] ta) := by
  subst h1 h2 h3 h4 h5
  exact pmk_oex (pos := pos) (p := p) r.T r.iC r.tI F1 hr r.b .nil pass0 hg r.g ha hdb he hpl
end
def ErGo2 (C : Addr) (f1 f2 : Str) (vs : List V) (H1 : Hp) (Q : XK) : Prop := vs.length ≤ 1000 ∧ ∀ a, H1 a = none → spErI2 C f1 f2 (.ref a :: (vs ++ [])) (upd H1 a (exo a C none))
  (fun v H2 => v = .non ∧ ∃ (d : Addr) (fs : List (Str × V)), H2 a = some (exo a C (some d)) ∧ H2 d = some (exd d fs) ∧ H1 d = none ∧ Q (.ref C) (some d) (upd (del H2 a) d (.xd fs))) (fun _ _ _ => False)
namespace Rd
theorem mko2 {C : Addr} {f1 f2 : Str} {ta : TA} {σ : St} {H : Hp} {Q : XK} (h : ta σ H fun vs H1 => ErGo2 C f1 f2 vs H1 Q) : tMkO C (spErI2 C f1 f2) [] ta σ H Q := h
theorem erGo2 {C : Addr} {f1 f2 : Str} {v1 v2 : V} {H1 : Hp} {Q : XK} (q : ∀ d, H1 d = none → Q (.ref C) (some d) (upd H1 d (.xd [(f2, v2), (f1, v1)]))) : ErGo2 C f1 f2 [v1, v2] H1 Q := by
  refine ⟨Nat.succ_le_succ (Nat.succ_le_succ (Nat.zero_le _)), fun a ha => ⟨a, v1, v2, rfl, upd_same, fun dx hx ne => ⟨rfl, dx, [(f2, v2), (f1, v1)], ?_, upd_same, ?_, ?_⟩⟩⟩
  · rw [upd_ne (Ne.symm ne), upd_same]
  · rw [upd_ne ne] at hx; exact hx
  · rw [upd_ne ne] at hx
    have e2 : upd (del (upd (upd (upd (upd H1 a (exo a C none)) dx (exd dx [(f1, v1)])) a (exo a C (some dx))) dx (exd dx [(f2, v2), (f1, v1)])) a) dx (.xd [(f2, v2), (f1, v1)]) = upd H1 dx (.xd [(f2, v2), (f1, v1)]) := by
      funext b
      by_cases hb : b = dx
      · rw [hb, upd_same, upd_same]
      · rw [upd_ne hb, upd_ne hb]
        by_cases hb2 : b = a
        · rw [hb2, del_same, ha]
        · rw [del_ne hb2, upd_ne hb, upd_ne hb2, upd_ne hb, upd_ne hb2]
    rw [e2]
    exact q dx hx
end Rd
end Fw

set_option Elab.async false
set_option linter.all false
set_option maxRecDepth 100000
set_option maxHeartbeats 4000000
/-! o[i], o of an own class with __getitem__ -/
namespace Fw
open PySem PySem.Spec PyProof.Rows L2
structure IxC (K : PySem.W.Frag) (C f : Addr) : Prop where
  get : PySem.W.findIn K (.ref C) "__getitem__" = some (some (.ref f))
  fi : PySem.W.fnIn K f = true
  fn : PySem.W.isFn K (.ref f) = true
/-- the slice is one index -/
def NoSlT (i : Expr) : Prop := ∀ (x : Addr) (u : Value), subscripted i true (.ref x) u = runValue (.builtin "lifetime.subscript" ⟨[.ref x, u], []⟩)
section
variable {X : Cx} {CX : CXT} {k : Nat} {f C : Addr} {fd : FuncData} {ps : List Str} {sp : Sp} {E : L2.St → XK} {o e : Expr} {to te : TE} {pos : Pos}
theorem run_in {A1 : Around} {pins : List (Addr × Obj)} {σ : L2.St} {H : Hp} {s : Shared} {Q : VK} {us : List Value} {vs : List V} (sb : Sub X k A1) (F : FnOk X.prog X.w X.K X.mg X.base CX k f fd ps sp) (hb : Binds X.K fd ps []) (hx : PassesAt CX X σ (E σ))
    (I : Inv X pins σ H s) (r : Vals vs us) (h : sp vs H Q (E σ)) : wpAny (model X.prog X.w) A1 (call (.ref f) us) (EP X pins σ Q) X.xe s := by
  have e := I.env0
  have e1 : Env0 X.prog X.w X.K X.mg X.base A1 X.stack s H := ⟨by rw [sb.fr]; exact e.frames, e.mod, e.bs, e.bsz, e.funs, e.frf, e.hok, e.bare⟩
  have hl : us.length = ps.length := by rw [← r.length]; exact F.len _ _ _ _ h
  have bd := hb s us I.kIn (by rw [List.append_nil]; exact hl)
  rw [List.append_nil] at bd
  refine wpAny_call (codeAny_mono (F.run A1 X.stack s H ⟨us, []⟩ us vs Q (E σ) sb.room e1 bd r h) fun r z hq => ?_)
  match r, hq with
  | .error e, hq => exact hx pins H s e z I hq
  | .ok (.ret u), hq => exact I.after hq
  | .ok .next, hq => exact hq.elim
  | .ok .brk, hq => exact hq.elim
  | .ok .cont, hq => exact hq.elim
theorem tail_own {value slice : Expr} {pins : List (Addr × Obj)} {σ : L2.St} {H : Hp} {s : Shared} {a dx : Addr} {fs : List (Str × V)} {y : V} {u : Value} {Q : VK} (c : IxC X.K C f) (F : FnOk X.prog X.w X.K X.mg X.base CX k f fd ps sp) (hr : Room (k + 1) X.A) (hb : Binds X.K fd ps []) (hx : PassesAt CX X σ (E σ)) (I : Inv X pins σ H s) (ha : H a = some (.ins C dx fs)) (ry : RelV y u) (h : sp [.ref a, y] H Q (E σ)) (hs : NoSlT slice) :
    wpAny (model X.prog X.w) X.A (subscriptTail value slice (.ref a) u) (EP X pins σ Q) X.xe s := by
  obtain ⟨mA, J, _⟩ := ins_get I.hok ha
  obtain ⟨od, J, _⟩ := J.look
  have sb : Sub X k X.A.in1 := ⟨hr.in1, rfl⟩
  obtain ⟨m0, hF⟩ := I.fr
  exact PySem.W.sub_K hF I.ok.mod.kin J c.get c.fi c.fn (run_in (us := [.ref a, u]) (vs := [.ref a, y]) sb F hb hx I (.cons rfl (.cons ry .nil)) h) (hs a u)
def tIxO (C : Addr) (sp : Sp) (E : L2.St → XK) (to te : TE) : TE := fun σ H Q => to σ H fun x H1 => te σ H1 fun y H2 => ∃ a dx fs, x = .ref a ∧ H2 a = some (.ins C dx fs) ∧ sp [.ref a, y] H2 Q (E σ)
theorem pe_ixOE (c : IxC X.K C f) (F : FnOk X.prog X.w X.K X.mg X.base CX k f fd ps sp) (hr : Room (k + 1) X.A) (hb : Binds X.K fd ps []) (hx : ∀ σ, PassesAt CX X σ (E σ)) (ho : PE X o to) (he : PE X e te) (hs : NoSlT e := by intro _ _; with_unfolding_all rfl) : PE X (.Subscript o e pos) (tIxO C sp E to te) := by
  constructor
  intro pins s σ H Q I h
  refine Subscript_ (thn (ho.run pins s σ H _ I h) fun v s1 ⟨x, H1, I1, r1, q1⟩ => thn (he.run pins s1 σ H1 _ I1 q1) fun u s2 ⟨y, H2, I2, r2, a, dx, fs, ex, ha, q2⟩ => ?_)
  subst ex
  cases r1
  exact tail_own c F hr hb (hx σ) I2 ha r2 q2 hs
/-- K-explicit: o[e] in a try's body -/
theorem pe_ixT {P : Program} {w : World} {K : PySem.W.Frag} {mg : Str → Option Value} {base : Heap} {nm qual : Str} {st : Stmt} {W : WX} (d : Mf K nm qual st ps) (c : IxC K C d.f) (F : FnOk P w K mg base (L2.CX P w) k d.f d.fd ps sp) (hr : Room (k + 1) X.A) (tk : Takes X W) (ho : PE X o to) (he : PE X e te)
    (h1 : X.prog = P := by rfl) (h2 : X.w = w := by rfl) (h3 : X.K = K := by rfl) (h4 : X.mg = mg := by rfl) (h5 : X.base = base := by rfl) (hs : NoSlT e := by intro _ _; with_unfolding_all rfl) : PE X (.Subscript o e pos) (tIxO C sp (WE W) to te) := by
  subst h1 h2 h3 h4 h5
  exact pe_ixOE c F hr d.b (fun σ => passAt tk σ) ho he hs
/-- o[e], the errors passing on -/
theorem pe_ixA {P : Program} {w : World} {K : PySem.W.Frag} {mg : Str → Option Value} {base : Heap} {nm qual : Str} {st : Stmt} {E1 : XK} (d : Mf K nm qual st ps) (c : IxC K C d.f) (F : FnOk P w K mg base CX k d.f d.fd ps sp) (hr : Room (k + 1) X.A) (hx : Passes CX X E1) (ho : PE X o to) (he : PE X e te)
    (h1 : X.prog = P := by rfl) (h2 : X.w = w := by rfl) (h3 : X.K = K := by rfl) (h4 : X.mg = mg := by rfl) (h5 : X.base = base := by rfl) (hs : NoSlT e := by intro _ _; with_unfolding_all rfl) : PE X (.Subscript o e pos) (tIxO C sp (fun _ => E1) to te) := by
  subst h1 h2 h3 h4 h5
  exact pe_ixOE c F hr d.b (fun σ => fun pins H s v z I h => hx pins σ H s v z I h) ho he hs
end
namespace Rd
variable {C : Addr} {sp : Sp} {E : L2.St → XK} {to te : TE} {σ : L2.St} {H : Hp} {Q : VK}
theorem ixO (h : to σ H fun x H1 => te σ H1 fun y H2 => ∃ a dx fs, x = .ref a ∧ H2 a = some (.ins C dx fs) ∧ sp [.ref a, y] H2 Q (E σ)) : tIxO C sp E to te σ H Q := h
end Rd
end Fw

set_option Elab.async false
set_option linter.all false
set_option maxRecDepth 100000
set_option maxHeartbeats 4000000
/-! iter(list) given by an own __iter__; for x in o -/
namespace Fw
open PySem PySem.Spec PyProof.Rows L2
def LitO (l it : Addr) : HO := .ext fun h => h.IsListIter it l 0
theorem litO_ok {P : Program} {w : World} {H : Hp} {h : Heap} {l it : Addr} (e : h.IsListIter it l 0) : ObjOk P w H h it (LitO l it) := by
  obtain ⟨o, e1, e2, e3⟩ := e
  exact ⟨⟨o, e1, e2, e3⟩, ⟨o, e1⟩, fun h1 h2 ⟨u, a, b, c⟩ k => ⟨u, k u a, b, c⟩⟩
def rIterL (K : PySem.W.Frag) (n : Nat) : List V → Hp → VK → Prop := fun xs H Q => ∃ (l : Addr) (zs : List V), xs = [.ref l] ∧ SqL K H l zs ∧ ∀ it, H it = none → n ≤ it → Q (.ref it) (upd H it (LitO l it))
section
variable {X : Cx}
theorem call_iterL : CallR X (.builtin "iter") (rIterL X.K X.s_0.heap.objs.size) := by
  intro pins s σ H xs us Q I r h
  obtain ⟨l, zs, rfl, hq, q⟩ := h
  rw [Vals.ref1 r]
  obtain ⟨its, rv, pl, hz⟩ := I.list hq
  refine Calls.call_function_entry (by decide +kernel) (by decide +kernel) PySem.W.kdk_entry_iter (PySem.W.kdk_args_iter _) ?_
  unfold Builtin.«iter»
  refine wpAny_bind (m := someArgs "iter" 1 2 _) (wpAny_of_eq (a := [Value.ref l]) (by first | rfl | kernel_rfl!) ?_)
  refine wpAny_bind (m := pyIter (.ref l)) (wpAny_pyIter_list (show s.heap.IsList l its.toArray from pl.isList) ?_)
  have new : (s.heap.push { cls := .type "list_iterator", data := .fields #[.ref l, .int 0 0] }).IsListIter s.heap.objs.size l 0 := ⟨_, Heap.get?_push_size _ rfl, rfl, rfl⟩
  exact wpAny_pure ⟨_, rfl, .ref s.heap.objs.size, _, I.laid (t' := s.toks) (fun b u e => Heap.get?_push_of_some _ e) (Nat.le_refl _) (litO_ok new), rfl, q _ (I.hok.fresh (Nat.le_refl _)) I.sz⟩
theorem kiterL (K : PySem.W.Frag) (h : X.K = K := by rfl) : CallR X (.builtin "iter") (rIterL K X.s_0.heap.objs.size) := by subst h; exact call_iterL
variable {n : Nat} {f C : Addr} {fd : FuncData}
def spIterL (L : Hp → Addr → Addr → Prop) : SpY := fun s vs H Q => ∃ a l, vs = [.ref a] ∧ L H a l ∧ ∀ it, H it = none → s.heap.objs.size ≤ it → Q (.ref it) (upd H it (LitO l it))
def iOwnL (C : Addr) (L : Hp → Addr → Addr → Prop) (K : PySem.W.Frag) (te : TE) : TI := fun σ H R => te σ H fun x H1 => ∃ (a dx : Addr) (fs : List (Str × V)) (l : Addr), x = .ref a ∧ H1 a = some (.ins C dx fs) ∧ L H1 a l ∧ R (Itl K l) H1
theorem pi_ownL {L : Hp → Addr → Addr → Prop} {tg o : Expr} {te : TE} {ps : List Str} (he : PE X o te) (hs : PySem.W.findIn X.K (.ref C) "__iter__" = some (some (.ref f))) (hf : PySem.W.isFn X.K (.ref f) = true) (F : FnY X.prog X.w X.K X.mg X.base n f fd ps (spIterL L)) (b : Binds X.K fd ps []) (hr : Room n X.A) :
    PI X tg o (iOwnL C L X.K te) := by
  refine ⟨fun pins s σ H R I h => ?_⟩
  refine thn (he.run pins s σ H _ I h) fun v s1 ⟨x, H1, I1, r1, a, dx, fs, l, ex, ha, hL, q⟩ => ?_
  subst ex
  cases r1
  obtain ⟨mA, J, _⟩ := ins_get I1.hok ha
  obtain ⟨od, J, _⟩ := J.look
  obtain ⟨m0, hF⟩ := I1.fr
  refine PySem.W.owit_iter hF I1.ok.mod.kin J hs hf ?_
  have e := I1.env0
  let QQ : VK := fun v H2 => ∃ it, v = .ref it ∧ H1 it = none ∧ s1.heap.objs.size ≤ it ∧ H2 = upd H1 it (LitO l it)
  have hsp : spIterL L s1 [.ref a] H1 QQ := ⟨a, l, rfl, hL, fun it hn hy => ⟨it, rfl, hn, hy, rfl⟩⟩
  have hl := F.len _ _ _ _ hsp
  have bd := b s1 [.ref a] I1.kIn (by rw [List.append_nil]; exact hl)
  rw [List.append_nil] at bd
  refine wpAny_call (codeAny_mono (F.run X.A X.stack s1 H1 ⟨[.ref a], []⟩ [.ref a] [.ref a] QQ hr e bd (.cons rfl .nil) hsp) fun r z hq => ?_)
  match r, hq with
  | .error e, hq => exact pass0 pins σ H1 s1 e z I1 hq
  | .ok .next, hq => exact hq.elim
  | .ok .brk, hq => exact hq.elim
  | .ok .cont, hq => exact hq.elim
  | .ok (.ret u), hq =>
    obtain ⟨v2, H2, I2, rv, it, rfl, hn, hy, rfl⟩ := I1.after hq
    cases rv
    have hit : z.heap.IsListIter it l 0 := (show ObjOk X.prog X.w _ z.heap it (LitO l it) from I2.hok it _ upd_same).1
    obtain ⟨oi, g1, g2, _⟩ := id hit
    have I3 := _root_.ItX.inv_drop I2 (show (upd H1 it (LitO l it)) it = some (.ext _) from upd_same)
    rw [_root_.ItX.dropH_upd hn] at I3
    refine wpAny_specialOf (T := "list_iterator") ⟨oi, g1, g2⟩ PySem.slot_listiter_next.lookup ?_
    exact ⟨it, [it], _, Itl X.K l, _, rfl, I3, turn_list l it, hit, fun b hb => by rw [List.mem_singleton.mp hb]; exact I1.fpOk hy hn, q⟩
end
namespace Rd
variable {K : PySem.W.Frag} {σ : L2.St} {H : Hp} {Q : VK} {te : TE} {tt : TT}
theorem lcOL {C : Addr} {L : Hp → Addr → Addr → Prop} {tl : TE} {g : TG} {vs : List Nat} (h : tl σ H fun x H1 => ∃ (a dx : Addr) (fs : List (Str × V)) (l : Addr), x = .ref a ∧ H1 a = some (.ins C dx fs) ∧ L H1 a l ∧ LcGo (Itl K l) g tt te vs σ H1 Q) : tLc (iOwnL C L K tl) g tt te vs σ H Q := h
end Rd
end Fw

set_option Elab.async false
set_option linter.all false
set_option maxRecDepth 100000
set_option maxHeartbeats 4000000
/-! list(range(..)), read at its walk -/
namespace Fw
open PySem PySem.Spec PyProof.Rows L2
namespace Rd
variable {σ : L2.St} {H : Hp} {Q : VK} {ta tb : TE} {te : L2.St → Hp → (Int → Int → Hp → Prop) → Prop}
theorem lrg (h : te σ H fun a b H1 => RgOk a b ∧ ∀ q, H1 q = none → Q (.ref q) (upd H1 q (.lst (rgV a b)))) : tLstRg te σ H Q := h
theorem rg1 {R : Int → Int → Hp → Prop} (h : ta σ H fun x H1 => ∃ n, x = .int n ∧ R 0 n H1) : tRg1 ta σ H R := h
theorem rg2 {R : Int → Int → Hp → Prop} (h : ta σ H fun x H1 => tb σ H1 fun y H2 => ∃ i j, x = .int i ∧ y = .int j ∧ R i j H2) : tRg2 ta tb σ H R := h
end Rd
end Fw

set_option Elab.async false
set_option linter.all false
set_option maxRecDepth 100000
set_option maxHeartbeats 4000000
/-! f-string fields with a width -/
namespace Fw
open PySem PySem.Spec PyProof.Rows L2
open Builtin Builtin.Str Builtin.Int Builtin.Float
theorem sub_all (x : PySem.Str) : strSub x 0 x.length = x := by
  unfold strSub
  have e : x.cps.extract 0 x.length = x.cps := Array.extract_size
  rw [e]
theorem ebind {α β : Type} (a : α) (f : α → Except String β) : (Except.ok a >>= f) = f a := rfl
theorem epure {α : Type} (a : α) : (pure a : Except String α) = .ok a := rfl
theorem gives_ljust (x : PySem.Str) (t : Tok) (spec : PySem.Str) (n : Nat) (hne : (spec.length == 0) = false)
    (hasc : ((spec.cps.toList.drop 1).any (· ≥ 128) || (spec.cps.getD 0 0 ≥ 128 && !([60, 62, 61, 94] : List Nat).contains (spec.cps.getD 1 0))) = false)
    (hp : parseFormatSpec spec.cps.toList "str" 60 = .ok { fill := 32, align := 60, width := some n }) (hn : tooLong n = false) (hl : (Txt.ljust x n).length ≤ sizeLine) (hb : (spec.cps.back? == some 0) = false) :
    ∀ u, Meets («str.__format__» ⟨[.str x t, .str spec u], []⟩) (fun _ R s => ∀ t' k, R (.ok (.ret (.str (Txt.ljust x n) t'))) { s with toks := k }) := by
  intro _
  apply PySem.W.KPc.meets_of
  intro _ _ _ _ _ _ h
  unfold Builtin.«str.__format__»
  refine wpAny_bind (wpAny_of_eq (a := (_, _, _)) rfl ?_)
  refine wpAny_bind (wpAny_of_eq (a := some _) rfl ?_)
  dsimp only
  rw [if_neg (by rw [hne]; exact Bool.false_ne_true), if_neg (by rw [hasc]; exact Bool.false_ne_true)]
  refine wpAny_bind (PySem.W.KXf.cut_str ?_)
  rw [hp]
  by_cases c : n ≤ x.length
  · have e : Txt.ljust x n = x := by unfold Txt.ljust; rw [if_pos (by omega)]
    have q : strField x { fill := 32, align := 60, width := some n } "str" = .ok none := by
      show (if (decide (n ≤ x.length) && true) = true then Except.ok none else _) = _
      rw [if_pos (by rw [decide_eq_true c]; rfl)]
    simp only [ebind, epure, hb, Option.isNone_none, Bool.and_false, Bool.false_eq_true, if_false, Option.getD_some, hn, q]
    refine wpAny_bind (wpAny_rule ?_)
    rw [e] at h
    exact PySem.W.KXf.ret_same rfl h
  · have e : Txt.ljust x n = padded x 0 (n - x.length) 32 := by
      unfold Txt.ljust
      rw [if_neg (by omega)]
      rfl
    have q : strField x { fill := 32, align := 60, width := some n } "str" = .ok (some (padded x 0 (n - x.length) 32)) := by
      show (if (decide (n ≤ x.length) && true) = true then Except.ok none else Except.ok (some (padded (strSub x 0 x.length) 0 (n - (strSub x 0 x.length).length - 0) 32))) = _
      rw [if_neg (by rw [decide_eq_false c]; exact Bool.false_ne_true), sub_all, Nat.sub_zero]
    simp only [ebind, epure, hb, Option.isNone_none, Bool.and_false, Bool.false_eq_true, if_false, Option.getD_some, hn, q]
    rw [← e]
    exact PySem.W.KXf.ret_text rfl hl h
def rj (n : Nat) (w : Nat) : PySem.Str := Txt.rjust (PySem.Str.ofString (toString (n : Int))) w
theorem int_rjust {f : FormatSpec} {n w : Nat} (hf : f = { fill := 32, align := 62, width := some w }) : PyProof.Rows.intSpecText f (n : Int) = rj n w := by
  subst hf
  unfold PyProof.Rows.intSpecText rj
  rw [show ((n : Nat) : Int) = Int.ofNat n from rfl, text_ofNat]
  unfold Txt.rjust
  have nn : decide (Int.ofNat n < 0) = false := decide_eq_false (show ¬ ((n : Nat) : Int) < 0 by omega)
  have na : (Int.ofNat n).natAbs = n := rfl
  have mp : List.map (fun c => (if ((100 : Nat) == 88) = true then Char.toUpper c else c).toNat) (Nat.toDigits 10 n) = List.map Char.toNat (Nat.toDigits 10 n) := rfl
  rw [nn, na, mp]
  have ne : (List.map Char.toNat (Nat.toDigits 10 n)).isEmpty = false := by
    have := tDigits_len_ge 10 n
    cases h : Nat.toDigits 10 n with
    | nil => rw [h] at this; exact absurd this (by decide)
    | cons a b => rfl
  generalize List.map Char.toNat (Nat.toDigits 10 n) = D at ne
  have e1 : (PySem.Str.mk D.toArray).length = D.length := rfl
  rw [e1]
  have q : intField' { fill := 32, align := 62, width := some w } false [] D [] 3 = ⟨(List.replicate ((w : Int) - 0 - (D.length : Int)).toNat 32 ++ D).toArray⟩ := by
    unfold intField'
    have h1 : ((62 : Nat) == 60) = false := rfl
    have h2 : ((62 : Nat) == 94) = false := rfl
    have h3 : ((62 : Nat) == 61) = false := rfl
    have h4 : ((32 : Nat) == 48) = false := rfl
    have h5 : ((w : Int) - (((0 : Nat) : Int) + ((0 : Nat) : Int) + ((0 : Nat) : Int))) = (w : Int) - 0 := by omega
    simp only [ne, h1, h2, h3, h4, Bool.and_false, Bool.false_and, Bool.false_eq_true, if_false, Int.toNat_zero, Nat.zero_sub, List.replicate_zero, List.nil_append, List.append_nil, List.length_nil, h5]
  rw [q]
  by_cases c : (w : Int) ≤ D.length
  · rw [if_pos c]
    have z : ((w : Int) - 0 - (D.length : Int)).toNat = 0 := by omega
    rw [z]
    rfl
  · rw [if_neg c]
    have z : ((w : Int) - 0 - (D.length : Int)).toNat = (w : Int).toNat - D.length := by omega
    rw [z]
    unfold padded
    congr 1
    simp
theorem gives_rjust4 (n : Nat) (t : Tok) (hd : (n : Int).natAbs.log2 < 1920) (hl : (rj n 4).length ≤ sizeLine) :
    ∀ u, Meets («int.__format__» ⟨[.int n t, .str (⟨#[62, 52]⟩ : PySem.Str) u], []⟩) (fun _ R s => ∀ t' k, R (.ok (.ret (.str (rj n 4) t'))) { s with toks := k }) := by
  intro _
  apply PySem.W.KPc.meets_of
  intro _ _ _ _ _ _ h
  unfold Builtin.«int.__format__»
  refine wpAny_bind (wpAny_of_eq (a := (_, _)) rfl ?_)
  refine wpAny_bind (wpAny_of_eq (a := _) rfl ?_)
  kxf_if
  refine wpAny_bind (wpAny_typeNameOf (T := "str") (typeIs_str _ _ _) (by decide) fun _ => ?_)
  refine wpAny_bind (wpAny_of_eq (a := some _) rfl ?_)
  kxf_if
  kxf_if
  refine wpAny_bind (wpAny_typeNameOfCut_int ?_)
  have hp : parseFormatSpec (⟨#[62, 52]⟩ : PySem.Str).cps.toList "int" 62 = .ok { fill := 32, align := 62, width := some 4 } := by rfl
  rw [hp]
  have hty : (if ((⟨#[62, 52]⟩ : PySem.Str).cps.back? == some 0) = true then 0 else 100) = 100 := by decide
  simp only [hty, Option.getD_none]
  rw [if_pos (by decide)]
  show wpAny _ _ (do let r ← Builtin.overDigitLimit? (n : Int); _) _ _ _
  rw [PySem.overDigitLimit_small hd]
  show wpAny _ _ (retStr _) _ _ _
  have e := int_rjust (f := { fill := 32, align := 62, width := some 4 }) (n := n) (w := 4) rfl
  refine (fun eX => PySem.W.KXf.ret_text (T := rj n 4) eX (by rw [eX]; exact hl) h) ?_
  rw [← e]
  simp only [show ((10 : Nat) == 10) = true by decide, if_true, Bool.false_eq_true, if_false]
  conv => lhs; whnf
  unfold PyProof.Rows.intSpecText PyProof.Rows.intField'
  rfl
theorem small_log {n : Nat} (h : n < 1000000) : (n : Int).natAbs.log2 < 1920 := by
  have e : (n : Int).natAbs = n := rfl
  rw [e]
  by_cases z : n = 0
  · rw [z]; decide
  · rw [Nat.log2_lt z]
    exact Nat.lt_of_lt_of_le h (Nat.le_trans (show 1000000 ≤ 2 ^ 20 by decide) (Nat.pow_le_pow_right (n := 2) (i := 20) (j := 1920) (by decide) (by decide)))
theorem rj_len {n : Nat} (h : n < 1000000) : (rj n 4).length ≤ 10 := by
  have e := int_rjust (f := { fill := 32, align := 62, width := some 4 }) (n := n) (w := 4) rfl
  rw [← e, intSpecText_length (n : Int) rfl rfl, if_neg (by omega)]
  have d := digits10_le (k := 6) (n := n) (by decide) (by omega)
  have e2 : (n : Int).natAbs = n := rfl
  rw [e2]
  show max 4 _ ≤ 10
  omega
section
variable {X : Cx} {e sp : Expr} {te : TE} {pos : Pos}
/-- {e:<n} of a text -/
def tFmtL (n : Nat) (te : TE) : TE := fun σ H Q => te σ H fun x H1 => ∃ y : PySem.Str, x = .str y ∧ (Txt.ljust y n).length ≤ sizeLine ∧ Q (.str (Txt.ljust y n)) H1
theorem pe_fmtL (n : Nat) (spec : PySem.Str) (he : PE X e te) (hs : PE X sp (tC (.str spec))) (hne : (spec.length == 0) = false)
    (hasc : ((spec.cps.toList.drop 1).any (· ≥ 128) || (spec.cps.getD 0 0 ≥ 128 && !([60, 62, 61, 94] : List Nat).contains (spec.cps.getD 1 0))) = false)
    (hp : parseFormatSpec spec.cps.toList "str" 60 = .ok { fill := 32, align := 60, width := some n }) (hn : tooLong n = false) (hb : (spec.cps.back? == some 0) = false) (hsz : spec.length ≤ sizeLine) : PE X (.FormattedValue e (-1) (some sp) pos) (tFmtL n te) := by
  refine ⟨fun pins s σ H Q I h => ?_⟩
  refine wpAny_FormattedValue_spec (thn (he.run pins s σ H _ I h) fun v s1 hv => ?_)
  obtain ⟨x, H1, I1, r1, y, rfl, hl, q⟩ := hv
  obtain ⟨t, rfl⟩ := r1
  refine thn (hs.run pins s1 σ H1 (fun z H2 => z = .str spec ∧ H2 = H1) I1 ⟨rfl, rfl⟩) fun r s2 hr => ?_
  obtain ⟨z, H2, I2, r2, rfl, rfl⟩ := hr
  obtain ⟨t2, rfl⟩ := r2
  refine ⟨spec, t2, rfl, ?_⟩
  exact PySem.W.KXf.field_str rfl rfl hne hsz (gives_ljust y t spec n hne hasc hp hn hl hb) fun t' k => ⟨.str (Txt.ljust y n), H2, I2.tok _, ⟨_, rfl⟩, q⟩
/-- {e:>4} of a number -/
def tFmtR4 (te : TE) : TE := fun σ H Q => te σ H fun x H1 => ∃ n : Nat, x = .int n ∧ n < 1000000 ∧ Q (.str (rj n 4)) H1
theorem pe_fmtR4 (he : PE X e te) (hs : PE X sp (tC (.str (⟨#[62, 52]⟩ : PySem.Str)))) : PE X (.FormattedValue e (-1) (some sp) pos) (tFmtR4 te) := by
  refine ⟨fun pins s σ H Q I h => ?_⟩
  refine wpAny_FormattedValue_spec (thn (he.run pins s σ H _ I h) fun v s1 hv => ?_)
  obtain ⟨x, H1, I1, r1, n, rfl, hl, q⟩ := hv
  obtain ⟨t, rfl⟩ := r1
  refine thn (hs.run pins s1 σ H1 (fun z H2 => z = .str (⟨#[62, 52]⟩ : PySem.Str) ∧ H2 = H1) I1 ⟨rfl, rfl⟩) fun r s2 hr => ?_
  obtain ⟨z, H2, I2, r2, rfl, rfl⟩ := hr
  obtain ⟨t2, rfl⟩ := r2
  refine ⟨_, t2, rfl, ?_⟩
  exact PySem.W.KXf.field_int rfl (by decide) (by decide) (gives_rjust4 n t (small_log hl) (Nat.le_trans (rj_len hl) (by rw [sizeLine_eq]; decide))) fun t' k => ⟨.str (rj n 4), H2, I2.tok _, ⟨_, rfl⟩, q⟩
end
namespace Rd
variable {σ : L2.St} {H : Hp} {Q : VK} {te : TE}
theorem fmtL {n : Nat} (h : te σ H fun x H1 => ∃ y : PySem.Str, x = .str y ∧ (Txt.ljust y n).length ≤ sizeLine ∧ Q (.str (Txt.ljust y n)) H1) : tFmtL n te σ H Q := h
theorem fmtR4 (h : te σ H fun x H1 => ∃ n : Nat, x = .int n ∧ n < 1000000 ∧ Q (.str (rj n 4)) H1) : tFmtR4 te σ H Q := h
end Rd
end Fw
namespace Fw
open PySem PySem.Spec PyProof.Rows L2
open Builtin Builtin.Str
/-! texts as lists of signs -/
def dgs (n : Nat) : List Nat := (Nat.toDigits 10 n).map Char.toNat
def rjL (w : Nat) (l : List Nat) : List Nat := List.replicate (w - l.length) 32 ++ l
def ljL (w : Nat) (l : List Nat) : List Nat := l ++ List.replicate (w - l.length) 32
theorem text_nat (n : Nat) : PySem.Str.ofString (toString (n : Int)) = S (dgs n) := text_ofNat n
theorem S_len (l : List Nat) : (S l).length = l.length := rfl
theorem pad_S (l : List Nat) (a b : Nat) : padded (S l) a b 32 = S (List.replicate a 32 ++ l ++ List.replicate b 32) := by
  unfold padded S
  congr 1
  simp
theorem ljust_S (w : Nat) (l : List Nat) : Txt.ljust (S l) (w : Int) = S (ljL w l) := by
  unfold Txt.ljust ljL
  rw [S_len]
  by_cases c : w ≤ l.length
  · rw [if_pos (by omega), Nat.sub_eq_zero_of_le c]
    simp
  · rw [if_neg (by omega), pad_S]
    rfl
theorem rjust_S (w : Nat) (l : List Nat) : Txt.rjust (S l) (w : Int) = S (rjL w l) := by
  unfold Txt.rjust rjL
  rw [S_len]
  by_cases c : w ≤ l.length
  · rw [if_pos (by omega), Nat.sub_eq_zero_of_le c]
    simp
  · rw [if_neg (by omega), pad_S]
    simp
theorem rj_S (n : Nat) : rj n 4 = S (rjL 4 (dgs n)) := by
  unfold rj
  rw [text_nat]
  exact rjust_S 4 _
theorem ljL_len (w : Nat) (l : List Nat) : (ljL w l).length = max w l.length := by unfold ljL; simp; omega
theorem rjL_len (w : Nat) (l : List Nat) : (rjL w l).length = max w l.length := by unfold rjL; simp; omega
theorem dgs_len {n : Nat} (h : n < 1000000) : (dgs n).length ≤ 6 := by
  unfold dgs
  rw [List.length_map]
  exact digits10_le (by decide) (by omega)
theorem S_app (a b : List Nat) : S a ++ S b = S (a ++ b) := by
  show PySem.Str.mk (a.toArray ++ b.toArray) = _
  simp
def rLj : V → List V → Hp → VK → Prop := fun x xs H Q => ∃ (a : PySem.Str) (i : Int), x = .str a ∧ xs = [.int i] ∧ PadOk i = true ∧ Q (.str (Txt.ljust a i)) H
def rRj : V → List V → Hp → VK → Prop := fun x xs H Q => ∃ (a : PySem.Str) (i : Int), x = .str a ∧ xs = [.int i] ∧ PadOk i = true ∧ Q (.str (Txt.rjust a i)) H
def rRs : V → List V → Hp → VK → Prop := fun x xs H Q => ∃ a : PySem.Str, x = .str a ∧ xs = [] ∧ a.length ≤ sizeLine ∧ Q (.str (Txt.rstrip a)) H
def rStrI : List V → Hp → VK → Prop := fun xs H Q => ∃ i : Int, xs = [.int i] ∧ i.natAbs.log2 < 1920 ∧ Q (.str (toString i)) H
section
variable {X : Cx} {o e : Expr} {to te ta tb : TE} {apos pos : Pos}
theorem kljust (ho : PE X o to) (he : PE X e te) (hs : starEach [e] X.env = [(false, eval e X.env)] := by rfl) (hbase : attributeBase o "ljust" X.env (eval o X.env) = eval o X.env := by rfl) (hline : (apos.endLine == pos.line) = true := by rfl) :
    PE X (.Call (.Attribute o "ljust" apos) [e] [] pos) (tM1 rLj to te) := pe_m1 PySem.F.slot_str_ljust PySem.F.type_str_ljust mt_ljust ho he hs hbase hline
theorem krjust (ho : PE X o to) (he : PE X e te) (hs : starEach [e] X.env = [(false, eval e X.env)] := by rfl) (hbase : attributeBase o "rjust" X.env (eval o X.env) = eval o X.env := by rfl) (hline : (apos.endLine == pos.line) = true := by rfl) :
    PE X (.Call (.Attribute o "rjust" apos) [e] [] pos) (tM1 rRj to te) := pe_m1 PySem.F.slot_str_rjust PySem.F.type_str_rjust mt_rjust ho he hs hbase hline
theorem krstrip (ho : PE X o to) (hbase : attributeBase o "rstrip" X.env (eval o X.env) = eval o X.env := by rfl) (hline : (apos.endLine == pos.line) = true := by rfl) :
    PE X (.Call (.Attribute o "rstrip" apos) [] [] pos) (tM0 rRs to) := pe_m0 PySem.F.slot_str_rstrip PySem.F.type_str_rstrip mt_rstrip ho hbase hline
theorem kstrI : CallR X (.type "str") rStrI := call_str_int
/-- f'..' -/
def tJn (ts : List TE) : TE := fun σ H Q => tJs ts Str.empty σ H fun out H1 => Q (.str out) H1
theorem pe_jn {v1 v2 : Expr} {rest : List Expr} {ts : List TE} (h : PJ X (v1 :: v2 :: rest) ts) : PE X (.JoinedStr (v1 :: v2 :: rest) pos) (tJn ts) := pe_joined h
/-- xs * n -/
def rMulL : V → V → Hp → VK → Prop := rRep
theorem kmulL : OpR X (binaryOp .Mult) rMulL := op_rep
end
namespace Rd
variable {σ : L2.St} {H : Hp} {Q : VK} {te : TE} {l : List Nat}
theorem ljust {w : Nat} (hp : PadOk w = true) (q : Q (.str (S (ljL w l))) H) : rLj (.str (S l)) [.int w] H Q := ⟨_, _, rfl, rfl, hp, by rw [ljust_S]; exact q⟩
theorem rjust {w : Nat} (hp : PadOk w = true) (q : Q (.str (S (rjL w l))) H) : rRj (.str (S l)) [.int w] H Q := ⟨_, _, rfl, rfl, hp, by rw [rjust_S]; exact q⟩
theorem rstrip (hl : l.length ≤ 1000000) (q : Q (.str (Txt.rstrip (S l))) H) : rRs (.str (S l)) [] H Q := ⟨_, rfl, rfl, by rw [S_len, sizeLine_eq]; omega, q⟩
theorem strI {n : Nat} (hn : n < 1000000) (q : Q (.str (S (dgs n))) H) : rStrI [.int (n : Nat)] H Q := ⟨_, rfl, small_log hn, by rw [text_nat]; exact q⟩
theorem len_S (h : l.length ≤ 1000100) : (S l).length ≤ sizeLine := by rw [S_len, sizeLine_eq]; omega
theorem tfL {n : Nat} (h : te σ H fun x H1 => ∃ y : PySem.Str, x = .str y ∧ (Txt.ljust y n).length ≤ sizeLine ∧ Q (.str (Txt.ljust y n)) H1) : tFmtL n te σ H Q := h
theorem tfR (h : te σ H fun x H1 => ∃ n : Nat, x = .int n ∧ n < 1000000 ∧ Q (.str (rj n 4)) H1) : tFmtR4 te σ H Q := h
theorem tf (h : te σ H fun x H1 => (∃ y : PySem.Str, x = .str y ∧ y.length ≤ sizeLine ∧ Q (.str y) H1) ∨ ∃ i : Int, x = .int i ∧ i.natAbs.log2 < 1920 ∧ Q (.str (toString i)) H1) : tFmt te σ H Q := h
theorem fjL {n : Nat} {R : PySem.Str → Prop} (hn : n ≤ 100) (hl : l.length ≤ 1000000) (q : R (S l)) : ∃ y : PySem.Str, V.str (S l) = .str y ∧ (Txt.ljust y n).length ≤ sizeLine ∧ R y :=
  ⟨S l, rfl, by rw [ljust_S]; exact len_S (by rw [ljL_len]; omega), q⟩
theorem fjR {n : Nat} {R : Nat → Prop} (hn : n < 1000000) (q : R n) : ∃ m : Nat, V.int (n : Nat) = .int m ∧ m < 1000000 ∧ R m := ⟨n, rfl, hn, q⟩
theorem fmS {R : PySem.Str → Prop} {R2 : Int → Prop} (hl : l.length ≤ 1000000) (q : R (S l)) : (∃ y : PySem.Str, V.str (S l) = .str y ∧ y.length ≤ sizeLine ∧ R y) ∨ ∃ i : Int, V.str (S l) = .int i ∧ R2 i := .inl ⟨S l, rfl, len_S (by omega), q⟩
theorem fmI {n : Nat} {R : Int → Prop} {R2 : PySem.Str → Prop} (hn : n < 1000000) (q : R (n : Nat)) : (∃ y : PySem.Str, V.int (n : Nat) = .str y ∧ R2 y) ∨ ∃ i : Int, V.int (n : Nat) = .int i ∧ i.natAbs.log2 < 1920 ∧ R i := .inr ⟨n, rfl, small_log hn, q⟩
theorem jc {t : TE} {ts : List TE} {acc : PySem.Str} {R : PySem.Str → Hp → Prop} (h : t σ H fun x H1 => ∃ y : PySem.Str, x = .str y ∧ (acc ++ y).length ≤ sizeLine ∧ tJs ts (acc ++ y) σ H1 R) : tJs (t :: ts) acc σ H R := h
theorem jcS {ts : List TE} {a : List Nat} {R : PySem.Str → Hp → Prop} (hl : a.length + l.length ≤ 1000000) (q : tJs ts (S (a ++ l)) σ H R) : ∃ y : PySem.Str, V.str (S l) = .str y ∧ (S a ++ y).length ≤ sizeLine ∧ tJs ts (S a ++ y) σ H R :=
  ⟨S l, rfl, by rw [S_app]; exact len_S (by rw [List.length_append]; omega), by rw [S_app]; exact q⟩
theorem mulL {a : Addr} {xs : List V} {k : Int} (h : H a = some (.lst xs)) (k0 : 0 ≤ k) (k1 : k ≤ 100) (hl : xs.length ≤ 1000) (q : ∀ p, H p = none → Q (.ref p) (upd H p (.lst (List.replicate k.toNat xs).flatten))) : rMulL (.ref a) (.int k) H Q :=
  ⟨a, k, xs, rfl, rfl, h, by omega, by omega, by rw [sizeLine_eq]; exact Nat.le_trans (Nat.mul_le_mul hl (show k.toNat ≤ 100 by omega)) (by decide), q⟩
theorem jn {ts : List TE} (h : tJs ts (S []) σ H fun out H1 => Q (.str out) H1) : tJn ts σ H Q := h
theorem jsN {l : List Nat} {R : Str → Hp → Prop} (h : R (S l) H) : tJs [] (S l) σ H R := h
theorem asgG {σ : L2.St} {H : Hp} {te : TE} {K : PySem.W.Frag} {n : Nat} {gs : TGs} {N : L2.St → Hp → Prop} {r : VK} {bk ct : L2.St → Hp → Prop} (h : te σ H fun x H1 => gTup K n gs x σ H1 N) : tAsg te (gTup K n gs) (Ends.mk N r bk ct) σ H := h
theorem gT2 {K : PySem.W.Frag} {σ : L2.St} {H : Hp} {N : L2.St → Hp → Prop} {i j : Nat} {t : Addr} {u v : V} (h : H t = some (.tup [u, v])) (q : N ((σ.set i (some u)).set j (some v)) H) :
    gTup K 2 (gCons (gName i) (gCons (gName j) gNil)) (.ref t) σ H N := ⟨t, _, rfl, SqT.of h, rfl, _, _, rfl, _, _, rfl, rfl, q⟩
theorem rj4 (q : Q (.str (S (rjL 4 l))) H) : rRj (.str (S l)) [.int 4] H Q := rjust (w := 4) rfl q
theorem lj2 (q : Q (.str (S (ljL 2 l))) H) : rLj (.str (S l)) [.int 2] H Q := ljust (w := 2) rfl q
theorem lj8 (q : Q (.str (S (ljL 8 l))) H) : rLj (.str (S l)) [.int 8] H Q := ljust (w := 8) rfl q
theorem lj13 (q : Q (.str (S (ljL 13 l))) H) : rLj (.str (S l)) [.int 13] H Q := ljust (w := 13) rfl q
end Rd
end Fw

set_option Elab.async false
set_option linter.all false
set_option maxRecDepth 100000
set_option maxHeartbeats 4000000
/-! o.m(e, .., k = v), and x, *ys = a tuple -/
namespace Fw
open PySem PySem.Spec PyProof.Rows L2
section
variable {X : Cx} {CX : CXT} {k : Nat} {f C : Addr} {fd : FuncData} {ps ks : List Str} {sp : Sp} {E : XK} {m : Str} {pos apos : Pos} {o e : Expr} {es : List Expr} {kws : List Keyword} {ta : TE} {t tk : TA} {n : Nat} {g : List Value → List Value → List Value} {gV : List V → List V → List V}
def tMethKw (C : Addr) (n j : Nat) (m : Str) (sp : Sp) (gV : List V → List V → List V) (E : XK) (ta : TE) (t tk : TA) : TE := fun σ H Q => ta σ H fun x H1 => ∃ a dx fs, x = .ref a ∧ H1 a = some (.ins C dx fs) ∧ fs.lookup m = none ∧ t σ H1 fun vs H2 => tk σ H2 fun zs H3 => vs.length + 1 = n ∧ zs.length = j ∧ sp (gV (.ref a :: vs) zs) H3 Q E
theorem pe_methKw {pl : Sem Bool} (he : PE X o ta) (c : Cls X.K C) (hm : Meth X.K C m f) (F : FnOk X.prog X.w X.K X.mg X.base CX k f fd ps sp) (hr : Room k X.A) (hb : KBn X.K fd ps n ks g gV) (hx : Passes CX X E) (ha : PA X (e :: es) t) (hkw : PK X kws tk)
    (hall : (backToKw pos (keywordEach kws X.env)).all (·.1.isSome) = true := by rfl) (hks : (backToKw pos (keywordEach kws X.env)).filterMap (·.1) = ks := by rfl)
    (hst : starEach (e :: es) X.env = (false, eval e X.env) :: starEach es X.env := by rfl)
    (hpl : ((backTo pos (starEach (e :: es) X.env)).any (·.1) || (backToKw pos (keywordEach kws X.env)).any (·.1.isNone)) = false := by rfl)
    (ht : eval (.Call (.Attribute o m apos) (e :: es) kws pos) X.env = (do
      let ov ← eval o X.env
      standAt apos.atName
      let (f, first) ← holding [ov] (getMethod ov m pl)
      callWith pos f first (backTo pos (starEach (e :: es) X.env)) (backToKw pos (keywordEach kws X.env))) := by rfl) :
    PE X (.Call (.Attribute o m apos) (e :: es) kws pos) (tMethKw C n ks.length m sp gV E ta t tk) := by
  constructor
  intro pins s σ H Q I h
  refine PySem.W.methodCall_KW (pl := pl) (thn (he.run pins s σ H _ I h) fun u s1 hv => ?_) ht
  obtain ⟨x, H1, I1, rx, a, dx, fs, ex, ea, l, q⟩ := hv
  subst ex
  obtain rfl : u = Value.ref a := rx
  refine getmeth_ok I1 ea c hm l ?_
  refine PySem.W.callWith_KW (first := [.ref a]) (h₀ := X.base) I.ok.mod.kin hm.kp hall (thn (ha.run pos pins s1 σ H1 _ I1 q) fun us s2 hv => ?_) hpl hst
  obtain ⟨vs, H2, I2, r, q2⟩ := hv
  refine thn (hkw.run pos pins s2 σ H2 _ I2 q2) fun ws s3 hv => ?_
  obtain ⟨zs, H3, I3, rz, l1, l2, q3⟩ := hv
  refine ⟨I3.kIn, ?_⟩
  rw [hks]
  exact run_fnN (us := .ref a :: us) (vs := .ref a :: vs) F hr hb hx I3 (.cons rfl r) rz l1 l2 q3
end
section
variable {X : Cx} {CX : CXT} {k n : Nat} {f C : Addr} {fd : FuncData} {ps ks : List Str} {sp : Sp} {E : XK} {m : Str} {pos apos : Pos} {o e : Expr} {es : List Expr} {kws : List Keyword} {ta : TE} {t tk : TA} {g : List Value → List Value → List Value} {gV : List V → List V → List V}
variable {P : Program} {w : World} {K : PySem.W.Frag} {mg : Str → Option Value} {base : Heap} {ds : List Value} {dvs : List V}
/-- K-explicit: o.m(e, .., k = v) -/
theorem pe_mK {pl : Sem Bool} (he : PE X o ta) (c : Cls K C) (hm : Meth K C m f) (F : FnOk P w K mg base CX k f fd ps sp) (hr : Room k X.A) (hb : KBn K fd ps n ks g gV) (hx : Passes CX X E) (ha : PA X (e :: es) t) (hkw : PK X kws tk)
    (h1 : X.prog = P := by rfl) (h2 : X.w = w := by rfl) (h3 : X.K = K := by rfl) (h4 : X.mg = mg := by rfl) (h5 : X.base = base := by rfl)
    (hall : (backToKw pos (keywordEach kws X.env)).all (·.1.isSome) = true := by rfl) (hks : (backToKw pos (keywordEach kws X.env)).filterMap (·.1) = ks := by rfl)
    (hst : starEach (e :: es) X.env = (false, eval e X.env) :: starEach es X.env := by rfl)
    (hpl : ((backTo pos (starEach (e :: es) X.env)).any (·.1) || (backToKw pos (keywordEach kws X.env)).any (·.1.isNone)) = false := by rfl)
    (ht : eval (.Call (.Attribute o m apos) (e :: es) kws pos) X.env = (do let ov ← eval o X.env; standAt apos.atName; let (f, first) ← holding [ov] (getMethod ov m pl); callWith pos f first (backTo pos (starEach (e :: es) X.env)) (backToKw pos (keywordEach kws X.env))) := by rfl) :
    PE X (.Call (.Attribute o m apos) (e :: es) kws pos) (tMethKw C n ks.length m sp gV E ta t tk) := by
  subst h1 h2 h3 h4 h5
  exact pe_methKw (pl := pl) he c hm F hr hb hx ha hkw hall hks hst hpl ht
/-- K-explicit: o.m(e, ..), the rest by defaults -/
theorem pe_mD {pl : Sem Bool} (he : PE X o ta) (c : Cls K C) (hm : Meth K C m f) (F : FnOk P w K mg base CX k f fd ps sp) (hr : Room k X.A) (hb : Binds K fd ps ds) (hd : Vals dvs ds) (hx : Passes CX X E) (ha : PA X (e :: es) t)
    (h1 : X.prog = P := by rfl) (h2 : X.w = w := by rfl) (h3 : X.K = K := by rfl) (h4 : X.mg = mg := by rfl) (h5 : X.base = base := by rfl)
    (hst : starEach (e :: es) X.env = (false, eval e X.env) :: starEach es X.env := by rfl) (hpl : (backTo pos (starEach es X.env)).any (·.1) = false := by rfl)
    (ht : eval (.Call (.Attribute o m apos) (e :: es) [] pos) X.env = (do let ov ← eval o X.env; standAt apos.atName; let (f, first) ← holding [ov] (getMethod ov m pl); callWith pos f first (backTo pos (starEach (e :: es) X.env)) (backToKw pos (keywordEach [] X.env))) := by rfl) :
    PE X (.Call (.Attribute o m apos) (e :: es) [] pos) (tMeth C m sp dvs E ta t) := by
  subst h1 h2 h3 h4 h5
  exact pe_meth (pl := pl) he c hm F hr hb hd hx ha hst hpl ht
end
section
variable {X : Cx} {CX : CXT} {k : Nat} {f C : Addr} {fd : FuncData} {ps : List Str} {sp : Sp} {m : Str} {pos apos : Pos} {o e : Expr} {es : List Expr} {ta : TE} {t : TA} {ds : List Value} {dvs : List V} {E : L2.St → XK}
/-- o.m(e, ..) with defaults, in a try's body -/
def tMethD (C : Addr) (m : Str) (sp : Sp) (dvs : List V) (E : L2.St → XK) (ta : TE) (t : TA) : TE := fun σ H Q => ta σ H fun x H1 => ∃ a dx fs, x = .ref a ∧ H1 a = some (.ins C dx fs) ∧ fs.lookup m = none ∧ t σ H1 fun vs H2 => sp (x :: vs ++ dvs) H2 Q (E σ)
theorem pe_methD {pl : Sem Bool} (he : PE X o ta) (c : Cls X.K C) (hm : Meth X.K C m f) (F : FnOk X.prog X.w X.K X.mg X.base CX k f fd ps sp) (hr : Room k X.A) (hb : Binds X.K fd ps ds) (hd : Vals dvs ds) (hx : ∀ σ, PassesAt CX X σ (E σ)) (ha : PA X (e :: es) t)
    (hst : starEach (e :: es) X.env = (false, eval e X.env) :: starEach es X.env := by rfl) (hpl : (backTo pos (starEach es X.env)).any (·.1) = false := by rfl)
    (ht : eval (.Call (.Attribute o m apos) (e :: es) [] pos) X.env = (do let ov ← eval o X.env; standAt apos.atName; let (f, first) ← holding [ov] (getMethod ov m pl); callWith pos f first (backTo pos (starEach (e :: es) X.env)) (backToKw pos (keywordEach [] X.env))) := by rfl) :
    PE X (.Call (.Attribute o m apos) (e :: es) [] pos) (tMethD C m sp dvs E ta t) := by
  constructor
  intro pins s σ H Q I h
  refine PySem.W.methodCall_KW (pl := pl) (thn (he.run pins s σ H _ I h) fun u s1 hv => ?_) ht
  obtain ⟨x, H1, I1, rx, a, dx, fs, ex, ea, l, q⟩ := hv
  subst ex
  cases rx
  refine getmeth_ok I1 ea c hm l (PySem.W.callWith_K (first := [.ref a]) (h₀ := X.base) I.ok.mod.kin hm.kp (thn (ha.run pos pins s1 σ H1 _ I1 q) fun us s2 hv => ?_) hst hpl)
  obtain ⟨vs, H2, I2, r, q2⟩ := hv
  refine ⟨I2.kIn, ?_⟩
  have r1 : Vals (V.ref a :: vs) (Value.ref a :: us) := .cons rfl r
  have r2 : Vals (V.ref a :: vs ++ dvs) (Value.ref a :: us ++ ds) := r1.append hd
  have hl : (Value.ref a :: us ++ ds).length = ps.length := by rw [← r2.length]; exact F.len _ _ _ _ q2
  refine wpAny_call (codeAny_mono (F.run X.A X.stack s2 H2 ⟨Value.ref a :: us, []⟩ _ _ Q (E σ) hr I2.env0 (hb s2 (Value.ref a :: us) I2.kIn hl) r2 q2) fun r z hq => ?_)
  match r, hq with
  | .error e, hq => exact hx σ pins H2 s2 e z I2 hq
  | .ok (.ret u), hq => exact I2.after hq
  | .ok .next, hq => exact hq.elim
  | .ok .brk, hq => exact hq.elim
  | .ok .cont, hq => exact hq.elim
theorem pe_mTD {pl : Sem Bool} {P : Program} {w : World} {K : PySem.W.Frag} {mg : Str → Option Value} {base : Heap} {W : WX} (he : PE X o ta) (c : Cls K C) (hm : Meth K C m f) (F : FnOk P w K mg base (L2.CX P w) k f fd ps sp) (hr : Room k X.A) (hb : Binds K fd ps ds) (hd : Vals dvs ds) (tk : Takes X W) (ha : PA X (e :: es) t)
    (h1 : X.prog = P := by rfl) (h2 : X.w = w := by rfl) (h3 : X.K = K := by rfl) (h4 : X.mg = mg := by rfl) (h5 : X.base = base := by rfl)
    (hst : starEach (e :: es) X.env = (false, eval e X.env) :: starEach es X.env := by rfl) (hpl : (backTo pos (starEach es X.env)).any (·.1) = false := by rfl)
    (ht : eval (.Call (.Attribute o m apos) (e :: es) [] pos) X.env = (do let ov ← eval o X.env; standAt apos.atName; let (f, first) ← holding [ov] (getMethod ov m pl); callWith pos f first (backTo pos (starEach (e :: es) X.env)) (backToKw pos (keywordEach [] X.env))) := by rfl) :
    PE X (.Call (.Attribute o m apos) (e :: es) [] pos) (tMethD C m sp dvs (WE W) ta t) := by
  subst h1 h2 h3 h4 h5
  exact pe_methD (pl := pl) he c hm F hr hb hd (fun σ => passAt tk σ) ha hst hpl ht
end
/-- x, *ys = a tuple -/
def gStar (K : PySem.W.Frag) (g1 g2 : TG) : TG := fun v σ H Q => ∃ a x xs, v = .ref a ∧ SqT K H a (x :: xs) ∧ xs.length ≤ 1000 ∧ ∀ l, H l = none → g1 x σ (upd H l (.lst xs)) fun σ1 H1 => g2 (.ref l) σ1 H1 Q
section
variable {prog : Program} {w : World} {A : Around} {E : Value → Shared → Prop} {s : Shared}
theorem star_items {l : Addr} {v : Value} {vs : List Value} {Q : List Value → Shared → Prop} (hl : IsTup s.heap l (v :: vs).toArray) (hh : A.handled = none) (hz : vs.length ≤ 1000)
    (h : ∀ (h' : PySem.Heap) (tk : Nat), (∀ b o, b ≠ s.heap.objs.size → s.heap.get? b = some o → h'.get? b = some o) → Q [v, .ref h'.objs.size] { s with heap := h'.push { cls := .type "list", data := .seq vs.toArray }, toks := tk }) :
    wpAny (model prog w) A (unpackItems (.ref l) 2 (some 1)) Q E s := by
  have far : l ≠ s.heap.objs.size := by obtain ⟨o, ho, _⟩ := hl; exact Nat.ne_of_lt (Heap.lt_size ho)
  unfold unpackItems
  refine wpAny_bind ?_
  unfold notIterableAtAll
  refine wpAny_bind (wpAny_specialOf hl.typeIs slot_tuple_iter.lookup (wpAny_pure ?_))
  simp only [Bool.false_eq_true, if_false]
  refine wpAny_bind (wpAny_holding (iter_tuple hl ?_))
  have sz : (v :: vs).toArray.size = vs.length + 1 := by rw [List.size_toArray, List.length_cons]
  refine wpAny_bind (wpAny_holding (draw_tuple far 1 0 _ _ ⟨_, Heap.get?_push_size _ rfl, rfl, rfl⟩ (hl.push _) (by rw [sz]; omega) fun g1 it1 sb => ?_))
  have hl1 : IsTup g1 l (v :: vs).toArray := (hl.push _).extBut sb.extBut far
  rw [Nat.zero_add] at it1
  obtain ⟨oi, hoi, _⟩ := id it1
  obtain ⟨ol, hol, _⟩ := id hl1
  have f1 : List.take 1 (List.drop 0 (v :: vs).toArray.toList) = [v] := rfl
  rw [f1]
  rw [if_neg (show ¬ ([v] : List Value).length < 1 from Nat.lt_irrefl 1)]
  refine wpAny_bind (wpAny_holding (PySem.W.kun_collect (s := { s with heap := g1 }) (T := "tuple_iterator") (.inr (.inr (.inr rfl))) (Walks.tuple (A := A.in1) hh s.heap.objs.size l far (v :: vs).toArray) (fun j u st => st.1.typeIs) (k := 1) (by rw [sz]; omega) ⟨it1, hl1⟩
    (Heap.lt_size hoi) (Heap.lt_size hol) (fun g2 tk kp => ?_) (by rw [sz, sizeLine_eq]; omega)))
  have f2 : List.drop 1 (v :: vs).toArray.toList = vs := rfl
  rw [f2, if_neg (by omega : ¬ vs.length < 2 - 1 - 1)]
  have f3 : List.take (vs.length - (2 - 1 - 1)) vs = vs := List.take_of_length_le (by omega)
  have f4 : List.drop (vs.length - (2 - 1 - 1)) vs = [] := List.drop_of_length_le (by omega)
  rw [f3, f4]
  refine wpAny_bind (wpAny_newList ?_ (by rw [sizeLine_eq]; omega))
  refine wpAny_pure ?_
  show Q [v, .ref g2.objs.size] _
  exact h g2 tk fun b o nb e => kp b o nb (sb.extBut b o nb (Heap.get?_push_of_some _ e))
end
theorem pg_star {X : Cx} {e1 e2 : Expr} {k : Nat} {g1 g2 : TG} {pos p2 : Pos} (h1 : PG X e1 g1) (h2 : PG X e2 g2) (hc : X.calm = true := by rfl) (hn : (assignEach [e1, .Starred e2 p2] X.env).length = 2 := by rfl)
    (hst : (assignEach [e1, .Starred e2 p2] X.env).findIdx? (·.1) = some 1 := by rfl) (hs : (assignEach [e1, .Starred e2 p2] X.env).map (·.2) = [assign e1 X.env, assign e2 X.env] := by rfl) :
    PG X (.Tuple [e1, .Starred e2 p2] k pos) (gStar X.K g1 g2) := by
  constructor
  intro pins s σ H v u Q I r hw
  obtain ⟨a, x, xs, e1, hq, hl, hw⟩ := hw
  subst e1
  cases r
  obtain ⟨its, rv, ht, hz⟩ := I.tuple hq
  cases rv with
  | @cons _ u0 _ us r0 rs =>
    have lu : us.length ≤ 1000 := by rw [← rs.length]; exact hl
    rw [assign_Tuple]
    refine wpAny_bind (wpAny_standAt ?_)
    unfold unpack
    rw [hn, hst]
    refine wpAny_bind (wpAny_holding (star_items ht (I.ok.hd hc) lu fun g tk kp => ?_))
    have I1 : Inv X pins σ H { s with heap := g, toks := tk } := I.kept fun b o e => kp b o (Nat.ne_of_lt (Heap.lt_size e)) e
    have free := I1.hok.fresh (Nat.le_refl g.objs.size)
    have I2 : Inv X pins σ (upd H g.objs.size (.lst xs)) { s with heap := g.push { cls := .type "list", data := .seq us.toArray }, toks := tk } :=
      I1.laid (a := g.objs.size) (t' := tk) (fun _ _ q => Heap.get?_push_of_some _ q) (Nat.le_refl _) ⟨by rw [sizeLine_eq]; omega, us, 0, rs, Heap.get?_push_size _ rfl⟩
    show wpAny _ _ (assignInOrder _ _) _ _ _
    rw [hs]
    refine assignInOrder_cons (thn (h1.run pins _ σ _ _ _ _ I2 r0 (hw _ free)) fun _ s1 hv => ?_)
    obtain ⟨σ1, H1, I3, q1⟩ := hv
    refine assignInOrder_cons (thn (h2.run pins s1 σ1 H1 (V.ref g.objs.size) _ Q I3 rfl q1) fun _ s2 hv => ?_)
    exact assignInOrder_nil hv
theorem kstar {X : Cx} (K : PySem.W.Frag) {e1 e2 : Expr} {k : Nat} {g1 g2 : TG} {pos p2 : Pos} (h1 : PG X e1 g1) (h2 : PG X e2 g2) (h : X.K = K := by rfl) (hc : X.calm = true := by rfl) (hn : (assignEach [e1, .Starred e2 p2] X.env).length = 2 := by rfl)
    (hst : (assignEach [e1, .Starred e2 p2] X.env).findIdx? (·.1) = some 1 := by rfl) (hs : (assignEach [e1, .Starred e2 p2] X.env).map (·.2) = [assign e1 X.env, assign e2 X.env] := by rfl) :
    PG X (.Tuple [e1, .Starred e2 p2] k pos) (gStar K g1 g2) := by subst h; exact pg_star h1 h2 hc hn hst hs
/-- the truth of a value -/
def tTr (K : PySem.W.Frag) (te : TE) : TT := fun σ H Q => te σ H fun x H' => ∃ k, TruV K x H' k ∧ Q k H'
theorem ktru {X : Cx} (K : PySem.W.Frag) {a : Expr} {ta : TE} (ha : PE X a ta) (h : X.K = K := by rfl) (he : ∀ whole, isTrue a X.env whole = (do let v ← whole; standAt a.pos; holding [v] (truthy v)) := by intro _; rfl) : PT X a (tTr K ta) := by subst h; exact pt_truth ha he
namespace Rd
variable {K : PySem.W.Frag} {σ : L2.St} {H : Hp} {te : TE} {N : L2.St → Hp → Prop} {r : VK} {bk ct : L2.St → Hp → Prop} {i j : Nat}
theorem asgSt {g1 g2 : TG} (h : te σ H fun x H1 => gStar K g1 g2 x σ H1 N) : tAsg te (gStar K g1 g2) (Ends.mk N r bk ct) σ H := h
theorem gSt {t : Addr} {u : V} {us : List V} (h : H t = some (.tup (u :: us))) (hl : us.length ≤ 1000) (q : ∀ l, H l = none → N ((σ.set i (some u)).set j (some (.ref l))) (upd H l (.lst us))) : gStar K (gName i) (gName j) (.ref t) σ H N :=
  ⟨t, u, us, rfl, SqT.of h, hl, q⟩
theorem methKw {C : Addr} {n j : Nat} {m : Str} {sp : Sp} {gV : List V → List V → List V} {E : XK} {ta : TE} {t tk : TA} {Q : VK} (h : ta σ H fun x H1 => ∃ a dx fs, x = .ref a ∧ H1 a = some (.ins C dx fs) ∧ fs.lookup m = none ∧ t σ H1 fun vs H2 => tk σ H2 fun zs H3 => vs.length + 1 = n ∧ zs.length = j ∧ sp (gV (.ref a :: vs) zs) H3 Q E) : tMethKw C n j m sp gV E ta t tk σ H Q := h
theorem tr {Q : Bool → Hp → Prop} (h : te σ H fun x H' => ∃ k, TruV K x H' k ∧ Q k H') : tTr K te σ H Q := h
theorem trT {t : Addr} {xs : List V} {Q : Bool → Prop} (h : H t = some (.tup xs)) (q : Q (!xs.isEmpty)) : ∃ k, TruV K (.ref t) H k ∧ Q k := ⟨_, .inr (.inl ⟨xs, SqT.of h, rfl⟩), q⟩
theorem addB {a b : List Nat} {Q : VK} (h : a.length + b.length ≤ 1000000) (q : Q (.str (S (a ++ b))) H) : rAddA (.str (S a)) (.str (S b)) H Q := by
  refine Rd.addS (by rw [S_len, S_len, sizeLine_eq]; omega) ?_
  rw [S_app]
  exact q
theorem methD {C : Addr} {m : Str} {sp : Sp} {dvs : List V} {E : L2.St → XK} {ta : TE} {t : TA} {Q : VK} (h : ta σ H fun x H1 => ∃ a dx fs, x = .ref a ∧ H1 a = some (.ins C dx fs) ∧ fs.lookup m = none ∧ t σ H1 fun vs H2 => sp (x :: vs ++ dvs) H2 Q (E σ)) : tMethD C m sp dvs E ta t σ H Q := h
end Rd
end Fw

namespace Toy
open PySem L2 Fw
local macro_rules | `(tactic| walk_at "sz") => `(tactic| first | assumption | omega | decide | (have q_sz : sizeLine = 16777216 := sizeLine_eq; simp only [List.length_append, List.length_cons, List.length_nil]; omega) | (have q_sz : sizeLine = 16777216 := sizeLine_eq; simp only [List.length_cons, List.length_nil] at *; omega) | (have q_sz : sizeLine = 16777216 := sizeLine_eq; omega))
local macro_rules | `(tactic| walk_at "hp") => `(tactic| first | assumption | exact upd_same)
local macro_rules | `(tactic| walk_at "sq") => `(tactic| first | assumption | exact SqL.of (by walk_at "hp") | exact SqT.of (by walk_at "hp"))
local macro_rules | `(tactic| walk_at "sl") => `(tactic| first | assumption | omega | (simp only [List.length_append, List.length_take, List.length_drop, List.length_singleton, List.length_cons, List.length_nil, List.length_map, rep_len, Int.reduceToNat]; omega))
local macro_rules | `(tactic| walk_at "rd1") => `(tactic| first
  | ((with_reducible refine' Rd.var ?k1 ?_); (case k1 => rfl))
  | (with_reducible refine Rd.con ?_)
  | (with_reducible refine Rd.op ?_)
  | (with_reducible refine Rd.seq ?_)
  | ((with_reducible refine Rd.asg ?_); dsimp only [List.set])
  | (with_reducible refine Rd.drop ?_)
  | (with_reducible refine Rd.asgSub ?_)
  | ((with_reducible refine' Rd.setL ?k1 ?k2 ?_); (case k1 => walk_at "hp"); (case k2 => first | assumption | rfl); try dsimp only [List.set])
  | (with_reducible refine Rd.ret ?_)
  | (with_reducible refine Rd.retN ?_)
  | (with_reducible refine Rd.next ?_)
  | (with_reducible refine Rd.ifS ?_)
  | (with_reducible refine Rd.cons ?_)
  | (with_reducible refine Rd.nil ?_)
  | (with_reducible refine Rd.call ?_)
  | (with_reducible refine Rd.cb ?_)
  | (with_reducible refine Rd.test ?_)
  | (with_reducible refine Rd.tbv ?_)
  | (with_reducible refine Rd.exbl ?_)
  | (with_reducible refine Rd.exint ?_)
  | (with_reducible refine Rd.yes ?_)
  | (with_reducible refine Rd.andT ?_)
  | (with_reducible refine Rd.orT ?_)
  | (with_reducible refine Rd.notT ?_)
  | (with_reducible refine Rd.andV ?_)
  | (with_reducible refine Rd.orV ?_)
  | (with_reducible refine Rd.notV ?_)
  | (with_reducible refine Rd.chain ?_)
  | (with_reducible refine Rd.sl ?_)
  | (with_reducible refine Rd.lcL ?_)
  | (with_reducible refine Rd.lcT ?_)
  | (with_reducible refine Rd.lcR ?_)
  | (with_reducible refine Rd.lcS ?_)
  | (with_reducible refine Rd.foL ?_)
  | (with_reducible refine Rd.foT ?_)
  | (with_reducible refine Rd.foR ?_)
  | ((with_reducible refine' Rd.exrange ?k1 ?k2 ?_); (case k1 => first | decide | omega); (case k2 => first | decide | omega))
  | (with_reducible refine Rd.exstr ?_)
  | ((with_reducible refine' Rd.exlist ?k1 ?_); (case k1 => walk_at "sq"))
  | ((with_reducible refine' Rd.extup ?k1 ?_); (case k1 => walk_at "sq"))
  | (with_reducible refine Rd.noPart ?_)
  | (with_reducible refine Rd.part ?_)
  | (with_reducible refine Rd.addI ?_)
  | (with_reducible refine Rd.subI ?_)
  | (with_reducible refine Rd.gtI ?_)
  | (with_reducible refine Rd.geI ?_)
  | (with_reducible refine Rd.ltI ?_)
  | (with_reducible refine Rd.leI ?_)
  | (with_reducible refine Rd.eqI ?_)
  | (with_reducible refine Rd.neI ?_)
  | (with_reducible refine RS.eq ?_)
  | (with_reducible refine RS.ne ?_)
  | (with_reducible refine Rd.eqS ?_)
  | (with_reducible refine Rd.neS ?_)
  | (with_reducible refine Rd.leC ?_)
  | (with_reducible refine Rd.ltS ?_)
  | (with_reducible refine Rd.leS ?_)
  | (with_reducible refine Rd.int1 ?_)
  | ((with_reducible refine' Rd.modI ?k1 ?_); (case k1 => first | decide | omega | assumption))
  | ((with_reducible refine' Rd.divI ?k1 ?_); (case k1 => exact ⟨by omega, by omega⟩))
  | ((with_reducible refine' Rd.mulI ?k1 ?_); (case k1 => first | exact .inl ⟨by decide, by decide⟩ | exact .inr ⟨by decide, by decide⟩ | exact .inl ⟨by omega, by omega⟩ | exact .inr ⟨by omega, by omega⟩))
  | ((with_reducible refine' RS.mul ?k1 ?k2 ?k3 ?k4 ?_); (case k1 => decide); (case k2 => decide); (case k3 => walk_at "sl"); (case k4 => walk_at "sl"))
  | ((with_reducible refine' Rd.mulS ?k1 ?k2 ?k3 ?_); (case k1 => first | decide | omega); (case k2 => first | decide | omega); (case k3 => walk_at "sz"))
  | ((with_reducible refine' Rd.powI ?k1 ?_); (case k1 => exact ⟨by decide, by decide, by decide⟩))
  | ((with_reducible refine' Rd.lenL ?k1 ?_); (case k1 => walk_at "sq"))
  | ((with_reducible refine' Rd.lenT ?k1 ?_); (case k1 => walk_at "sq"))
  | ((with_reducible refine' RS.len ?k1 ?_); (case k1 => walk_at "sl"))
  | ((with_reducible refine' Rd.lenS ?k1 ?_); (case k1 => walk_at "sz"))
  | ((with_reducible refine' Rd.sumL ?k1 ?_); (case k1 => walk_at "sq"))
  | ((with_reducible refine' RS.ix ?k1 ?k2 ?_); (case k1 => walk_at "sl"); (case k2 => assumption))
  | ((with_reducible refine' Rd.ixL ?k1 ?k2 ?_); (case k1 => walk_at "sq"); (case k2 => first | assumption | rfl))
  | ((with_reducible refine' Rd.ixT ?k1 ?k2 ?_); (case k1 => walk_at "sq"); (case k2 => first | assumption | rfl))
  | ((with_reducible refine' RS.slTo ?k1 ?k2 ?_); (case k1 => omega); (case k2 => walk_at "sl"))
  | ((with_reducible refine' RS.slFrom ?k1 ?k2 ?_); (case k1 => omega); (case k2 => walk_at "sl"))
  | ((with_reducible refine' RS.slFT ?k1 ?k2 ?k3 ?_); (case k1 => omega); (case k2 => omega); (case k3 => walk_at "sl"))
  | ((with_reducible refine' Rd.slS ?k1 ?_); (case k1 => walk_at "sz"))
  | ((with_reducible refine' RS.add ?k1 ?_); (case k1 => walk_at "sl"))
  | ((with_reducible refine' Rd.addS ?k1 ?_); (case k1 => walk_at "sz"))
  | (with_reducible refine Rd.tup ?_)
  | (with_reducible refine Rd.lst ?_)
  | (with_reducible refine Rd.m0 ?_)
  | (with_reducible refine Rd.m1 ?_)
  | (with_reducible refine Rd.isStr ?_)
  | ((with_reducible refine' RS.upper ?k1 ?k2 ?_); (case k1 => assumption); (case k2 => walk_at "sl"))
  | ((with_reducible refine' Rd.upper ?k1 ?_); (case k1 => walk_at "sz"))
  | (with_reducible refine Rd.bm ?_)
  | ((with_reducible refine' Rd.tyL ?k1 ?_); (case k1 => walk_at "hp"))
  | ((with_reducible refine' Rd.append ?k1 ?k2 ?_); (case k1 => walk_at "hp"); (case k2 => walk_at "sz"))
  | (with_reducible refine Rd.make ?_)
  | (with_reducible refine Rd.meth ?_)
  | (with_reducible refine Rd.sfld ?_)
  | (with_reducible refine Rd.con_ ?_)
  | (with_reducible refine Rd.fld ?_)
  | (with_reducible refine Rd.tryAs ?_)
  | (with_reducible refine Rd.tryAsN ?_)
  | (with_reducible refine Rd.lenSetT ?_)
  | (with_reducible refine Rd.makeT ?_)
  | (with_reducible refine Rd.methT ?_)
  | (with_reducible refine Rd.callS ?_)
  | (with_reducible refine Rd.xf ?_)
  | (with_reducible refine Rd.mko ?_)
  | (with_reducible refine Rd.ost ?_)
  | (with_reducible refine Rd.iteNF ?_)
  | (with_reducible refine Rd.iteNT ?_)
  | (with_reducible refine Rd.iteT ?_)
  | (with_reducible refine Rd.iteF ?_)
  | ((with_reducible refine' Rd.iteDT ?k1 ?_); (case k1 => decide))
  | ((with_reducible refine' Rd.iteDF ?k1 ?_); (case k1 => decide))
  | ((with_reducible refine' Rd.iteNDT ?k1 ?_); (case k1 => decide))
  | ((with_reducible refine' Rd.iteNDF ?k1 ?_); (case k1 => decide))
  | ((with_reducible refine' Rd.iteBT ?k1 ?_); (case k1 => rfl))
  | ((with_reducible refine' Rd.iteBF ?k1 ?_); (case k1 => rfl)))
local macro_rules | `(tactic| walk_at "rd") => `(tactic| repeat walk_at "rd1")
local macro_rules | `(tactic| walk_at "rd1") => `(tactic| first
  | (with_reducible refine Rd.un ?_)
  | (with_reducible refine Rd.negI ?_))
local macro_rules | `(tactic| walk_at "rd1") => `(tactic| first
  | (with_reducible refine Rd.jn ?_)
  | (with_reducible refine Rd.jc ?_)
  | (with_reducible refine Rd.jsN ?_)
  | ((with_reducible refine' Rd.jcS ?k1 ?_); (case k1 => walk_at "sl"))
  | (with_reducible refine Rd.tf ?_)
  | (with_reducible refine Rd.tfL ?_)
  | (with_reducible refine Rd.tfR ?_)
  | ((with_reducible refine' Rd.fmS ?k1 ?_); (case k1 => walk_at "sl"))
  | ((with_reducible refine' Rd.fmI ?k1 ?_); (case k1 => walk_at "sl"); rw [text_nat])
  | ((with_reducible refine' Rd.fjL ?k1 ?k2 ?_); (case k1 => decide); (case k2 => walk_at "sl"); rw [ljust_S])
  | ((with_reducible refine' Rd.fjR ?k1 ?_); (case k1 => walk_at "sl"); rw [rj_S])
  | (with_reducible refine Rd.asgG ?_)
  | (with_reducible refine Rd.asgSt ?_)
  | (with_reducible refine Rd.methKw ?_)
  | (with_reducible refine Rd.tr ?_)
  | (with_reducible refine Rd.methD ?_)
  | ((with_reducible refine' Rd.addB ?k1 ?_); (case k1 => walk_at "sl"))
  | ((with_reducible refine' Rd.gT2 ?k1 ?_); (case k1 => walk_at "hp"); try dsimp only [List.set])
  | (with_reducible refine Rd.rj4 ?_)
  | (with_reducible refine Rd.lj2 ?_)
  | (with_reducible refine Rd.lj8 ?_)
  | (with_reducible refine Rd.lj13 ?_)
  | ((with_reducible refine' Rd.strI ?k1 ?_); (case k1 => walk_at "sl")))
def top (i : Nat) : Stmt := PySem.Challenge.pw_redopages_k12_texts_of_formulas.main.body.getD i (.Pass ⟨0, 0, 0, 0⟩)
section
variable {P : Program} {w : World} {K : PySem.W.Frag} {mg : Str → Option Value} {base : Heap} {tk : Tok}
/-! ### the draws -/
def PoolAt (H : Hp) (p : Addr) : Prop := ∃ d s c : Int, H p = some (.lst [.int d, .int s, .int c])
def spDraw : Sp := fun vs H Q _ => ∃ (p : Addr) (m : Int), vs = [.ref p, .int m] ∧ 0 < m ∧ m < 1073741824 ∧ PoolAt H p ∧
  ∀ (r : Int) (H' : Hp), 0 ≤ r → r < m → (∀ a, a ≠ p → H' a = H a) → PoolAt H' p → Q (.int r) H'
abbrev s_law_draw : Stmt := top 8
theorem sc_law_draw : FnScope ["_law_pool_here", "_law_many", "_law_digit"] ["_law_pool_here", "_law_many"] (defScope s_law_draw) := ⟨rfl, rfl, rfl, by decide +kernel, rfl, by decide +kernel, by decide +kernel⟩
theorem ok_draw {f : Addr} {fd : FuncData} (F : Fun K "_law_draw" "_law_draw" s_law_draw f fd) (T : Bt mg) : FnOk P w K mg base CX0 1 f fd ["_law_pool_here", "_law_many"] spDraw := by
  refine F.ok sc_law_draw (fun vs H Q E h => ?_) (fun cdv A outer s H vs Q E hr h => ?_)
  · obtain ⟨p, m, rfl, _⟩ := h
    rfl
  · obtain ⟨p, m, rfl, hm, hm2, ⟨d, sd, c, hp⟩, k⟩ := h
    refine ⟨_, (pss_cons (ps_if (PW.pt (pw_and (pt_cmpR op_gtI (pe_ix (kix K) (pv 0) pe_int (fun _ _ => rfl)) pe_int (nomark _)) (pw_and1 (pt_cmpR op_gtI (pe_ix (kix K) (pv 0) pe_int (fun _ _ => rfl)) pe_int (nomark _))))) (pss_cons (ps_set (i := 2) sc_law_draw.nd rfl (Or.inl rfl) (pe_op op_modI (pe_callTy call_intA (by rfl) T.int (by decide +kernel) (pa_cons (pe_ix (kix K) (pv 0) pe_int (fun _ _ => rfl)) pa_nil)) (pv 1)))
  (pss_cons (ps_asg (pe_op op_divI (pe_ix (kix K) (pv 0) pe_int (fun _ _ => rfl)) (pv 1)) (pg_sub (pv 0) pe_int set_list))
  (pss_cons (ps_asg (pe_op op_subI (pe_ix (kix K) (pv 0) pe_int (fun _ _ => rfl)) pe_int) (pg_sub (pv 0) pe_int set_list))
  (pss_one (ps_ret (pv 2))))))
  pss_nil)
  (pss_cons (ps_asg (pe_op op_modI (pe_callTy call_intA (by rfl) T.int (by decide +kernel) (pa_cons (pe_op op_addA (pe_op op_mulA (pe_ix (kix K) (pv 0) pe_int (fun _ _ => rfl)) pe_int) pe_int) pa_nil)) pe_int) (pg_sub (pv 0) pe_int set_list))
  (pss_one (ps_ret (pe_op op_modI (pe_callTy call_intA (by rfl) T.int (by decide +kernel) (pa_cons (pe_ix (kix K) (pv 0) pe_int (fun _ _ => rfl)) pa_nil)) (pv 1)))))), ?_⟩
    refine Rd.start_ (σ' := [some (.ref p), some (.int m), none]) rfl ?_
    have fin : ∀ (H' : Hp) (x : Int) (d' s' c' : Int), H' = upd (upd H p (.lst [.int d', .int sd, .int c])) p (.lst [.int d', .int s', .int c']) → Q (.int (x % m)) H' := fun H' x d' s' c' e => by
      subst e
      exact k _ _ (Int.emod_nonneg _ (by omega)) (Int.emod_lt_of_pos _ hm) (fun a ha => by rw [upd_ne ha, upd_ne ha]) ⟨_, _, _, upd_same⟩
    have fin1 : ∀ (x : Int) (d' s' c' : Int), Q (.int (x % m)) (upd H p (.lst [.int d', .int s', .int c'])) := fun x d' s' c' =>
      k _ _ (Int.emod_nonneg _ (by omega)) (Int.emod_lt_of_pos _ hm) (fun a ha => by rw [upd_ne ha]) ⟨_, _, _, upd_same⟩
    walk_at "rd"
    refine Rd.iteD (fun h1 => ?_) (fun h1 => ?_)
    · walk_at "rd"
      refine Rd.iteD (fun h2 => ?_) (fun h2 => ?_)
      · walk_at "rd"
        exact fin _ _ _ _ _ rfl
      · walk_at "rd"
        exact fin1 _ _ _ _
    · walk_at "rd"
      exact fin1 _ _ _ _

def spPool (K : PySem.W.Frag) : Sp := fun vs H Q _ => ∃ (a : Addr) (ns : List Int) (k : Int), vs = [.ref a, .int k] ∧ SqL K H a (ns.map V.int) ∧ ns.length ≤ 63 ∧ 0 ≤ k ∧ k < 100 ∧
  ∀ (p : Addr) (H' : Hp), H p = none → Same H H' → PoolAt H' p → Q (.ref p) H'
abbrev s_law_pool : Stmt := top 11
theorem sc_law_pool : FnScope ["_law_script", "_law_k", "_law_seed", "_law_digits"] ["_law_script", "_law_k"] (defScope s_law_pool) := ⟨rfl, rfl, rfl, by decide +kernel, rfl, by decide +kernel, by decide +kernel⟩
theorem ok_pool {f : Addr} {fd : FuncData} (F : Fun K "_law_pool" "_law_pool" s_law_pool f fd) (T : Bt mg) : FnOk P w K mg base CX0 1 f fd ["_law_script", "_law_k"] (spPool K) := by
  refine F.ok sc_law_pool (fun vs H Q E h => ?_) (fun cdv A outer s H vs Q E hr h => ?_)
  · obtain ⟨p, ns, m, rfl, _⟩ := h
    rfl
  · obtain ⟨a, ns, m, rfl, hS, hl, hm, hm2, k⟩ := h
    have hu := hr.units
    refine ⟨_, (pss_cons (ps_set (i := 2) sc_law_pool.nd rfl (Or.inl rfl) (pe_op op_addA (pe_op op_addA (pe_op op_mulA pe_int (pv 1)) pe_int) (pe_op op_mulA pe_int (pe_callB (ksum K) (by rfl) T.sum (by decide +kernel) (pa_cons (pv 0) pa_nil)))))
  (pss_cons (ps_set (i := 3) sc_law_pool.nd rfl (Or.inl rfl) pe_int)
  (pss_cons (ps_if (pt_cmpR op_ltA (pv 1) (pe_callB (klen K) (by rfl) T.len (by decide +kernel) (pa_cons (pv 0) pa_nil)) (nomark _)) (pss_cons (ps_set (i := 2) sc_law_pool.nd rfl (Or.inl rfl) (pe_op op_addA (pv 2) (pe_ix (kix K) (pv 0) (pv 1) (fun _ _ => rfl))))
  (pss_one (ps_if (pt_cmpR op_geI (pe_ix (kix K) (pv 0) (pv 1) (fun _ _ => rfl)) (pe_op op_powI pe_int pe_int) (nomark _)) (pss_one (ps_set (i := 3) sc_law_pool.nd rfl (Or.inl rfl) (pe_ix (kix K) (pv 0) (pv 1) (fun _ _ => rfl))))
  pss_nil)))
  pss_nil)
  (pss_one (ps_ret (pe_lst (pa_cons (pv 3) (pa_cons (pe_op op_modI (pe_callTy call_intA (by rfl) T.int (by decide +kernel) (pa_cons (pv 2) pa_nil)) pe_int) (pa_cons pe_int pa_nil))))))))), ?_⟩
    refine Rd.start_ (σ' := [some (.ref a), some (.int m), none, none]) rfl ?_
    have fin : ∀ x y z : Int, ∀ p, H p = none → Q (.ref p) (upd H p (.lst [.int x, .int y, .int z])) := fun x y z p hp => k p _ hp (same_new hp) ⟨_, _, _, upd_same⟩
    walk_at "rd"
    refine Rd.iteD (fun h1 => ?_) (fun h1 => ?_)
    · rw [List.length_map] at h1
      obtain ⟨z, hat⟩ : ∃ z, atI (ns.map V.int) m = some (V.int z) := by
        have hlt : m.toNat < ns.length := by omega
        have e : m = ((m.toNat : Nat) : Int) := by omega
        exact ⟨ns[m.toNat], (congrArg (atI (ns.map V.int)) e).trans (atI_nat (by simp [hlt]))⟩
      walk_at "rd"
      refine Rd.iteD (fun h2 => ?_) (fun h2 => ?_)
      · walk_at "rd"
        exact ⟨by show 3 ≤ sizeLine; decide, fin _ _ _⟩
      · walk_at "rd"
        exact ⟨by show 3 ≤ sizeLine; decide, fin _ _ _⟩
    · walk_at "rd"
      exact ⟨by show 3 ≤ sizeLine; decide, fin _ _ _⟩

/-! ### words of drawn letters -/
theorem letters_at : ∀ k, k < 26 → ([97, 98, 99, 100, 101, 102, 103, 104, 105, 106, 107, 108, 109, 110, 111, 112, 113, 114, 115, 116, 117, 118, 119, 120, 121, 122] : List Nat)[k]? = some (97 + k) := by decide +kernel
theorem letter_at (n : Int) : atI ([97, 98, 99, 100, 101, 102, 103, 104, 105, 106, 107, 108, 109, 110, 111, 112, 113, 114, 115, 116, 117, 118, 119, 120, 121, 122] : List Nat) (n % 26) = some (97 + (n % 26).toNat) := by
  have h0 : 0 ≤ n % 26 := Int.emod_nonneg _ (by decide)
  have h1 : n % 26 < 26 := Int.emod_lt_of_pos _ (by decide)
  have e : n % 26 = (((n % 26).toNat : Nat) : Int) := by omega
  rw [e]
  exact atI_nat (letters_at _ (by omega))
def wordL (ns : List Int) : List Nat := ns.map fun n => 97 + (n % 26).toNat
theorem join_chars : ∀ l : List Nat, TL.joinL [] (l.map fun c => [c]) = l
  | [] => rfl
  | [c] => rfl
  | c :: d :: l => by
    show [c] ++ ([] ++ TL.joinL [] ((d :: l).map fun c => [c])) = c :: d :: l
    rw [join_chars (d :: l)]
    rfl
theorem join_word (l : List Nat) : Txt.join (S []) (l.map fun c => (⟨#[c]⟩ : Str)) = S l := by
  have e := SX.join_S [] (l.map fun c => [c])
  rw [join_chars, List.map_map] at e
  exact e
theorem sum_ones (l : List Nat) : ((l.map fun c => (⟨#[c]⟩ : Str)).map (·.length)).sum = l.length := by
  induction l with
  | nil => rfl
  | cons c l ih =>
    rw [List.map_cons, List.map_cons, List.sum_cons, ih, List.length_cons]
    show 1 + l.length = l.length + 1
    omega
def spWord (K : PySem.W.Frag) : Sp := fun vs H Q _ => ∃ (a : Addr) (ns : List Int), vs = [.ref a] ∧ SqL K H a (ns.map V.int) ∧ ns.length ≤ 100 ∧
  ∀ (H' : Hp), Same H H' → Q (.str (S (wordL ns))) H'
abbrev s_law_word : Stmt := top 9
theorem sc_law_word : FnScope ["_law_numbers", "_law_letters", "_law_number"] ["_law_numbers"] (defScope s_law_word) := ⟨rfl, rfl, rfl, by decide +kernel, rfl, by decide +kernel, by decide +kernel⟩
theorem ok_word {f : Addr} {fd : FuncData} (F : Fun K "_law_word" "_law_word" s_law_word f fd) (T : Bt mg) : FnOk P w K mg base CX0 1 f fd ["_law_numbers"] (spWord K) := by
  refine F.ok sc_law_word (fun vs H Q E h => ?_) (fun cdv A outer s H vs Q E hr h => ?_)
  · obtain ⟨p, ns, rfl, _⟩ := h
    rfl
  · obtain ⟨a, ns, rfl, hS, hl, k⟩ := h
    refine ⟨_, (pss_cons (ps_set (i := 1) sc_law_word.nd rfl (Or.inr rfl) (pe_lit [97, 98, 99, 100, 101, 102, 103, 104, 105, 106, 107, 108, 109, 110, 111, 112, 113, 114, 115, 116, 117, 118, 119, 120, 121, 122] (by decide +kernel)))
  (pss_one (ps_ret (kjoin K (pe_lit [] (by decide +kernel)) (pe_lc (own := [("_law_number", 2)]) (g := gName 2) (tt := tYes) rfl sc_law_word.nd (kpl K (pv 0)) (blkOk_by (N := ["_law_numbers", "_law_letters", "_law_number"]) (sc := defScope s_law_word) (by decide +kernel)) (fun _ _ _ _ _ => (pg_name (i := 2) sc_law_word.nd rfl (Or.inl rfl))) (fun _ _ _ _ _ => pts_nil) (fun _ _ _ _ _ => (pe_ix (kix K) (pv 1) (pe_op op_modI (pe_callTy call_intA (by rfl) T.int (by decide +kernel) (pa_cons (pv 2) pa_nil)) pe_int) (fun _ _ => rfl)))))))), ?_⟩
    refine Rd.start_ (σ' := [some (.ref a), none, none]) rfl ?_
    walk_at "rd"
    refine Rd.lcW Rd.wList (by rw [List.length_map]; walk_at "sz") (fun i acc H' => Same H H' ∧ acc = (wordL (ns.take i)).map fun c => V.str ⟨#[c]⟩) ⟨Same.refl _, rfl⟩
      (fun D hD i acc ys H' j => ⟨same_upd j.1 hD, j.2⟩) (fun i acc H' hi j => j.1.seq hS) ?_ ?_
    · intro D hD i x acc H' hi hx hacc hlen ⟨j1, j2⟩ Kt Kf hT hF
      dsimp only [List.set]
      rw [List.getElem?_map] at hx
      obtain ⟨z, hz, rfl⟩ := Option.map_eq_some_iff.mp hx
      walk_at "rd"
      refine RS.ix (by decide) (letter_at z) ?_
      refine hT _ _ hacc ⟨j1, ?_⟩
      rw [j2]
      unfold wordL
      rw [List.take_add_one, hz]
      simp
    · intro D acc H' hD hacc hlen ⟨j1, j2⟩
      rw [List.length_map] at j2
      rw [List.take_length] at j2
      have e : acc = (((wordL ns).map fun c => (⟨#[c]⟩ : Str)).map V.str) := by rw [j2, List.map_map]; rfl
      rw [e] at hacc
      refine Rd.join (SqL.of hacc) ?_ ?_
      · rw [sum_ones]
        show _ + _ * 0 ≤ _
        unfold wordL
        rw [List.length_map]
        omega
      · rw [join_word]
        exact k H' j1

end
section
variable {P : Program} {w : World} {K : PySem.W.Frag} {mg : Str → Option Value} {base : Heap} {tk : Tok}
/-! ### names -/
/-- a name: 1 to 8 letters -/
def Nm (l : List Nat) : Prop := 1 ≤ l.length ∧ l.length ≤ 8 ∧ ∀ c ∈ l, 97 ≤ c ∧ c ≤ 122
def letterL (z : Int) : List Nat := [97 + (z % 26).toNat]
/-- the k-th name, as drawn -/
def nameL (style shift stride place size : Int) (word : List Nat) (k : Nat) : List Nat :=
  if style = 2 then letterL (shift + stride * k) ++ (word.drop k).take ((k + (place + 3 * k) % 8).toNat - k)
  else if style = 1 then word.take (1 + (k + place) % 8).toNat
  else word.take (place % size).toNat ++ letterL (shift + stride * k) ++ (word.drop (place % size + 1).toNat).take (size.toNat - (place % size + 1).toNat)
structure Drawn (style shift stride place size : Int) (word : List Nat) : Prop where
  sh : 0 ≤ shift ∧ shift < 26
  st : ∃ d : Int, 0 ≤ d ∧ d < 6 ∧ stride = 1 + 2 * d
  pl : 0 ≤ place ∧ place < 8
  sz : 1 ≤ size ∧ size ≤ 8
  wl : word.length = 8
  wc : ∀ c ∈ word, 97 ≤ c ∧ c ≤ 122
theorem letter_ok {z : Int} : ∀ c ∈ letterL z, 97 ≤ c ∧ c ≤ 122 := by
  intro c hc
  have h1 : z % 26 < 26 := Int.emod_lt_of_pos _ (by decide)
  have e : c = 97 + (z % 26).toNat := List.mem_singleton.mp hc
  omega
section
variable {style shift stride place size : Int} {word : List Nat}
theorem at_lt (D : Drawn style shift stride place size word) : 0 ≤ place % size ∧ place % size < size := ⟨Int.emod_nonneg _ (by have := D.sz; omega), Int.emod_lt_of_pos _ (by have := D.sz; omega)⟩
theorem name_ok (D : Drawn style shift stride place size word) {k : Nat} (hk : k < 8) : Nm (nameL style shift stride place size word k) := by
  obtain ⟨⟨s1, s2⟩, _, ⟨p1, p2⟩, ⟨z1, z2⟩, wl, wc⟩ := id D
  obtain ⟨a1, a2⟩ := at_lt D
  unfold nameL Nm
  by_cases h2 : style = 2
  · rw [if_pos h2]
    refine ⟨?_, ?_, ?_⟩
    · simp [letterL]
    · simp only [letterL, List.length_append, List.length_singleton, List.length_take, List.length_drop, wl]; omega
    · intro c hc
      rcases List.mem_append.mp hc with hc | hc
      · exact letter_ok c hc
      · exact wc c (List.mem_of_mem_drop (List.mem_of_mem_take hc))
  · rw [if_neg h2]
    by_cases h1 : style = 1
    · rw [if_pos h1]
      refine ⟨?_, ?_, fun c hc => wc c (List.mem_of_mem_take hc)⟩
      · rw [List.length_take, wl]; omega
      · rw [List.length_take, wl]; omega
    · rw [if_neg h1]
      refine ⟨?_, ?_, ?_⟩
      · simp only [letterL, List.length_append, List.length_singleton]; omega
      · simp only [letterL, List.length_append, List.length_singleton, List.length_take, List.length_drop, wl]; omega
      · intro c hc
        rcases List.mem_append.mp hc with hc | hc
        · rcases List.mem_append.mp hc with hc | hc
          · exact wc c (List.mem_of_mem_take hc)
          · exact letter_ok c hc
        · exact wc c (List.mem_of_mem_drop (List.mem_of_mem_take hc))
theorem letter_inj (D : Drawn style shift stride place size word) {j k : Nat} (hj : j < 8) (hk : k < 8) (e : 97 + ((shift + stride * j) % 26).toNat = 97 + ((shift + stride * k) % 26).toNat) : j = k := by
  obtain ⟨d, d0, d6, rfl⟩ := D.st
  have hd : d = 0 ∨ d = 1 ∨ d = 2 ∨ d = 3 ∨ d = 4 ∨ d = 5 := by omega
  rcases hd with rfl | rfl | rfl | rfl | rfl | rfl <;> omega
theorem name_inj (D : Drawn style shift stride place size word) {j k : Nat} (hj : j < 8) (hk : k < 8) (e : nameL style shift stride place size word j = nameL style shift stride place size word k) : j = k := by
  obtain ⟨⟨s1, s2⟩, _, ⟨p1, p2⟩, ⟨z1, z2⟩, wl, wc⟩ := id D
  obtain ⟨a1, a2⟩ := at_lt D
  unfold nameL at e
  by_cases h2 : style = 2
  · rw [if_pos h2, if_pos h2] at e
    exact letter_inj D hj hk (List.cons.inj e).1
  · rw [if_neg h2, if_neg h2] at e
    by_cases h1 : style = 1
    · rw [if_pos h1, if_pos h1] at e
      have q := congrArg List.length e
      rw [List.length_take, List.length_take, wl] at q
      omega
    · rw [if_neg h1, if_neg h1, List.append_assoc, List.append_assoc] at e
      exact letter_inj D hj hk (List.cons.inj (List.append_cancel_left e)).1
theorem names_nodup (D : Drawn style shift stride place size word) : ((List.range 8).map (nameL style shift stride place size word)).Nodup := by
  refine List.pairwise_map.mpr (List.Pairwise.imp_of_mem (fun {a b} ha hb hab e => ?_) (List.nodup_range (n := 8)))
  exact hab (name_inj D (List.mem_range.mp ha) (List.mem_range.mp hb) e)
end
/-- all but p as it was -/
def SameB (p : Addr) (H H' : Hp) : Prop := ∀ a o, a ≠ p → H a = some o → H' a = some o
theorem SameB.refl (p : Addr) (H : Hp) : SameB p H H := fun _ _ _ h => h
theorem SameB.trans {p : Addr} {H H1 H2 : Hp} (a : SameB p H H1) (b : SameB p H1 H2) : SameB p H H2 := fun c o n h => b c o n (a c o n h)
theorem SameB.of {p : Addr} {H H' : Hp} (a : Same H H') : SameB p H H' := fun c o _ h => a c o h
theorem SameB.drawn {p : Addr} {H H' : Hp} (a : ∀ b, b ≠ p → H' b = H b) : SameB p H H' := fun c o n h => by rw [a c n]; exact h
theorem SameB.upd {p D : Addr} {o : HO} {H0 H : Hp} (e : SameB p H0 H) (h : H0 D = none) : SameB p H0 (upd H D o) := fun a u n ha => by
  rw [upd_ne (ne_of_none ha h)]; exact e a u n ha
theorem fresh_of {H G : Hp} {a p : Addr} (h : G a = none) (s : SameB p H G) (n : p ≠ a) : H a = none := by
  cases e : H a with
  | none => rfl
  | some o => rw [s a o (Ne.symm n) e] at h; cases h
/-- a list of names at q -/
def NamesAt (H : Hp) (q : Addr) (ns : List (List Nat)) : Prop := H q = some (.lst (ns.map fun l => V.str (S l)))
def spNames : Sp := fun vs H Q _ => ∃ (p : Addr), vs = [.ref p] ∧ PoolAt H p ∧
  ∀ (ns : List (List Nat)) (q : Addr) (H' : Hp), ns.length = 8 → (∀ l ∈ ns, Nm l) → ns.Nodup → H q = none → SameB p H H' → PoolAt H' p → NamesAt H' q ns → Q (.ref q) H'

theorem pool_of {H H' : Hp} {p : Addr} (h : PoolAt H p) (e : Same H H') : PoolAt H' p := by
  obtain ⟨d, s, c, q⟩ := h
  exact ⟨d, s, c, e _ _ q⟩
theorem PoolAt.upd {H : Hp} {p D : Addr} {o : HO} (h : PoolAt H p) (n : p ≠ D) : PoolAt (upd H D o) p := by
  obtain ⟨d, s, c, q⟩ := h
  exact ⟨d, s, c, by rw [upd_ne n]; exact q⟩
theorem pool_ne {H : Hp} {p D : Addr} (h : PoolAt H p) (n : H D = none) : p ≠ D := by
  obtain ⟨d, s, c, q⟩ := h
  exact ne_of_none q n
theorem nameL0 {style shift stride place size : Int} {word : List Nat} {k : Nat} (h1 : ¬ style = 1) (h2 : ¬ style = 2) : nameL style shift stride place size word k = word.take (place % size).toNat ++ letterL (shift + stride * k) ++ (word.drop (place % size + 1).toNat).take (size.toNat - (place % size + 1).toNat) := by
  unfold nameL; rw [if_neg h2, if_neg h1]
theorem nameL1 {style shift stride place size : Int} {word : List Nat} {k : Nat} (h1 : style = 1) : nameL style shift stride place size word k = word.take (1 + (k + place) % 8).toNat := by
  unfold nameL; rw [if_neg (by omega), if_pos h1]
theorem nameL2 {style shift stride place size : Int} {word : List Nat} {k : Nat} (h2 : style = 2) : nameL style shift stride place size word k = letterL (shift + stride * k) ++ (word.drop k).take ((k + (place + 3 * k) % 8).toNat - k) := by
  unfold nameL; rw [if_pos h2]
abbrev s_law_names : Stmt := top 10
theorem sc_law_names : FnScope ["_law_pool_here", "_law_style", "_law_shift", "_law_stride", "_law_place", "_law_size", "_law_word_here", "_law_names_here", "_law_k", "_law_letter", "_law_at", "_law_name"] ["_law_pool_here"] (defScope s_law_names) := ⟨rfl, rfl, rfl, by decide +kernel, rfl, by decide +kernel, by decide +kernel⟩
theorem ok_names {f : Addr} {fd : FuncData} (F : Fun K "_law_names" "_law_names" s_law_names f fd) (T : Bt mg) (dD : Df K mg "_law_draw" "_law_draw" s_law_draw ["_law_pool_here", "_law_many"]) (dW : Df K mg "_law_word" "_law_word" s_law_word ["_law_numbers"]) :
    FnOk P w K mg base CX0 2 f fd ["_law_pool_here"] spNames := by
  have GD : FnOk P w K mg base CX0 1 dD.f dD.fd _ spDraw := ok_draw dD.F T
  have GW : FnOk P w K mg base CX0 1 dW.f dW.fd _ (spWord K) := ok_word dW.F T
  refine F.ok sc_law_names (fun vs H Q E h => ?_) (fun cdv A outer s H vs Q E hr h => ?_)
  · obtain ⟨p, rfl, _⟩ := h
    rfl
  · obtain ⟨p, rfl, hp, k⟩ := h
    have hu := hr.units
    refine ⟨_, (pss_cons (ps_set (i := 1) sc_law_names.nd rfl (Or.inl rfl) (pe_cf dD GD hr pass0 (pa_cons (pv 0) (pa_cons pe_int pa_nil))))
  (pss_cons (ps_set (i := 2) sc_law_names.nd rfl (Or.inl rfl) (pe_cf dD GD hr pass0 (pa_cons (pv 0) (pa_cons pe_int pa_nil))))
  (pss_cons (ps_set (i := 3) sc_law_names.nd rfl (Or.inl rfl) (pe_op op_addA pe_int (pe_op op_mulA pe_int (pe_cf dD GD hr pass0 (pa_cons (pv 0) (pa_cons pe_int pa_nil))))))
  (pss_cons (ps_set (i := 4) sc_law_names.nd rfl (Or.inl rfl) (pe_cf dD GD hr pass0 (pa_cons (pv 0) (pa_cons pe_int pa_nil))))
  (pss_cons (ps_set (i := 5) sc_law_names.nd rfl (Or.inl rfl) (pe_op op_addA pe_int (pe_cf dD GD hr pass0 (pa_cons (pv 0) (pa_cons pe_int pa_nil)))))
  (pss_cons (ps_set (i := 6) sc_law_names.nd rfl (Or.inl rfl) (pe_cf dW GW hr pass0 (pa_cons (pe_lc (own := [("_law_k", 8)]) (g := gName 8) (tt := tYes) rfl sc_law_names.nd (pi_range1 rfl T.range (pa_cons pe_int pa_nil)) (blkOk_by (N := ["_law_pool_here", "_law_style", "_law_shift", "_law_stride", "_law_place", "_law_size", "_law_word_here", "_law_names_here", "_law_k", "_law_letter", "_law_at", "_law_name"]) (sc := defScope s_law_names) (by decide +kernel)) (fun _ _ _ _ _ => (pg_name (i := 8) sc_law_names.nd rfl (Or.inl rfl))) (fun _ _ _ _ _ => pts_nil) (fun _ _ _ _ _ => (pe_cf dD GD hr pass0 (pa_cons (pv 0) (pa_cons pe_int pa_nil))))) pa_nil)))
  (pss_cons (ps_set (i := 7) sc_law_names.nd rfl (Or.inl rfl) (pe_lst pa_nil))
  (pss_cons (ps_for PassesOwn.never rfl (pi_range1 rfl T.range (pa_cons pe_int pa_nil)) (pg_name (i := 8) sc_law_names.nd rfl (Or.inl rfl))
  (pss_cons (ps_set (i := 9) sc_law_names.nd rfl (Or.inl rfl) (pe_cf dW GW hr pass0 (pa_cons (pe_lst (pa_cons (pe_op op_addA (pv 2) (pe_op op_mulA (pv 3) (pv 8))) pa_nil)) pa_nil)))
  (pss_cons (ps_set (i := 10) sc_law_names.nd rfl (Or.inl rfl) (pe_op op_modI (pe_callTy call_intA (by rfl) T.int (by decide +kernel) (pa_cons (pv 4) pa_nil)) (pv 5)))
  (pss_cons (ps_set (i := 11) sc_law_names.nd rfl (Or.inl rfl) (pe_op op_addA (pe_op op_addA (pe_slice (ksl K) (pv 6) po_none (po_some (pv 10))) (pv 9)) (pe_slice (ksl K) (pv 6) (po_some (pe_op op_addA (pv 10) pe_int)) (po_some (pv 5)))))
  (pss_cons (ps_if (pt_cmpR (keq K hu) (pv 1) pe_int (nomark _)) (pss_one (ps_set (i := 11) sc_law_names.nd rfl (Or.inl rfl) (pe_slice (ksl K) (pv 6) po_none (po_some (pe_op op_addA pe_int (pe_op op_modI (pe_callTy call_intA (by rfl) T.int (by decide +kernel) (pa_cons (pe_op op_addA (pv 8) (pv 4)) pa_nil)) pe_int))))))
  pss_nil)
  (pss_cons (ps_if (pt_cmpR (keq K hu) (pv 1) pe_int (nomark _)) (pss_one (ps_set (i := 11) sc_law_names.nd rfl (Or.inl rfl) (pe_op op_addA (pv 9) (pe_slice (ksl K) (pv 6) (po_some (pv 8)) (po_some (pe_op op_addA (pv 8) (pe_op op_modI (pe_callTy call_intA (by rfl) T.int (by decide +kernel) (pa_cons (pe_op op_addA (pv 4) (pe_op op_mulA pe_int (pv 8))) pa_nil)) pe_int)))))))
  pss_nil)
  (pss_one (ps_expr (kapp K (pv 7) (pa_cons (pv 11) pa_nil))))))))))
  (pss_one (ps_ret (pv 7))))))))))), ?_⟩
    refine Rd.start_ (σ' := [some (.ref p), none, none, none, none, none, none, none, none, none, none, none]) rfl ?_
    walk_at "rd"
    refine ⟨_, _, rfl, by decide, by decide, hp, fun style H1 a1 b1 e1 p1 => ?_⟩
    walk_at "rd"
    refine ⟨_, _, rfl, by decide, by decide, p1, fun shift H2 a2 b2 e2 p2 => ?_⟩
    walk_at "rd"
    refine ⟨_, _, rfl, by decide, by decide, p2, fun d H3 a3 b3 e3 p3 => ?_⟩
    walk_at "rd"
    refine ⟨_, _, rfl, by decide, by decide, p3, fun place H4 a4 b4 e4 p4 => ?_⟩
    walk_at "rd"
    refine ⟨_, _, rfl, by decide, by decide, p4, fun sz H5 a5 b5 e5 p5 => ?_⟩
    have s5 : SameB p H H5 := fun a o n h => by rw [e5 a n, e4 a n, e3 a n, e2 a n, e1 a n]; exact h
    walk_at "rd"
    refine Rd.lcW Rd.wRange (by decide) (fun i acc H' => SameB p H5 H' ∧ PoolAt H' p ∧ ∃ ns : List Int, ns.length = i ∧ acc = ns.map V.int) ⟨SameB.refl _ _, p5, [], rfl, rfl⟩
      (fun D hD i acc ys H' ⟨j1, j2, j3⟩ => ⟨j1.upd hD, PoolAt.upd j2 (pool_ne p5 hD), j3⟩) (fun _ _ _ _ _ => trivial) ?_ ?_
    · intro D hD i x acc H' hi hx hacc hlen ⟨j1, j2, ns, j3, j4⟩ Kt Kf hT hF
      dsimp only [List.set]
      walk_at "rd"
      refine ⟨_, _, rfl, by decide, by decide, j2, fun r H6 r0 r1 e6 p6 => ?_⟩
      refine hT _ _ ?_ ⟨j1.trans (SameB.drawn e6), p6, ns ++ [r], by rw [List.length_append, j3]; rfl, by rw [j4, List.map_append]; rfl⟩
      rw [e6 D (Ne.symm (pool_ne p5 hD))]
      exact hacc
    intro D acc H6 hD hacc hlen ⟨j1, j2, ns, j3, j4⟩
    rw [j4] at hacc
    walk_at "rd"
    refine ⟨_, ns, rfl, SqL.of hacc, by rw [j3]; decide, fun H7 s7 => ?_⟩
    have wl : (wordL ns).length = 8 := by unfold wordL; rw [List.length_map]; exact j3
    have wc : ∀ c ∈ wordL ns, 97 ≤ c ∧ c ≤ 122 := by
      intro c hc
      obtain ⟨z, _, rfl⟩ := List.mem_map.mp hc
      have := Int.emod_lt_of_pos z (show (0 : Int) < 26 by decide)
      omega
    generalize wordL ns = word at wl wc ⊢
    have D8 : Drawn style shift (1 + 2 * d) place (1 + sz) word := ⟨⟨a2, b2⟩, ⟨d, a3, b3, rfl⟩, ⟨a4, b4⟩, ⟨by omega, by omega⟩, wl, wc⟩
    have s7' : SameB p H H7 := (s5.trans j1).trans (SameB.of s7)
    have p7 : PoolAt H7 p := pool_of j2 s7
    walk_at "rd"
    refine ⟨Nat.zero_le _, fun q hq => ?_⟩
    have hq0 : H q = none := by
      cases e : H q with
      | none => rfl
      | some o => rw [s7' q o (Ne.symm (pool_ne p7 hq)) e] at hq; cases hq
    have npq := pool_ne p7 hq
    walk_at "rd"
    refine Rd.foW Rd.wRange (fun i σ H' => ∃ a b c d' : Option V, σ = [some (.ref p), some (.int style), some (.int shift), some (.int (1 + 2 * d)), some (.int place), some (.int (1 + sz)), some (.str (S word)), some (.ref q), a, b, c, d'] ∧
      SameB p H H' ∧ PoolAt H' p ∧ NamesAt H' q ((List.range i).map (nameL style shift (1 + 2 * d) place (1 + sz) word)))
      ⟨none, none, none, none, rfl, s7'.upd hq0, p7.upd npq, upd_same⟩ (fun _ _ _ _ _ => trivial) ?_ ?_
    · rintro i x σ H8 hi hx ⟨a, b, c, d', rfl, t1, t2, t3⟩
      rw [Int.zero_add] at hx
      subst hx
      have hi8 : i < 8 := hi
      dsimp only [List.set]
      have fin : ∀ (z : List Nat) (σ' : St), (∃ a b c d' : Option V, σ' = [some (.ref p), some (.int style), some (.int shift), some (.int (1 + 2 * d)), some (.int place), some (.int (1 + sz)), some (.str (S word)), some (.ref q), a, b, c, d']) → ∀ H9, SameB p H H9 → PoolAt H9 p → H9 q = some (.lst (((List.range i).map (nameL style shift (1 + 2 * d) place (1 + sz) word)).map (fun l => V.str (S l)) ++ [.str (S z)])) → z = nameL style shift (1 + 2 * d) place (1 + sz) word i →
          ∃ a b c d' : Option V, σ' = [some (.ref p), some (.int style), some (.int shift), some (.int (1 + 2 * d)), some (.int place), some (.int (1 + sz)), some (.str (S word)), some (.ref q), a, b, c, d'] ∧
      SameB p H H9 ∧ PoolAt H9 p ∧ NamesAt H9 q ((List.range (i + 1)).map (nameL style shift (1 + 2 * d) place (1 + sz) word)) := by
        rintro z σ' ⟨a, b, c, d', e⟩ H9 q1 q2 q3 rfl
        refine ⟨a, b, c, d', e, q1, q2, ?_⟩
        unfold NamesAt
        rw [List.range_succ, List.map_append, List.map_append]
        exact q3
      walk_at "rd"
      refine ⟨by show 1 ≤ sizeLine; decide, fun l hl => ?_⟩
      walk_at "rd"
      refine ⟨_, [shift + (1 + 2 * d) * i], rfl, SqL.of upd_same, (by show 1 ≤ 100; decide), fun H9 s9 => ?_⟩
      have t1' : SameB p H H9 := (t1.trans (SameB.of (same_new hl))).trans (SameB.of s9)
      have t2' : PoolAt H9 p := pool_of (pool_of t2 (same_new hl)) s9
      have t3' : H9 q = some (.lst (((List.range i).map (nameL style shift (1 + 2 * d) place (1 + sz) word)).map (fun l => V.str (S l)))) := s9 _ _ (same_new hl _ _ t3)
      have g0 : 0 ≤ place % (1 + sz) := Int.emod_nonneg _ (by omega)
      have g1 : place % (1 + sz) < 1 + sz := Int.emod_lt_of_pos _ (by omega)
      have wl1 : word.length ≤ 900 := by omega
      have ll : (wordL [shift + (1 + 2 * d) * ↑i]).length = 1 := rfl
      have hq9 : (((List.range i).map (nameL style shift (1 + 2 * d) place (1 + sz) word)).map (fun l => V.str (S l))).length < sizeLine := by
        rw [List.length_map, List.length_map, List.length_range]
        exact Nat.lt_trans hi8 (by decide)
      have en : ∀ z : List Nat, SameB p H (upd H9 q (.lst (((List.range i).map (nameL style shift (1 + 2 * d) place (1 + sz) word)).map (fun l => V.str (S l)) ++ [.str (S z)]))) ∧ PoolAt (upd H9 q (.lst (((List.range i).map (nameL style shift (1 + 2 * d) place (1 + sz) word)).map (fun l => V.str (S l)) ++ [.str (S z)]))) p :=
        fun z => ⟨t1'.upd hq0, t2'.upd npq⟩
      walk_at "rd"
      refine Rd.iteD (fun c1 => ?_) (fun c1 => ?_)
      · walk_at "rd"
        refine Rd.iteD (fun c2 => absurd c2 (by omega)) (fun c2 => ?_)
        walk_at "rd"
        exact fin _ _ ⟨_, _, _, _, rfl⟩ _ (en _).1 (en _).2 upd_same (nameL1 c1).symm
      · walk_at "rd"
        refine Rd.iteD (fun c2 => ?_) (fun c2 => ?_)
        · walk_at "rd"
          exact fin _ _ ⟨_, _, _, _, rfl⟩ _ (en _).1 (en _).2 upd_same (nameL2 c2).symm
        · walk_at "rd"
          exact fin _ _ ⟨_, _, _, _, rfl⟩ _ (en _).1 (en _).2 upd_same (nameL0 c1 c2).symm
    · rintro σ H8 ⟨a, b, c, d', rfl, t1, t2, t3⟩
      walk_at "rd"
      exact k _ q H8 (by rw [List.length_map, List.length_range]) (fun l hl => by
        obtain ⟨j, hj, rfl⟩ := List.mem_map.mp hl
        exact name_ok D8 (List.mem_range.mp hj)) (names_nodup D8) hq0 t1 t2 t3

end
section
variable {P : Program} {w : World} {K : PySem.W.Frag} {mg : Str → Option Value} {base : Heap} {tk : Tok}
/-! ### formulas -/
open ND
inductive Fm where
  | st (g : List Nat) (n : Int)
  | fr (s : Int) (r : List Nat)
  | de (s : Int) (r : List Nat) (ns : List Int)
deriving DecidableEq
def startS : List Nat := [115, 116, 97, 114, 116]
def freshS : List Nat := [102, 114, 101, 115, 104]
def derivS : List Nat := [100, 101, 114, 105, 118, 101, 100]
/-- the formula stands at a -/
def FmAt (H : Hp) (a : Addr) : Fm → Prop
  | .st g n => ∃ p, H a = some (.tup [.str (S startS), .ref p]) ∧ H p = some (.tup [.str (S g), .int n])
  | .fr s r => H a = some (.tup [.str (S freshS), .int s, .str (S r)])
  | .de s r ns => ∃ p, H a = some (.tup [.str (S derivS), .int s, .str (S r), .ref p]) ∧ H p = some (.tup (ns.map V.int))
theorem FmAt.keep {H H' : Hp} {a : Addr} (e : ∀ b xs, H b = some (.tup xs) → H' b = some (.tup xs)) : ∀ {f : Fm}, FmAt H a f → FmAt H' a f
  | .st _ _, ⟨p, h1, h2⟩ => ⟨p, e _ _ h1, e _ _ h2⟩
  | .fr _ _, h => e _ _ h
  | .de _ _ _, ⟨p, h1, h2⟩ => ⟨p, e _ _ h1, e _ _ h2⟩
theorem FmAt.mono {H H' : Hp} {a : Addr} {f : Fm} (h : FmAt H a f) (e : Same H H') : FmAt H' a f := h.keep fun b xs z => e _ _ z
theorem FmAt.tup {H : Hp} {a : Addr} : ∀ {f : Fm}, FmAt H a f → ∃ xs, H a = some (.tup xs)
  | .st _ _, ⟨p, h1, h2⟩ => ⟨_, h1⟩
  | .fr _ _, h => ⟨_, h⟩
  | .de _ _ _, ⟨p, h1, h2⟩ => ⟨_, h1⟩
def Fm.key : Fm → NestedKey
  | .st g n => .tup [.text (S startS), .tup [.text (S g), .num n]]
  | .fr s r => .tup [.text (S freshS), .num s, .text (S r)]
  | .de s r ns => .tup [.text (S derivS), .num s, .text (S r), .tup (ns.map .num)]
theorem nk_nums (H : Hp) : ∀ ns : List Int, NkAll H (ns.map V.int) (ns.map .num)
  | [] => .nil
  | n :: ns => .cons (.int n) (nk_nums H ns)
theorem FmAt.nk {H : Hp} {a : Addr} : ∀ {f : Fm}, FmAt H a f → NkAt H (.ref a) f.key
  | .st _ _, ⟨p, h1, h2⟩ => .tup h1 (.cons (.str _) (.cons (.tup h2 (.cons (.str _) (.cons (.int _) .nil))) .nil))
  | .fr _ _, h => .tup h (.cons (.str _) (.cons (.int _) (.cons (.str _) .nil)))
  | .de _ _ ns, ⟨p, h1, h2⟩ => .tup h1 (.cons (.str _) (.cons (.int _) (.cons (.str _) (.cons (.tup h2 (nk_nums H ns)) .nil))))
theorem depth_nums : ∀ ns : List Int, NestedKey.depthAll (ns.map .num) = 0
  | [] => rfl
  | n :: ns => by
    show max 0 (NestedKey.depthAll (ns.map .num)) = 0
    rw [depth_nums ns]; rfl
theorem Fm.depth_le : ∀ f : Fm, f.key.depth ≤ 8
  | .st _ _ => by show 2 ≤ 8; decide
  | .fr _ _ => by show 1 ≤ 8; decide
  | .de _ _ ns => by
    show max 0 (max 0 (max 0 (max (NestedKey.depthAll (ns.map .num) + 1) 0))) + 1 ≤ 8
    rw [depth_nums]; decide
theorem S_eq {a b : List Nat} (h : S a = S b) : a = b := SX.S_inj h
theorem nums_inj : ∀ {xs ys : List Int}, xs.map NestedKey.num = ys.map NestedKey.num → xs = ys
  | [], [], _ => rfl
  | [], _ :: _, h => by cases h
  | _ :: _, [], h => by cases h
  | x :: xs, y :: ys, h => by
    rw [List.map_cons, List.map_cons, List.cons.injEq, NestedKey.num.injEq] at h
    rw [h.1, nums_inj h.2]
theorem startS_ne1 : S startS ≠ S freshS := by decide +kernel
theorem startS_ne2 : S startS ≠ S derivS := by decide +kernel
theorem freshS_ne : S freshS ≠ S derivS := by decide +kernel
theorem Fm.key_inj : ∀ {f g : Fm}, f.key = g.key → f = g := by
  intro f g h
  cases f <;> cases g <;> simp only [Fm.key, NestedKey.tup.injEq, List.cons.injEq, NestedKey.text.injEq, NestedKey.num.injEq, and_true, reduceCtorEq, and_false, false_and] at h
  · obtain ⟨_, h1, h2⟩ := h
    rw [S_eq h1, h2]
  · obtain ⟨_, h1, h2⟩ := h
    rw [h1, S_eq h2]
  · obtain ⟨_, h1, h2, h3⟩ := h
    rw [h1, S_eq h2, nums_inj h3]
/-- as data -/
def Fm.dat : Fm → PyData
  | .st g n => .tuple [.str (S startS), .tuple [.str (S g), .int n]]
  | .fr s r => .tuple [.str (S freshS), .int s, .str (S r)]
  | .de s r ns => .tuple [.str (S derivS), .int s, .str (S r), .tuple (ns.map .int)]
theorem dp_nums (H : Hp) : ∀ ns : List Int, DpAll K H (ns.map V.int) (ns.map .int)
  | [] => .nil
  | n :: ns => .cons (.int n) (dp_nums H ns)
theorem FmAt.dp {H : Hp} {a : Addr} : ∀ {f : Fm}, FmAt H a f → Dp K H (.ref a) f.dat
  | .st _ _, ⟨p, h1, h2⟩ => .tup (SqT.of h1) (.cons (.str _) (.cons (.tup (SqT.of h2) (.cons (.str _) (.cons (.int _) .nil))) .nil))
  | .fr _ _, h => .tup (SqT.of h) (.cons (.str _) (.cons (.int _) (.cons (.str _) .nil)))
  | .de _ _ ns, ⟨p, h1, h2⟩ => .tup (SqT.of h1) (.cons (.str _) (.cons (.int _) (.cons (.str _) (.cons (.tup (SqT.of h2) (dp_nums H ns)) .nil))))
def Fm.ok : Fm → Prop
  | .st g _ => Nm g
  | .fr _ r => Nm r
  | .de _ r _ => Nm r
theorem ok_S {l : List Nat} (h : Nm l) : okV (.str (S l)) = true := by
  show l.toArray.all (· < 0x110000) = true
  rw [List.all_toArray]
  exact List.all_eq_true.mpr fun c hc => decide_eq_true (by have := h.2.2 c hc; omega)
theorem can_nums : ∀ ns : List Int, PyData.canLayAll0 (ns.map .int) = true
  | [] => rfl
  | n :: ns => by
    show (PyData.canLay0 (.int n) && PyData.canLayAll0 (ns.map .int)) = true
    rw [can_nums ns]; rfl
theorem depth_ints : ∀ ns : List Int, PyData.depthAll (ns.map .int) = 0
  | [] => rfl
  | n :: ns => by
    show max 0 (PyData.depthAll (ns.map .int)) = 0
    rw [depth_ints ns]; rfl
theorem can_str {l : List Nat} (h : Nm l) : PyData.canLay0 (.str (S l)) = true := ok_S h
theorem Fm.can : ∀ {f : Fm}, f.ok → PyData.canLay0 f.dat = true
  | .st g n, h => by
    show (PyData.canLay0 (.str (S startS)) && ((PyData.canLay0 (.str (S g)) && (PyData.canLay0 (.int n) && true)) && true)) = true
    rw [can_str h, show PyData.canLay0 (.str (S startS)) = true by decide +kernel]; rfl
  | .fr s r, h => by
    show (PyData.canLay0 (.str (S freshS)) && (PyData.canLay0 (.int s) && (PyData.canLay0 (.str (S r)) && true))) = true
    rw [can_str h, show PyData.canLay0 (.str (S freshS)) = true by decide +kernel]; rfl
  | .de s r ns, h => by
    show (PyData.canLay0 (.str (S derivS)) && (PyData.canLay0 (.int s) && (PyData.canLay0 (.str (S r)) && (PyData.canLayAll0 (ns.map .int) && true)))) = true
    rw [can_str h, can_nums, show PyData.canLay0 (.str (S derivS)) = true by decide +kernel]; rfl
theorem Fm.dat_depth : ∀ f : Fm, PyData.depth f.dat ≤ 2
  | .st _ _ => by show 2 ≤ 2; decide
  | .fr _ _ => by show 1 ≤ 2; decide
  | .de _ _ ns => by
    show max 0 (max 0 (max 0 (max (PyData.depthAll (ns.map .int) + 1) 0))) + 1 ≤ 2
    rw [depth_ints]; decide
theorem Fm.sh {f : Fm} (h : f.ok) : SeqAt.shaped f.dat = true := by
  show (PyData.canLay0 f.dat && decide (PyData.depth f.dat ≤ 64)) = true
  have := f.dat_depth
  rw [f.can h, Bool.true_and]
  exact decide_eq_true (by omega)
theorem fms_can : ∀ {fs : List Fm}, (∀ f ∈ fs, f.ok) → PyData.canLayAll0 (fs.map Fm.dat) = true
  | [], _ => rfl
  | f :: fs, h => by
    show (PyData.canLay0 f.dat && PyData.canLayAll0 (fs.map Fm.dat)) = true
    rw [f.can (h f List.mem_cons_self), fms_can fun x hx => h x (List.mem_cons_of_mem _ hx)]; rfl
theorem fms_depth : ∀ fs : List Fm, PyData.depthAll (fs.map Fm.dat) ≤ 2
  | [] => Nat.zero_le _
  | f :: fs => by
    show max (PyData.depth f.dat) (PyData.depthAll (fs.map Fm.dat)) ≤ 2
    exact Nat.max_le.mpr ⟨f.dat_depth, fms_depth fs⟩
theorem fms_sh {fs : List Fm} (h : ∀ f ∈ fs, f.ok) : SeqAt.shaped (.list (fs.map Fm.dat)) = true := by
  show (PyData.canLayAll0 (fs.map Fm.dat) && decide (PyData.depthAll (fs.map Fm.dat) + 1 ≤ 64)) = true
  have := fms_depth fs
  rw [fms_can h, Bool.true_and]
  exact decide_eq_true (by omega)
theorem eqv_nums : ∀ {xs ys : List Int}, PyData.eqvAll (xs.map .int) (ys.map .int) = true → xs = ys
  | [], [], _ => rfl
  | [], _ :: _, h => by cases h
  | _ :: _, [], h => by cases h
  | x :: xs, y :: ys, h => by
    have h' : ((x == y) && PyData.eqvAll (xs.map .int) (ys.map .int)) = true := h
    rw [Bool.and_eq_true] at h'
    rw [eq_of_beq h'.1, eqv_nums h'.2]
theorem Fm.eqv_of {f g : Fm} (h : PyData.eqv f.dat g.dat = true) : f = g := by
  cases f <;> cases g <;> simp only [Fm.dat, PyData.eqv, PyData.eqvAll, Bool.and_eq_true, Bool.and_true, beq_iff_eq] at h
  · obtain ⟨_, h1, h2⟩ := h
    rw [S_eq h1, h2]
  · exact absurd h.1 startS_ne1
  · exact absurd h.1 startS_ne2
  · exact absurd h.1.symm startS_ne1
  · obtain ⟨_, h1, h2⟩ := h
    rw [h1, S_eq h2]
  · exact absurd h.1 freshS_ne
  · exact absurd h.1.symm startS_ne2
  · exact absurd h.1.symm freshS_ne
  · obtain ⟨_, h1, h2, h3⟩ := h
    rw [h1, S_eq h2, eqv_nums h3]
theorem Fm.eqv {f g : Fm} (h : f.ok) : PyData.eqv f.dat g.dat = decide (f = g) := by
  by_cases e : f = g
  · subst e
    rw [decide_eq_true rfl]
    exact SeqAt.eqv_refl _ (f.can h)
  · rw [decide_eq_false e]
    exact Bool.eq_false_iff.mpr fun z => e (Fm.eqv_of z)
theorem fms_any {fs : List Fm} {f : Fm} (h : ∀ g ∈ fs, g.ok) : ((fs.map Fm.dat).any fun z => PyData.eqv z f.dat) = decide (f ∈ fs) := by
  induction fs with
  | nil => rfl
  | cons g fs ih =>
    rw [List.map_cons, List.any_cons, ih fun x hx => h x (List.mem_cons_of_mem _ hx), Fm.eqv (h g List.mem_cons_self)]
    by_cases e : g = f
    · subst e; simp
    · have e' : ¬ f = g := fun z => e z.symm
      simp [e, e']
abbrev Kn := Addr × Fm
abbrev frefs (xs : List Kn) : List V := xs.map fun q => V.ref q.1
def KnsOk (H : Hp) (xs : List Kn) : Prop := ∀ q ∈ xs, FmAt H q.1 q.2
theorem KnsOk.keep {H H' : Hp} {xs : List Kn} (h : KnsOk H xs) (e : ∀ b ys, H b = some (.tup ys) → H' b = some (.tup ys)) : KnsOk H' xs := fun q hq => (h q hq).keep e
theorem KnsOk.mono {H H' : Hp} {xs : List Kn} (h : KnsOk H xs) (e : Same H H') : KnsOk H' xs := h.keep fun b ys z => e _ _ z
theorem kns_dp {H : Hp} : ∀ {xs : List Kn}, KnsOk H xs → DpAll K H (frefs xs) ((xs.map (·.2)).map Fm.dat)
  | [], _ => .nil
  | q :: xs, h => .cons (h q List.mem_cons_self).dp (kns_dp fun x hx => h x (List.mem_cons_of_mem _ hx))
def rowsAt : Nat → List Kn → List Row
  | _, [] => []
  | i, q :: xs => (q.2.key, q.1, .int (i : Nat)) :: rowsAt (i + 1) xs
theorem rows_len : ∀ (i : Nat) (xs : List Kn), (rowsAt i xs).length = xs.length
  | _, [] => rfl
  | i, q :: xs => congrArg (· + 1) (rows_len (i + 1) xs)
theorem rows_keys : ∀ (i : Nat) (xs : List Kn), (rowsAt i xs).map (·.1) = (xs.map (·.2)).map Fm.key
  | _, [] => rfl
  | i, q :: xs => by
    show q.2.key :: (rowsAt (i + 1) xs).map (·.1) = q.2.key :: _
    rw [rows_keys (i + 1) xs]
theorem rows_app : ∀ (i : Nat) (xs : List Kn) (q : Kn), rowsAt i (xs ++ [q]) = rowsAt i xs ++ [(q.2.key, q.1, .int ((i + xs.length : Nat) : Int))]
  | i, [], q => rfl
  | i, x :: xs, q => by
    show _ :: rowsAt (i + 1) (xs ++ [q]) = _ :: _
    rw [rows_app (i + 1) xs q]
    have e : i + 1 + xs.length = i + (x :: xs).length := by rw [List.length_cons]; omega
    rw [e]
    rfl
theorem keys_nodup : ∀ {fs : List Fm}, fs.Nodup → (fs.map Fm.key).Nodup := fun h => List.pairwise_map.mpr (h.imp fun hab e => hab (Fm.key_inj e))
theorem at_none {f : Fm} : ∀ (i : Nat) {xs : List Kn}, (∀ q ∈ xs, q.2 ≠ f) → atN (rowsAt i xs) f.key = none
  | _, [], _ => rfl
  | i, q :: xs, h => by
    have h1 : ¬ q.2.key = f.key := fun e => h q List.mem_cons_self (Fm.key_inj e)
    have ih := at_none (i + 1) fun x hx => h x (List.mem_cons_of_mem _ hx)
    unfold atN at ih ⊢
    show Option.map _ (List.find? _ ((q.2.key, q.1, V.int (i : Nat)) :: rowsAt (i + 1) xs)) = none
    rw [List.find?_cons, decide_eq_false h1]
    exact ih
theorem at_some {f : Fm} {a : Addr} : ∀ (i : Nat) {xs : List Kn} {j : Nat}, (xs.map (·.2)).Nodup → xs[j]? = some (a, f) → atN (rowsAt i xs) f.key = some (.int ((i + j : Nat) : Int))
  | _, [], _, _, h => by simp at h
  | i, q :: xs, 0, _, h => by
    have e : q = (a, f) := Option.some.inj h
    subst e
    unfold atN
    show Option.map _ (List.find? _ ((f.key, a, V.int (i : Nat)) :: rowsAt (i + 1) xs)) = _
    rw [List.find?_cons, decide_eq_true rfl]
    rfl
  | i, q :: xs, j + 1, nd, h => by
    rw [List.map_cons, List.nodup_cons] at nd
    have hm : (a, f) ∈ xs := List.mem_of_getElem? (show xs[j]? = some (a, f) from h)
    have h1 : ¬ q.2.key = f.key := fun e => nd.1 (by rw [Fm.key_inj e]; exact List.mem_map.mpr ⟨_, hm, rfl⟩)
    have ih := at_some (i + 1) (xs := xs) (j := j) nd.2 h
    unfold atN at ih ⊢
    show Option.map _ (List.find? _ ((q.2.key, q.1, V.int (i : Nat)) :: rowsAt (i + 1) xs)) = _
    rw [List.find?_cons, decide_eq_false h1]
    refine ih.trans ?_
    have e : i + 1 + j = i + (j + 1) := by omega
    rw [e]
theorem rows_ok {H : Hp} : ∀ (i : Nat) {xs : List Kn}, KnsOk H xs → ∀ p ∈ rowsAt i xs, NkAt H (.ref p.2.1) p.1 ∧ p.1.depth ≤ 8
  | _, [], _, _, hp => absurd hp List.not_mem_nil
  | i, q :: xs, h, p, hp => by
    rcases List.mem_cons.mp (show p ∈ (q.2.key, q.1, V.int (i : Nat)) :: rowsAt (i + 1) xs from hp) with e | hp
    · rw [e]; exact ⟨(h q List.mem_cons_self).nk, q.2.depth_le⟩
    · exact rows_ok (i + 1) (fun x hx => h x (List.mem_cons_of_mem _ hx)) p hp
theorem rowsOk {H : Hp} {xs : List Kn} (h : KnsOk H xs) (nd : (xs.map (·.2)).Nodup) : RowsOk H (rowsAt 0 xs) := ⟨rows_ok 0 h, by rw [rows_keys]; exact keys_nodup nd⟩
theorem put_new {xs : List Kn} {f : Fm} {b : Addr} (h : ∀ q ∈ xs, q.2 ≠ f) : putN (rowsAt 0 xs) f.key b (.int (xs.length : Nat)) = rowsAt 0 (xs ++ [(b, f)]) := by
  unfold putN
  rw [at_none 0 h, rows_app, Nat.zero_add]
  rfl

end
section
variable {P : Program} {w : World} {K : PySem.W.Frag} {mg : Str → Option Value} {base : Heap} {tk : Tok}
/-! ### a table of formulas -/
open ND
abbrev s_BadFormula___init : Stmt := inClass (top 2) 0
theorem sc_BadFormula___init : FnScope ["self", "number"] ["self", "number"] (defScope s_BadFormula___init) := ⟨rfl, rfl, rfl, by decide +kernel, rfl, by decide +kernel, by decide +kernel⟩
abbrev ErF (K : PySem.W.Frag) (mg : Str → Option Value) := Er K mg "BadFormula" "BadFormula.__init__" "number" s_BadFormula___init
theorem ok_bfi (r : ErF K mg) : FnOk P w K mg base CX0 1 r.f r.fd ["self", "number"] (spErI r.C "number") := by
  refine r.F.ok sc_BadFormula___init (fun vs H Q E h => ?_) (fun cdv A outer s H vs Q E hr h => ?_)
  · obtain ⟨a, v, rfl, _⟩ := h
    rfl
  · obtain ⟨a, v, rfl, ha, k⟩ := h
    refine ⟨_, (pss_one (kost K (pv 0) (pv 1))), ?_⟩
    refine Rd.start_ (σ' := [some (.ref a), some v]) rfl ?_
    walk_at "rd"
    exact ⟨a, r.C, rfl, r.T, r.no, .inl ⟨ha, k⟩⟩
/-- an error of the class at C with one field -/
def Raised (E : XK) (C : Addr) (fld : Str) (v : V) (H : Hp) : Prop := ∀ d H', Same H H' → H' d = some (.xd [(fld, v)]) → E (.ref C) (some d) H'
theorem Raised.mono {E : XK} {C : Addr} {fld : Str} {v : V} {H H' : Hp} (h : Raised E C fld v H) (e : Same H H') : Raised E C fld v H' := fun d G s q => h d G (e.trans s) q
structure Cn (K : PySem.W.Frag) (mg : Str → Option Value) (mC : Addr) where
  C : Addr
  g : mg "Contents" = some (.ref C)
  cl : Cls K C
  M : Mk K C mC
  nF : NoAttr K C "formulas"
  nP : NoAttr K C "places"
def ctf (l d : Addr) : List (Str × V) := [("formulas", .ref l), ("places", .ref d)]
theorem ctf_f (l d : Addr) : (ctf l d).lookup ("formulas" : Str) = some (.ref l) := by
  unfold ctf; simp [List.lookup]
theorem ctf_p (l d : Addr) : (ctf l d).lookup ("places" : Str) = some (.ref d) := by
  have e : (("places" : Str) == "formulas") = false := by decide +kernel
  unfold ctf; simp [List.lookup, e]
theorem ctf_no (l d : Addr) {m : Str} (h1 : (m == ("formulas" : Str)) = false) (h2 : (m == ("places" : Str)) = false) : (ctf l d).lookup m = none := by
  unfold ctf; simp [List.lookup, h1, h2]
theorem fp_ne : ¬ (("formulas" : Str) = "places") := by decide +kernel
theorem ctf_put (l d : Addr) : putF "places" (.ref d) (putF "formulas" (.ref l) []) = ctf l d := by
  show (if ("formulas" : Str) = "places" then [(("formulas" : Str), V.ref d)] else (("formulas" : Str), V.ref l) :: putF "places" (V.ref d) []) = ctf l d
  rw [if_neg fp_ne]
  rfl
/-- the table at p: its list at l, its dict at d, the formulas xs -/
structure CtAt (P : Program) (w : World) (C : Addr) (H : Hp) (p l d : Addr) (xs : List Kn) : Prop where
  ins : ∃ dx, H p = some (.ins C dx (ctf l d))
  lst : H l = some (.lst (frefs xs))
  dct : H d = some (DctO P w d (rowsAt 0 xs))
  ok : KnsOk H xs
  nd : (xs.map (·.2)).Nodup
theorem CtAt.keep {C : Addr} {H H' : Hp} {p l d : Addr} {xs : List Kn} (h : CtAt P w C H p l d xs) (e1 : ∀ o, H p = some o → H' p = some o) (e2 : ∀ o, H l = some o → H' l = some o) (e3 : ∀ o, H d = some o → H' d = some o) (e4 : ∀ b ys, H b = some (.tup ys) → H' b = some (.tup ys)) : CtAt P w C H' p l d xs := by
  obtain ⟨dx, h1⟩ := h.ins
  exact ⟨⟨dx, e1 _ h1⟩, e2 _ h.lst, e3 _ h.dct, h.ok.keep e4, h.nd⟩
theorem CtAt.mono {C : Addr} {H H' : Hp} {p l d : Addr} {xs : List Kn} (h : CtAt P w C H p l d xs) (e : Same H H') : CtAt P w C H' p l d xs := h.keep (fun o => e _ _) (fun o => e _ _) (fun o => e _ _) (fun b ys => e _ _)
def spCtI (P : Program) (w : World) : Sp := fun vs H Q _ => ∃ (p C dx : Addr), vs = [.ref p] ∧ Cls K C ∧ NoAttr K C "formulas" ∧ NoAttr K C "places" ∧ H p = some (.ins C dx []) ∧ ∀ H' l d, SameB p H H' → H l = none → H d = none → CtAt P w C H' p l d [] → Q .non H'
abbrev s_Contents___init : Stmt := inClass (top 6) 0
theorem sc_Contents___init : FnScope ["self"] ["self"] (defScope s_Contents___init) := ⟨rfl, rfl, rfl, by decide +kernel, rfl, by decide +kernel, by decide +kernel⟩
abbrev MCi (K : PySem.W.Frag) := Mf K "__init__" "Contents.__init__" s_Contents___init ["self"]
theorem ok_cti (m : MCi K) (T : Bt mg) : FnOk P w K mg base CX0 1 m.f m.fd ["self"] (spCtI (K := K) P w) := by
  refine m.F.ok sc_Contents___init (fun vs H Q E h => ?_) (fun cdv A outer s H vs Q E hr h => ?_)
  · obtain ⟨p, C, dx, rfl, _⟩ := h
    rfl
  · obtain ⟨p, C, dx, rfl, cl, nF, nP, hp, k⟩ := h
    refine ⟨_, (pss_cons (kset (pv 0) (pe_lst pa_nil))
  (pss_one (kset (pv 0) (ND.kdnew P w)))), ?_⟩
    refine Rd.start_ (σ' := [some (.ref p)]) rfl ?_
    walk_at "rd"
    refine ⟨by show 0 ≤ sizeLine; decide, fun l hl => ?_⟩
    have npl : p ≠ l := ne_of_none hp hl
    walk_at "rd"
    refine ⟨p, C, dx, [], rfl, by rw [upd_ne npl]; exact hp, cl, nF, by decide, ?_⟩
    walk_at "rd"
    intro d hd
    have ndp : d ≠ p := fun z => by rw [z, upd_same] at hd; cases hd
    have hd1 : upd H l (.lst []) d = none := by rw [upd_ne ndp] at hd; exact hd
    have ndl : d ≠ l := fun z => by rw [z, upd_same] at hd1; cases hd1
    have hd0 : H d = none := by rw [upd_ne ndl] at hd1; exact hd1
    walk_at "rd"
    refine ⟨p, C, dx, _, rfl, by rw [upd_ne (Ne.symm ndp)]; exact upd_same, cl, nP, by show 1 < 1000; decide, ?_⟩
    refine k _ l d (fun b o nb hb => ?_) hl hd0 ⟨⟨dx, ?_⟩, ?_, ?_, fun q hq => absurd hq List.not_mem_nil, List.nodup_nil⟩
    · rw [upd_ne nb, upd_ne (ne_of_none hb hd0), upd_ne nb, upd_ne (ne_of_none hb hl)]
      exact hb
    · rw [upd_same, ctf_put]
    · rw [upd_ne (Ne.symm npl), upd_ne (Ne.symm ndl), upd_ne (Ne.symm npl), upd_same]
      rfl
    · rw [upd_ne ndp, upd_same]
      rfl
def spCtL (C : Addr) : Sp := fun vs H Q _ => ∃ (p l d : Addr) (xs : List Kn) (P : Program) (w : World), vs = [.ref p] ∧ CtAt P w C H p l d xs ∧ Q (.int (xs.length : Nat)) H
abbrev s_Contents___len : Stmt := inClass (top 6) 1
theorem sc_Contents___len : FnScope ["self"] ["self"] (defScope s_Contents___len) := ⟨rfl, rfl, rfl, by decide +kernel, rfl, by decide +kernel, by decide +kernel⟩
abbrev MCl (K : PySem.W.Frag) := Mf K "__len__" "Contents.__len__" s_Contents___len ["self"]
theorem ok_ctl {mC : Addr} (m : MCl K) (T : Bt mg) (cc : Cn K mg mC) : FnOk P w K mg base CX0 1 m.f m.fd ["self"] (spCtL cc.C) := by
  refine m.F.ok sc_Contents___len (fun vs H Q E h => ?_) (fun cdv A outer s H vs Q E hr h => ?_)
  · obtain ⟨p, l, d, xs, _, _, rfl, _⟩ := h
    rfl
  · obtain ⟨p, l, d, xs, _, _, rfl, hc, k⟩ := h
    obtain ⟨dx, hp⟩ := hc.ins
    have hl := hc.lst
    have le : (frefs xs).length = xs.length := List.length_map ..
    refine ⟨_, (pss_one (ps_ret (pe_callB (klen K) (by rfl) T.len (by decide +kernel) (pa_cons (kfld K (pv 0)) pa_nil)))), ?_⟩
    refine Rd.start_ (σ' := [some (.ref p)]) rfl ?_
    walk_at "rd"
    refine ⟨p, cc.C, dx, _, _, rfl, hp, cc.cl, cc.nF, ctf_f _ _, ?_⟩
    walk_at "rd"
    rw [le]
    exact k
/-- whether the table has a formula with this number -/
def hasN (m : Nat) (n : Int) : Prop := 0 ≤ n ∧ n < m
instance (m : Nat) (n : Int) : Decidable (hasN m n) := by unfold hasN; infer_instance
def spReqN (C eF : Addr) : Sp := fun vs H Q E => ∃ (p l d : Addr) (n : Int) (xs : List Kn) (P : Program) (w : World), vs = [.ref p, .int n] ∧ CtAt P w C H p l d xs ∧ (hasN xs.length n → Q .non H) ∧ (¬ hasN xs.length n → Raised E eF "number" (.int n) H)
abbrev s_Contents_require_number : Stmt := inClass (top 6) 3
theorem sc_Contents_require_number : FnScope ["self", "number"] ["self", "number"] (defScope s_Contents_require_number) := ⟨rfl, rfl, rfl, by decide +kernel, rfl, by decide +kernel, by decide +kernel⟩
abbrev MRn (K : PySem.W.Frag) := Mf K "require_number" "Contents.require_number" s_Contents_require_number ["self", "number"]
theorem ok_reqn {mC : Addr} (m : MRn K) (T : Bt mg) (cc : Cn K mg mC) (eF : ErF K mg) : FnOk P w K mg base (L2.CX P w) 3 m.f m.fd ["self", "number"] (spReqN cc.C eF.C) := by
  have GF : FnOk P w K mg base CX0 1 eF.f eF.fd _ (spErI eF.C "number") := ok_bfi eF
  refine m.F.okX sc_Contents_require_number (fun vs H Q E h => ?_) (fun cdv A outer s H vs Q E hr h => ?_)
  · obtain ⟨p, l, d, n, xs, _, _, rfl, _⟩ := h
    rfl
  · obtain ⟨p, l, d, n, xs, _, _, rfl, hc, k1, k2⟩ := h
    obtain ⟨dx, hp⟩ := hc.ins
    have hl := hc.lst
    have le : (frefs xs).length = xs.length := List.length_map ..
    have go : ¬ hasN xs.length n → ∀ d, H d = none → E (.ref eF.C) (some d) (upd H d (.xd [("number", .int n)])) := fun h d hd => k2 h d _ (same_new hd) upd_same
    refine ⟨_, (pss_one (ps_if (pt_not (pt_chain op_leA op_ltA pe_int (pv 1) (pe_callB (klen K) (by rfl) T.len (by decide +kernel) (pa_cons (kfld K (pv 0)) pa_nil)))) (pss_one (ps_raise rfl (takes_of rfl rfl rfl rfl) (pmk_er eF GF hr (pa_cons (pv 1) pa_nil))))
  pss_nil)), ?_⟩
    refine Rd.start_ (σ' := [some (.ref p), some (.int n)]) rfl ?_
    walk_at "rd"
    refine Rd.iteD (fun c1 => ?_) (fun c1 => ?_)
    · walk_at "rd"
      refine ⟨p, cc.C, dx, _, _, rfl, hp, cc.cl, cc.nF, ctf_f _ _, ?_⟩
      walk_at "rd"
      rw [le]
      refine Rd.iteN (fun c2 => ?_) (fun c2 => ?_)
      · walk_at "rd"
        exact Rd.erGo (go fun z => c2 z.2)
      · walk_at "rd"
        exact k1 ⟨c1, c2⟩
    · walk_at "rd"
      exact Rd.erGo (go fun z => c1 z.1)
def Fm.nums : Fm → List Int
  | .de _ _ ns => ns
  | _ => []
/-- the first number that a table of m formulas does not have -/
def badN (m : Nat) (f : Fm) : Option Int := f.nums.find? fun n => !decide (hasN m n)
theorem find_first {m : Nat} {ns : List Int} {i : Nat} {n : Int} (h : ∀ x ∈ ns.take i, hasN m x) (hn : ns[i]? = some n) (hb : ¬ hasN m n) : ns.find? (fun n => !decide (hasN m n)) = some n := by
  induction ns generalizing i with
  | nil => simp at hn
  | cons x ns ih =>
    cases i with
    | zero =>
      have e : x = n := Option.some.inj hn
      subst e
      rw [List.find?_cons, decide_eq_false hb]; rfl
    | succ i =>
      have hx := h x (by rw [List.take_succ_cons]; exact List.mem_cons_self)
      rw [List.find?_cons, decide_eq_true hx]
      exact ih (fun y hy => h y (by rw [List.take_succ_cons]; exact List.mem_cons_of_mem _ hy)) hn
def spNum (P : Program) (w : World) (C eF : Addr) : Sp := fun vs H Q E => ∃ (p l d b : Addr) (f : Fm) (xs : List Kn), vs = [.ref p, .ref b] ∧ CtAt P w C H p l d xs ∧ FmAt H b f ∧ xs.length ≤ 1000 ∧
  (∀ n, badN xs.length f = some n → Raised E eF "number" (.int n) H) ∧ (badN xs.length f = none → (∀ j a, xs[j]? = some (a, f) → Q (.int (j : Nat)) H) ∧
    ((∀ q ∈ xs, q.2 ≠ f) → ∀ H', (∀ a, a ≠ l → a ≠ d → H' a = H a) → CtAt P w C H' p l d (xs ++ [(b, f)]) → Q (.int (xs.length : Nat)) H'))
abbrev s_Contents_number_of : Stmt := inClass (top 6) 2
theorem sc_Contents_number_of : FnScope ["self", "formula", "number"] ["self", "formula"] (defScope s_Contents_number_of) := ⟨rfl, rfl, rfl, by decide +kernel, rfl, by decide +kernel, by decide +kernel⟩
abbrev MNo (K : PySem.W.Frag) := Mf K "number_of" "Contents.number_of" s_Contents_number_of ["self", "formula"]
theorem ok_num {mC : Addr} (m : MNo K) (T : Bt mg) (cc : Cn K mg mC) (eF : ErF K mg) (mR : MRn K) (hR : Meth K cc.C "require_number" mR.f) : FnOk P w K mg base (L2.CX P w) 4 m.f m.fd ["self", "formula"] (spNum P w cc.C eF.C) := by
  have GR : FnOk P w K mg base (L2.CX P w) 3 mR.f mR.fd _ (spReqN cc.C eF.C) := ok_reqn mR T cc eF
  refine m.F.okX sc_Contents_number_of (fun vs H Q E h => ?_) (fun cdv A outer s H vs Q E hr h => ?_)
  · obtain ⟨p, l, d, b, f, xs, rfl, _⟩ := h
    rfl
  · obtain ⟨p, l, d, b, f, xs, rfl, hc, hf, h1000, k1, k2⟩ := h
    obtain ⟨dx, hp⟩ := hc.ins
    have hl := hc.lst
    have hdc := hc.dct
    have hu := hr.units
    have le : (frefs xs).length = xs.length := List.length_map ..
    have rok := rowsOk hc.ok hc.nd
    refine ⟨_, (pss_cons (ps_if (pt_cmpR (keq K hu) (pe_ix (kix K) (pv 1) pe_int (fun _ _ => rfl)) (pe_lit [100, 101, 114, 105, 118, 101, 100] (by decide +kernel)) (nomark _)) (pss_one (ps_for (passes_of rfl) rfl (kpt K (pe_ix (kix K) (pv 1) pe_int (fun _ _ => rfl))) (pg_name (i := 2) sc_Contents_number_of.nd rfl (Or.inl rfl))
  (pss_one (ps_expr (pe_mA (pv 0) cc.cl mR hR GR hr (passes_call (takes_of rfl rfl rfl rfl) (fun _ _ _ _ h => h)) (pa_cons (pv 2) pa_nil))))))
  pss_nil)
  (pss_cons (ps_if (pt_cmpR (ND.knnot P w hu) (pv 1) (kfld K (pv 0)) rfl) (pss_cons (ps_asg (pe_callB (klen K) (by rfl) T.len (by decide +kernel) (pa_cons (kfld K (pv 0)) pa_nil)) (pg_sub (kfld K (pv 0)) (pv 1) (ND.knput P w hu)))
  (pss_one (ps_expr (kapp K (kfld K (pv 0)) (pa_cons (pv 1) pa_nil)))))
  pss_nil)
  (pss_one (ps_ret (pe_ix (ND.knget P w hu) (kfld K (pv 0)) (pv 1) (fun _ _ => rfl)))))), ?_⟩
    refine Rd.start_ (σ' := [some (.ref p), some (.ref b), none]) rfl ?_
    refine Rd.seq ?_
    refine Rd.mid (fun σ H' => H' = H ∧ badN xs.length f = none ∧ ∃ o, σ = [some (.ref p), some (.ref b), o]) ?_ ?_
    · rintro σ H' ⟨rfl, hb, o, rfl⟩
      obtain ⟨k3, k4⟩ := k2 hb
      walk_at "rd"
      refine ⟨p, cc.C, dx, _, _, rfl, hp, cc.cl, cc.nP, ctf_p _ _, ?_⟩
      refine ⟨d, b, _, f.key, rfl, rfl, hdc, rok, hf.nk, f.depth_le, ?_⟩
      by_cases hm : ∃ q ∈ xs, q.2 = f
      · obtain ⟨⟨a, g⟩, hq, e⟩ := hm
        obtain ⟨j, hj⟩ := List.mem_iff_getElem?.mp hq
        have e' : g = f := e
        subst e'
        have ea := at_some 0 hc.nd hj
        rw [ea]
        walk_at "rd"
        refine ⟨p, cc.C, dx, _, _, rfl, hp, cc.cl, cc.nP, ctf_p _ _, ?_⟩
        walk_at "rd"
        refine ⟨d, b, _, g.key, _, rfl, rfl, hdc, rok, hf.nk, g.depth_le, ea, ?_⟩
        rw [Nat.zero_add]
        exact k3 j a hj
      · have hn : ∀ q ∈ xs, q.2 ≠ f := fun q hq e => hm ⟨q, hq, e⟩
        rw [at_none 0 hn]
        walk_at "rd"
        refine ⟨p, cc.C, dx, _, _, rfl, hp, cc.cl, cc.nF, ctf_f _ _, ?_⟩
        walk_at "rd"
        refine ⟨p, cc.C, dx, _, _, rfl, hp, cc.cl, cc.nP, ctf_p _ _, ?_⟩
        walk_at "rd"
        refine ⟨d, b, _, f.key, rfl, rfl, hdc, rok, hf.nk, f.depth_le, by rw [rows_len]; walk_at "sz", ?_⟩
        rw [le, put_new hn]
        have ndl : d ≠ l := ne_of hdc hl (fun z => by cases z)
        have npd : p ≠ d := ne_of hp hdc (fun z => by cases z)
        have npl : p ≠ l := ne_of hp hl (fun z => by cases z)
        have hp1 : upd H' d (DctO P w d (rowsAt 0 (xs ++ [(b, f)]))) p = some (.ins cc.C dx (ctf l d)) := by rw [upd_ne npd]; exact hp
        have hl1 : upd H' d (DctO P w d (rowsAt 0 (xs ++ [(b, f)]))) l = some (.lst (frefs xs)) := by rw [upd_ne (Ne.symm ndl)]; exact hl
        have hd1 : upd H' d (DctO P w d (rowsAt 0 (xs ++ [(b, f)]))) d = some (DctO P w d (rowsAt 0 (xs ++ [(b, f)]))) := upd_same
        have fr1 : ∀ a, a ≠ l → a ≠ d → upd H' d (DctO P w d (rowsAt 0 (xs ++ [(b, f)]))) a = H' a := fun a _ n => upd_ne n
        generalize upd H' d (DctO P w d (rowsAt 0 (xs ++ [(b, f)]))) = H1 at hp1 hl1 hd1 fr1
        walk_at "rd"
        refine ⟨p, cc.C, dx, _, _, rfl, hp1, cc.cl, cc.nF, ctf_f _ _, ?_⟩
        walk_at "rd"
        have ef : frefs xs ++ [V.ref b] = frefs (xs ++ [(b, f)]) := by unfold frefs; rw [List.map_append]; rfl
        rw [ef]
        have hp2 : upd H1 l (.lst (frefs (xs ++ [(b, f)]))) p = some (.ins cc.C dx (ctf l d)) := by rw [upd_ne npl]; exact hp1
        have hd2 : upd H1 l (.lst (frefs (xs ++ [(b, f)]))) d = some (DctO P w d (rowsAt 0 (xs ++ [(b, f)]))) := by rw [upd_ne ndl]; exact hd1
        have hl2 : upd H1 l (.lst (frefs (xs ++ [(b, f)]))) l = some (.lst (frefs (xs ++ [(b, f)]))) := upd_same
        have fr2 : ∀ a, a ≠ l → a ≠ d → upd H1 l (.lst (frefs (xs ++ [(b, f)]))) a = H' a := fun a n1 n2 => by rw [upd_ne n1]; exact fr1 a n1 n2
        generalize upd H1 l (.lst (frefs (xs ++ [(b, f)]))) = H2 at hp2 hd2 hl2 fr2
        have ktup : ∀ c ys, H' c = some (.tup ys) → H2 c = some (.tup ys) := fun c ys z => by
          rw [fr2 c (ne_of z hl (fun q => by cases q)) (ne_of z hdc (fun q => by cases q))]
          exact z
        have hf2 : FmAt H2 b f := hf.keep ktup
        have hc2 : CtAt P w cc.C H2 p l d (xs ++ [(b, f)]) := ⟨⟨dx, hp2⟩, hl2, hd2, fun q hq => by
          rcases List.mem_append.mp hq with hq | hq
          · exact (hc.ok q hq).keep ktup
          · rw [List.mem_singleton.mp hq]; exact hf2, by
          rw [List.map_append, List.nodup_append]
          refine ⟨hc.nd, by simp, fun x hx y hy e => ?_⟩
          obtain ⟨q, hq, rfl⟩ := List.mem_map.mp hx
          rw [List.mem_singleton.mp (show y ∈ [f] from hy)] at e
          exact hn q hq e⟩
        have ea : atN (rowsAt 0 (xs ++ [(b, f)])) f.key = some (.int ((0 + xs.length : Nat) : Int)) := at_some 0 hc2.nd (by rw [List.getElem?_append_right (Nat.le_refl _), Nat.sub_self]; rfl)
        refine ⟨p, cc.C, dx, _, _, rfl, hp2, cc.cl, cc.nP, ctf_p _ _, ?_⟩
        walk_at "rd"
        refine ⟨d, b, _, f.key, _, rfl, rfl, hd2, rowsOk hc2.ok hc2.nd, hf2.nk, f.depth_le, ea, ?_⟩
        rw [Nat.zero_add]
        exact k4 hn H2 fr2 hc2
    · intro N' hN'
      cases f with
      | st g n =>
        obtain ⟨q, h1, h2⟩ := id hf
        walk_at "rd"
        exact hN' _ _ ⟨rfl, rfl, _, rfl⟩
      | fr s0 r =>
        have h1 : H b = some (.tup [.str (S freshS), .int s0, .str (S r)]) := hf
        walk_at "rd"
        exact hN' _ _ ⟨rfl, rfl, _, rfl⟩
      | de s0 r ns =>
        obtain ⟨q, h1, h2⟩ := id hf
        have ln : (ns.map V.int).length = ns.length := List.length_map ..
        walk_at "rd"
        refine Rd.foW Rd.wTup (fun i σ H' => H' = H ∧ (∀ n ∈ ns.take i, hasN xs.length n) ∧ ∃ o, σ = [some (.ref p), some (.ref b), o]) ⟨rfl, fun n hn => absurd hn List.not_mem_nil, _, rfl⟩ (fun i σ H' hi ⟨e, _⟩ => by subst e; exact SqT.of h2) ?_ ?_
        · rintro i x σ H' hi hx ⟨rfl, hns, o, rfl⟩
          rw [List.getElem?_map] at hx
          obtain ⟨n, hn, rfl⟩ := Option.map_eq_some_iff.mp hx
          dsimp only [List.set]
          walk_at "rd"
          refine ⟨p, dx, _, rfl, hp, ctf_no _ _ (by decide +kernel) (by decide +kernel), ?_⟩
          walk_at "rd"
          refine ⟨p, l, d, n, xs, P, w, rfl, hc, fun h => ?_, fun h => k1 n (find_first hns hn h)⟩
          walk_at "rd"
          refine ⟨rfl, fun m hm => ?_, _, rfl⟩
          rw [List.take_add_one, hn] at hm
          rcases List.mem_append.mp hm with z | z
          · exact hns m z
          · rw [List.mem_singleton.mp z]; exact h
        · rintro σ H' ⟨rfl, hns, o, rfl⟩
          rw [ln, List.take_length] at hns
          refine hN' _ _ ⟨rfl, ?_, _, rfl⟩
          unfold badN Fm.nums
          rw [List.find?_eq_none]
          intro n hn
          rw [decide_eq_true (hns n hn)]
          decide
def spForm (C eF : Addr) : Sp := fun vs H Q E => ∃ (p l d : Addr) (n : Int) (xs : List Kn) (P : Program) (w : World), vs = [.ref p, .int n] ∧ CtAt P w C H p l d xs ∧ xs.length ≤ 1000 ∧ (∀ (j : Nat) a f, n = (j : Int) → xs[j]? = some (a, f) → Q (.ref a) H) ∧ (¬ hasN xs.length n → Raised E eF "number" (.int n) H)
abbrev s_Contents_formula : Stmt := inClass (top 6) 4
theorem sc_Contents_formula : FnScope ["self", "number"] ["self", "number"] (defScope s_Contents_formula) := ⟨rfl, rfl, rfl, by decide +kernel, rfl, by decide +kernel, by decide +kernel⟩
abbrev MFo (K : PySem.W.Frag) := Mf K "formula" "Contents.formula" s_Contents_formula ["self", "number"]
theorem ok_form {mC : Addr} (m : MFo K) (T : Bt mg) (cc : Cn K mg mC) (eF : ErF K mg) (mR : MRn K) (hR : Meth K cc.C "require_number" mR.f) : FnOk P w K mg base (L2.CX P w) 4 m.f m.fd ["self", "number"] (spForm cc.C eF.C) := by
  have GR : FnOk P w K mg base (L2.CX P w) 3 mR.f mR.fd _ (spReqN cc.C eF.C) := ok_reqn mR T cc eF
  refine m.F.okX sc_Contents_formula (fun vs H Q E h => ?_) (fun cdv A outer s H vs Q E hr h => ?_)
  · obtain ⟨p, l, d, n, xs, _, _, rfl, _⟩ := h
    rfl
  · obtain ⟨p, l, d, n, xs, P0, w0, rfl, hc, h1000, k1, k2⟩ := h
    obtain ⟨dx, hp⟩ := hc.ins
    have hl := hc.lst
    refine ⟨_, (pss_cons (ps_expr (pe_mA (pv 0) cc.cl mR hR GR hr (passes_call (takes_of rfl rfl rfl rfl) (fun _ _ _ _ h => h)) (pa_cons (pv 1) pa_nil)))
  (pss_one (ps_ret (pe_ix (kix K) (kfld K (pv 0)) (pv 1) (fun _ _ => rfl))))), ?_⟩
    refine Rd.start_ (σ' := [some (.ref p), some (.int n)]) rfl ?_
    walk_at "rd"
    refine ⟨p, dx, _, rfl, hp, ctf_no _ _ (by decide +kernel) (by decide +kernel), ?_⟩
    walk_at "rd"
    refine ⟨p, l, d, n, xs, P0, w0, rfl, hc, fun h => ?_, fun h => k2 h⟩
    have lt : n.toNat < xs.length := by have := h.2; have := h.1; omega
    have en : n = ((n.toNat : Nat) : Int) := by have := h.1; omega
    have hq : xs[n.toNat]? = some xs[n.toNat] := List.getElem?_eq_getElem lt
    have ha : atI (frefs xs) n = some (.ref xs[n.toNat].1) := (congrArg (atI (frefs xs)) en).trans (atI_nat (by rw [List.getElem?_map, hq]; rfl))
    walk_at "rd"
    refine ⟨p, cc.C, dx, _, _, rfl, hp, cc.cl, cc.nF, ctf_f _ _, ?_⟩
    walk_at "rd"
    exact k1 n.toNat _ _ en hq

end
section
variable {P : Program} {w : World} {K : PySem.W.Frag} {mg : Str → Option Value} {base : Heap} {tk : Tok}
/-! ### the law's formulas -/
open ND
theorem at_ints {lit : List Int} {r : Int} (h0 : 0 ≤ r) (h1 : r < lit.length) : ∃ z ∈ lit, atI (lit.map V.int) r = some (.int z) := by
  have hlt : r.toNat < lit.length := by omega
  have e : r = ((r.toNat : Nat) : Int) := by omega
  exact ⟨lit[r.toNat], List.getElem_mem hlt, (congrArg (atI _) e).trans (atI_nat (by simp [hlt]))⟩
theorem at_names {ns : List (List Nat)} {r : Int} (h0 : 0 ≤ r) (h1 : r < ns.length) : ∃ l ∈ ns, atI (ns.map fun l => V.str (S l)) r = some (.str (S l)) := by
  have hlt : r.toNat < ns.length := by omega
  have e : r = ((r.toNat : Nat) : Int) := by omega
  exact ⟨ns[r.toNat], List.getElem_mem hlt, (congrArg (atI _) e).trans (atI_nat (by simp [hlt]))⟩
theorem SameB.nn {p a : Addr} {H H' : Hp} (s : SameB p H H') (n : a ≠ p) (h : H' a = none) : H a = none := by
  cases q : H a with
  | none => rfl
  | some o => rw [s _ _ n q] at h; cases h
theorem pool_ne' {H : Hp} {p a : Addr} (h : PoolAt H p) (k : H a = none) : a ≠ p := fun z => by
  obtain ⟨_, _, _, e⟩ := h
  rw [z, e] at k; cases k
theorem none_same' {H H' : Hp} {t : Addr} (e : Same H H') (h : H' t = none) : H t = none := by
  cases q : H t with
  | none => rfl
  | some o => rw [e _ _ q] at h; cases h
def Fm.small : Fm → Prop
  | .st _ n => 0 ≤ n ∧ n < 100000
  | .fr s _ => 0 ≤ s ∧ s < 1000
  | .de s _ ns => 0 ≤ s ∧ s < 1000 ∧ ns.length ≤ 6
def spFormula : Sp := fun vs H Q _ => ∃ (p q : Addr) (xs : List (List Nat)) (m : Nat), vs = [.ref p, .ref q, .int (m : Nat)] ∧ PoolAt H p ∧ NamesAt H q xs ∧ xs.length = 8 ∧ (∀ l ∈ xs, Nm l) ∧ m ≤ 1000 ∧
  ∀ b f H', H b = none → SameB p H H' → PoolAt H' p → FmAt H' b f → f.ok → f.small → (∀ n ∈ f.nums, 0 ≤ n ∧ n < (m : Int)) → Q (.ref b) H'
abbrev s_law_formula : Stmt := top 12
theorem sc_law_formula : FnScope ["_law_pool_here", "_law_names_here", "_law_many", "_law_style", "_law_step", "_law_name", "_law_numbers", "_law_k"] ["_law_pool_here", "_law_names_here", "_law_many"] (defScope s_law_formula) := ⟨rfl, rfl, rfl, by decide +kernel, rfl, by decide +kernel, by decide +kernel⟩
abbrev DFm (K : PySem.W.Frag) (mg : Str → Option Value) := Df K mg "_law_formula" "_law_formula" s_law_formula ["_law_pool_here", "_law_names_here", "_law_many"]
abbrev DPool (K : PySem.W.Frag) (mg : Str → Option Value) := Df K mg "_law_pool" "_law_pool" s_law_pool ["_law_script", "_law_k"]
abbrev DDraw (K : PySem.W.Frag) (mg : Str → Option Value) := Df K mg "_law_draw" "_law_draw" s_law_draw ["_law_pool_here", "_law_many"]
abbrev DNames (K : PySem.W.Frag) (mg : Str → Option Value) := Df K mg "_law_names" "_law_names" s_law_names ["_law_pool_here"]
theorem ok_formula (d : DFm K mg) (T : Bt mg) (dD : DDraw K mg) (GD : FnOk P w K mg base CX0 1 dD.f dD.fd ["_law_pool_here", "_law_many"] spDraw) : FnOk P w K mg base CX0 2 d.f d.fd ["_law_pool_here", "_law_names_here", "_law_many"] spFormula := by
  refine d.F.ok sc_law_formula (fun vs H Q E h => ?_) (fun cdv A outer s H vs Q E hr h => ?_)
  · obtain ⟨p, q, xs, m, rfl, _⟩ := h
    rfl
  · obtain ⟨p, q, xs, m, rfl, hp, hq, h8, hN, hm, k⟩ := h
    have hu := hr.units
    refine ⟨_, (pss_cons (ps_set (i := 3) sc_law_formula.nd rfl (Or.inl rfl) (pe_cf dD GD hr pass0 (pa_cons (pv 0) (pa_cons pe_int pa_nil))))
  (pss_cons (ps_set (i := 4) sc_law_formula.nd rfl (Or.inl rfl) (pe_ix (kix K) (pe_lst (pa_cons pe_int (pa_cons pe_int (pa_cons pe_int (pa_cons pe_int pa_nil))))) (pe_cf dD GD hr pass0 (pa_cons (pv 0) (pa_cons pe_int pa_nil))) (fun _ _ => rfl)))
  (pss_cons (ps_set (i := 5) sc_law_formula.nd rfl (Or.inl rfl) (pe_ix (kix K) (pv 1) (pe_cf dD GD hr pass0 (pa_cons (pv 0) (pa_cons pe_int pa_nil))) (fun _ _ => rfl)))
  (pss_cons (ps_if (pt_cmpR (keq K hu) (pv 3) pe_int (nomark _)) (pss_one (ps_ret (pe_tup (pa_cons (pe_lit [115, 116, 97, 114, 116] (by decide +kernel)) (pa_cons (pe_tup (pa_cons (pv 5) (pa_cons (pe_op op_mulA (pv 4) pe_int) pa_nil))) pa_nil)))))
  pss_nil)
  (pss_cons (ps_if (pt_cmpR (keq K hu) (pv 3) pe_int (nomark _)) (pss_one (ps_ret (pe_tup (pa_cons (pe_lit [102, 114, 101, 115, 104] (by decide +kernel)) (pa_cons (pv 4) (pa_cons (pv 5) pa_nil))))))
  pss_nil)
  (pss_cons (ps_set (i := 6) sc_law_formula.nd rfl (Or.inl rfl) (pe_lst pa_nil))
  (pss_cons (ps_if (pt_cmpR op_gtI (pv 2) pe_int (nomark _)) (pss_one (ps_for PassesOwn.never rfl (pi_range1 rfl T.range (pa_cons (pe_ix (kix K) (pe_lst (pa_cons pe_int (pa_cons pe_int (pa_cons pe_int (pa_cons pe_int (pa_cons pe_int (pa_cons pe_int (pa_cons pe_int (pa_cons pe_int pa_nil))))))))) (pe_cf dD GD hr pass0 (pa_cons (pv 0) (pa_cons pe_int pa_nil))) (fun _ _ => rfl)) pa_nil)) (pg_name (i := 7) sc_law_formula.nd rfl (Or.inl rfl))
  (pss_one (ps_expr (kapp K (pv 6) (pa_cons (pe_cf dD GD hr pass0 (pa_cons (pv 0) (pa_cons (pv 2) pa_nil))) pa_nil))))))
  pss_nil)
  (pss_one (ps_ret (pe_tup (pa_cons (pe_lit [100, 101, 114, 105, 118, 101, 100] (by decide +kernel)) (pa_cons (pv 4) (pa_cons (pv 5) (pa_cons (pe_callTy (ktuple K) (by rfl) T.tuple (by decide +kernel) (pa_cons (pv 6) pa_nil)) pa_nil)))))))))))))), ?_⟩
    refine Rd.start_ (σ' := [some (.ref p), some (.ref q), some (.int (m : Nat)), none, none, none, none, none]) rfl ?_
    have nqp : q ≠ p := fun z => by
      obtain ⟨_, _, _, e⟩ := hp
      have hq' : H q = some (.lst (xs.map fun l => V.str (S l))) := hq
      rw [z, e] at hq'
      have := congrArg (fun o : Option HO => match o with | some (.lst l) => l.length | _ => 0) hq'
      simp [h8] at this
    walk_at "rd"
    refine ⟨_, _, rfl, by decide, by decide, hp, fun st H1 _ _ e1 p1 => ?_⟩
    have b1 : SameB p H H1 := SameB.drawn e1
    walk_at "rd"
    refine ⟨by show 4 ≤ sizeLine; decide, fun l hl => ?_⟩
    have np1 : l ≠ p := pool_ne' p1 hl
    have s2 := same_new (o := .lst [V.int 1, V.int 2, V.int 3, V.int 98]) hl
    have p2 := pool_of p1 s2
    have b2 := b1.trans (SameB.of s2)
    have hl2 : upd H1 l (.lst [V.int 1, V.int 2, V.int 3, V.int 98]) l = some (.lst [V.int 1, V.int 2, V.int 3, V.int 98]) := upd_same
    generalize upd H1 l (.lst [V.int 1, V.int 2, V.int 3, V.int 98]) = H2 at s2 p2 b2 hl2
    walk_at "rd"
    refine ⟨_, _, rfl, by decide, by decide, p2, fun r3 H3 r30 r31 e3 p3 => ?_⟩
    have b3 := b2.trans (SameB.drawn e3)
    have hl3 : H3 l = some (.lst [V.int 1, V.int 2, V.int 3, V.int 98]) := by rw [e3 _ np1]; exact hl2
    obtain ⟨sp, hsp, asp⟩ := at_ints (lit := [1, 2, 3, 98]) r30 r31
    have asp' : atI [V.int 1, V.int 2, V.int 3, V.int 98] r3 = some (.int sp) := asp
    have sp100 : 0 ≤ sp ∧ sp < 100 := by
      rcases List.mem_cons.mp hsp with e | hsp
      · omega
      rcases List.mem_cons.mp hsp with e | hsp
      · omega
      rcases List.mem_cons.mp hsp with e | hsp
      · omega
      rw [List.mem_singleton.mp hsp]; decide
    walk_at "rd"
    refine ⟨_, _, rfl, by decide, by decide, p3, fun r4 H4 r40 r41 e4 p4 => ?_⟩
    have b4 := b3.trans (SameB.drawn e4)
    obtain ⟨nm, hnm, anm⟩ := at_names (ns := xs) r40 (by rw [h8]; omega)
    have hq4 : H4 q = some (.lst (xs.map fun l => V.str (S l))) := b4 _ _ nqp hq
    have nok := hN nm hnm
    walk_at "rd"
    refine Rd.iteD (fun c1 => ?_) (fun c1 => ?_)
    · walk_at "rd"
      refine ⟨by show 2 ≤ sizeLine; decide, fun t1 ht1 => ?_⟩
      walk_at "rd"
      refine ⟨by show 2 ≤ sizeLine; decide, fun t2 ht2 => ?_⟩
      have s5 := same_new (o := .tup [.str (S nm), .int (sp * 101)]) ht1
      have s6 := same_new (o := .tup [.str (S startS), .ref t1]) ht2
      have s56 := s5.trans s6
      exact k t2 (.st nm (sp * 101)) _ (b4.nn (pool_ne' (pool_of p4 s5) ht2) (none_same' s5 ht2)) (b4.trans (SameB.of s56)) (pool_of p4 s56) ⟨t1, upd_same, s6 _ _ upd_same⟩ nok ⟨by omega, by omega⟩ fun n hn => absurd hn List.not_mem_nil
    · walk_at "rd"
      refine Rd.iteD (fun c2 => ?_) (fun c2 => ?_)
      · walk_at "rd"
        refine ⟨by show 3 ≤ sizeLine; decide, fun t1 ht1 => ?_⟩
        have s5 := same_new (o := .tup [.str (S freshS), .int sp, .str (S nm)]) ht1
        exact k t1 (.fr sp nm) _ (b4.nn (pool_ne' p4 ht1) ht1) (b4.trans (SameB.of s5)) (pool_of p4 s5) upd_same nok ⟨by omega, by omega⟩ fun n hn => absurd hn List.not_mem_nil
      · walk_at "rd"
        refine ⟨by show 0 ≤ sizeLine; decide, fun L hL => ?_⟩
        have s5 := same_new (o := .lst []) hL
        have npL : L ≠ p := pool_ne' p4 hL
        have hL0 : H L = none := b4.nn npL hL
        have p5 := pool_of p4 s5
        have b5 := b4.trans (SameB.of s5)
        have hL5 : upd H4 L (.lst []) L = some (.lst (([] : List Int).map V.int)) := upd_same
        generalize upd H4 L (.lst []) = H5 at s5 p5 b5 hL5
        refine Rd.seq ?_
        refine Rd.mid (fun σ H' => ∃ (o7 : Option V) (ns : List Int), σ = [some (.ref p), some (.ref q), some (.int (m : Nat)), some (.int st), some (.int sp), some (.str (S nm)), some (.ref L), o7] ∧ SameB p H H' ∧ PoolAt H' p ∧ H' L = some (.lst (ns.map V.int)) ∧ ns.length ≤ 6 ∧ ∀ n ∈ ns, 0 ≤ n ∧ n < (m : Int)) ?_ ?_
        · rintro σ H' ⟨o7, ns, rfl, b6, p6, hL6, hl6n, hns⟩
          walk_at "rd"
          refine Rd.tupL (SqL.of hL6) fun t1 ht1 => ?_
          walk_at "rd"
          refine ⟨by show 4 ≤ sizeLine; decide, fun t2 ht2 => ?_⟩
          have s7 := same_new (o := .tup (ns.map V.int)) ht1
          have s8 := same_new (o := .tup [.str (S derivS), .int sp, .str (S nm), .ref t1]) ht2
          have s78 := s7.trans s8
          exact k t2 (.de sp nm ns) _ (b6.nn (pool_ne' (pool_of p6 s7) ht2) (none_same' s7 ht2)) (b6.trans (SameB.of s78)) (pool_of p6 s78) ⟨t1, upd_same, s8 _ _ upd_same⟩ nok ⟨by omega, by omega, hl6n⟩ hns
        · intro N' hN'
          walk_at "rd"
          refine Rd.iteD (fun c3 => ?_) (fun c3 => ?_)
          · walk_at "rd"
            refine ⟨by show 8 ≤ sizeLine; decide, fun l2 hl2 => ?_⟩
            have np2 : l2 ≠ p := pool_ne' p5 hl2
            have s6 := same_new (o := .lst [V.int 0, V.int 1, V.int 1, V.int 2, V.int 2, V.int 3, V.int 3, V.int 6]) hl2
            have p6 := pool_of p5 s6
            have b6 := b5.trans (SameB.of s6)
            have hL6 := s6 _ _ hL5
            have hl6 : upd H5 l2 (.lst [V.int 0, V.int 1, V.int 1, V.int 2, V.int 2, V.int 3, V.int 3, V.int 6]) l2 = some (.lst [V.int 0, V.int 1, V.int 1, V.int 2, V.int 2, V.int 3, V.int 3, V.int 6]) := upd_same
            generalize upd H5 l2 (.lst [V.int 0, V.int 1, V.int 1, V.int 2, V.int 2, V.int 3, V.int 3, V.int 6]) = H6 at s6 p6 b6 hL6 hl6
            walk_at "rd"
            refine ⟨_, _, rfl, by decide, by decide, p6, fun r7 H7 r70 r71 e7 p7 => ?_⟩
            have b7 := b6.trans (SameB.drawn e7)
            have hL7 : H7 L = some (.lst (([] : List Int).map V.int)) := by rw [e7 _ npL]; exact hL6
            have hl7 : H7 l2 = some (.lst [V.int 0, V.int 1, V.int 1, V.int 2, V.int 2, V.int 3, V.int 3, V.int 6]) := by rw [e7 _ np2]; exact hl6
            obtain ⟨ct, hct, act⟩ := at_ints (lit := [0, 1, 1, 2, 2, 3, 3, 6]) r70 r71
            have act' : atI [V.int 0, V.int 1, V.int 1, V.int 2, V.int 2, V.int 3, V.int 3, V.int 6] r7 = some (.int ct) := act
            have ct10 : 0 ≤ ct ∧ ct ≤ 6 := by
              have : ∀ z ∈ ([0, 1, 1, 2, 2, 3, 3, 6] : List Int), 0 ≤ z ∧ z ≤ 6 := by decide
              exact this ct hct
            walk_at "rd"
            refine Rd.foW Rd.wRange (fun i σ H' => ∃ (o7 : Option V) (ns : List Int), σ = [some (.ref p), some (.ref q), some (.int (m : Nat)), some (.int st), some (.int sp), some (.str (S nm)), some (.ref L), o7] ∧ SameB p H H' ∧ PoolAt H' p ∧ H' L = some (.lst (ns.map V.int)) ∧ ns.length ≤ i ∧ ∀ n ∈ ns, 0 ≤ n ∧ n < (m : Int)) ⟨_, [], rfl, b7, p7, hL7, Nat.le_refl _, fun n hn => absurd hn List.not_mem_nil⟩ (fun _ _ _ _ _ => trivial) ?_ ?_
            · rintro i x σ H8 hi hx ⟨o7, ns, rfl, b8, p8, hL8, hln, hns⟩
              dsimp only [List.set]
              walk_at "rd"
              refine ⟨_, _, rfl, by omega, by omega, p8, fun r9 H9 r90 r91 e9 p9 => ?_⟩
              have hL9 : H9 L = some (.lst (ns.map V.int)) := by rw [e9 _ npL]; exact hL8
              have lns : (ns.map V.int).length < sizeLine := by rw [List.length_map]; walk_at "sz"
              walk_at "rd"
              refine ⟨_, ns ++ [r9], rfl, (b8.trans (SameB.drawn e9)).upd hL0, p9.upd (Ne.symm npL), by rw [upd_same, List.map_append]; rfl, by rw [List.length_append, List.length_singleton]; omega, fun n hn => ?_⟩
              rcases List.mem_append.mp hn with z | z
              · exact hns n z
              · rw [List.mem_singleton.mp z]; exact ⟨r90, r91⟩
            · rintro σ H8 ⟨o7, ns, rfl, b8, p8, hL8, hln, hns⟩
              exact hN' _ _ ⟨_, ns, rfl, b8, p8, hL8, by omega, hns⟩
          · walk_at "rd"
            exact hN' _ _ ⟨_, [], rfl, b5, p5, hL5, Nat.zero_le _, fun n hn => absurd hn List.not_mem_nil⟩

end
section
variable {P : Program} {w : World} {K : PySem.W.Frag} {mg : Str → Option Value} {base : Heap} {tk : Tok}
/-! ### texts of pages, of formulas -/
open ND
abbrev s_page_text : Stmt := top 4
theorem sc_page_text : FnScope ["page", "group", "number"] ["page"] (defScope s_page_text) := ⟨rfl, rfl, rfl, by decide +kernel, rfl, by decide +kernel, by decide +kernel⟩
abbrev DPt (K : PySem.W.Frag) (mg : Str → Option Value) := Df K mg "page_text" "page_text" s_page_text ["page"]
def ptx (g : List Nat) (n : Int) : List Nat := (g ++ [58]) ++ dgs n.toNat
def spPt : Sp := fun vs H Q _ => ∃ (a : Addr) (g : List Nat) (n : Int), vs = [.ref a] ∧ H a = some (.tup [.str (S g), .int n]) ∧ g.length ≤ 100 ∧ 0 ≤ n ∧ n < 1000000 ∧ Q (.str (S (ptx g n))) H
theorem ok_pt (d : DPt K mg) : FnOk P w K mg base CX0 1 d.f d.fd ["page"] spPt := by
  refine d.F.ok sc_page_text (fun vs H Q E h => ?_) (fun cdv A outer s H vs Q E hr h => ?_)
  · obtain ⟨x, g, n, rfl, _⟩ := h
    rfl
  · obtain ⟨x, g, m, rfl, hx, l1, n0, n1, k⟩ := h
    have hu := hr.units
    obtain ⟨n, rfl⟩ : ∃ n : Nat, m = n := ⟨m.toNat, by omega⟩
    have n9 : n < 1000000 := by omega
    have ld := dgs_len n9
    unfold ptx at k
    rw [Int.toNat_natCast] at k
    refine ⟨_, (pss_cons (ps_asg (pv 0) (kgt2 K (pg_name (i := 1) sc_page_text.nd rfl (Or.inl rfl)) (pg_name (i := 2) sc_page_text.nd rfl (Or.inl rfl))))
  (pss_one (ps_ret (pe_jn (.cons (pe_fmt (pv 1)) (.cons (pe_lit [58] (by decide +kernel)) (.cons (pe_fmt (pv 2)) .nil))))))), ?_⟩
    refine Rd.start_ (σ' := [some (.ref x), none, none]) rfl ?_
    walk_at "rd"
    exact k
/-- the text of a formula over the table fs, cut at depth d -/
def hdF (s : Int) (r : List Nat) : List Nat := (dgs s.toNat ++ [46]) ++ r
def txtF (fs : List Fm) : Nat → Fm → List Nat
  | _, .st g n => ptx g n
  | _, .fr s r => hdF s r ++ [40, 41]
  | 0, .de s r ns => if ns = [] then hdF s r ++ [40, 41] else hdF s r ++ [40, 46, 46, 41]
  | d + 1, .de s r ns => if ns = [] then hdF s r ++ [40, 41] else ((hdF s r ++ [40]) ++ TL.joinL [44, 32] (ns.map fun n : Int => txtF fs d (fs.getD n.toNat (.fr 0 [])))) ++ [41]
def bndF : Nat → Nat
  | 0 => 25
  | d + 1 => 25 + 6 * (bndF d + 2)
/-- a table whose texts are told -/
def GoodF (fs : List Fm) : Prop := fs.length ≤ 1000 ∧ ∀ f ∈ fs, f.ok ∧ f.small ∧ ∀ n ∈ f.nums, hasN fs.length n
theorem join_len {b : Nat} : ∀ {ls : List (List Nat)}, (∀ l ∈ ls, l.length ≤ b) → (TL.joinL [44, 32] ls).length ≤ ls.length * (b + 2)
  | [], _ => Nat.zero_le _
  | [c], h => by
    have := h c List.mem_cons_self
    show c.length ≤ 1 * (b + 2)
    omega
  | c :: d :: l, h => by
    have h1 := h c List.mem_cons_self
    have ih := join_len fun x hx => h x (List.mem_cons_of_mem _ hx)
    show (c ++ ([44, 32] ++ TL.joinL [44, 32] (d :: l))).length ≤ _
    simp only [List.length_append, List.length_cons, List.length_nil] at ih ⊢
    rw [Nat.succ_mul]
    omega
theorem hd_len {s : Int} {r : List Nat} (h0 : 0 ≤ s) (h1 : s < 1000) (hr : Nm r) : (hdF s r).length ≤ 15 := by
  unfold hdF
  have := dgs_len (n := s.toNat) (by omega)
  have := hr.2.1
  simp only [List.length_append, List.length_cons, List.length_nil]
  omega
theorem txt_len {fs : List Fm} (G : GoodF fs) : ∀ (d : Nat) {f : Fm}, f ∈ fs → (txtF fs d f).length ≤ bndF d := by
  have base : ∀ d, 25 ≤ bndF d := fun d => by cases d with | zero => exact Nat.le_refl _ | succ d => show 25 ≤ 25 + _; omega
  intro d
  induction d with
  | zero =>
    intro f hf
    obtain ⟨ok, sm, hn⟩ := G.2 f hf
    cases f with
    | st g n =>
      show (ptx g n).length ≤ 25
      unfold ptx
      have := dgs_len (n := n.toNat) (by have := sm.2; omega)
      have := ok.2.1
      simp only [List.length_append, List.length_cons, List.length_nil]
      omega
    | fr s r =>
      have := hd_len sm.1 sm.2 ok
      show (hdF s r ++ [40, 41]).length ≤ 25
      simp only [List.length_append, List.length_cons, List.length_nil]
      omega
    | de s r ns =>
      have := hd_len sm.1 sm.2.1 ok
      show (if ns = [] then hdF s r ++ [40, 41] else hdF s r ++ [40, 46, 46, 41]).length ≤ 25
      split <;> (simp only [List.length_append, List.length_cons, List.length_nil]; omega)
  | succ d ih =>
    intro f hf
    obtain ⟨ok, sm, hn⟩ := G.2 f hf
    have b25 := base (d + 1)
    cases f with
    | st g n =>
      show (ptx g n).length ≤ _
      unfold ptx
      have := dgs_len (n := n.toNat) (by have := sm.2; omega)
      have := ok.2.1
      simp only [List.length_append, List.length_cons, List.length_nil]
      omega
    | fr s r =>
      have := hd_len sm.1 sm.2 ok
      show (hdF s r ++ [40, 41]).length ≤ _
      simp only [List.length_append, List.length_cons, List.length_nil]
      omega
    | de s r ns =>
      have := hd_len sm.1 sm.2.1 ok
      have l6 := sm.2.2
      show (if ns = [] then hdF s r ++ [40, 41] else ((hdF s r ++ [40]) ++ TL.joinL [44, 32] (ns.map fun n : Int => txtF fs d (fs.getD n.toNat (.fr 0 [])))) ++ [41]).length ≤ _
      split
      · simp only [List.length_append, List.length_cons, List.length_nil]; omega
      · have hj := join_len (b := bndF d) (ls := ns.map fun n : Int => txtF fs d (fs.getD n.toNat (.fr 0 []))) fun l hl => by
          obtain ⟨n, hn', rfl⟩ := List.mem_map.mp hl
          have hh := hn n hn'
          refine ih ?_
          have lt : n.toNat < fs.length := by have := hh.1; have := hh.2; omega
          rw [List.getD_eq_getElem?_getD, List.getElem?_eq_getElem lt]
          exact List.getElem_mem lt
        rw [List.length_map] at hj
        have hj2 : (TL.joinL [44, 32] (ns.map fun n : Int => txtF fs d (fs.getD n.toNat (.fr 0 [])))).length ≤ 6 * (bndF d + 2) := Nat.le_trans hj (Nat.mul_le_mul_right _ l6)
        show _ ≤ 25 + 6 * (bndF d + 2)
        simp only [List.length_append, List.length_cons, List.length_nil]
        omega
theorem bnd4 {d : Nat} (h : d ≤ 4) : bndF d ≤ 100000 := by
  have h' : d = 0 ∨ d = 1 ∨ d = 2 ∨ d = 3 ∨ d = 4 := by omega
  rcases h' with rfl | rfl | rfl | rfl | rfl <;> decide
abbrev s_Contents_text : Stmt := inClass (top 6) 5
theorem sc_Contents_text : FnScope ["self", "number", "depth", "word", "rest", "head", "inner", "part"] ["self", "number", "depth"] (defScope s_Contents_text) := ⟨rfl, rfl, rfl, by decide +kernel, rfl, by decide +kernel, by decide +kernel⟩
structure Txm (K : PySem.W.Frag) where
  f : Addr
  fd : FuncData
  F : Fun K "text" "Contents.text" s_Contents_text f fd
  ds : List Value
  vd : Vals [V.int 2] ds
  b : Binds K fd ["self", "number", "depth"] ds
  kb : KBn K fd ["self", "number", "depth"] 2 ["depth"] (fun us ws => us ++ ws) (fun vs zs => vs ++ zs)
def spText (P : Program) (w : World) (C eF : Addr) (d : Nat) : Sp := fun vs H Q E => ∃ (p l dd : Addr) (n : Int) (dep : Nat) (xs : List Kn), vs = [.ref p, .int n, .int (dep : Nat)] ∧ dep ≤ d ∧ CtAt P w C H p l dd xs ∧ GoodF (xs.map (·.2)) ∧
  (hasN xs.length n → ∀ H', Same H H' → Q (.str (S (txtF (xs.map (·.2)) dep ((xs.map (·.2)).getD n.toNat (.fr 0 []))))) H') ∧ (¬ hasN xs.length n → Raised E eF "number" (.int n) H)

end
section
variable {P : Program} {w : World} {K : PySem.W.Frag} {mg : Str → Option Value} {base : Heap} {tk : Tok}
/-! ### the text, by depth -/
theorem txt_de (fs : List Fm) (d : Nat) {s : Int} {r : List Nat} {ns : List Int} (h : ns ≠ []) : txtF fs (d + 1) (.de s r ns) = ((hdF s r ++ [40]) ++ TL.joinL [44, 32] (ns.map fun n : Int => txtF fs d (fs.getD n.toNat (.fr 0 [])))) ++ [41] := by
  show (if ns = [] then _ else _) = _
  rw [if_neg h]
theorem txt_nil (fs : List Fm) (d : Nat) {s : Int} {r : List Nat} : txtF fs d (.de s r []) = hdF s r ++ [40, 41] := by
  cases d <;> rfl
theorem txt_zero (fs : List Fm) {s : Int} {r : List Nat} {ns : List Int} (h : ns ≠ []) : txtF fs 0 (.de s r ns) = hdF s r ++ [40, 46, 46, 41] := by
  show (if ns = [] then _ else _) = _
  rw [if_neg h]
theorem txt_st (fs : List Fm) (d : Nat) (g : List Nat) (n : Int) : txtF fs d (.st g n) = ptx g n := by cases d <;> rfl
theorem txt_fr (fs : List Fm) (d : Nat) (s : Int) (r : List Nat) : txtF fs d (.fr s r) = hdF s r ++ [40, 41] := by cases d <;> rfl
theorem text_step {mC : Addr} (tx : Txm K) (T : Bt mg) (cc : Cn K mg mC) (hTx : Meth K cc.C "text" tx.f) (eF : ErF K mg) (mFo : MFo K) (hFo : Meth K cc.C "formula" mFo.f) (GFo : FnOk P w K mg base (L2.CX P w) 4 mFo.f mFo.fd ["self", "number"] (spForm cc.C eF.C)) (dPt : DPt K mg)
    (d k0 : Nat) (h4 : 4 ≤ k0) (d4 : d ≤ 4) (sp0 : Sp) (G0 : FnOk P w K mg base (L2.CX P w) k0 tx.f tx.fd ["self", "number", "depth"] sp0) (hre : ∀ d' vs H Q, d = d' + 1 → spText P w cc.C eF.C d' vs H Q E0 → sp0 vs H Q E0) : FnOk P w K mg base (L2.CX P w) (k0 + 1) tx.f tx.fd ["self", "number", "depth"] (spText P w cc.C eF.C d) := by
  have GPt : FnOk P w K mg base CX0 1 dPt.f dPt.fd ["page"] spPt := ok_pt dPt
  refine Fun.okX tx.F sc_Contents_text (fun vs H Q E h => ?_) (fun cdv A outer s H vs Q E hr h => ?_)
  · obtain ⟨p, l, dd, n, dep, xs, rfl, _⟩ := h
    rfl
  · obtain ⟨p, l, dd, n, dep, xs, rfl, hdep, hc, G, k1, k2⟩ := h
    have hu := hr.units
    have hr0 := hr
    have hr4 : Room 4 _ := hr.mono h4
    have hr1 : Room 1 _ := hr4.mono (by decide)
    obtain ⟨dx, hp⟩ := hc.ins
    have lx : xs.length ≤ 1000 := by have := G.1; rw [List.length_map] at this; exact this
    refine ⟨_, (pss_cons (ps_asg (pe_mA (pv 0) cc.cl mFo hFo GFo hr4 (passes_call (takes_of rfl rfl rfl rfl) (fun _ _ _ _ h => h)) (pa_cons (pv 1) pa_nil)) (kstar K (pg_name (i := 3) sc_Contents_text.nd rfl (Or.inl rfl)) (pg_name (i := 4) sc_Contents_text.nd rfl (Or.inl rfl))))
  (pss_cons (ps_if (pt_cmpR (keq K hu) (pv 3) (pe_lit [115, 116, 97, 114, 116] (by decide +kernel)) (nomark _)) (pss_one (ps_ret (pe_cf dPt GPt hr1 pass0 (pa_cons (pe_ix (kix K) (pv 4) pe_int (fun _ _ => rfl)) pa_nil))))
  pss_nil)
  (pss_cons (ps_set (i := 5) sc_Contents_text.nd rfl (Or.inl rfl) (pe_jn (.cons (pe_fmt (pe_ix (kix K) (pv 4) pe_int (fun _ _ => rfl))) (.cons (pe_lit [46] (by decide +kernel)) (.cons (pe_fmt (pe_ix (kix K) (pv 4) pe_int (fun _ _ => rfl))) .nil)))))
  (pss_cons (ps_if (PW.pt (pw_or (pt_cmpR (keq K hu) (pv 3) (pe_lit [102, 114, 101, 115, 104] (by decide +kernel)) (nomark _)) (pw_or1 (pt_not (ktru K (pe_ix (kix K) (pv 4) pe_int (fun _ _ => rfl))))))) (pss_one (ps_ret (pe_jn (.cons (pe_fmt (pv 5)) (.cons (pe_lit [40, 41] (by decide +kernel)) .nil)))))
  pss_nil)
  (pss_cons (ps_if (pt_cmpR op_ltA (pv 2) pe_int (nomark _)) (pss_one (ps_ret (pe_jn (.cons (pe_fmt (pv 5)) (.cons (pe_lit [40, 46, 46, 41] (by decide +kernel)) .nil)))))
  pss_nil)
  (pss_cons (ps_set (i := 6) sc_Contents_text.nd rfl (Or.inl rfl) (kjoin K (pe_lit [44, 32] (by decide +kernel)) (pe_lc (own := [("part", 7)]) (g := gName 7) (tt := tYes) rfl sc_Contents_text.nd (kpt K (pe_ix (kix K) (pv 4) pe_int (fun _ _ => rfl))) (blkOk_by (N := ["self", "number", "depth", "word", "rest", "head", "inner", "part"]) (sc := defScope s_Contents_text) (by decide +kernel)) (fun _ _ _ _ _ => (pg_name (i := 7) sc_Contents_text.nd rfl (Or.inl rfl))) (fun _ _ _ _ _ => pts_nil) (fun _ _ _ _ _ => (pe_mK (pv 0) cc.cl hTx G0 hr0 tx.kb passL (pa_cons (pv 7) pa_nil) (pk_cons (pe_op op_subI (pv 2) pe_int) pk_nil))))))
  (pss_one (ps_ret (pe_jn (.cons (pe_fmt (pv 5)) (.cons (pe_lit [40] (by decide +kernel)) (.cons (pe_fmt (pv 6)) (.cons (pe_lit [41] (by decide +kernel)) .nil))))))))))))), ?_⟩
    refine Rd.start_ (σ' := [some (.ref p), some (.int n), some (.int (dep : Nat)), none, none, none, none, none]) rfl ?_
    walk_at "rd"
    refine ⟨p, dx, _, rfl, hp, ctf_no _ _ (by decide +kernel) (by decide +kernel), ?_⟩
    walk_at "rd"
    refine ⟨p, l, dd, n, xs, P, w, rfl, hc, lx, fun j a f ej hj => ?_, k2⟩
    have hfa : FmAt H a f := hc.ok (a, f) (List.mem_of_getElem? hj)
    have hj2 : (xs.map (·.2))[j]? = some f := by rw [List.getElem?_map, hj]; rfl
    have hfm : f ∈ xs.map (·.2) := List.mem_of_getElem? hj2
    obtain ⟨fok, fsm, fns⟩ := G.2 f hfm
    have hn : hasN xs.length n := by
      have lt := (List.getElem?_eq_some_iff.mp hj).1
      exact ⟨by omega, by omega⟩
    have k3 := k1 hn
    have eg : (xs.map (·.2)).getD n.toNat (.fr 0 []) = f := by
      rw [List.getD_eq_getElem?_getD, show n.toNat = j by omega, hj2]; rfl
    rw [eg] at k3
    have lmax := txt_len G dep hfm
    have lb := bnd4 (d := dep) (by omega)
    cases f with
    | st g m =>
      obtain ⟨pp, ha, hpp⟩ := hfa
      obtain ⟨m0, m1⟩ := fsm
      have ok2 := fok.2.1
      rw [txt_st] at k3
      refine Rd.gSt ha (by show 1 ≤ 1000; decide) fun q hq => ?_
      have s1 := same_new (o := .lst [V.ref pp]) hq
      have hq1 : upd H q (.lst [V.ref pp]) q = some (.lst [V.ref pp]) := upd_same
      generalize upd H q (.lst [V.ref pp]) = H1 at s1 hq1
      dsimp only [List.set]
      unfold startS
      walk_at "rd"
      refine ⟨pp, g, m, rfl, s1 _ _ hpp, by omega, m0, by omega, ?_⟩
      exact k3 _ s1
    | fr sn r =>
      have ha : H a = some (.tup [.str (S freshS), .int sn, .str (S r)]) := hfa
      obtain ⟨s0, s1'⟩ := fsm
      have ok2 := fok.2.1
      obtain ⟨m, rfl⟩ : ∃ m : Nat, sn = m := ⟨sn.toNat, by omega⟩
      have m9 : m < 1000000 := by omega
      have ld := dgs_len m9
      rw [txt_fr] at k3
      unfold hdF at k3
      rw [Int.toNat_natCast] at k3
      refine Rd.gSt ha (by show 2 ≤ 1000; decide) fun q hq => ?_
      have s1 := same_new (o := .lst [V.int (m : Nat), V.str (S r)]) hq
      have hq1 : upd H q (.lst [V.int (m : Nat), V.str (S r)]) q = some (.lst [V.int (m : Nat), V.str (S r)]) := upd_same
      generalize upd H q (.lst [V.int (m : Nat), V.str (S r)]) = H1 at s1 hq1
      dsimp only [List.set]
      unfold freshS
      walk_at "rd"
      exact k3 _ s1
    | de sn r ns =>
      obtain ⟨pp, ha, hpp⟩ := hfa
      obtain ⟨s0, s1', l6⟩ := fsm
      have ok2 := fok.2.1
      obtain ⟨m, rfl⟩ : ∃ m : Nat, sn = m := ⟨sn.toNat, by omega⟩
      have m9 : m < 1000000 := by omega
      have ld := dgs_len m9
      refine Rd.gSt ha (by show 3 ≤ 1000; decide) fun q hq => ?_
      have s1 := same_new (o := .lst [V.int (m : Nat), V.str (S r), V.ref pp]) hq
      have hq1 : upd H q (.lst [V.int (m : Nat), V.str (S r), V.ref pp]) q = some (.lst [V.int (m : Nat), V.str (S r), V.ref pp]) := upd_same
      generalize upd H q (.lst [V.int (m : Nat), V.str (S r), V.ref pp]) = H1 at s1 hq1
      have hpp1 := s1 _ _ hpp
      have hc1 := hc.mono s1
      have ehd : ([] ++ dgs m ++ [46] ++ r) = hdF (m : Nat) r := by unfold hdF; rw [Int.toNat_natCast]; rfl
      have lhd := hd_len (s := (m : Nat)) (r := r) (by omega) (by omega) fok
      dsimp only [List.set]
      unfold derivS
      walk_at "rd"
      rw [ehd]
      walk_at "rd"
      refine Rd.trT hpp1 ?_
      by_cases hns0 : ns = []
      · subst hns0
        rw [txt_nil] at k3
        walk_at "rd"
        exact k3 _ s1
      have hne : (!(ns.map V.int).isEmpty) = true := by
        cases ns with
        | nil => exact absurd rfl hns0
        | cons _ _ => rfl
      rw [hne]
      walk_at "rd"
      refine Rd.iteD (fun c0 => ?_) (fun c0 => ?_)
      · have e0 : dep = 0 := by omega
        subst e0
        rw [txt_zero _ hns0] at k3
        walk_at "rd"
        exact k3 _ s1
      · obtain ⟨dep', rfl⟩ : ∃ d', dep = d' + 1 := ⟨dep - 1, by omega⟩
        obtain ⟨d', rfl⟩ : ∃ d', d = d' + 1 := ⟨d - 1, by omega⟩
        rw [txt_de _ _ hns0] at k3
        have hp1 := s1 _ _ hp
        have lns : (ns.map V.int).length = ns.length := List.length_map ..
        have hb' := bnd4 (d := dep') (by omega)
        have inF : ∀ z ∈ ns, (xs.map (·.2)).getD z.toNat (.fr 0 []) ∈ xs.map (·.2) := fun z hz => by
          have hh := fns z hz
          have lt : z.toNat < (xs.map (·.2)).length := by have := hh.1; have := hh.2; omega
          rw [List.getD_eq_getElem?_getD, List.getElem?_eq_getElem lt]
          exact List.getElem_mem lt
        walk_at "rd"
        refine Rd.lcZ Rd.wTup (by rw [lns]; walk_at "sz") (fun D i acc H' => Same H1 H' ∧ acc = (ns.take i).map fun z => V.str (S (txtF (xs.map (·.2)) dep' ((xs.map (·.2)).getD z.toNat (.fr 0 []))))) (fun D hD => ⟨same_new hD, rfl⟩) (fun D i acc H' hi e => SqT.of (e.1 _ _ hpp1)) ?_ ?_
        · rintro D hD i x acc H' hi hx hacc hlen ⟨t1, e1⟩ Kt Kf hT hF
          rw [List.getElem?_map] at hx
          obtain ⟨z, hz, rfl⟩ := Option.map_eq_some_iff.mp hx
          have hzm := List.mem_of_getElem? hz
          have hzn := fns z hzm
          rw [List.length_map] at hzn
          dsimp only [List.set]
          walk_at "rd"
          refine ⟨p, dx, _, rfl, t1 _ _ hp1, ctf_no _ _ (by decide +kernel) (by decide +kernel), ?_⟩
          walk_at "rd"
          have ed : ((dep' + 1 : Nat) : Int) - 1 = (dep' : Nat) := by omega
          rw [ed]
          refine ⟨rfl, rfl, hre d' _ _ _ rfl ⟨p, l, dd, z, dep', xs, rfl, by omega, hc1.mono t1, G, fun _ H2 s2 => ?_, fun h => absurd hzn h⟩⟩
          have hacc2 := s2 _ _ hacc
          refine hT _ _ hacc2 ⟨same_upd (t1.trans s2) hD, ?_⟩
          rw [e1, List.take_add_one, hz, List.map_append]
          rfl
        · rintro D acc H' hD hacc hlen ⟨t1, e1⟩
          rw [lns, List.take_length] at e1
          have e2 : acc = ((ns.map fun z : Int => txtF (xs.map (·.2)) dep' ((xs.map (·.2)).getD z.toNat (.fr 0 []))).map fun y => S y).map V.str := by
            rw [e1, List.map_map, List.map_map]; rfl
          rw [e2] at hacc
          have hall : ∀ y ∈ ns.map (fun z : Int => txtF (xs.map (·.2)) dep' ((xs.map (·.2)).getD z.toNat (.fr 0 []))), y.length ≤ 100000 := fun y hy => by
            obtain ⟨z, hz, rfl⟩ := List.mem_map.mp hy
            exact Nat.le_trans (txt_len G dep' (inF z hz)) hb'
          have ljo := join_len hall
          rw [List.length_map] at ljo
          have ej := SX.join_S [44, 32] (ns.map fun z : Int => txtF (xs.map (·.2)) dep' ((xs.map (·.2)).getD z.toNat (.fr 0 [])))
          have lln : (ns.map fun z : Int => txtF (xs.map (·.2)) dep' ((xs.map (·.2)).getD z.toNat (.fr 0 []))).length = ns.length := List.length_map ..
          generalize (ns.map fun z : Int => txtF (xs.map (·.2)) dep' ((xs.map (·.2)).getD z.toNat (.fr 0 []))) = ls at hacc hall ljo ej k3 lln
          have lj : (TL.joinL [44, 32] ls).length ≤ 600012 := Nat.le_trans ljo (Nat.le_trans (Nat.mul_le_mul_right _ l6) (by decide))
          refine Rd.join (SqL.of hacc) ?_ ?_
          · have sm : ∀ {zs : List (List Nat)}, (∀ y ∈ zs, y.length ≤ 100000) → ((zs.map fun y => S y).map (·.length)).sum ≤ zs.length * 100000 := fun {zs} => by
              induction zs with
              | nil => intro _; exact Nat.zero_le _
              | cons y zs ih =>
                intro h
                have h1 := h y List.mem_cons_self
                have h2 := ih fun x hx => h x (List.mem_cons_of_mem _ hx)
                rw [List.map_cons, List.map_cons, List.sum_cons, List.length_cons, Nat.succ_mul]
                have h3 : (S y).length = y.length := rfl
                omega
            have h1 := sm hall
            have h2 : ((ls.map fun y => S y)).length = ls.length := List.length_map ..
            rw [h2]
            have h3 : (S [44, 32]).length = 2 := rfl
            rw [h3]
            omega
          · rw [ej]
            walk_at "rd"
            exact k3 _ (s1.trans t1)
theorem ok_text {mC : Addr} (tx : Txm K) (T : Bt mg) (cc : Cn K mg mC) (hTx : Meth K cc.C "text" tx.f) (eF : ErF K mg) (mFo : MFo K) (hFo : Meth K cc.C "formula" mFo.f) (GFo : FnOk P w K mg base (L2.CX P w) 4 mFo.f mFo.fd ["self", "number"] (spForm cc.C eF.C)) (dPt : DPt K mg) :
    ∀ d, d ≤ 4 → FnOk P w K mg base (L2.CX P w) (d + 5) tx.f tx.fd ["self", "number", "depth"] (spText P w cc.C eF.C d) := by
  intro d
  induction d with
  | zero => exact fun _ => text_step tx T cc hTx eF mFo hFo GFo dPt 0 4 (by decide) (by decide) (fun _ _ _ _ => False) ⟨fun _ _ _ _ h => h.elim, fun _ _ _ _ _ _ _ _ _ _ _ _ _ h => h.elim⟩ fun d' _ _ _ h => by omega
  | succ d ih =>
    intro h4
    refine text_step tx T cc hTx eF mFo hFo GFo dPt (d + 1) (d + 5) (by omega) h4 _ (ih (by omega)) fun d' vs H Q e h => ?_
    have e' : d' = d := by omega
    subst e'
    exact h

end
section
variable {P : Program} {w : World} {K : PySem.W.Frag} {mg : Str → Option Value} {base : Heap} {tk : Tok}
/-! ### the law's own text -/
theorem eqv_tnil (ds : List PyData) : PyData.eqv (.tuple ds) (.tuple []) = ds.isEmpty := by
  cases ds with
  | nil => rfl
  | cons d ds => rfl
theorem ints_ok (ns : List Int) : (ns.map V.int).all okV = true := by rw [List.all_map]; exact List.all_eq_true.mpr fun _ _ => rfl
theorem eqTnil {H : Hp} {Q : VK} {a b : Addr} {ns : List Int} (h1 : H a = some (.tup (ns.map V.int))) (h2 : H b = some (.tup [])) (q : Q (.bl ns.isEmpty) H) : rEqA K (.ref a) (.ref b) H Q :=
  Rd.eqD (.tup (SqT.of h1) (dp_all (ints_ok ns))) (.tup (SqT.of h2) .nil) (shT (ints_ok ns)) rfl (by
    rw [eqv_tnil]
    cases ns <;> exact q)
def spLText (d : Nat) : Sp := fun vs H Q _ => ∃ (kn : Addr) (n : Int) (dep : Nat) (ys : List Kn), vs = [.ref kn, .int n, .int (dep : Nat)] ∧ dep ≤ d ∧ H kn = some (.lst (frefs ys)) ∧ KnsOk H ys ∧ GoodF (ys.map (·.2)) ∧ hasN ys.length n ∧
  ∀ H', Same H H' → Q (.str (S (txtF (ys.map (·.2)) dep ((ys.map (·.2)).getD n.toNat (.fr 0 []))))) H'
abbrev s_law_text : Stmt := top 14
theorem sc_law_text : FnScope ["_law_known", "_law_number", "_law_deep", "_law_formula_here", "_law_head", "_law_parts", "_law_part"] ["_law_known", "_law_number", "_law_deep"] (defScope s_law_text) := ⟨rfl, rfl, rfl, by decide +kernel, rfl, by decide +kernel, by decide +kernel⟩
abbrev DLt (K : PySem.W.Frag) (mg : Str → Option Value) := Df K mg "_law_text" "_law_text" s_law_text ["_law_known", "_law_number", "_law_deep"]
theorem ltext_step (dLt : DLt K mg) (T : Bt mg) (hStr : mg "str" = none) (d k0 : Nat) (d4 : d ≤ 4) (sp0 : Sp) (G0 : FnOk P w K mg base CX0 k0 dLt.f dLt.fd ["_law_known", "_law_number", "_law_deep"] sp0) (hre : ∀ d' vs H Q, d = d' + 1 → spLText d' vs H Q E0 → sp0 vs H Q E0) :
    FnOk P w K mg base CX0 (k0 + 1) dLt.f dLt.fd ["_law_known", "_law_number", "_law_deep"] (spLText d) := by
  refine dLt.F.ok sc_law_text (fun vs H Q E h => ?_) (fun cdv A outer s H vs Q E hr h => ?_)
  · obtain ⟨kn, n, dep, ys, rfl, _⟩ := h
    rfl
  · obtain ⟨kn, n, dep, ys, rfl, hdep, hkn, hys, G, hn, k3⟩ := h
    have hu := hr.units
    have hr0 := hr
    have lx : ys.length ≤ 1000 := by have := G.1; rw [List.length_map] at this; exact this
    obtain ⟨j, rfl⟩ : ∃ j : Nat, n = j := ⟨n.toNat, by have := hn.1; omega⟩
    have hjl : j < ys.length := by have := hn.2; omega
    obtain ⟨a, f, hj⟩ : ∃ a f, ys[j]? = some (a, f) := ⟨_, _, List.getElem?_eq_getElem hjl⟩
    have hfa : FmAt H a f := hys (a, f) (List.mem_of_getElem? hj)
    have aJ : atI (frefs ys) (j : Nat) = some (.ref a) := atI_nat (by rw [List.getElem?_map, hj]; rfl)
    have hj2 : (ys.map (·.2))[j]? = some f := by rw [List.getElem?_map, hj]; rfl
    have hfm : f ∈ ys.map (·.2) := List.mem_of_getElem? hj2
    obtain ⟨fok, fsm, fns⟩ := G.2 f hfm
    have eg : (ys.map (·.2)).getD (j : Int).toNat (.fr 0 []) = f := by
      rw [List.getD_eq_getElem?_getD, Int.toNat_natCast, hj2]; rfl
    rw [eg] at k3
    have lmax := txt_len G dep hfm
    have lb := bnd4 (d := dep) (by omega)
    refine ⟨_, (pss_cons (ps_set (i := 3) sc_law_text.nd rfl (Or.inl rfl) (pe_ix (kix K) (pv 0) (pv 1) (fun _ _ => rfl)))
  (pss_cons (ps_if (pt_cmpR (keq K hu) (pe_ix (kix K) (pv 3) pe_int (fun _ _ => rfl)) (pe_lit [115, 116, 97, 114, 116] (by decide +kernel)) (nomark _)) (pss_one (ps_ret (pe_op op_addA (pe_op op_addA (pe_ix (kix K) (pe_ix (kix K) (pv 3) pe_int (fun _ _ => rfl)) pe_int (fun _ _ => rfl)) (pe_lit [58] (by decide +kernel))) (pe_callTy kstrI (by rfl) hStr (by decide +kernel) (pa_cons (pe_ix (kix K) (pe_ix (kix K) (pv 3) pe_int (fun _ _ => rfl)) pe_int (fun _ _ => rfl)) pa_nil)))))
  pss_nil)
  (pss_cons (ps_set (i := 4) sc_law_text.nd rfl (Or.inl rfl) (pe_op op_addA (pe_op op_addA (pe_callTy kstrI (by rfl) hStr (by decide +kernel) (pa_cons (pe_ix (kix K) (pv 3) pe_int (fun _ _ => rfl)) pa_nil)) (pe_lit [46] (by decide +kernel))) (pe_ix (kix K) (pv 3) pe_int (fun _ _ => rfl))))
  (pss_cons (ps_if (PW.pt (pw_or (pt_cmpR (keq K hu) (pe_ix (kix K) (pv 3) pe_int (fun _ _ => rfl)) (pe_lit [102, 114, 101, 115, 104] (by decide +kernel)) (nomark _)) (pw_or1 (pt_cmpR (keq K hu) (pe_ix (kix K) (pv 3) pe_int (fun _ _ => rfl)) (pe_tup pa_nil) (nomark _))))) (pss_one (ps_ret (pe_op op_addA (pv 4) (pe_lit [40, 41] (by decide +kernel)))))
  pss_nil)
  (pss_cons (ps_if (pt_cmpR (keq K hu) (pv 2) pe_int (nomark _)) (pss_one (ps_ret (pe_op op_addA (pv 4) (pe_lit [40, 46, 46, 41] (by decide +kernel)))))
  pss_nil)
  (pss_cons (ps_setLc (i := 5) (own := [("_law_part", 6)]) (g := gName 6) (tt := tYes) rfl sc_law_text.nd rfl rfl (sw_true rfl rfl rfl (by decide +kernel)) (kpt K (pe_ix (kix K) (pv 3) pe_int (fun _ _ => rfl))) (blkOk_by (N := ["_law_known", "_law_number", "_law_deep", "_law_formula_here", "_law_head", "_law_parts", "_law_part"]) (sc := defScope s_law_text) (by decide +kernel)) (fun _ _ _ _ _ => (pg_name (i := 6) sc_law_text.nd rfl (Or.inl rfl))) (fun _ _ _ _ _ => pts_nil) (fun _ _ _ _ _ => (pe_cf dLt G0 hr0 pass0 (pa_cons (pv 0) (pa_cons (pv 6) (pa_cons (pe_op op_subI (pv 2) pe_int) pa_nil))))))
  (pss_one (ps_ret (pe_op op_addA (pe_op op_addA (pe_op op_addA (pv 4) (pe_lit [40] (by decide +kernel))) (kjoin K (pe_lit [44, 32] (by decide +kernel)) (pv 5))) (pe_lit [41] (by decide +kernel))))))))))), ?_⟩
    refine Rd.start_ (σ' := [some (.ref kn), some (.int (j : Nat)), some (.int (dep : Nat)), none, none, none, none]) rfl ?_
    cases f with
    | st g m =>
      obtain ⟨pp, ha, hpp⟩ := hfa
      obtain ⟨m0, m1⟩ := fsm
      have ok2 := fok.2.1
      obtain ⟨m, rfl⟩ : ∃ z : Nat, m = z := ⟨m.toNat, by omega⟩
      have m9 : m < 1000000 := by omega
      have ld := dgs_len m9
      rw [txt_st] at k3
      unfold ptx at k3
      rw [Int.toNat_natCast] at k3
      unfold startS at ha
      walk_at "rd"
      exact k3 _ (Same.refl _)
    | fr sn r =>
      have ha : H a = some (.tup [.str (S freshS), .int sn, .str (S r)]) := hfa
      obtain ⟨s0, s1'⟩ := fsm
      have ok2 := fok.2.1
      obtain ⟨m, rfl⟩ : ∃ m : Nat, sn = m := ⟨sn.toNat, by omega⟩
      have m9 : m < 1000000 := by omega
      have ld := dgs_len m9
      rw [txt_fr] at k3
      unfold hdF at k3
      rw [Int.toNat_natCast] at k3
      unfold freshS at ha
      walk_at "rd"
      exact k3 _ (Same.refl _)
    | de sn r ns =>
      obtain ⟨pp, ha, hpp⟩ := hfa
      obtain ⟨s0, s1', l6⟩ := fsm
      have ok2 := fok.2.1
      obtain ⟨m, rfl⟩ : ∃ m : Nat, sn = m := ⟨sn.toNat, by omega⟩
      have m9 : m < 1000000 := by omega
      have ld := dgs_len m9
      have ehd : (dgs m ++ [46]) ++ r = hdF (m : Nat) r := by unfold hdF; rw [Int.toNat_natCast]
      have lhd := hd_len (s := (m : Nat)) (r := r) (by omega) (by omega) fok
      unfold derivS at ha
      walk_at "rd"
      rw [ehd]
      walk_at "rd"
      refine ⟨by show 0 ≤ sizeLine; decide, fun e0 he0 => ?_⟩
      have s1 := same_new (o := .tup []) he0
      refine eqTnil (s1 _ _ hpp) upd_same ?_
      generalize upd H e0 (.tup []) = H1 at s1
      have hpp1 := s1 _ _ hpp
      have ha1 := s1 _ _ ha
      have hkn1 := s1 _ _ hkn
      by_cases hns0 : ns = []
      · subst hns0
        rw [txt_nil] at k3
        walk_at "rd"
        exact k3 _ s1
      have hne : ns.isEmpty = false := by
        cases ns with
        | nil => exact absurd rfl hns0
        | cons _ _ => rfl
      rw [hne]
      walk_at "rd"
      refine Rd.iteD (fun c0 => ?_) (fun c0 => ?_)
      · have e0 : dep = 0 := by omega
        subst e0
        rw [txt_zero _ hns0] at k3
        walk_at "rd"
        exact k3 _ s1
      · obtain ⟨dep', rfl⟩ : ∃ d', dep = d' + 1 := ⟨dep - 1, by omega⟩
        obtain ⟨d', rfl⟩ : ∃ d', d = d' + 1 := ⟨d - 1, by omega⟩
        rw [txt_de _ _ hns0] at k3
        have lns : (ns.map V.int).length = ns.length := List.length_map ..
        have hb' := bnd4 (d := dep') (by omega)
        have inF : ∀ z ∈ ns, (ys.map (·.2)).getD z.toNat (.fr 0 []) ∈ ys.map (·.2) := fun z hz => by
          have hh := fns z hz
          have lt : z.toNat < (ys.map (·.2)).length := by have := hh.1; have := hh.2; omega
          rw [List.getD_eq_getElem?_getD, List.getElem?_eq_getElem lt]
          exact List.getElem_mem lt
        walk_at "rd"
        refine Rd.lcZ Rd.wTup (by rw [lns]; walk_at "sz") (fun D i acc H' => Same H1 H' ∧ acc = (ns.take i).map fun z => V.str (S (txtF (ys.map (·.2)) dep' ((ys.map (·.2)).getD z.toNat (.fr 0 []))))) (fun D hD => ⟨same_new hD, rfl⟩) (fun D i acc H' hi e => SqT.of (e.1 _ _ hpp1)) ?_ ?_
        · rintro D hD i x acc H' hi hx hacc hlen ⟨t1, e1⟩ Kt Kf hT hF
          rw [List.getElem?_map] at hx
          obtain ⟨z, hz, rfl⟩ := Option.map_eq_some_iff.mp hx
          have hzm := List.mem_of_getElem? hz
          have hzn := fns z hzm
          rw [List.length_map] at hzn
          dsimp only [List.set]
          walk_at "rd"
          have ed : ((dep' + 1 : Nat) : Int) - 1 = (dep' : Nat) := by omega
          rw [ed]
          refine hre d' _ _ _ rfl ⟨kn, z, dep', ys, rfl, by omega, t1 _ _ hkn1, hys.mono (s1.trans t1), G, hzn, fun H2 s2 => ?_⟩
          have hacc2 := s2 _ _ hacc
          refine hT _ _ hacc2 ⟨same_upd (t1.trans s2) hD, ?_⟩
          rw [e1, List.take_add_one, hz, List.map_append]
          rfl
        · rintro D acc H' hD hacc hlen ⟨t1, e1⟩
          rw [lns, List.take_length] at e1
          have e2 : acc = ((ns.map fun z : Int => txtF (ys.map (·.2)) dep' ((ys.map (·.2)).getD z.toNat (.fr 0 []))).map fun y => S y).map V.str := by
            rw [e1, List.map_map, List.map_map]; rfl
          rw [e2] at hacc
          have hall : ∀ y ∈ ns.map (fun z : Int => txtF (ys.map (·.2)) dep' ((ys.map (·.2)).getD z.toNat (.fr 0 []))), y.length ≤ 100000 := fun y hy => by
            obtain ⟨z, hz, rfl⟩ := List.mem_map.mp hy
            exact Nat.le_trans (txt_len G dep' (inF z hz)) hb'
          have ljo := join_len hall
          rw [List.length_map] at ljo
          have ej := SX.join_S [44, 32] (ns.map fun z : Int => txtF (ys.map (·.2)) dep' ((ys.map (·.2)).getD z.toNat (.fr 0 [])))
          have lln : (ns.map fun z : Int => txtF (ys.map (·.2)) dep' ((ys.map (·.2)).getD z.toNat (.fr 0 []))).length = ns.length := List.length_map ..
          generalize (ns.map fun z : Int => txtF (ys.map (·.2)) dep' ((ys.map (·.2)).getD z.toNat (.fr 0 []))) = ls at hacc hall ljo ej k3 lln
          have lj : (TL.joinL [44, 32] ls).length ≤ 600012 := Nat.le_trans ljo (Nat.le_trans (Nat.mul_le_mul_right _ l6) (by decide))
          walk_at "rd"
          refine Rd.join (SqL.of hacc) ?_ ?_
          · have sm : ∀ {zs : List (List Nat)}, (∀ y ∈ zs, y.length ≤ 100000) → ((zs.map fun y => S y).map (·.length)).sum ≤ zs.length * 100000 := fun {zs} => by
              induction zs with
              | nil => intro _; exact Nat.zero_le _
              | cons y zs ih =>
                intro h
                have h1 := h y List.mem_cons_self
                have h2 := ih fun x hx => h x (List.mem_cons_of_mem _ hx)
                rw [List.map_cons, List.map_cons, List.sum_cons, List.length_cons, Nat.succ_mul]
                have h3 : (S y).length = y.length := rfl
                omega
            have h1 := sm hall
            have h2 : ((ls.map fun y => S y)).length = ls.length := List.length_map ..
            rw [h2]
            have h3 : (S [44, 32]).length = 2 := rfl
            rw [h3]
            omega
          · rw [ej]
            walk_at "rd"
            exact k3 _ (s1.trans t1)
theorem ok_ltext (dLt : DLt K mg) (T : Bt mg) (hStr : mg "str" = none) : ∀ d, d ≤ 4 → FnOk P w K mg base CX0 (d + 1) dLt.f dLt.fd ["_law_known", "_law_number", "_law_deep"] (spLText d) := by
  intro d
  induction d with
  | zero => exact fun _ => ltext_step dLt T hStr 0 0 (by decide) (fun _ _ _ _ => False) ⟨fun _ _ _ _ h => h.elim, fun _ _ _ _ _ _ _ _ _ _ _ _ _ h => h.elim⟩ fun d' _ _ _ h => by omega
  | succ d ih =>
    intro h4
    refine ltext_step dLt T hStr (d + 1) (d + 1) h4 _ (ih (by omega)) fun d' vs H Q e h => ?_
    have e' : d' = d := by omega
    subst e'
    exact h

end
section
variable {P : Program} {w : World} {K : PySem.W.Frag} {mg : Str → Option Value} {base : Heap} {tk : Tok}
/-! ### a number that the table does not have -/
open ND
def spMissing (P : Program) (w : World) (C : Addr) : Sp := fun vs H Q _ => ∃ (p l d : Addr) (xs : List Kn) (n : Int), vs = [.ref p, .int n] ∧ CtAt P w C H p l d xs ∧ GoodF (xs.map (·.2)) ∧ ¬ hasN xs.length n ∧
  ∀ t H', Same H H' → H' t = some (.tup [.int n, .bl true]) → Q (.ref t) H'
abbrev s_law_missing : Stmt := top 13
theorem sc_law_missing : FnScope ["_law_contents", "_law_number", "_law_text_here", "e"] ["_law_contents", "_law_number"] (defScope s_law_missing) := ⟨rfl, rfl, rfl, by decide +kernel, rfl, by decide +kernel, by decide +kernel⟩
abbrev DMi (K : PySem.W.Frag) (mg : Str → Option Value) := Df K mg "_law_missing" "_law_missing" s_law_missing ["_law_contents", "_law_number"]
theorem ok_missing {mC : Addr} (d : DMi K mg) (T : Bt mg) (cc : Cn K mg mC) (eF : ErF K mg) (tx : Txm K) (hTx : Meth K cc.C "text" tx.f) (GTx : FnOk P w K mg base (L2.CX P w) 9 tx.f tx.fd ["self", "number", "depth"] (spText P w cc.C eF.C 4))
    {cRE : Addr} (gRE : mg "RedoError" = some (.ref cRE)) (q1 : PySem.W.kitOne K (.ref eF.C) (.ref cRE) = some true) : FnOk P w K mg base CX0 10 d.f d.fd ["_law_contents", "_law_number"] (spMissing P w cc.C) := by
  refine d.F.ok sc_law_missing (fun vs H Q E h => ?_) (fun cdv A outer s H vs Q E hr h => ?_)
  · obtain ⟨p, l, d, xs, n, rfl, _⟩ := h
    rfl
  · obtain ⟨p, l, d, xs, n, rfl, hc, G, hb, k⟩ := h
    have hu := hr.units
    obtain ⟨dx, hp⟩ := hc.ins
    refine ⟨_, (pss_cons (ktry_as K 3 sc_law_missing.nd ⟨rfl, by decide, Or.inl eF.g⟩ (fun W pn xe tk _ => (pss_one (ps_set (i := 2) sc_law_missing.nd rfl (Or.inl rfl) (pe_mTD (pv 0) cc.cl hTx GTx hr tx.b tx.vd tk (pa_cons (pv 1) pa_nil))))) (fun a oe cls d pn hz hf => (pss_one (ps_ret (pe_tup (pa_cons (kxf eF.xf eF.no hz hf (pv 3)) (pa_cons (pe_callB (call_isX eF.xc hz hf) (by rfl) T.isinstance (by decide +kernel) (pa_cons (pv 3) (pa_cons (pe_glob (v := .ref cRE) rfl gRE rfl) pa_nil))) pa_nil)))))))
  (pss_one (ps_ret (pe_tup (pa_cons (pv 2) pa_nil))))), ?_⟩
    refine Rd.start_ (σ' := [some (.ref p), some (.int n), none, none]) rfl ?_
    walk_at "rd"
    refine ⟨p, dx, _, rfl, hp, ctf_no _ _ (by decide +kernel) (by decide +kernel), ?_⟩
    walk_at "rd"
    refine ⟨p, l, d, n, 2, xs, rfl, by decide, hc, G, fun h => absurd h hb, fun _ dd H1 s1 hd => ?_⟩
    refine Rd.wAs_yes eF.te fun ae hae => ?_
    dsimp only [List.set]
    walk_at "rd"
    refine ⟨rfl, rfl, dd, _, _, rfl, hd, by simp [List.lookup]; rfl, ?_⟩
    walk_at "rd"
    refine Rd.isX (fun u h => h) rfl rfl hd q1 ?_
    walk_at "rd"
    refine ⟨by show 2 ≤ sizeLine; decide, fun t ht => ?_⟩
    exact k t _ (s1.trans (same_new ht)) upd_same

end
section
variable {P : Program} {w : World} {K : PySem.W.Frag} {mg : Str → Option Value} {base : Heap} {tk : Tok}
/-! ### the law -/
open ND
theorem ct_go {mC : Addr} (cc : Cn K mg mC) {H : Hp} {Q : VK} {E : XK} (k : ∀ p l d H', H p = none → H l = none → H d = none → Same H H' → CtAt P w cc.C H' p l d [] → Q (.ref p) H') : MkGo cc.C (spCtI (K := K) P w) [] H Q E := by
  intro x dx hx hd ne
  have s0 : Same H (upd (upd H dx (.own x)) x (.ins cc.C dx [])) := fun b o e => by
    rw [upd_ne (ne_of_none e hx), upd_ne (ne_of_none e hd)]; exact e
  refine ⟨x, cc.C, dx, rfl, cc.cl, cc.nF, cc.nP, upd_same, fun H' l d sB hl hd' ct => ⟨rfl, ?_⟩⟩
  exact k x l d H' hx (none_same' s0 hl) (none_same' s0 hd') (fun b o e => sB b o (ne_of_none e hx) (s0 b o e)) ct
theorem SameB.ofNone {p : Addr} {H H1 H2 : Hp} (s : Same H H1) (hp : H p = none) (t : SameB p H1 H2) : Same H H2 := fun b o e => t b o (ne_of_none e hp) (s b o e)
theorem sq_same {a : Addr} {xs : List V} {H H' : Hp} (h : SqL K H a xs) (s : Same H H') : SqL K H' a xs := by
  rcases h with (h | ⟨o, h⟩) | h
  · exact .inl (.inl (s _ _ h))
  · exact .inl (.inr ⟨o, s _ _ h⟩)
  · exact .inr h
structure Tb (P : Program) (w : World) (C : Addr) (H0 : Hp) (pc lc dc kn : Addr) (xs ys : List Kn) (H : Hp) : Prop where
  s : Same H0 H
  ct : CtAt P w C H pc lc dc xs
  hkn : H kn = some (.lst (frefs ys))
  ky : KnsOk H ys
  d1 : kn ≠ lc
  n1 : H0 lc = none
  n2 : H0 dc = none
  n3 : H0 kn = none
section
variable {C : Addr} {H0 : Hp} {pc lc dc kn : Addr} {xs ys : List Kn} {H H' : Hp}
theorem Tb.same (h : Tb P w C H0 pc lc dc kn xs ys H) (e : Same H H') : Tb P w C H0 pc lc dc kn xs ys H' := ⟨h.s.trans e, h.ct.mono e, e _ _ h.hkn, h.ky.mono e, h.d1, h.n1, h.n2, h.n3⟩
theorem Tb.num (h : Tb P w C H0 pc lc dc kn xs ys H) {xs' : List Kn} (e : ∀ a, a ≠ lc → a ≠ dc → H' a = H a) (c : CtAt P w C H' pc lc dc xs') : Tb P w C H0 pc lc dc kn xs' ys H' := by
  have nd : ∀ a o, H a = some o → (∀ φ, o ≠ .ext φ) → a ≠ dc := fun a o ha hl z => by
    have := h.ct.dct
    rw [← z, ha] at this
    exact hl _ (Option.some.inj this)
  have nl : ∀ a o, H a = some o → (∀ l, o ≠ .lst l) → a ≠ lc := fun a o ha hl z => by
    have := h.ct.lst
    rw [← z, ha] at this
    exact hl _ (Option.some.inj this)
  refine ⟨fun b o z => ?_, c, ?_, h.ky.keep fun b ys z => ?_, h.d1, h.n1, h.n2, h.n3⟩
  · rw [e _ (ne_of_none z h.n1) (ne_of_none z h.n2)]; exact h.s _ _ z
  · rw [e _ h.d1 (nd _ _ h.hkn fun l q => by cases q)]; exact h.hkn
  · rw [e b (nl _ _ z fun l q => by cases q) (nd _ _ z fun l q => by cases q)]; exact z
theorem Tb.app (h : Tb P w C H0 pc lc dc kn xs ys H) {ys' : List Kn} (hy : KnsOk H ys') : Tb P w C H0 pc lc dc kn xs ys' (upd H kn (.lst (frefs ys'))) := by
  have nl : ∀ a o, H a = some o → (∀ l, o ≠ .lst l) → a ≠ kn := fun a o ha hl z => by
    have := h.hkn
    rw [← z, ha] at this
    exact hl _ (Option.some.inj this)
  have tk : ∀ b ys, H b = some (.tup ys) → upd H kn (.lst (frefs ys')) b = some (.tup ys) := fun b ys z => by
    rw [upd_ne (nl _ _ z fun l q => by cases q)]; exact z
  obtain ⟨dx, hi⟩ := h.ct.ins
  refine ⟨fun b o z => ?_, h.ct.keep (fun o z => ?_) (fun o z => ?_) (fun o z => ?_) tk, upd_same, hy.keep tk, h.d1, h.n1, h.n2, h.n3⟩
  · rw [upd_ne (ne_of_none z h.n3)]; exact h.s _ _ z
  · rw [upd_ne (nl _ _ hi fun l q => by cases q)]; exact z
  · rw [upd_ne (Ne.symm h.d1)]; exact z
  · rw [upd_ne (nl _ _ h.ct.dct fun l q => by cases q)]; exact z
end
def spLaw (K : PySem.W.Frag) : Sp := fun vs H Q _ => ∃ (a : Addr) (ns : List Int), vs = [.ref a] ∧ SqL K H a (ns.map V.int) ∧ ns.length ≤ 63 ∧ ∀ H', Q (.bl true) H'
abbrev s_law : Stmt := top 15
theorem sc_law : FnScope ["_law_script", "_law_names_here", "_law_contents", "_law_known", "_law_turn", "_law_formula_here", "_law_many", "_law_number", "_law_deep", "_law_text_here"] ["_law_script"] (defScope s_law) := ⟨rfl, rfl, rfl, by decide +kernel, rfl, by decide +kernel, by decide +kernel⟩
theorem badN_none {m : Nat} {f : Fm} (h : ∀ n ∈ f.nums, 0 ≤ n ∧ n < (m : Int)) {m' : Nat} (hm : m ≤ m') : badN m' f = none := by
  unfold badN
  rw [List.find?_eq_none]
  intro n hn
  rw [decide_eq_true ⟨(h n hn).1, by have := (h n hn).2; omega⟩]
  decide
theorem len_ct {C : Addr} {H : Hp} {Q : VK} {p l d : Addr} {xs : List Kn} (c : CtAt P w C H p l d xs) (h : xs.length ≤ 1000) (q : Q (.int (xs.length : Nat)) H) : rLenO K C (spCtL C) [.ref p] H Q := by
  obtain ⟨dx, hp⟩ := c.ins
  exact ⟨p, dx, _, rfl, hp, p, l, d, xs, P, w, rfl, c, _, rfl, by omega, q⟩
theorem num_go {C pc lc dc kn eF : Addr} {H0 : Hp} {zs ys : List Kn} {H : Hp} {b : Addr} {f : Fm} {Q : VK} {E : XK} (bd : Tb P w C H0 pc lc dc kn zs ys H) (hf : FmAt H b f) (hl : zs.length ≤ 1000) (hb : badN zs.length f = none)
    (hz : (zs = ys ∧ f ∈ ys.map (·.2)) ∨ (ys = zs ++ [(b, f)] ∧ ∀ g ∈ zs, g.2 ≠ f)) (k : ∀ v H2, Tb P w C H0 pc lc dc kn ys ys H2 → Q v H2) : spNum P w C eF [.ref pc, .ref b] H Q E := by
  refine ⟨pc, lc, dc, b, f, zs, rfl, bd.ct, hf, hl, (fun n hn => by rw [hb] at hn; cases hn), fun _ => ⟨fun j a hj => ?_, fun hn H2 fr ct2 => ?_⟩⟩
  · rcases hz with ⟨e, _⟩ | ⟨_, e⟩
    · subst e; exact k _ H bd
    · exact absurd rfl (e _ (List.mem_of_getElem? hj))
  · rcases hz with ⟨e, hm⟩ | ⟨e, _⟩
    · subst e
      obtain ⟨g, hg, e⟩ := List.mem_map.mp hm
      exact absurd e (hn g hg)
    · subst e
      exact k _ H2 (bd.num fr ct2)
theorem foR2 {σ : L2.St} {H : Hp} {ta : TA} {g : TG} {tb : TS} {D : Ends} (h : ta σ H fun us H1 => ∃ i j : Int, us = [.int i, .int j] ∧ (-(2 ^ 62) ≤ i ∧ i < 2 ^ 62 ∧ -(2 ^ 62) ≤ j ∧ j < 2 ^ 62) ∧ FoGo (Itr i (j - i).toNat) g tb D σ H1) : tFor (iRng2 ta) g tb D σ H := h
theorem wRange2 {lo : Int} {n : Nat} : Walk (Itr lo n) n (fun _ => True) (Flat fun i x => x = .int (lo + i)) := walk_range
theorem methDf {σ : L2.St} {H : Hp} {ta : TE} {t : TA} {Q : VK} {C : Addr} {m : Str} {sp : Sp} {dvs : List V} {E : XK} (h : ta σ H fun x H1 => ∃ a dx fs, x = .ref a ∧ H1 a = some (.ins C dx fs) ∧ fs.lookup m = none ∧ t σ H1 fun vs H2 => sp (x :: (vs ++ dvs)) H2 Q E) : tMeth C m sp dvs E ta t σ H Q := h
def Kd (ys : List Kn) : Prop := ∀ g ∈ ys, g.2.ok ∧ g.2.small ∧ ∀ n ∈ g.2.nums, hasN ys.length n
theorem Kd.good {ys : List Kn} (h : Kd ys) (hl : ys.length ≤ 1000) : GoodF (ys.map (·.2)) := by
  refine ⟨by rw [List.length_map]; exact hl, fun f hf => ?_⟩
  obtain ⟨g, hg, rfl⟩ := List.mem_map.mp hf
  rw [List.length_map]
  exact h g hg
theorem ok_law {f : Addr} {fd : FuncData} {eF : ErF K mg} (F : Fun K "law" "law" s_law f fd) (T : Bt mg) (hStr : mg "str" = none) (hMax : mg "max" = none) (dP : DPool K mg) (dD : DDraw K mg) (dN : DNames K mg) (dMi : DMi K mg) (dFm : DFm K mg) (dLt : DLt K mg) (mC : MCi K) (cc : Cn K mg mC.f)
    (mNo : MNo K) (hNo : Meth K cc.C "number_of" mNo.f) (tx : Txm K) (hTx : Meth K cc.C "text" tx.f) (mL : MCl K) (hL1 : PySem.W.findIn K (.ref cc.C) "__len__" = some (some (.ref mL.f))) (hL2 : PySem.W.isFn K (.ref mL.f) = true)
    (GP : FnOk P w K mg base CX0 1 dP.f dP.fd ["_law_script", "_law_k"] (spPool K)) (GD : FnOk P w K mg base CX0 1 dD.f dD.fd ["_law_pool_here", "_law_many"] spDraw) (GN : FnOk P w K mg base CX0 2 dN.f dN.fd ["_law_pool_here"] spNames)
    (GMi : FnOk P w K mg base CX0 10 dMi.f dMi.fd ["_law_contents", "_law_number"] (spMissing P w cc.C)) (GFm : FnOk P w K mg base CX0 2 dFm.f dFm.fd ["_law_pool_here", "_law_names_here", "_law_many"] spFormula) (GLt : FnOk P w K mg base CX0 5 dLt.f dLt.fd ["_law_known", "_law_number", "_law_deep"] (spLText 4)) (GC : FnOk P w K mg base CX0 1 mC.f mC.fd ["self"] (spCtI (K := K) P w))
    (GNo : FnOk P w K mg base (L2.CX P w) 4 mNo.f mNo.fd ["self", "formula"] (spNum P w cc.C eF.C)) (GTx : FnOk P w K mg base (L2.CX P w) 9 tx.f tx.fd ["self", "number", "depth"] (spText P w cc.C eF.C 4)) (GCl : FnOk P w K mg base CX0 1 mL.f mL.fd ["self"] (spCtL cc.C)) :
    FnOk P w K mg base CX0 12 f fd ["_law_script"] (spLaw K) := by
  refine F.ok sc_law (fun vs H Q E h => ?_) (fun cdv A outer s H vs Q E hr h => ?_)
  · obtain ⟨a, ns, rfl, _⟩ := h
    rfl
  · obtain ⟨a, ns, rfl, hS, hl, k⟩ := h
    have hu := hr.units
    have hu2 := u65 hr
    have hr10 : Room 10 _ := hr.mono (by decide)
    have hr9 : Room 9 _ := hr.mono (by decide)
    have hr5 : Room 5 _ := hr.mono (by decide)
    have hr4 : Room 4 _ := hr.mono (by decide)
    have hr2 : Room 2 _ := hr.mono (by decide)
    have hr1 : Room 1 _ := hr.mono (by decide)
    refine ⟨_, (pss_cons (ps_set (i := 1) sc_law.nd rfl (Or.inl rfl) (pe_cf dN GN hr2 pass0 (pa_cons (pe_cf dP GP hr1 pass0 (pa_cons (pv 0) (pa_cons pe_int pa_nil))) pa_nil)))
  (pss_cons (ps_set (i := 2) sc_law.nd rfl (Or.inl rfl) (pe_mk0 mC cc.M cc.g GC hr2 pass0))
  (pss_cons (ps_set (i := 3) sc_law.nd rfl (Or.inl rfl) (pe_lst pa_nil))
  (pss_cons (ps_for PassesOwn.never rfl (pi_range1 rfl T.range (pa_cons (pe_op op_addA pe_int (pe_cf dD GD hr1 pass0 (pa_cons (pe_cf dP GP hr1 pass0 (pa_cons (pv 0) (pa_cons pe_int pa_nil))) (pa_cons pe_int pa_nil)))) pa_nil)) (pg_name (i := 4) sc_law.nd rfl (Or.inl rfl))
  (pss_cons (ps_set (i := 5) sc_law.nd rfl (Or.inl rfl) (pe_cf dFm GFm hr2 pass0 (pa_cons (pe_cf dP GP hr1 pass0 (pa_cons (pv 0) (pa_cons (pe_op op_addA pe_int (pv 4)) pa_nil))) (pa_cons (pv 1) (pa_cons (pe_callB (klen K) (by rfl) T.len (by decide +kernel) (pa_cons (pv 3) pa_nil)) pa_nil)))))
  (pss_cons (ps_if (pt_cmpR (kninD K hu hu2) (pv 5) (pv 3) rfl) (pss_one (ps_expr (kapp K (pv 3) (pa_cons (pv 5) pa_nil))))
  pss_nil)
  (pss_one (ps_expr (pe_mA (pv 2) cc.cl mNo hNo GNo hr4 passL (pa_cons (pv 5) pa_nil)))))))
  (pss_cons (ps_set (i := 6) sc_law.nd rfl (Or.inl rfl) (pe_callB (klen K) (by rfl) T.len (by decide +kernel) (pa_cons (pv 3) pa_nil)))
  (pss_cons (ps_for PassesOwn.never rfl (pi_range2 rfl T.range (pa_cons (pe_callB (call_max2 rfl) (by rfl) hMax (by decide +kernel) (pa_cons pe_int (pa_cons (pe_op op_subI (pv 6) pe_int) pa_nil))) (pa_cons (pv 6) pa_nil))) (pg_name (i := 7) sc_law.nd rfl (Or.inl rfl))
  (pss_cons (ps_if (pt_cmpR (kne K hu) (pe_mD (pv 2) cc.cl hTx GTx hr9 tx.b tx.vd passL (pa_cons (pv 7) pa_nil)) (pe_cf dLt GLt hr5 pass0 (pa_cons (pv 3) (pa_cons (pv 7) (pa_cons pe_int pa_nil)))) (nomark _)) (pss_one (ps_ret pe_bl))
  pss_nil)
  (pss_one (ps_for PassesOwn.never rfl (kpl K (pe_lst (pa_cons pe_int (pa_cons pe_int (pa_cons pe_int (pa_cons pe_int (pa_cons pe_int pa_nil))))))) (pg_name (i := 8) sc_law.nd rfl (Or.inl rfl))
  (pss_cons (ps_set (i := 9) sc_law.nd rfl (Or.inl rfl) (pe_mK (pv 2) cc.cl hTx GTx hr9 tx.kb passL (pa_cons (pv 7) pa_nil) (pk_cons (pv 8) pk_nil)))
  (pss_one (ps_if (PW.pt (pw_or (pt_not (pt_val (pe_callB (kisi K) (by rfl) T.isinstance (by decide +kernel) (pa_cons (pv 9) (pa_cons (pe_bltn (v := .ty "str") (by rfl) hStr (by decide +kernel) rfl) pa_nil))))) (pw_or1 (pt_cmpR (kne K hu) (pv 9) (pe_cf dLt GLt hr5 pass0 (pa_cons (pv 3) (pa_cons (pv 7) (pa_cons (pv 8) pa_nil)))) (nomark _))))) (pss_one (ps_ret pe_bl))
  pss_nil)))))))
  (pss_cons (ps_for PassesOwn.never rfl (kpl K (pe_lst (pa_cons (pe_un un_neg pe_int) (pa_cons (pv 6) (pa_cons (pe_op op_addA (pv 6) pe_int) pa_nil))))) (pg_name (i := 7) sc_law.nd rfl (Or.inl rfl))
  (pss_one (ps_if (pt_cmpR (kne K hu) (pe_cf dMi GMi hr10 pass0 (pa_cons (pv 2) (pa_cons (pv 7) pa_nil))) (pe_tup (pa_cons (pv 7) (pa_cons pe_bl pa_nil))) (nomark _)) (pss_one (ps_ret pe_bl))
  pss_nil)))
  (pss_one (ps_ret (pe_cmpR (keq K hu) (pe_callB (klenO K hL1 hL2 GCl mL.b hr2) (by rfl) T.len (by decide +kernel) (pa_cons (pv 2) pa_nil)) (pv 6) (nomark _))))))))))), ?_⟩
    refine Rd.start_ (σ' := [some (.ref a), none, none, none, none, none, none, none, none, none]) rfl ?_
    walk_at "rd"
    refine ⟨a, ns, 2, rfl, hS, hl, by decide, by decide, fun p0 H1 hp0 s1 p1 => ?_⟩
    walk_at "rd"
    refine ⟨p0, rfl, p1, fun xs q H2 hx8 hxN hxD hq0 s2 p2 hq => ?_⟩
    have s02 : Same H H2 := SameB.ofNone s1 hp0 s2
    have hS2 : SqL K H2 a (ns.map V.int) := sq_same hS s02
    clear p2 s2 p1 s1 hp0 s02 hq0 hxD
    walk_at "rd"
    refine ct_go cc fun pc lc dc H3 hpc0 hlc0 hdc0 s3 ct3 => ?_
    walk_at "rd"
    refine ⟨by show 0 ≤ sizeLine; decide, fun kn hkn => ?_⟩
    have s5 := same_new (o := .lst []) hkn
    have b5 : Tb P w cc.C H2 pc lc dc kn [] [] (upd H3 kn (.lst [])) := ⟨s3.trans s5, ct3.mono s5, upd_same, fun q hq => absurd hq List.not_mem_nil, Ne.symm (ne_of_none ct3.lst hkn), hlc0, hdc0, none_same' s3 hkn⟩
    generalize upd H3 kn (.lst []) = H5 at s5 b5
    clear s5 ct3 s3 hkn hpc0 hlc0 hdc0
    have lf : ∀ ys : List Kn, (frefs ys).length = ys.length := fun ys => List.length_map ..
    have sq : ∀ {xs ys H}, Tb P w cc.C H2 pc lc dc kn xs ys H → SqL K H a (ns.map V.int) := fun t => sq_same hS2 t.s
    walk_at "rd"
    refine ⟨a, ns, 0, rfl, sq b5, hl, by decide, by decide, fun p8 H8 hp80 s8 pl8 => ?_⟩
    walk_at "rd"
    refine ⟨_, _, rfl, by decide, by decide, pl8, fun tn H9 t0 t14 e9 pl9 => ?_⟩
    have b9 := b5.same (SameB.ofNone s8 hp80 (SameB.drawn e9))
    clear pl9 e9 pl8 s8 hp80 b5
    walk_at "rd"
    refine Rd.foW Rd.wRange (fun i σ H' => ∃ (o4 o5 : Option V) (ys : List Kn), σ = [some (.ref a), some (.ref q), some (.ref pc), some (.ref kn), o4, o5, none, none, none, none] ∧ Tb P w cc.C H2 pc lc dc kn ys ys H' ∧ ys.length ≤ i ∧ Kd ys) ⟨_, _, [], rfl, b9, Nat.le_refl _, fun g hg => absurd hg List.not_mem_nil⟩ (fun _ _ _ _ _ => trivial) ?_ ?_
    · clear b9
      rintro i x σ H10 hi hx ⟨o4, o5, ys, rfl, b10, hln, hK⟩
      rw [Int.zero_add] at hx
      subst hx
      dsimp only [List.set]
      walk_at "rd"
      refine ⟨a, ns, 14 + (i : Int), rfl, sq b10, hl, by omega, by omega, fun p H11 hp0 s11 pl11 => ?_⟩
      have hkn11 := s11 _ _ b10.hkn
      walk_at "rd"
      rw [lf]
      walk_at "rd"
      refine ⟨p, q, xs, ys.length, rfl, pl11, s11 _ _ (b10.s _ _ hq), hx8, hxN, by omega, fun b f H12 hb0 sB pl12 hf fok fsm fn => ?_⟩
      have b12 := b10.same (SameB.ofNone s11 hp0 sB)
      clear pl12 sB pl11 s11 hp0 hkn11 hb0
      show tSeq _ _ _ _ _
      refine Rd.seq ?_
      refine Rd.mid (fun σ H' => ∃ (ys' : List Kn), σ = [some (.ref a), some (.ref q), some (.ref pc), some (.ref kn), some (.int (i : Nat)), some (.ref b), none, none, none, none] ∧ Tb P w cc.C H2 pc lc dc kn ys ys' H' ∧ FmAt H' b f ∧ ((ys = ys' ∧ f ∈ ys'.map (·.2)) ∨ (ys' = ys ++ [(b, f)] ∧ ∀ g ∈ ys, g.2 ≠ f)) ∧ Kd ys' ∧ ys'.length ≤ i + 1) ?_ ?_
      · rintro σ H14 ⟨ys', rfl, b14, hf14, hz, hK', hl'⟩
        obtain ⟨dx, hp⟩ := b14.ct.ins
        walk_at "rd"
        refine ⟨pc, dx, _, rfl, hp, ctf_no _ _ (by decide +kernel) (by decide +kernel), ?_⟩
        walk_at "rd"
        refine num_go b14 hf14 (by omega) (badN_none fn (Nat.le_refl _)) hz fun v H16 b16 => ?_
        walk_at "rd"
        exact ⟨_, _, ys', rfl, b16, hl', hK'⟩
      · intro N' hN'
        have ndy := b12.ct.nd
        have ok' : ∀ g ∈ ys.map (·.2), g.ok := fun g hg => by
          obtain ⟨z, hz, rfl⟩ := List.mem_map.mp hg
          exact (hK z hz).1
        walk_at "rd"
        refine ⟨f.dat, (ys.map (·.2)).map Fm.dat, hf.dp, .lst (SqL.of b12.hkn) (kns_dp b12.ky), Fm.sh fok, fms_sh ok', ?_⟩
        rw [fms_any ok']
        walk_at "rd"
        refine Rd.iteN (fun c => ?_) (fun c => ?_)
        · have hne : ∀ g ∈ ys, g.2 ≠ f := fun g hg e => c (List.mem_map.mpr ⟨g, hg, e⟩)
          have lys : (frefs ys).length < sizeLine := by rw [lf]; walk_at "sz"
          have hkn12 := b12.hkn
          walk_at "rd"
          have ef : frefs ys ++ [V.ref b] = frefs (ys ++ [(b, f)]) := by unfold frefs; rw [List.map_append]; rfl
          rw [ef]
          have ky : KnsOk H12 (ys ++ [(b, f)]) := fun g hg => by
            rcases List.mem_append.mp hg with z | z
            · exact b12.ky g z
            · rw [List.mem_singleton.mp z]; exact hf
          have b14 := b12.app ky
          refine hN' _ _ ⟨ys ++ [(b, f)], rfl, b14, b14.ky _ (List.mem_append.mpr (.inr (List.mem_singleton.mpr rfl))), .inr ⟨rfl, hne⟩, fun g hg => ?_, by rw [List.length_append]; show _ + 1 ≤ _; omega⟩
          have lapp : (ys ++ [(b, f)]).length = ys.length + 1 := List.length_append
          rw [lapp]
          rcases List.mem_append.mp hg with z | z
          · have := hK g z
            exact ⟨this.1, this.2.1, fun n hn => ⟨(this.2.2 n hn).1, by have := (this.2.2 n hn).2; omega⟩⟩
          · rw [List.mem_singleton.mp z]
            exact ⟨fok, fsm, fun n hn => ⟨(fn n hn).1, by have := (fn n hn).2; omega⟩⟩
        · walk_at "rd"
          exact hN' _ _ ⟨ys, rfl, b12, hf, .inl ⟨rfl, c⟩, hK, by omega⟩
    · rintro σ H10 ⟨o4, o5, ys, rfl, b10, hln, hK⟩
      have G := hK.good (by omega)
      have hkn10 := b10.hkn
      walk_at "rd"
      rw [lf]
      walk_at "rd"
      refine foR2 ?_
      walk_at "rd"
      refine ⟨0, (ys.length : Int) - 5, rfl, ?_⟩
      walk_at "rd"
      have hlo : ∃ lo : Int, (if (ys.length : Int) - 5 > 0 then (ys.length : Int) - 5 else 0) = lo ∧ 0 ≤ lo := ⟨_, rfl, by split <;> omega⟩
      obtain ⟨lo, elo, lo0⟩ := hlo
      rw [elo]
      have lo1 : lo ≤ ys.length := by rw [← elo]; split <;> omega
      clear elo
      refine ⟨lo, (ys.length : Int), rfl, ⟨by omega, by omega, by omega, by omega⟩, ?_⟩
      refine Rd.foW wRange2 (fun i σ H' => ∃ (o7 o8 o9 : Option V), σ = [some (.ref a), some (.ref q), some (.ref pc), some (.ref kn), o4, o5, some (.int (ys.length : Nat)), o7, o8, o9] ∧ Tb P w cc.C H2 pc lc dc kn ys ys H') ⟨_, _, _, rfl, b10⟩ (fun _ _ _ _ _ => trivial) ?_ ?_
      · clear hkn10 b10
        rintro i x σ H11 hi hx ⟨o7, o8, o9, rfl, b11⟩
        have hn : hasN ys.length (lo + (i : Int)) := ⟨by omega, by omega⟩
        generalize lo + (i : Int) = n at hn hx
        subst hx
        dsimp only [List.set]
        obtain ⟨dx, hp⟩ := b11.ct.ins
        walk_at "rd"
        refine methDf ?_
        walk_at "rd"
        refine ⟨pc, dx, _, rfl, hp, ctf_no _ _ (by decide +kernel) (by decide +kernel), ?_⟩
        walk_at "rd"
        refine ⟨pc, lc, dc, n, 2, ys, rfl, by decide, b11.ct, G, fun _ H12 s12 => ?_, fun h => absurd hn h⟩
        have b12 := b11.same s12
        walk_at "rd"
        refine ⟨kn, n, 2, ys, rfl, by decide, b12.hkn, b12.ky, G, hn, fun H13 s13 => ?_⟩
        have b13 := b12.same s13
        clear b12 b11 s12 s13 hp
        walk_at "rd"
        refine Rd.iteNDT rfl ?_
        walk_at "rd"
        refine ⟨by show 5 ≤ sizeLine; decide, fun l5 hl5 => ?_⟩
        have s14 := same_new (o := .lst [V.int 4, V.int 0, V.int 3, V.int 1, V.int 2]) hl5
        have b14 := b13.same s14
        have h5 : upd H13 l5 (.lst [V.int 4, V.int 0, V.int 3, V.int 1, V.int 2]) l5 = some (.lst ([4, 0, 3, 1, 2].map fun z : Nat => V.int (z : Int))) := upd_same
        generalize upd H13 l5 (.lst [V.int 4, V.int 0, V.int 3, V.int 1, V.int 2]) = H14 at s14 b14 h5
        clear b13
        refine ⟨l5, rfl, ⟨_, SqL.of h5⟩, ?_⟩
        refine Rd.foW Rd.wList (fun i σ H' => ∃ (o8 o9 : Option V), σ = [some (.ref a), some (.ref q), some (.ref pc), some (.ref kn), o4, o5, some (.int (ys.length : Nat)), some (.int n), o8, o9] ∧ Same H14 H') ⟨_, _, rfl, Same.refl _⟩ (fun i σ H' _ ⟨_, _, _, e⟩ => SqL.of (e _ _ h5)) ?_ ?_
        · rintro i x σ H15 hi hx ⟨o8, o9, rfl, s15⟩
          rw [List.getElem?_map] at hx
          obtain ⟨z, hz, rfl⟩ := Option.map_eq_some_iff.mp hx
          have z4 : z ≤ 4 := by
            have : ∀ y ∈ [4, 0, 3, 1, 2], y ≤ 4 := by decide
            exact this z (List.mem_of_getElem? hz)
          have b15 := b14.same s15
          obtain ⟨dx15, hp15⟩ := b15.ct.ins
          dsimp only [List.set]
          walk_at "rd"
          refine ⟨pc, dx15, _, rfl, hp15, ctf_no _ _ (by decide +kernel) (by decide +kernel), ?_⟩
          walk_at "rd"
          refine ⟨rfl, rfl, pc, lc, dc, n, z, ys, rfl, z4, b15.ct, G, fun _ H16 s16 => ?_, fun h => absurd hn h⟩
          have b16 := b15.same s16
          walk_at "rd"
          refine Rd.isi (.ty _) (.base (.str _)) (kit_ty (r := true) (by decide +kernel)) ?_
          walk_at "rd"
          refine ⟨kn, n, z, ys, rfl, z4, b16.hkn, b16.ky, G, hn, fun H17 s17 => ?_⟩
          walk_at "rd"
          refine Rd.iteNDT rfl ?_
          walk_at "rd"
          exact ⟨_, _, rfl, (s15.trans s16).trans s17⟩
        · rintro σ H15 ⟨o8, o9, rfl, s15⟩
          exact ⟨_, _, _, rfl, b14.same s15⟩
      · rintro σ H11 ⟨o7, o8, o9, rfl, b11⟩
        walk_at "rd"
        refine ⟨by show 3 ≤ sizeLine; decide, fun l3 hl3 => ?_⟩
        have s12 := same_new (o := .lst [V.int (-1), V.int (ys.length : Nat), V.int ((ys.length : Nat) + 7)]) hl3
        have b12 := b11.same s12
        have h3 : upd H11 l3 (.lst [V.int (-1), V.int (ys.length : Nat), V.int ((ys.length : Nat) + 7)]) l3 = some (.lst (([-1, (ys.length : Int), (ys.length : Int) + 7] : List Int).map V.int)) := upd_same
        generalize upd H11 l3 (.lst [V.int (-1), V.int (ys.length : Nat), V.int ((ys.length : Nat) + 7)]) = H12 at s12 b12 h3
        clear b11
        refine ⟨l3, rfl, ⟨_, SqL.of h3⟩, ?_⟩
        refine Rd.foW Rd.wList (fun i σ H' => ∃ (o7 : Option V), σ = [some (.ref a), some (.ref q), some (.ref pc), some (.ref kn), o4, o5, some (.int (ys.length : Nat)), o7, o8, o9] ∧ Same H12 H') ⟨_, rfl, Same.refl _⟩ (fun i σ H' _ ⟨_, _, e⟩ => SqL.of (e _ _ h3)) ?_ ?_
        · rintro i x σ H13 hi hx ⟨o7, rfl, s13⟩
          rw [List.getElem?_map] at hx
          obtain ⟨n, hn, rfl⟩ := Option.map_eq_some_iff.mp hx
          have nb : ¬ hasN ys.length n := fun z => by
            have hm := List.mem_of_getElem? hn
            rcases List.mem_cons.mp hm with e | hm
            · have := z.1; omega
            rcases List.mem_cons.mp hm with e | hm
            · have := z.2; omega
            have e := List.mem_singleton.mp hm
            have := z.2; omega
          have b13 := b12.same s13
          dsimp only [List.set]
          walk_at "rd"
          refine ⟨pc, lc, dc, ys, n, rfl, b13.ct, G, nb, fun t1 H14 s14 ht1 => ?_⟩
          walk_at "rd"
          refine ⟨by show 2 ≤ sizeLine; decide, fun t2 ht2 => ?_⟩
          have s15 := same_new (o := .tup [.int n, .bl true]) ht2
          refine Rd.neTs (SqT.of (s15 _ _ ht1)) (SqT.of upd_same) (by rfl) ?_
          walk_at "rd"
          exact ⟨_, rfl, (s13.trans s14).trans s15⟩
        · rintro σ H13 ⟨o7, rfl, s13⟩
          walk_at "rd"
          refine len_ct (b12.same s13).ct (by omega) ?_
          walk_at "rd"
          rw [decide_eq_true rfl]
          exact k _

end
section
variable {P : Program} {w : World} {K : PySem.W.Frag} {mg : Str → Option Value} {base : Heap} {tk : Tok}
/-! ### text with its default -/
open PyProof.Rows in
theorem text_binds {f D : Addr} {oc dc pm cd ct : Value} {od an : Option Addr} {sl : Array (Option Value)} {tkT : Tok} (g : PySem.W.nsIn K D "depth" = some (some (.int 2 tkT))) :
    Binds K (PySem.W.fnOf "text" "Contents.text" (defArgs s_Contents_text) (defBody s_Contents_text) (defScope s_Contents_text) .none (.ref D) dc pm an cd ct) ["self", "number", "depth"] [.int 2 tkT] := fun s us X hl => by
  have h2 : us.length = 2 := by
    rw [List.length_append] at hl
    exact Nat.succ.inj hl
  match us, h2 with
  | [a, b], _ =>
    refine BindsTo.of_looks fun M => KwChain.looks (D := D) (l := [("depth", .int 2 tkT)]) X (fun q hq => ?_) ?_
    · rw [List.mem_singleton.mp hq]; exact g
    · exact ⟨_, _, _, _, _, _, rfl, rfl, rfl⟩
open PyProof.Rows in
theorem text_kbn {f D : Addr} {oc dc pm cd ct : Value} {od an : Option Addr} {sl : Array (Option Value)} :
    KBn K (PySem.W.fnOf "text" "Contents.text" (defArgs s_Contents_text) (defBody s_Contents_text) (defScope s_Contents_text) .none (.ref D) dc pm an cd ct) ["self", "number", "depth"] 2 ["depth"] (fun us ws => us ++ ws) (fun vs zs => vs ++ zs) :=
  ⟨fun s us ws X h1 h2 => by
    match us, ws, h1, h2 with
    | [a, b], [c], _, _ => exact BindsTo.of_eq rfl, fun r1 r2 => r1.append r2⟩

end
section
variable {P : Program} {w : World} {K : PySem.W.Frag} {mg : Str → Option Value} {base : Heap} {tk : Tok}
/-! ### what the top has left -/
theorem all_mk {P : Program} {w : World} {K : PySem.W.Frag} {h : Heap} {mg : Str → Option Value} {fP fD fW fN fMi fFm fLt fPt Ccn fCi fCl fNo fFo fRn fTx DTx cRE CExF fIxF fa fLaw : Addr} (X : K.In h) (G : h.Ns mainGlobals mg) (hfa : mg "law" = some (.ref fa))
    {odP anP : Option Addr} {slP : Array (Option Value)} {ocP kVP dcP pmP cdP ctP : Value}
    {odD anD : Option Addr} {slD : Array (Option Value)} {ocD kVD dcD pmD cdD ctD : Value}
    {odW anW : Option Addr} {slW : Array (Option Value)} {ocW kVW dcW pmW cdW ctW : Value}
    {odN anN : Option Addr} {slN : Array (Option Value)} {ocN kVN dcN pmN cdN ctN : Value}
    {odMi anMi : Option Addr} {slMi : Array (Option Value)} {ocMi kVMi dcMi pmMi cdMi ctMi : Value}
    {odFm anFm : Option Addr} {slFm : Array (Option Value)} {ocFm kVFm dcFm pmFm cdFm ctFm : Value}
    {odLt anLt : Option Addr} {slLt : Array (Option Value)} {ocLt kVLt dcLt pmLt cdLt ctLt : Value}
    {odPt anPt : Option Addr} {slPt : Array (Option Value)} {ocPt kVPt dcPt pmPt cdPt ctPt : Value}
    {odCi anCi : Option Addr} {slCi : Array (Option Value)} {ocCi kVCi dcCi pmCi cdCi ctCi : Value}
    {odCl anCl : Option Addr} {slCl : Array (Option Value)} {ocCl kVCl dcCl pmCl cdCl ctCl : Value}
    {odNo anNo : Option Addr} {slNo : Array (Option Value)} {ocNo kVNo dcNo pmNo cdNo ctNo : Value}
    {odFo anFo : Option Addr} {slFo : Array (Option Value)} {ocFo kVFo dcFo pmFo cdFo ctFo : Value}
    {odRn anRn : Option Addr} {slRn : Array (Option Value)} {ocRn kVRn dcRn pmRn cdRn ctRn : Value}
    {odTx anTx : Option Addr} {slTx : Array (Option Value)} {ocTx dcTx pmTx cdTx ctTx : Value} {tkTx : Tok}
    {enmxF eqxF : Str} {eAxF : Addr} {ebsxF ebmxF : List Value} {esnxF : List Str} {esubxF : List Value} {eabxF : Bool} {ecolxF : Option Bool} {eddxF : Option Addr} {eaxF ebxF ecxF edxF eexF : Option Value}
    {odIxF anIxF : Option Addr} {slIxF : Array (Option Value)} {ocIxF kVIxF dcIxF pmIxF cdIxF ctIxF : Value}
    {odLaw anLaw : Option Addr} {slLaw : Array (Option Value)} {ocLaw kVLaw dcLaw pmLaw cdLaw ctLaw : Value}
    (spc : PySem.W.specialIn K (.builtin "object.__class__") "__get__" = some (some (.builtin "getset_descriptor.__get__")))
    (tkc : PySem.W.takesIn K (.builtin "object.__class__") = some true)
    (aP : PySem.W.nsIn K mainGlobals "_law_pool" = some (some (.ref fP)))
    (lP : K.lookup fP = some ⟨ocP, odP, .func (PySem.W.fnOf "_law_pool" "_law_pool" (defArgs s_law_pool) (defBody s_law_pool) (defScope s_law_pool) .none kVP dcP pmP anP cdP ctP), slP⟩)
    (cP : PySem.W.codeIn K cdP "_law_pool" = true)
    (kP : PySem.W.keepIn K (.ref fP) = true)
    (aD : PySem.W.nsIn K mainGlobals "_law_draw" = some (some (.ref fD)))
    (lD : K.lookup fD = some ⟨ocD, odD, .func (PySem.W.fnOf "_law_draw" "_law_draw" (defArgs s_law_draw) (defBody s_law_draw) (defScope s_law_draw) .none kVD dcD pmD anD cdD ctD), slD⟩)
    (cD : PySem.W.codeIn K cdD "_law_draw" = true)
    (kD : PySem.W.keepIn K (.ref fD) = true)
    (aW : PySem.W.nsIn K mainGlobals "_law_word" = some (some (.ref fW)))
    (lW : K.lookup fW = some ⟨ocW, odW, .func (PySem.W.fnOf "_law_word" "_law_word" (defArgs s_law_word) (defBody s_law_word) (defScope s_law_word) .none kVW dcW pmW anW cdW ctW), slW⟩)
    (cW : PySem.W.codeIn K cdW "_law_word" = true)
    (kW : PySem.W.keepIn K (.ref fW) = true)
    (aN : PySem.W.nsIn K mainGlobals "_law_names" = some (some (.ref fN)))
    (lN : K.lookup fN = some ⟨ocN, odN, .func (PySem.W.fnOf "_law_names" "_law_names" (defArgs s_law_names) (defBody s_law_names) (defScope s_law_names) .none kVN dcN pmN anN cdN ctN), slN⟩)
    (cN : PySem.W.codeIn K cdN "_law_names" = true)
    (kN : PySem.W.keepIn K (.ref fN) = true)
    (aMi : PySem.W.nsIn K mainGlobals "_law_missing" = some (some (.ref fMi)))
    (lMi : K.lookup fMi = some ⟨ocMi, odMi, .func (PySem.W.fnOf "_law_missing" "_law_missing" (defArgs s_law_missing) (defBody s_law_missing) (defScope s_law_missing) .none kVMi dcMi pmMi anMi cdMi ctMi), slMi⟩)
    (cMi : PySem.W.codeIn K cdMi "_law_missing" = true)
    (kMi : PySem.W.keepIn K (.ref fMi) = true)
    (aFm : PySem.W.nsIn K mainGlobals "_law_formula" = some (some (.ref fFm)))
    (lFm : K.lookup fFm = some ⟨ocFm, odFm, .func (PySem.W.fnOf "_law_formula" "_law_formula" (defArgs s_law_formula) (defBody s_law_formula) (defScope s_law_formula) .none kVFm dcFm pmFm anFm cdFm ctFm), slFm⟩)
    (cFm : PySem.W.codeIn K cdFm "_law_formula" = true)
    (kFm : PySem.W.keepIn K (.ref fFm) = true)
    (aLt : PySem.W.nsIn K mainGlobals "_law_text" = some (some (.ref fLt)))
    (lLt : K.lookup fLt = some ⟨ocLt, odLt, .func (PySem.W.fnOf "_law_text" "_law_text" (defArgs s_law_text) (defBody s_law_text) (defScope s_law_text) .none kVLt dcLt pmLt anLt cdLt ctLt), slLt⟩)
    (cLt : PySem.W.codeIn K cdLt "_law_text" = true)
    (kLt : PySem.W.keepIn K (.ref fLt) = true)
    (aPt : PySem.W.nsIn K mainGlobals "page_text" = some (some (.ref fPt)))
    (lPt : K.lookup fPt = some ⟨ocPt, odPt, .func (PySem.W.fnOf "page_text" "page_text" (defArgs s_page_text) (defBody s_page_text) (defScope s_page_text) .none kVPt dcPt pmPt anPt cdPt ctPt), slPt⟩)
    (cPt : PySem.W.codeIn K cdPt "page_text" = true)
    (kPt : PySem.W.keepIn K (.ref fPt) = true)
    (gcn : PySem.W.nsIn K mainGlobals "Contents" = some (some (.ref Ccn)))
    (in_cn : PySem.W.findIn K (.ref Ccn) "__init__" = some (some (.ref fCi)))
    (at_len_cn : PySem.W.findIn K (.ref Ccn) "__len__" = some (some (.ref fCl)))
    (at_number_of_cn : PySem.W.findIn K (.ref Ccn) "number_of" = some (some (.ref fNo)))
    (at_formula_cn : PySem.W.findIn K (.ref Ccn) "formula" = some (some (.ref fFo)))
    (at_require_number_cn : PySem.W.findIn K (.ref Ccn) "require_number" = some (some (.ref fRn)))
    (at_text_cn : PySem.W.findIn K (.ref Ccn) "text" = some (some (.ref fTx)))
    (pgcn : PySem.W.plainGet K Ccn Str.empty = true)
    (hdcn : PySem.W.hasDictIn K Ccn = true)
    (pocn : PySem.W.plainOver K Ccn = true)
    (sacn : PySem.W.findIn K (.ref Ccn) "__setattr__" = some (some (.builtin "object.__setattr__")))
    (mkcn : PySem.W.makesIn K Ccn = true)
    (kccn : PySem.W.keepIn K (.ref Ccn) = true)
    (n_formulas_cn : PySem.W.findIn K (.ref Ccn) "formulas" = some none)
    (n_places_cn : PySem.W.findIn K (.ref Ccn) "places" = some none)
    (lCi : K.lookup fCi = some ⟨ocCi, odCi, .func (PySem.W.fnOf "__init__" "Contents.__init__" (defArgs s_Contents___init) (defBody s_Contents___init) (defScope s_Contents___init) .none kVCi dcCi pmCi anCi cdCi ctCi), slCi⟩)
    (cCi : PySem.W.codeIn K cdCi "Contents.__init__" = true)
    (kCi : PySem.W.keepIn K (.ref fCi) = true)
    (fnCi : PySem.W.isFn K (.ref fCi) = true)
    (lCl : K.lookup fCl = some ⟨ocCl, odCl, .func (PySem.W.fnOf "__len__" "Contents.__len__" (defArgs s_Contents___len) (defBody s_Contents___len) (defScope s_Contents___len) .none kVCl dcCl pmCl anCl cdCl ctCl), slCl⟩)
    (cCl : PySem.W.codeIn K cdCl "Contents.__len__" = true)
    (kCl : PySem.W.keepIn K (.ref fCl) = true)
    (fnCl : PySem.W.isFn K (.ref fCl) = true)
    (lNo : K.lookup fNo = some ⟨ocNo, odNo, .func (PySem.W.fnOf "number_of" "Contents.number_of" (defArgs s_Contents_number_of) (defBody s_Contents_number_of) (defScope s_Contents_number_of) .none kVNo dcNo pmNo anNo cdNo ctNo), slNo⟩)
    (cNo : PySem.W.codeIn K cdNo "Contents.number_of" = true)
    (kNo : PySem.W.keepIn K (.ref fNo) = true)
    (fnNo : PySem.W.isFn K (.ref fNo) = true)
    (lFo : K.lookup fFo = some ⟨ocFo, odFo, .func (PySem.W.fnOf "formula" "Contents.formula" (defArgs s_Contents_formula) (defBody s_Contents_formula) (defScope s_Contents_formula) .none kVFo dcFo pmFo anFo cdFo ctFo), slFo⟩)
    (cFo : PySem.W.codeIn K cdFo "Contents.formula" = true)
    (kFo : PySem.W.keepIn K (.ref fFo) = true)
    (fnFo : PySem.W.isFn K (.ref fFo) = true)
    (lRn : K.lookup fRn = some ⟨ocRn, odRn, .func (PySem.W.fnOf "require_number" "Contents.require_number" (defArgs s_Contents_require_number) (defBody s_Contents_require_number) (defScope s_Contents_require_number) .none kVRn dcRn pmRn anRn cdRn ctRn), slRn⟩)
    (cRn : PySem.W.codeIn K cdRn "Contents.require_number" = true)
    (kRn : PySem.W.keepIn K (.ref fRn) = true)
    (fnRn : PySem.W.isFn K (.ref fRn) = true)
    (lTx : K.lookup fTx = some ⟨ocTx, odTx, .func (PySem.W.fnOf "text" "Contents.text" (defArgs s_Contents_text) (defBody s_Contents_text) (defScope s_Contents_text) .none (.ref DTx) dcTx pmTx anTx cdTx ctTx), slTx⟩)
    (cTx : PySem.W.codeIn K cdTx "Contents.text" = true)
    (kTx : PySem.W.keepIn K (.ref fTx) = true)
    (gdTx : PySem.W.nsIn K DTx "depth" = some (some (.int 2 tkTx)))
    (fnTx : PySem.W.isFn K (.ref fTx) = true)
    (gl_cRE : PySem.W.nsIn K mainGlobals "RedoError" = some (some (.ref cRE)))
    (gExF : PySem.W.nsIn K mainGlobals "BadFormula" = some (some (.ref CExF)))
    (xExF : K.lookup CExF = some (excClassObj enmxF eqxF CExF eAxF ebsxF ebmxF true esnxF esubxF eabxF ecolxF eddxF eaxF ebxF ecxF edxF eexF "ValueError.__new__"))
    (bExF : PySem.HandSPX.refsVE ebmxF = true)
    (saExF : PySem.W.findIn K (.ref CExF) "__setattr__" = some (some (.builtin "object.__setattr__")))
    (gaExF : PySem.W.findIn K (.ref CExF) "__getattribute__" = some (some (.builtin "BaseException.__getattribute__")))
    (ggExF : PySem.W.findIn K (.ref CExF) "__getattr__" = some none)
    (nnExF : PySem.W.findIn K (.ref CExF) "number" = some none)
    (inExF : PySem.W.findIn K (.ref CExF) "__init__" = some (some (.ref fIxF)))
    (tyIxF : PySem.W.typeIn K (.ref fIxF) = some (.type "function"))
    (lIxF : K.lookup fIxF = some ⟨ocIxF, odIxF, .func (PySem.W.fnOf "__init__" "BadFormula.__init__" (defArgs s_BadFormula___init) (defBody s_BadFormula___init) (defScope s_BadFormula___init) .none kVIxF dcIxF pmIxF anIxF cdIxF ctIxF), slIxF⟩)
    (cIxF : PySem.W.codeIn K cdIxF "BadFormula.__init__" = true)
    (kIxF : PySem.W.keepIn K (.ref fIxF) = true)
    (kExF : PySem.W.keepIn K (.ref CExF) = true)
    (exExF : PySem.W.subIn K (.ref CExF) (.type "BaseException") = some true)
    (tyExF : PySem.W.typeIn K (.ref CExF) = some (.type "type"))
    (hdExF : PySem.W.hasDictIn K CExF = true)
    (sExF : PySem.W.subIn K (.ref CExF) (.ref CExF) = some true)
    (clExF : PySem.W.findIn K (.ref CExF) "__class__" = some (some (.builtin "object.__class__")))
    (moExF : PySem.W.mroIn K CExF (.type "object") = some true)
    (q1 : PySem.W.kitOne K (.ref CExF) (.ref cRE) = some true)
    (z_len : PySem.W.nsIn K mainGlobals "len" = some none)
    (z_sum : PySem.W.nsIn K mainGlobals "sum" = some none)
    (z_int : PySem.W.nsIn K mainGlobals "int" = some none)
    (z_range : PySem.W.nsIn K mainGlobals "range" = some none)
    (z_isinstance : PySem.W.nsIn K mainGlobals "isinstance" = some none)
    (z_any : PySem.W.nsIn K mainGlobals "any" = some none)
    (z_all : PySem.W.nsIn K mainGlobals "all" = some none)
    (z_list : PySem.W.nsIn K mainGlobals "list" = some none)
    (z_tuple : PySem.W.nsIn K mainGlobals "tuple" = some none)
    (z_sorted : PySem.W.nsIn K mainGlobals "sorted" = some none)
    (z_set : PySem.W.nsIn K mainGlobals "set" = some none)
    (z_bool : PySem.W.nsIn K mainGlobals "bool" = some none)
    (z_ValueError : PySem.W.nsIn K mainGlobals "ValueError" = some none)
    (z_str : PySem.W.nsIn K mainGlobals "str" = some none)
    (z_max : PySem.W.nsIn K mainGlobals "max" = some none)
    (aLaw : PySem.W.nsIn K mainGlobals "law" = some (some (.ref fLaw)))
    (lLaw : K.lookup fLaw = some ⟨ocLaw, odLaw, .func (PySem.W.fnOf "law" "law" (defArgs s_law) (defBody s_law) (defScope s_law) .none kVLaw dcLaw pmLaw anLaw cdLaw ctLaw), slLaw⟩)
    (cLaw : PySem.W.codeIn K cdLaw "law" = true)
    (kLaw : PySem.W.keepIn K (.ref fLaw) = true) :
    ∃ fd : FuncData, (∀ (s : Shared) (v : Value), BindsTo s fd ⟨[v], []⟩ [("_law_script", v)]) ∧ ∀ base : Heap, K.In base → base.Ns mainGlobals mg → FnOk P w K mg base CX0 12 fa fd ["_law_script"] (spLaw K) := by
  have e := hfa.symm.trans (PySem.W.mg_of X G aLaw)
  cases e
  refine ⟨PySem.W.fnOf "law" "law" (defArgs s_law) (defBody s_law) (defScope s_law) .none kVLaw dcLaw pmLaw anLaw cdLaw ctLaw, fun s v => .of_eq rfl, fun base _ _ => ?_⟩
  have FP := fun_mk (st := s_law_pool) lP cP kP
  let dP : Df K mg "_law_pool" "_law_pool" s_law_pool ["_law_script", "_law_k"] := ⟨fP, _, FP, PySem.W.mg_of X G aP, FP.binds (ps := ["_law_script", "_law_k"]) fun _ _ _ _ _ _ us hl => match us, hl with | [_, _], _ => rfl⟩
  have FD := fun_mk (st := s_law_draw) lD cD kD
  let dD : Df K mg "_law_draw" "_law_draw" s_law_draw ["_law_pool_here", "_law_many"] := ⟨fD, _, FD, PySem.W.mg_of X G aD, FD.binds (ps := ["_law_pool_here", "_law_many"]) fun _ _ _ _ _ _ us hl => match us, hl with | [_, _], _ => rfl⟩
  have FW := fun_mk (st := s_law_word) lW cW kW
  let dW : Df K mg "_law_word" "_law_word" s_law_word ["_law_numbers"] := ⟨fW, _, FW, PySem.W.mg_of X G aW, FW.binds (ps := ["_law_numbers"]) fun _ _ _ _ _ _ us hl => match us, hl with | [_], _ => rfl⟩
  have FN := fun_mk (st := s_law_names) lN cN kN
  let dN : Df K mg "_law_names" "_law_names" s_law_names ["_law_pool_here"] := ⟨fN, _, FN, PySem.W.mg_of X G aN, FN.binds (ps := ["_law_pool_here"]) fun _ _ _ _ _ _ us hl => match us, hl with | [_], _ => rfl⟩
  have FMi := fun_mk (st := s_law_missing) lMi cMi kMi
  let dMi : Df K mg "_law_missing" "_law_missing" s_law_missing ["_law_contents", "_law_number"] := ⟨fMi, _, FMi, PySem.W.mg_of X G aMi, FMi.binds (ps := ["_law_contents", "_law_number"]) fun _ _ _ _ _ _ us hl => match us, hl with | [_, _], _ => rfl⟩
  have FFm := fun_mk (st := s_law_formula) lFm cFm kFm
  let dFm : Df K mg "_law_formula" "_law_formula" s_law_formula ["_law_pool_here", "_law_names_here", "_law_many"] := ⟨fFm, _, FFm, PySem.W.mg_of X G aFm, FFm.binds (ps := ["_law_pool_here", "_law_names_here", "_law_many"]) fun _ _ _ _ _ _ us hl => match us, hl with | [_, _, _], _ => rfl⟩
  have FLt := fun_mk (st := s_law_text) lLt cLt kLt
  let dLt : Df K mg "_law_text" "_law_text" s_law_text ["_law_known", "_law_number", "_law_deep"] := ⟨fLt, _, FLt, PySem.W.mg_of X G aLt, FLt.binds (ps := ["_law_known", "_law_number", "_law_deep"]) fun _ _ _ _ _ _ us hl => match us, hl with | [_, _, _], _ => rfl⟩
  have FPt := fun_mk (st := s_page_text) lPt cPt kPt
  let dPt : Df K mg "page_text" "page_text" s_page_text ["page"] := ⟨fPt, _, FPt, PySem.W.mg_of X G aPt, FPt.binds (ps := ["page"]) fun _ _ _ _ _ _ us hl => match us, hl with | [_], _ => rfl⟩
  have FCi := fun_mk (st := s_Contents___init) lCi cCi kCi
  let mCi : Mf K "__init__" "Contents.__init__" s_Contents___init ["self"] := ⟨fCi, _, FCi, FCi.binds (ps := ["self"]) fun _ _ _ _ _ _ us hl => match us, hl with | [_], _ => rfl⟩
  have FCl := fun_mk (st := s_Contents___len) lCl cCl kCl
  let mCl : Mf K "__len__" "Contents.__len__" s_Contents___len ["self"] := ⟨fCl, _, FCl, FCl.binds (ps := ["self"]) fun _ _ _ _ _ _ us hl => match us, hl with | [_], _ => rfl⟩
  have FNo := fun_mk (st := s_Contents_number_of) lNo cNo kNo
  let mNo : Mf K "number_of" "Contents.number_of" s_Contents_number_of ["self", "formula"] := ⟨fNo, _, FNo, FNo.binds (ps := ["self", "formula"]) fun _ _ _ _ _ _ us hl => match us, hl with | [_, _], _ => rfl⟩
  have FFo := fun_mk (st := s_Contents_formula) lFo cFo kFo
  let mFo : Mf K "formula" "Contents.formula" s_Contents_formula ["self", "number"] := ⟨fFo, _, FFo, FFo.binds (ps := ["self", "number"]) fun _ _ _ _ _ _ us hl => match us, hl with | [_, _], _ => rfl⟩
  have FRn := fun_mk (st := s_Contents_require_number) lRn cRn kRn
  let mRn : Mf K "require_number" "Contents.require_number" s_Contents_require_number ["self", "number"] := ⟨fRn, _, FRn, FRn.binds (ps := ["self", "number"]) fun _ _ _ _ _ _ us hl => match us, hl with | [_, _], _ => rfl⟩
  let tx : Txm K := ⟨fTx, _, fun_mk (st := s_Contents_text) lTx cTx kTx, [.int 2 tkTx], .cons ⟨_, rfl⟩ .nil, text_binds (f := fTx) (oc := ocTx) (od := odTx) (sl := slTx) gdTx, text_kbn (f := fTx) (oc := ocTx) (od := odTx) (sl := slTx)⟩
  let cc : Cn K mg fCi := ⟨Ccn, PySem.W.mg_of X G gcn, ⟨pgcn, hdcn, pocn, sacn⟩, ⟨mkcn, in_cn, fnCi, kccn⟩, n_formulas_cn, n_places_cn⟩
  have gl_cRE' : mg "RedoError" = some (.ref cRE) := PySem.W.mg_of X G gl_cRE
  have FExF := fun_mk (st := s_BadFormula___init) lIxF cIxF kIxF
  let exF : ErF K mg := ⟨CExF, fIxF, _, ⟨⟨enmxF, eqxF, eAxF, ebsxF, ebmxF, esnxF, esubxF, eabxF, ecolxF, eddxF, eaxF, ebxF, ecxF, edxF, eexF, xExF, bExF⟩, saExF, exExF, tyExF, kExF⟩, inExF, tyIxF, PySem.W.mg_of X G gExF, nnExF, FExF, FExF.binds (ps := ["self", "number"]) fun _ _ _ _ _ _ us hl => match us, hl with | [_, _], _ => rfl, ⟨gaExF, ggExF, exExF, hdExF⟩, ⟨gaExF, ggExF, exExF, hdExF, clExF, spc, tkc, moExF⟩, PySem.W.exm_ref exExF hdExF tyExF sExF⟩
  have T : Bt mg := ⟨PySem.W.mg_none_of X G z_len, PySem.W.mg_none_of X G z_sum, PySem.W.mg_none_of X G z_int, PySem.W.mg_none_of X G z_range, PySem.W.mg_none_of X G z_isinstance, PySem.W.mg_none_of X G z_any, PySem.W.mg_none_of X G z_all, PySem.W.mg_none_of X G z_list, PySem.W.mg_none_of X G z_tuple, PySem.W.mg_none_of X G z_sorted, PySem.W.mg_none_of X G z_set, PySem.W.mg_none_of X G z_bool, PySem.W.mg_none_of X G z_ValueError⟩
  have hz_str := PySem.W.mg_none_of X G z_str
  have hz_max := PySem.W.mg_none_of X G z_max
  have hNo : Meth K cc.C "number_of" mNo.f := ⟨at_number_of_cn, fnNo, kNo⟩
  have hFo : Meth K cc.C "formula" mFo.f := ⟨at_formula_cn, fnFo, kFo⟩
  have hR : Meth K cc.C "require_number" mRn.f := ⟨at_require_number_cn, fnRn, kRn⟩
  have hTx : Meth K cc.C "text" tx.f := ⟨at_text_cn, fnTx, kTx⟩
  have GP : FnOk P w K mg base CX0 1 dP.f dP.fd _ (spPool K) := ok_pool dP.F T
  have GD : FnOk P w K mg base CX0 1 dD.f dD.fd _ spDraw := ok_draw dD.F T
  have GN : FnOk P w K mg base CX0 2 dN.f dN.fd _ spNames := ok_names dN.F T dD dW
  have GC : FnOk P w K mg base CX0 1 mCi.f mCi.fd _ (spCtI (K := K) P w) := ok_cti mCi T
  have GNo : FnOk P w K mg base (L2.CX P w) 4 mNo.f mNo.fd _ (spNum P w cc.C exF.C) := ok_num mNo T cc exF mRn hR
  have GFo : FnOk P w K mg base (L2.CX P w) 4 mFo.f mFo.fd _ (spForm cc.C exF.C) := ok_form mFo T cc exF mRn hR
  have GCl : FnOk P w K mg base CX0 1 mCl.f mCl.fd _ (spCtL cc.C) := ok_ctl mCl T cc
  have GFm : FnOk P w K mg base CX0 2 dFm.f dFm.fd _ spFormula := ok_formula dFm T dD GD
  have GTx : FnOk P w K mg base (L2.CX P w) 9 tx.f tx.fd _ (spText P w cc.C exF.C 4) := ok_text tx T cc hTx exF mFo hFo GFo dPt 4 (by decide)
  have GLt : FnOk P w K mg base CX0 5 dLt.f dLt.fd _ (spLText 4) := ok_ltext dLt T hz_str 4 (by decide)
  have GMi : FnOk P w K mg base CX0 10 dMi.f dMi.fd _ (spMissing P w cc.C) := ok_missing dMi T cc exF tx hTx GTx gl_cRE' q1
  exact ok_law (eF := exF) (fun_mk (st := s_law) lLaw cLaw kLaw) T hz_str hz_max dP dD dN dMi dFm dLt mCi cc mNo hNo tx hTx mCl at_len_cn fnCl GP GD GN GMi GFm GLt GC GNo GTx GCl
theorem walk {l : PySem.W.OpenLaw} {q : Program} {loose : List Str} {XP : (Str → Option Value) → Heap → Prop} {YP : World → Heap → Prop} {d : DefRec} {K : Params → PySem.W.Frag} (hn : l.most = some 63) (hdf : d.params.defaults = []) (hY : ∀ (w : World) (h : Heap), YP w h → (K w.params).In h)
    (F : ∀ (w : World) (mg : Str → Option Value) (fa : Addr) (h : Heap), (K w.params).In h → h.Ns mainGlobals mg → mg d.name = some (.ref fa) → ∃ fd : FuncData, (∀ (s : Shared) (u : Value), BindsTo s fd ⟨[u], []⟩ [("_law_script", u)]) ∧ ∀ base : Heap, (K w.params).In base → base.Ns mainGlobals mg → FnOk l.prog w (K w.params) mg base CX0 12 fa fd ["_law_script"] (spLaw (K w.params))) :
    PySem.W.WalkO q loose XP YP l.row.toRowW d [] (fun f vs => PySem.call f vs) :=
  L2.walk_of (n := 63) (k := 12) (x := "_law_script") (CX := fun _ => CX0) (sp := fun w => spLaw (K w.params)) hn (by decide) hdf ⟨rfl, by decide, by decide⟩ hY F (fun _ _ a ns hl _ hS => ⟨a, ns, rfl, hS, hl, fun _ => rfl⟩) fun _ _ _ _ _ z => z

end
end Toy
open PySem PySem.W PyProof.Rows in
set_option maxRecDepth 100000 in
set_option maxHeartbeats 0 in
theorem PySem.Challenge.cw_redopages_k12_texts_of_formulas_holds : PySem.Challenge.rw_redopages_k12_texts_of_formulas.Holds := by
  w_on; o_law; k_head; (case hw => w_witness2)
  k_fill
  refine Toy.walk (l := PySem.Challenge.rw_redopages_k12_texts_of_formulas) rfl rfl (fun w h Y => PySem.W.kIn_of Y) ?F
  case F =>
    intro w mg fa h KX G hmg
    refine' Toy.all_mk KX G hmg ?spc ?tkc ?aP ?lP ?cP ?kP ?aD ?lD ?cD ?kD ?aW ?lW ?cW ?kW ?aN ?lN ?cN ?kN ?aMi ?lMi ?cMi ?kMi ?aFm ?lFm ?cFm ?kFm ?aLt ?lLt ?cLt ?kLt ?aPt ?lPt ?cPt ?kPt ?gcn ?in_cn ?at_len_cn ?at_number_of_cn ?at_formula_cn ?at_require_number_cn ?at_text_cn ?pgcn ?hdcn ?pocn ?sacn ?mkcn ?kccn ?n_formulas_cn ?n_places_cn ?lCi ?cCi ?kCi ?fnCi ?lCl ?cCl ?kCl ?fnCl ?lNo ?cNo ?kNo ?fnNo ?lFo ?cFo ?kFo ?fnFo ?lRn ?cRn ?kRn ?fnRn ?lTx ?cTx ?kTx ?gdTx ?fnTx ?gl_cRE ?gExF ?xExF ?bExF ?saExF ?gaExF ?ggExF ?nnExF ?inExF ?tyIxF ?lIxF ?cIxF ?kIxF ?kExF ?exExF ?tyExF ?hdExF ?sExF ?clExF ?moExF ?q1 ?z_len ?z_sum ?z_int ?z_range ?z_isinstance ?z_any ?z_all ?z_list ?z_tuple ?z_sorted ?z_set ?z_bool ?z_ValueError ?z_str ?z_max ?aLaw ?lLaw ?cLaw ?kLaw
    (case spc => k_is)
    (case tkc => k_is)
    (case aP => k_is)
    (case lP => k_is)
    (case cP => k_is)
    (case kP => k_is)
    (case aD => k_is)
    (case lD => k_is)
    (case cD => k_is)
    (case kD => k_is)
    (case aW => k_is)
    (case lW => k_is)
    (case cW => k_is)
    (case kW => k_is)
    (case aN => k_is)
    (case lN => k_is)
    (case cN => k_is)
    (case kN => k_is)
    (case aMi => k_is)
    (case lMi => k_is)
    (case cMi => k_is)
    (case kMi => k_is)
    (case aFm => k_is)
    (case lFm => k_is)
    (case cFm => k_is)
    (case kFm => k_is)
    (case aLt => k_is)
    (case lLt => k_is)
    (case cLt => k_is)
    (case kLt => k_is)
    (case aPt => k_is)
    (case lPt => k_is)
    (case cPt => k_is)
    (case kPt => k_is)
    (case gcn => k_is)
    (case in_cn => k_is)
    (case at_len_cn => k_is)
    (case at_number_of_cn => k_is)
    (case at_formula_cn => k_is)
    (case at_require_number_cn => k_is)
    (case at_text_cn => k_is)
    (case pgcn => k_is)
    (case hdcn => k_is)
    (case pocn => k_is)
    (case sacn => k_is)
    (case mkcn => k_is)
    (case kccn => k_is)
    (case n_formulas_cn => k_is)
    (case n_places_cn => k_is)
    (case lCi => k_is)
    (case cCi => k_is)
    (case kCi => k_is)
    (case fnCi => k_is)
    (case lCl => k_is)
    (case cCl => k_is)
    (case kCl => k_is)
    (case fnCl => k_is)
    (case lNo => k_is)
    (case cNo => k_is)
    (case kNo => k_is)
    (case fnNo => k_is)
    (case lFo => k_is)
    (case cFo => k_is)
    (case kFo => k_is)
    (case fnFo => k_is)
    (case lRn => k_is)
    (case cRn => k_is)
    (case kRn => k_is)
    (case fnRn => k_is)
    (case lTx => k_is)
    (case cTx => k_is)
    (case kTx => k_is)
    (case gdTx => k_is)
    (case fnTx => k_is)
    (case gl_cRE => k_is)
    (case gExF => k_is)
    (case xExF => k_is)
    (case bExF => decide +kernel)
    (case saExF => k_is)
    (case gaExF => k_is)
    (case ggExF => k_is)
    (case nnExF => k_is)
    (case inExF => k_is)
    (case tyIxF => k_is)
    (case lIxF => k_is)
    (case cIxF => k_is)
    (case kIxF => k_is)
    (case kExF => k_is)
    (case exExF => k_is)
    (case tyExF => k_is)
    (case hdExF => k_is)
    (case sExF => first | rfl | k_is)
    (case clExF => k_is)
    (case moExF => k_is)
    (case q1 => kit_is)
    (case z_len => k_is)
    (case z_sum => k_is)
    (case z_int => k_is)
    (case z_range => k_is)
    (case z_isinstance => k_is)
    (case z_any => k_is)
    (case z_all => k_is)
    (case z_list => k_is)
    (case z_tuple => k_is)
    (case z_sorted => k_is)
    (case z_set => k_is)
    (case z_bool => k_is)
    (case z_ValueError => k_is)
    (case z_str => k_is)
    (case z_max => k_is)
    (case aLaw => k_is)
    (case lLaw => k_is)
    (case cLaw => k_is)
    (case kLaw => k_is)
