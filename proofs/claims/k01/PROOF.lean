import PyProof.Rows.All
import Wide.All
import OpenK.AllK
import Wide.FinOn
import HandS.ForMost
import HandS.Exc
import HandS.ExcOwn
import HandS.ExcInit
import HandS.ExcField
import HandS.ExcIs
import HandS.TryOnly
import HandS.TryMany
import HandS.WordsExc
import HandS.CallSlots
import HandS.IsInst
import HandS.Codes
import HandS.Walk
import HandS.Steps
import HandS.StrMore
import KE.KSuper
import PySem.Challenge.RW_redopages_k01_roles_and_their_words
set_option Elab.async false
set_option linter.all false
set_option maxRecDepth 100000
set_option maxHeartbeats 4000000
/-! readings by named steps -/
namespace Fw
open PySem PySem.Spec L2

/-! ### a def of the top -/
structure Df (K : PySem.W.Frag) (mg : Str → Option Value) (nm qual : Str) (st : Stmt) (ps : List Str) where
  f : Addr
  fd : FuncData
  F : Fun K nm qual st f fd
  g : mg nm = some (.ref f)
  b : Binds K fd ps []
/-- a method: where it stands -/
structure Mf (K : PySem.W.Frag) (nm qual : Str) (st : Stmt) (ps : List Str) where
  f : Addr
  fd : FuncData
  F : Fun K nm qual st f fd
  b : Binds K fd ps []

section
variable {X : Cx}
/-! ### named relations -/
def rLtS : R2 := fun x y H Q => ∃ i j, x = .str i ∧ y = .str j ∧ Q (.bl (decide (i.cps.toList < j.cps.toList))) H
theorem op_ltS : OpR X (compareOp .Lt) rLtS := op_lt_str
def rLeS : R2 := fun x y H Q => ∃ i j, x = .str i ∧ y = .str j ∧ Q (.bl (!decide (j.cps.toList < i.cps.toList))) H
theorem op_leS : OpR X (compareOp .LtE) rLeS := op_le_str
def rLtA : R2 := fun x y H Q => rI0 (fun i j => .bl (decide (i < j))) x y H Q ∨ rLtS x y H Q
theorem op_ltA : OpR X (compareOp .Lt) rLtA := op_lt.or op_ltS
def rLeA : R2 := fun x y H Q => rI0 (fun i j => .bl (decide (i ≤ j))) x y H Q ∨ rLeS x y H Q
theorem op_leA : OpR X (compareOp .LtE) rLeA := op_le.or op_leS
def rGtI : R2 := rI0 fun i j => .bl (decide (j < i))
theorem op_gtI : OpR X (compareOp .Gt) rGtI := op_gt
def rGeI : R2 := rI0 fun i j => .bl (decide (j ≤ i))
theorem op_geI : OpR X (compareOp .GtE) rGeI := op_ge
def rAddA : R2 := fun x y H Q => rI0 (fun i j => .int (i + j)) x y H Q ∨ rAddS x y H Q ∨ rCat x y H Q
theorem op_addA : OpR X (binaryOp .Add) rAddA := op_add.or (OpR.or (r := rAddS) op_add_str op_cat)
def rSubI : R2 := rI0 fun i j => .int (i - j)
theorem op_subI : OpR X (binaryOp .Sub) rSubI := op_sub
def rModI : R2 := rI (fun _ j => 0 < j) fun i j => .int (i % j)
theorem op_modI : OpR X (binaryOp .Mod) rModI := op_mod
def rDivI : R2 := rI CDiv fun i j => .int (i / j)
theorem op_divI : OpR X (binaryOp .FloorDiv) rDivI := op_fdiv
def rPowI : R2 := rI CPow fun i j => .int (i ^ j.toNat)
theorem op_powI : OpR X (binaryOp .Pow) rPowI := op_pow
/-- == and != : of scalars, of data -/
def rEqA (K : PySem.W.Frag) : R2 := fun x y H Q => rEq x y H Q ∨ rEqD K x y H Q
def rNeA (K : PySem.W.Frag) : R2 := fun x y H Q => rNe x y H Q ∨ rNeD K x y H Q
theorem op_eqA (hu : X.A.units + 64 < cLine) : OpR X (compareOp .Eq) (rEqA X.K) := op_eq.or (op_eqD hu)
theorem op_neA (hu : X.A.units + 64 < cLine) : OpR X (compareOp .NotEq) (rNeA X.K) := op_ne.or (op_neD hu)
def rLenA (K : PySem.W.Frag) : List V → Hp → VK → Prop := fun xs H Q => ∃ x n, xs = [x] ∧ LenV K x H n ∧ Q (.int n) H
theorem call_lenA : CallR X (.builtin "len") (rLenA X.K) := call_len
def rInt1 : List V → Hp → VK → Prop := fun xs H Q => (∃ i, xs = [.int i] ∧ Q (.int i) H) ∨ ∃ k, xs = [.bl k] ∧ Q (.int (if k then 1 else 0)) H
theorem call_intA : CallR X (.type "int") rInt1 := call_int1
def rSlA (K : PySem.W.Frag) : V → Option Int → Option Int → Hp → VK → Prop := fun x lo hi H Q => rSlL K x lo hi H Q ∨ rSlS x lo hi H Q
theorem sl_any : SlR X (rSlA X.K) := sl_list.or sl_str
def rJoin (K : PySem.W.Frag) : V → List V → Hp → VK → Prop := fun x xs H Q => ∃ a p, ∃ ys : List Str, x = .str a ∧ xs = [.ref p] ∧ (SqL K H p (ys.map V.str) ∨ SqT K H p (ys.map V.str)) ∧
    (ys.map (·.length)).sum + ys.length * a.length ≤ 16777216 ∧ Q (.str (Txt.join a ys)) H
def rUpper : V → List V → Hp → VK → Prop := fun x xs H Q => ∃ a, x = .str a ∧ xs = [] ∧ a.length ≤ 5592405 ∧ Q (.str (Txt.upper a)) H
theorem pe_joinA {o e : Expr} {to te : TE} {apos pos : Pos} (ho : PE X o to) (he : PE X e te) (hs : starEach [e] X.env = [(false, eval e X.env)] := by rfl) (hbase : attributeBase o "join" X.env (eval o X.env) = eval o X.env := by rfl) (hline : (apos.endLine == pos.line) = true := by rfl) :
    PE X (.Call (.Attribute o "join" apos) [e] [] pos) (tM1 (rJoin X.K) to te) := pe_join ho he hs hbase hline
theorem pe_upperA {o : Expr} {to : TE} {apos pos : Pos} (ho : PE X o to) (hbase : attributeBase o "upper" X.env (eval o X.env) = eval o X.env := by rfl) (hline : (apos.endLine == pos.line) = true := by rfl) :
    PE X (.Call (.Attribute o "upper" apos) [] [] pos) (tM0 rUpper to) := pe_upper ho hbase hline

/-! ### calls of defs -/
theorem pe_cf {P : Program} {w : World} {K : PySem.W.Frag} {mg : Str → Option Value} {base : Heap} {nm q : Str} {st : Stmt} {ps : List Str} {CX : CXT} {k : Nat} {sp : Sp} {E : XK} {e : Expr} {es : List Expr} {t : TA} {p pos : Pos} (d : Df K mg nm q st ps) (F : FnOk P w K mg base CX k d.f d.fd ps sp) (hr : Room k X.A) (hx : Passes CX X E)
    (ha : PA X (e :: es) t) (h1 : X.prog = P := by rfl) (h2 : X.w = w := by rfl) (h3 : X.K = K := by rfl) (h4 : X.mg = mg := by rfl) (h5 : X.base = base := by rfl) (hg : Gl X nm := by rfl) (hd : (nm == ("__debug__" : Str)) = false := by decide) (he : starEach (e :: es) X.env = (false, eval e X.env) :: starEach es X.env := by rfl) (hpl : (backTo pos (starEach es X.env)).any (·.1) = false := by rfl) :
    PE X (.Call (.Name nm p) (e :: es) [] pos) (tCall sp [] E t) := by
  subst h1 h2 h3 h4 h5
  exact pe_call F hr hg d.g d.F.kp d.b .nil hx ha hd he hpl
end

/-! ### readings, step by step -/
namespace Rd
variable {K : PySem.W.Frag} {σ : St} {H : Hp} {Q : VK} {x y z v : V} {ta tb te tc to tx : TE} {t u : TS} {i j : Int} {a b p : Addr} {N : St → Hp → Prop} {r : VK} {bk ct : St → Hp → Prop} {g : Int → Int → V}
theorem var {i : Nat} (h : σ[i]? = some (some v)) (q : Q v H) : tVar i σ H Q := ⟨v, h, q⟩
theorem con (q : Q v H) : tC v σ H Q := q
theorem op {r : R2} (h : ta σ H fun x H1 => tb σ H1 fun y H2 => r x y H2 Q) : tOp r ta tb σ H Q := h
theorem i0 (q : Q (g i j) H) : rI0 g (.int i) (.int j) H Q := ⟨i, j, rfl, rfl, q⟩
theorem ii {C : Int → Int → Prop} (c : C i j) (q : Q (g i j) H) : rI C g (.int i) (.int j) H Q := ⟨i, j, rfl, rfl, c, q⟩
theorem addI (q : Q (.int (i + j)) H) : rAddA (.int i) (.int j) H Q := .inl ⟨i, j, rfl, rfl, q⟩
theorem addS {x y : Str} (h : x.length + y.length ≤ sizeLine) (q : Q (.str (x ++ y)) H) : rAddA (.str x) (.str y) H Q := .inr (.inl ⟨x, y, rfl, rfl, h, q⟩)
theorem addL {xs ys : List V} (h1 : H a = some (.lst xs)) (h2 : H b = some (.lst ys)) (hl : xs.length + ys.length ≤ sizeLine) (q : ∀ p, H p = none → Q (.ref p) (upd H p (.lst (xs ++ ys)))) : rAddA (.ref a) (.ref b) H Q :=
  .inr (.inr ⟨a, b, xs, ys, rfl, rfl, h1, h2, hl, q⟩)
theorem subI (q : Q (.int (i - j)) H) : rSubI (.int i) (.int j) H Q := ⟨i, j, rfl, rfl, q⟩
theorem modI (h : 0 < j) (q : Q (.int (i % j)) H) : rModI (.int i) (.int j) H Q := ⟨i, j, rfl, rfl, h, q⟩
theorem divI (h : CDiv i j) (q : Q (.int (i / j)) H) : rDivI (.int i) (.int j) H Q := ⟨i, j, rfl, rfl, h, q⟩
theorem powI (h : CPow i j) (q : Q (.int (i ^ j.toNat)) H) : rPowI (.int i) (.int j) H Q := ⟨i, j, rfl, rfl, h, q⟩
theorem gtI (q : Q (.bl (decide (j < i))) H) : rGtI (.int i) (.int j) H Q := ⟨i, j, rfl, rfl, q⟩
theorem geI (q : Q (.bl (decide (j ≤ i))) H) : rGeI (.int i) (.int j) H Q := ⟨i, j, rfl, rfl, q⟩
theorem ltI (q : Q (.bl (decide (i < j))) H) : rLtA (.int i) (.int j) H Q := .inl ⟨i, j, rfl, rfl, q⟩
theorem leI (q : Q (.bl (decide (i ≤ j))) H) : rLeA (.int i) (.int j) H Q := .inl ⟨i, j, rfl, rfl, q⟩
theorem ltS {x y : Str} (q : Q (.bl (decide (x.cps.toList < y.cps.toList))) H) : rLtA (.str x) (.str y) H Q := .inr ⟨x, y, rfl, rfl, q⟩
theorem leS {x y : Str} (q : Q (.bl (!decide (y.cps.toList < x.cps.toList))) H) : rLeA (.str x) (.str y) H Q := .inr ⟨x, y, rfl, rfl, q⟩
theorem eqI (q : Q (.bl (decide (i = j))) H) : rEqA K (.int i) (.int j) H Q := .inl ⟨rfl, by
  have e : decide (V.int i = V.int j) = decide (i = j) := decide_eq_decide.mpr ⟨fun z => V.int.inj z, fun z => by rw [z]⟩
  rw [e]; exact q⟩
theorem neI (q : Q (.bl (!decide (i = j))) H) : rNeA K (.int i) (.int j) H Q := .inl ⟨rfl, by
  have e : decide (V.int i = V.int j) = decide (i = j) := decide_eq_decide.mpr ⟨fun z => V.int.inj z, fun z => by rw [z]⟩
  rw [e]; exact q⟩
theorem eqS {x y : Str} (q : Q (.bl (decide (x = y))) H) : rEqA K (.str x) (.str y) H Q := .inl ⟨rfl, by
  have e : decide (V.str x = V.str y) = decide (x = y) := decide_eq_decide.mpr ⟨fun z => V.str.inj z, fun z => by rw [z]⟩
  rw [e]; exact q⟩
theorem neS {x y : Str} (q : Q (.bl (!decide (x = y))) H) : rNeA K (.str x) (.str y) H Q := .inl ⟨rfl, by
  have e : decide (V.str x = V.str y) = decide (x = y) := decide_eq_decide.mpr ⟨fun z => V.str.inj z, fun z => by rw [z]⟩
  rw [e]; exact q⟩
theorem eqD {d e : PyData} (h1 : Dp K H x d) (h2 : Dp K H y e) (s1 : SeqAt.shaped d = true) (s2 : SeqAt.shaped e = true) (q : Q (.bl (PyData.eqv d e)) H) : rEqA K x y H Q := .inr ⟨d, e, h1, h2, s1, s2, q⟩
theorem neD {d e : PyData} (h1 : Dp K H x d) (h2 : Dp K H y e) (s1 : SeqAt.shaped d = true) (s2 : SeqAt.shaped e = true) (q : Q (.bl (!PyData.eqv d e)) H) : rNeA K x y H Q := .inr ⟨d, e, h1, h2, s1, s2, q⟩
theorem int1 (q : Q (.int i) H) : rInt1 [.int i] H Q := .inl ⟨i, rfl, q⟩
theorem lenL {xs : List V} (h : SqL K H p xs) (q : Q (.int xs.length) H) : rLenA K [.ref p] H Q := ⟨_, _, rfl, .inl ⟨xs, h, rfl⟩, q⟩
theorem lenT {xs : List V} (h : SqT K H p xs) (q : Q (.int xs.length) H) : rLenA K [.ref p] H Q := ⟨_, _, rfl, .inr ⟨xs, h, rfl⟩, q⟩
theorem lenS {x : Str} (h : x.length ≤ sizeLine) (q : Q (.int x.length) H) : rLenA K [.str x] H Q := ⟨_, _, rfl, ⟨h, rfl⟩, q⟩
theorem ixL {xs : List V} (h : SqL K H p xs) (h2 : atI xs i = some v) (q : Q v H) : rIx K (.ref p) (.int i) H Q := .inl ⟨p, xs, i, v, rfl, rfl, h, h2, q⟩
theorem ixT {xs : List V} (h : SqT K H p xs) (h2 : atI xs i = some v) (q : Q v H) : rIx K (.ref p) (.int i) H Q := .inr (.inl ⟨p, xs, i, v, rfl, rfl, h, h2, q⟩)
theorem ixS {x : Str} {c : Nat} (h : x.length ≤ sizeLine) (h2 : atI x.cps.toList i = some c) (q : Q (.str ⟨#[c]⟩) H) : rIx K (.str x) (.int i) H Q := .inr (.inr ⟨x, i, c, rfl, rfl, h, h2, q⟩)
theorem slL {xs : List V} {lo hi : Option Int} (h : SqL K H a xs) (q : ∀ p, H p = none → Q (.ref p) (upd H p (.lst (cutV xs lo hi)))) : rSlA K (.ref a) lo hi H Q := .inl ⟨a, xs, rfl, h, q⟩
theorem slS {x : Str} {lo hi : Option Int} (h : x.length ≤ sizeLine) (q : Q (.str (cutS x lo hi)) H) : rSlA K (.str x) lo hi H Q := .inr ⟨x, rfl, h, q⟩
theorem sl {r : V → Option Int → Option Int → Hp → VK → Prop} {tl th : TO} (h : te σ H fun x H1 => tl σ H1 fun l H2 => th σ H2 fun u H3 => r x l u H3 Q) : tSl r te tl th σ H Q := h
theorem noPart {Q : Option Int → Hp → Prop} (q : Q none H) : tNoPart σ H Q := q
theorem part {Q : Option Int → Hp → Prop} (h : te σ H fun x H1 => ∃ i, x = .int i ∧ Q (some i) H1) : tPart te σ H Q := h
theorem exint {P : Int → Prop} (h : P i) : ∃ k, V.int i = .int k ∧ P k := ⟨i, rfl, h⟩
/-- tests -/
theorem test {Q : Bool → Hp → Prop} (h : te σ H fun x H' => ∃ k, x = .bl k ∧ Q k H') : tTest te σ H Q := h
theorem tbv {Q : Bool → Hp → Prop} (h : te σ H fun x H' => ∃ k, x = .bl k ∧ Q k H') : tB te σ H Q := h
theorem exbl {b : Bool} {P : Bool → Prop} (h : P b) : ∃ k, V.bl b = .bl k ∧ P k := ⟨b, rfl, h⟩
theorem yes {Q : Bool → Hp → Prop} (q : Q true H) : tYes σ H Q := q
theorem andT {t u : TT} {Q : Bool → Hp → Prop} (h : t σ H fun c H1 => if c = true then u σ H1 Q else Q false H1) : tAnd t u σ H Q := h
theorem orT {t u : TT} {Q : Bool → Hp → Prop} (h : t σ H fun c H1 => if c = true then Q true H1 else u σ H1 Q) : tOr t u σ H Q := h
theorem notT {t : TT} {Q : Bool → Hp → Prop} (h : t σ H fun c H1 => Q (!c) H1) : tNot t σ H Q := h
theorem andV (h : ta σ H fun x H1 => ∃ c, x = .bl c ∧ if c = true then tb σ H1 Q else Q (.bl false) H1) : tAndV ta tb σ H Q := h
theorem orV (h : ta σ H fun x H1 => ∃ c, x = .bl c ∧ if c = true then Q (.bl true) H1 else tb σ H1 Q) : tOrV ta tb σ H Q := h
theorem notV (h : ta σ H fun x H1 => ∃ c, x = .bl c ∧ Q (.bl (!c)) H1) : tNotV ta σ H Q := h
theorem chain {r r' : R2} (h : ta σ H fun x H1 => tb σ H1 fun y H2 => r x y H2 fun z H3 => ∃ k, z = .bl k ∧ (if k = true then tc σ H3 fun w' H4 => r' y w' H4 Q else Q (.bl false) H3)) : tChain r r' ta tb tc σ H Q := h
/-- statements -/
theorem seq (h : t (Ends.mk (u (Ends.mk N r bk ct)) r bk ct) σ H) : tSeq t u (Ends.mk N r bk ct) σ H := h
theorem asg {i : Nat} (h : te σ H fun x H1 => N (σ.set i (some x)) H1) : tAsg te (gName i) (Ends.mk N r bk ct) σ H := h
theorem drop (h : te σ H fun _ H1 => N σ H1) : tDrop te (Ends.mk N r bk ct) σ H := h
theorem ret (h : te σ H r) : tRet te (Ends.mk N r bk ct) σ H := h
theorem retN (h : r .non H) : tRetN (Ends.mk N r bk ct) σ H := h
theorem next (h : N σ H) : tNext (Ends.mk N r bk ct) σ H := h
theorem ifS {c : TT} (h : c σ H fun b H1 => if b = true then t (Ends.mk N r bk ct) σ H1 else u (Ends.mk N r bk ct) σ H1) : tIfS c t u (Ends.mk N r bk ct) σ H := h
theorem iteT {A B : Prop} (h : A) : if true = true then A else B := by rw [if_pos rfl]; exact h
theorem iteF {A B : Prop} (h : B) : if false = true then A else B := by rw [if_neg Bool.false_ne_true]; exact h
theorem iteNF {A B : Prop} (h : A) : if (!false) = true then A else B := h
theorem iteNT {A B : Prop} (h : B) : if (!true) = true then A else B := h
theorem iteD {c A B : Prop} [Decidable c] (h1 : c → A) (h2 : ¬ c → B) : if decide c = true then A else B := by
  by_cases h : c
  · rw [decide_eq_true h, if_pos rfl]; exact h1 h
  · rw [decide_eq_false h, if_neg Bool.false_ne_true]; exact h2 h
theorem iteN {c A B : Prop} [Decidable c] (h1 : ¬ c → A) (h2 : c → B) : if (!decide c) = true then A else B := by
  by_cases h : c
  · rw [decide_eq_true h]; rw [if_neg (by decide)]; exact h2 h
  · rw [decide_eq_false h]; rw [if_pos (by decide)]; exact h1 h
/-- calls, displays -/
theorem cons {tr : TA} {Q : List V → Hp → Prop} (h : ta σ H fun x H1 => tr σ H1 fun xs H2 => Q (x :: xs) H2) : tCons ta tr σ H Q := h
theorem nil {Q : List V → Hp → Prop} (q : Q [] H) : tNil σ H Q := q
theorem call {sp : Sp} {E : XK} {t : TA} (h : t σ H fun vs H1 => sp (vs ++ []) H1 Q E) : tCall sp [] E t σ H Q := h
theorem cb {r : List V → Hp → VK → Prop} {t : TA} (h : t σ H fun vs H1 => r vs H1 Q) : tCB r t σ H Q := h
theorem tup {t : TA} (h : t σ H fun xs H1 => xs.length ≤ sizeLine ∧ ∀ p, H1 p = none → Q (.ref p) (upd H1 p (.tup xs))) : tTup t σ H Q := h
theorem lst {t : TA} (h : t σ H fun xs H1 => xs.length ≤ sizeLine ∧ ∀ p, H1 p = none → Q (.ref p) (upd H1 p (.lst xs))) : tLst t σ H Q := h
theorem m0 {r : V → List V → Hp → VK → Prop} (h : to σ H fun x H1 => (∃ a, x = .str a) ∧ r x [] H1 Q) : tM0 r to σ H Q := h
theorem m1 {r : V → List V → Hp → VK → Prop} (h : to σ H fun x H1 => (∃ a, x = .str a) ∧ te σ H1 fun y H2 => r x [y] H2 Q) : tM1 r to te σ H Q := h
theorem isStr {x : Str} {A : Prop} (h : A) : (∃ a, V.str x = .str a) ∧ A := ⟨⟨x, rfl⟩, h⟩
theorem upper {x : Str} (h : x.length ≤ 5592405) (q : Q (.str (Txt.upper x)) H) : rUpper (.str x) [] H Q := ⟨x, rfl, rfl, h, q⟩
theorem join {x : Str} {ys : List Str} (h : SqL K H p (ys.map V.str)) (hz : (ys.map (·.length)).sum + ys.length * x.length ≤ 16777216) (q : Q (.str (Txt.join x ys)) H) : rJoin K (.str x) [.ref p] H Q := ⟨x, p, ys, rfl, rfl, .inl h, hz, q⟩
theorem fld {f : Str} (h : ta σ H fun x H1 => ∃ a C dx fs v, x = .ref a ∧ H1 a = some (.ins C dx fs) ∧ Cls K C ∧ NoAttr K C f ∧ fs.lookup f = some v ∧ Q v H1) : tFld K ta f σ H Q := h
theorem start_ {t : TS} {D : Ends} {σ' : St} (e : σ = σ') (h : t D σ' H) : t D σ H := by rw [e]; exact h
end Rd

/-- heaps -/
theorem same_new {H : Hp} {p : Addr} {o : HO} (h : H p = none) : Same H (upd H p o) := fun a u e => by
  rw [upd_ne (ne_of_none e h)]; exact e
theorem same_upd {H0 H : Hp} {p : Addr} {o : HO} (e : Same H0 H) (h : H0 p = none) : Same H0 (upd H p o) := fun a u ha => by
  rw [upd_ne (ne_of_none ha h)]; exact e a u ha
theorem Same.sqt {K : PySem.W.Frag} {H H' : Hp} {a : Addr} {xs : List V} (e : Same H H') (h : SqT K H a xs) : SqT K H' a xs := by
  rcases h with (h | ⟨o, h⟩) | h
  · exact .inl (.inl (e _ _ h))
  · exact .inl (.inr ⟨o, e _ _ h⟩)
  · exact .inr h
end Fw
namespace Fw
open PySem PySem.Spec L2
/-- the built-ins that the program leaves alone -/
structure Bt (mg : Str → Option Value) : Prop where
  len : mg "len" = none
  sum : mg "sum" = none
  int : mg "int" = none
  range : mg "range" = none
  isinstance : mg "isinstance" = none
  any : mg "any" = none
  all : mg "all" = none
  list : mg "list" = none
  tuple : mg "tuple" = none
  sorted : mg "sorted" = none
  set : mg "set" = none
  bool : mg "bool" = none
  ValueError : mg "ValueError" = none
section
variable {X : Cx}
def rMulS : R2 := fun x y H Q => ∃ z i, x = .str z ∧ y = .int i ∧ 0 ≤ i ∧ i < 1000 ∧ z.length ≤ 1000 ∧ Q (.str (Txt.mul z i)) H
theorem op_mulS : OpR X (binaryOp .Mult) rMulS := by
  intro pins s σ H x y v u Q I rx ry h
  obtain ⟨z, i, rfl, rfl, h0, h1, h2, q⟩ := h
  obtain ⟨t, rfl⟩ := rx
  obtain ⟨t', rfl⟩ := ry
  have e : i.toNat ≤ 1000 := by omega
  have hm : z.length * i.toNat ≤ 1000 * 1000 := Nat.mul_le_mul h2 e
  refine PySem.SB.mul ⟨?_, fun hn _ => ?_, fun hn _ => ?_⟩ fun t' k => ⟨.str _, H, I.tok k, ⟨t', rfl⟩, q⟩
  · rw [decide_eq_false (by omega), decide_eq_false (by omega)]; rfl
  · have hd : 1000 ≤ (2 ^ 63 - 1) / i := by
      rw [Int.le_ediv_iff_mul_le (by omega)]
      omega
    omega
  · show decide _ = false
    apply decide_eq_false
    have q : sizeLine = 16777216 := sizeLine_eq
    omega
def rMulA : R2 := fun x y H Q => rI CMul (fun i j => .int (i * j)) x y H Q ∨ rMulS x y H Q
theorem op_mulA : OpR X (binaryOp .Mult) rMulA := op_mul.or op_mulS
end
namespace Rd
variable {H : Hp} {Q : VK} {i j : Int} 
theorem mulI (h : CMul i j) (q : Q (.int (i * j)) H) : rMulA (.int i) (.int j) H Q := .inl ⟨i, j, rfl, rfl, h, q⟩
theorem mulS {z : Str} (h0 : 0 ≤ i) (h1 : i < 1000) (h2 : z.length ≤ 1000) (q : Q (.str (Txt.mul z i)) H) : rMulA (.str z) (.int i) H Q := .inr ⟨z, i, rfl, rfl, h0, h1, h2, q⟩
theorem asgSub {σ : St} {N : St → Hp → Prop} {r : VK} {bk ct : St → Hp → Prop} {te to ti : TE} {t : TSet} (h : te σ H fun v H1 => to σ H1 fun o H2 => ti σ H2 fun i H3 => t o i v H3 fun H4 => N σ H4) : tAsg te (gSub to ti t) (Ends.mk N r bk ct) σ H := h
theorem setL {p : Addr} {v : V} {xs : List V} {j : Nat} {Q : Hp → Prop} (h : H p = some (.lst xs)) (h2 : ixN xs.length i = some j) (q : Q (upd H p (.lst (xs.set j v)))) : rSetL (.ref p) (.int i) v H Q := ⟨p, xs, i, j, rfl, rfl, h, h2, q⟩
theorem sumL {K : PySem.W.Frag} {a : Addr} {ns : List Int} (h : SqL K H a (ns.map V.int)) (q : Q (.int ns.sum) H) : rSum K [.ref a] H Q := ⟨a, ns, rfl, h, q⟩
end Rd
end Fw
namespace Fw
open PySem PySem.Spec L2
/-- what is left of a comprehension, of a for, once the thing to walk is known -/
def LcGo (J : It) (g : TG) (tt : TT) (te : TE) (vs : List Nat) (σ : St) (H1 : Hp) (Q : VK) : Prop := tLc (fun _ H R => R J H) g tt te vs σ H1 Q
def FoGo (J : It) (g : TG) (tb : TS) (D : Ends) (σ : St) (H : Hp) : Prop := tFor (fun _ H R => R J H) g tb D σ H
abbrev Flat (Itm : Nat → V → Prop) : Nat → Hp → V → Hp → Prop := fun i H x H' => H' = H ∧ Itm i x
namespace Rd
variable {K : PySem.W.Frag} {σ : St} {H : Hp} {Q : VK} {te tl : TE} {ta : TA} {tt : TT} {g : TG} {vs : List Nat} {tb : TS} {D : Ends} {J : It} {n : Nat} {G : Hp → Prop} {Itm : Nat → V → Prop}
theorem lcL (h : tl σ H fun x H1 => ∃ a, x = .ref a ∧ (∃ xs, SqL K H1 a xs) ∧ LcGo (Itl K a) g tt te vs σ H1 Q) : tLc (iList K tl) g tt te vs σ H Q := h
theorem lcT (h : tl σ H fun x H1 => ∃ a, x = .ref a ∧ (∃ xs, SqT K H1 a xs) ∧ LcGo (Itt K a) g tt te vs σ H1 Q) : tLc (iTup K tl) g tt te vs σ H Q := h
theorem lcR (h : ta σ H fun us H1 => ∃ j : Int, us = [.int j] ∧ -(2 ^ 62) ≤ j ∧ j < 2 ^ 62 ∧ LcGo (Itr 0 j.toNat) g tt te vs σ H1 Q) : tLc (iRng1 ta) g tt te vs σ H Q := h
theorem lcS (h : tl σ H fun v H1 => ∃ x, v = .str x ∧ LcGo (Its x) g tt te vs σ H1 Q) : tLc (iStr tl) g tt te vs σ H Q := h
theorem foL (h : tl σ H fun x H1 => ∃ a, x = .ref a ∧ (∃ xs, SqL K H1 a xs) ∧ FoGo (Itl K a) g tb D σ H1) : tFor (iList K tl) g tb D σ H := h
theorem foT (h : tl σ H fun x H1 => ∃ a, x = .ref a ∧ (∃ xs, SqT K H1 a xs) ∧ FoGo (Itt K a) g tb D σ H1) : tFor (iTup K tl) g tb D σ H := h
theorem foR (h : ta σ H fun us H1 => ∃ j : Int, us = [.int j] ∧ -(2 ^ 62) ≤ j ∧ j < 2 ^ 62 ∧ FoGo (Itr 0 j.toNat) g tb D σ H1) : tFor (iRng1 ta) g tb D σ H := h
theorem exrange {i : Int} {P : Int → Prop} (h1 : -(2 ^ 62) ≤ i) (h2 : i < 2 ^ 62) (h : P i) : ∃ j : Int, [V.int i] = [.int j] ∧ -(2 ^ 62) ≤ j ∧ j < 2 ^ 62 ∧ P j := ⟨i, rfl, h1, h2, h⟩
theorem exstr {x : Str} {P : Str → Prop} (h : P x) : ∃ z, V.str x = .str z ∧ P z := ⟨x, rfl, h⟩
theorem exlist {a : Addr} {xs : List V} {P : Addr → Prop} (hs : SqL K H a xs) (h : P a) : ∃ b, V.ref a = .ref b ∧ (∃ xs, SqL K H b xs) ∧ P b := ⟨a, rfl, ⟨xs, hs⟩, h⟩
theorem extup {a : Addr} {xs : List V} {P : Addr → Prop} (hs : SqT K H a xs) (h : P a) : ∃ b, V.ref a = .ref b ∧ (∃ xs, SqT K H b xs) ∧ P b := ⟨a, rfl, ⟨xs, hs⟩, h⟩
/-- a comprehension: Jv by turn, items made and heap -/
theorem lcW {s : Nat} (w : Walk J n G (Flat Itm)) (hn : n < sizeLine) (Jv : Nat → List V → Hp → Prop) (h0 : Jv 0 [] H)
    (hst : ∀ D, H D = none → ∀ i acc ys H', Jv i acc H' → Jv i acc (upd H' D (.lst ys))) (hG : ∀ i acc H', i ≤ n → Jv i acc H' → G H')
    (step : ∀ D, H D = none → ∀ i x acc H', i < n → Itm i x → H' D = some (.lst acc) → acc.length ≤ i → Jv i acc H' → ∀ (Kt : V → Hp → Prop) (Kf : Hp → Prop), (∀ y H4, H4 D = some (.lst acc) → Jv (i + 1) (acc ++ [y]) H4 → Kt y H4) → (∀ H3, H3 D = some (.lst acc) → Jv (i + 1) acc H3 → Kf H3) →
      tt ((σ.set s none).set s (some x)) H' fun b H3 => if b = true then te ((σ.set s none).set s (some x)) H3 Kt else Kf H3)
    (fin : ∀ D acc H', H D = none → H' D = some (.lst acc) → acc.length ≤ n → Jv n acc H' → Q (.ref D) H') : LcGo J (gName s) tt te [s] σ H Q := by
  intro D hD
  refine lc_it w (fun i H' => ∃ acc, H' D = some (.lst acc) ∧ acc.length ≤ i ∧ Jv i acc H') ⟨[], upd_same, Nat.le_refl _, hst D hD _ _ _ _ h0⟩ (fun i H' hi ⟨acc, _, _, j⟩ => hG i acc H' hi j) ?_ (fun H' ⟨acc, a1, a2, a3⟩ => fin D acc H' hD a1 a2 a3)
  rintro i x H' H2 hi ⟨acc, a1, a2, a3⟩ ⟨rfl, hx⟩
  show wipe (((wipe σ [s])).set s (some x)) [s] = wipe σ [s] ∧ _
  refine ⟨?_, ?_⟩
  · show ((σ.set s none).set s (some x)).set s none = σ.set s none
    rw [List.set_set, List.set_set]
  · exact step D hD i x acc _ hi hx a1 a2 a3 _ _
      (fun y H4 b1 b2 => ⟨acc, b1, Nat.lt_of_le_of_lt a2 (Nat.lt_trans hi hn), acc ++ [y], upd_same, by rw [List.length_append, List.length_singleton]; omega, hst D hD _ _ _ _ b2⟩)
      (fun H3 b1 b2 => ⟨acc, b1, Nat.le_succ_of_le a2, b2⟩)
/-- a for: Pv by turn, slots and heap -/
theorem foW {s : Nat} {N : St → Hp → Prop} {r : VK} {bk ct : St → Hp → Prop} (w : Walk J n G (Flat Itm)) (Pv : Nat → St → Hp → Prop) (h0 : Pv 0 σ H) (hG : ∀ i σ H, i ≤ n → Pv i σ H → G H)
    (step : ∀ i x σ H, i < n → Itm i x → Pv i σ H → tb (Ends.mk (Pv (i + 1)) r N (Pv (i + 1))) (σ.set s (some x)) H) (fin : ∀ σ H, Pv n σ H → N σ H) : FoGo J (gName s) tb (Ends.mk N r bk ct) σ H :=
  for_it w Pv h0 hG (fun i x σ H H' hi p ⟨e, hx⟩ => by subst e; exact step i x σ _ hi hx p) fin
theorem wList {a : Addr} {xs : List V} : Walk (Itl K a) xs.length (fun H => SqL K H a xs) (Flat fun i x => xs[i]? = some x) := walk_list
theorem wTup {a : Addr} {xs : List V} : Walk (Itt K a) xs.length (fun H => SqT K H a xs) (Flat fun i x => xs[i]? = some x) := walk_tup
theorem wRange {n : Nat} : Walk (Itr 0 n) n (fun _ => True) (Flat fun i x => x = .int (0 + i)) := walk_range
theorem wStr {z : Str} : Walk (Its z) z.cps.size (fun _ => True) (Flat fun i v => ∃ c, z.cps[i]? = some c ∧ v = .str ⟨#[c]⟩) := walk_str
end Rd
end Fw
namespace Fw
open PySem PySem.Spec L2
section
variable {X : Cx} (K : PySem.W.Frag)
theorem kix (h : X.K = K := by rfl) : IxR X (rIx K) := by subst h; exact ix_seq
theorem keq (hu : X.A.units + 64 < cLine) (h : X.K = K := by rfl) : OpR X (compareOp .Eq) (rEqA K) := by subst h; exact op_eqA hu
theorem kne (hu : X.A.units + 64 < cLine) (h : X.K = K := by rfl) : OpR X (compareOp .NotEq) (rNeA K) := by subst h; exact op_neA hu
theorem klen (h : X.K = K := by rfl) : CallR X (.builtin "len") (rLenA K) := by subst h; exact call_lenA
theorem ksum (hc : X.calm = true := by rfl) (h : X.K = K := by rfl) : CallR X (.builtin "sum") (rSum K) := by subst h; exact cr_sum hc
theorem kany (hc : X.calm = true := by rfl) (h : X.K = K := by rfl) : CallR X (.builtin "any") (rAny K) := by subst h; exact cr_any hc
theorem kall (hc : X.calm = true := by rfl) (h : X.K = K := by rfl) : CallR X (.builtin "all") (rAll K) := by subst h; exact cr_all hc
theorem kisi (h : X.K = K := by rfl) : CallR X (.builtin "isinstance") (rIsi K) := by subst h; exact call_isi
def rListOf (K : PySem.W.Frag) : List V → Hp → VK → Prop := fun xs H Q => ∃ p ys, xs = [.ref p] ∧ (SqL K H p ys ∨ SqT K H p ys) ∧ ∀ l, H l = none → Q (.ref l) (upd H l (.lst ys))
def rTupOf (K : PySem.W.Frag) : List V → Hp → VK → Prop := fun xs H Q => ∃ p ys, xs = [.ref p] ∧ ((SqL K H p ys ∧ ∀ l, H l = none → Q (.ref l) (upd H l (.tup ys))) ∨ (SqT K H p ys ∧ Q (.ref p) H))
theorem klist (h : X.K = K := by rfl) : CallR X (.type "list") (rListOf K) := by subst h; exact call_list_of
theorem ktuple (h : X.K = K := by rfl) : CallR X (.type "tuple") (rTupOf K) := by subst h; exact call_tuple_of
theorem ksl (h : X.K = K := by rfl) : SlR X (rSlA K) := by subst h; exact sl_any
theorem kin (h : X.K = K := by rfl) : OpR X (compareOp .In) (rIn K false) := by subst h; exact op_in_seq
theorem knin (h : X.K = K := by rfl) : OpR X (compareOp .NotIn) (rIn K true) := by subst h; exact op_notIn_seq
theorem kpl {tg l : Expr} {tl : TE} (hl : PE X l tl) (h : X.K = K := by rfl) : PI X tg l (iList K tl) := by subst h; exact pi_list hl
theorem kpt {tg l : Expr} {tl : TE} (hl : PE X l tl) (h : X.K = K := by rfl) : PI X tg l (iTup K tl) := by subst h; exact pi_tup hl
theorem kjoin {o e : Expr} {to te : TE} {apos pos : Pos} (ho : PE X o to) (he : PE X e te) (h : X.K = K := by rfl) (hs : starEach [e] X.env = [(false, eval e X.env)] := by rfl) (hbase : attributeBase o "join" X.env (eval o X.env) = eval o X.env := by rfl) (hline : (apos.endLine == pos.line) = true := by rfl) :
    PE X (.Call (.Attribute o "join" apos) [e] [] pos) (tM1 (rJoin K) to te) := by subst h; exact pe_joinA ho he hs hbase hline
theorem kfld {e : Expr} {f : Str} {ta : TE} {pos : Pos} (he : PE X e ta) (h : X.K = K := by rfl) (hb : attributeBase e f X.env (eval e X.env) = eval e X.env := by rfl) : PE X (.Attribute e f pos) (tFld K ta f) := by subst h; exact pe_fld he hb
theorem kcon {e : Expr} {f : Str} {ta : TE} {pos : Pos} (he : PE X e ta) (h : X.K = K := by rfl) (hb : attributeBase e f X.env (eval e X.env) = eval e X.env := by rfl) : PE X (.Attribute e f pos) (tCon K ta f) := by subst h; exact pe_con he hb
end
namespace Rd
variable {K : PySem.W.Frag} {H : Hp} {Q : VK} {p : Addr}
theorem listL {ys : List V} (h : SqL K H p ys) (q : ∀ l, H l = none → Q (.ref l) (upd H l (.lst ys))) : rListOf K [.ref p] H Q := ⟨p, ys, rfl, .inl h, q⟩
theorem listT {ys : List V} (h : SqT K H p ys) (q : ∀ l, H l = none → Q (.ref l) (upd H l (.lst ys))) : rListOf K [.ref p] H Q := ⟨p, ys, rfl, .inr h, q⟩
theorem tupL {ys : List V} (h : SqL K H p ys) (q : ∀ l, H l = none → Q (.ref l) (upd H l (.tup ys))) : rTupOf K [.ref p] H Q := ⟨p, ys, rfl, .inl ⟨h, q⟩⟩
theorem tupT {ys : List V} (h : SqT K H p ys) (q : Q (.ref p) H) : rTupOf K [.ref p] H Q := ⟨p, ys, rfl, .inr ⟨h, q⟩⟩
/-- xs.append(y) -/
theorem bm {T : String} {r : V → List V → Hp → VK → Prop} {to : TE} {t : TA} {σ : St} (h : to σ H fun x H1 => tyV K T x H1 ∧ t σ H1 fun xs H2 => r x xs H2 Q) : tBM K T r to t σ H Q := h
theorem tyL {xs : List V} {A : Prop} (h : H p = some (.lst xs)) (q : A) : tyV K "list" (.ref p) H ∧ A := ⟨.inl ⟨rfl, _, SqL.of h⟩, q⟩
theorem append {xs : List V} {y : V} (h : H p = some (.lst xs)) (hl : xs.length < sizeLine) (q : Q .non (upd H p (.lst (xs ++ [y])))) : rAppend (.ref p) [y] H Q := ⟨p, xs, y, rfl, rfl, h, hl, q⟩
end Rd
end Fw

namespace Fw
open PySem PySem.Spec L2
theorem kapp {X : Cx} (K : PySem.W.Frag) {o e : Expr} {to : TE} {t : TA} {apos cpos : Pos} (ho : PE X o to) (ha : PA X [e] t) (h : X.K = K := by rfl)
    (hbase : attributeBase o "append" X.env (eval o X.env) = eval o X.env := by rfl)
    (hfew : ((backTo cpos (starEach [e] X.env)).all (fun x => !x.1) && (backToKw cpos (keywordEach [] X.env)).all (fun x => x.1.isSome)
      && decide (([e] : List Expr).length + ([] : List Keyword).length + (if ([] : List Keyword).isEmpty then 0 else 1) < 30)) = true := by rfl)
    (hline : (apos.endLine == cpos.line) = true := by rfl) (hs : starEach [e] X.env = (false, eval e X.env) :: starEach [] X.env := by rfl) (hplain : (backTo cpos (starEach [] X.env)).any (·.1) = false := by rfl) :
    PE X (.Call (.Attribute o "append" apos) [e] [] cpos) (tBM K "list" rAppend to t) := by
  subst h
  exact pe_bm PySem.F.plainAttrs_list PySem.F.slot_list_append PySem.F.type_list_append mt_append ho ha hbase hfew hline hs hplain
end Fw

namespace Fw
open PySem PySem.Spec L2
abbrev S (l : List Nat) : Str := ⟨l.toArray⟩
theorem pe_lit {X : Cx} (l : List Nat) {x : Str} {j pos} (h : x = S l) : PE X (.Constant (.str x) j pos) (tC (.str (S l))) := by subst h; exact pe_str
theorem dec_S {a b : List Nat} : decide (S a = S b) = decide (a = b) := decide_eq_decide.mpr ⟨fun h => SX.S_inj h, fun h => by rw [h]⟩
theorem sIx_ge {n d : Nat} {i : Int} (h : 0 ≤ i) : HT.sIx n d (some i) = min i.toNat n := by
  have e : i = ((i.toNat : Nat) : Int) := by omega
  rw [e, HT.sIx_nat]
  rfl
theorem cut_to {l : List Nat} {i : Int} (h : 0 ≤ i) : cutS (S l) none (some i) = S (l.take i.toNat) := by
  show (⟨((l.toArray.toList.drop 0).take (HT.sIx l.toArray.size l.toArray.size (some i) - 0)).toArray⟩ : Str) = ⟨(l.take i.toNat).toArray⟩
  rw [sIx_ge h, List.drop_zero, Nat.sub_zero, List.size_toArray]
  show (⟨(l.take (min i.toNat l.length)).toArray⟩ : Str) = ⟨(l.take i.toNat).toArray⟩
  by_cases hl : i.toNat ≤ l.length
  · rw [Nat.min_eq_left hl]
  · have e1 : min i.toNat l.length = l.length := by omega
    have e2 : l.take i.toNat = l := List.take_of_length_le (by omega)
    rw [e1, e2, List.take_length]
theorem cut_fromto {l : List Nat} {i j : Int} (h : 0 ≤ i) (h2 : 0 ≤ j) : cutS (S l) (some i) (some j) = S ((l.drop i.toNat).take (j.toNat - i.toNat)) := by
  show (⟨((l.toArray.toList.drop (HT.sIx l.toArray.size 0 (some i))).take (HT.sIx l.toArray.size l.toArray.size (some j) - HT.sIx l.toArray.size 0 (some i))).toArray⟩ : Str) = _
  rw [sIx_ge h, sIx_ge h2, List.size_toArray]
  show (⟨((l.drop (min i.toNat l.length)).take (min j.toNat l.length - min i.toNat l.length)).toArray⟩ : Str) = ⟨((l.drop i.toNat).take (j.toNat - i.toNat)).toArray⟩
  by_cases hl : i.toNat ≤ l.length
  · rw [Nat.min_eq_left hl]
    by_cases hj : j.toNat ≤ l.length
    · rw [Nat.min_eq_left hj]
    · have e1 : min j.toNat l.length = l.length := by omega
      have e2 : (l.drop i.toNat).take (l.length - i.toNat) = l.drop i.toNat := List.take_of_length_le (by rw [List.length_drop]; omega)
      have e3 : (l.drop i.toNat).take (j.toNat - i.toNat) = l.drop i.toNat := List.take_of_length_le (by rw [List.length_drop]; omega)
      rw [e1, e2, e3]
  · have e1 : min i.toNat l.length = l.length := by omega
    have e2 : l.drop i.toNat = [] := List.drop_of_length_le (by omega)
    have e3 : l.drop l.length = [] := List.drop_of_length_le (Nat.le_refl _)
    rw [e1, e2, e3, List.take_nil, List.take_nil]
theorem cut_from {l : List Nat} {i : Int} (h : 0 ≤ i) : cutS (S l) (some i) none = S (l.drop i.toNat) := by
  show (⟨((l.toArray.toList.drop (HT.sIx l.toArray.size 0 (some i))).take (l.toArray.size - HT.sIx l.toArray.size 0 (some i))).toArray⟩ : Str) = _
  rw [sIx_ge h, List.size_toArray]
  show (⟨((l.drop (min i.toNat l.length)).take (l.length - min i.toNat l.length)).toArray⟩ : Str) = ⟨(l.drop i.toNat).toArray⟩
  have e2 : (l.drop (min i.toNat l.length)).take (l.length - min i.toNat l.length) = l.drop (min i.toNat l.length) := List.take_of_length_le (by rw [List.length_drop]; omega)
  rw [e2]
  by_cases hl : i.toNat ≤ l.length
  · rw [Nat.min_eq_left hl]
  · have e1 : min i.toNat l.length = l.length := by omega
    have e2 : l.drop i.toNat = [] := List.drop_of_length_le (by omega)
    have e3 : l.drop l.length = [] := List.drop_of_length_le (Nat.le_refl _)
    rw [e1, e2, e3]
theorem foldl_cps (l : List Nat) : ∀ (n : Nat) (acc : Array Nat), ((List.replicate n l.toArray).foldl (· ++ ·) acc).toList = acc.toList ++ (List.replicate n l).flatten
  | 0, acc => by simp
  | n + 1, acc => by
    rw [List.replicate_succ, List.foldl_cons, foldl_cps l n]
    simp [List.replicate_succ]
theorem mul_S {l : List Nat} {n : Int} (h : 1 < n) (hl : 1 ≤ l.length) : Txt.mul (S l) n = S ((List.replicate n.toNat l).flatten) := by
  unfold Txt.mul
  rw [if_neg (by omega), if_neg]
  · have e := foldl_cps l n.toNat #[]
    rw [List.nil_append] at e
    show (⟨(List.replicate n.toNat l.toArray).foldl (· ++ ·) #[]⟩ : Str) = ⟨_⟩
    congr 1
    rw [← e]
  · intro z
    rw [Bool.or_eq_true] at z
    rcases z with z | z
    · have := eq_of_beq z; omega
    · have := eq_of_beq z
      rw [SX.S_len] at this
      omega
theorem rep_len (l : List Nat) (n : Nat) : ((List.replicate n l).flatten).length = n * l.length := by
  induction n with
  | zero => simp
  | succ n ih => rw [List.replicate_succ, List.flatten_cons, List.length_append, ih, Nat.succ_mul, Nat.add_comm]
namespace RS
theorem mul {H : Hp} {Q : VK} {i : Int} {l : List Nat} (h : 1 < i) (h1 : i < 1000) (hl : 1 ≤ l.length) (h2 : l.length ≤ 1000) (q : Q (.str (S ((List.replicate i.toNat l).flatten))) H) : rMulA (.str (S l)) (.int i) H Q :=
  Rd.mulS (by omega) h1 (by show l.toArray.size ≤ _; rw [List.size_toArray]; exact h2) (by rw [mul_S h hl]; exact q)
variable {H : Hp} {Q : VK} {i j : Int} {l a b : List Nat}
theorem len_S {l : List Nat} (h : l.length ≤ 1000) : (S l).length ≤ sizeLine := by
  have q : sizeLine = 16777216 := sizeLine_eq
  show l.toArray.size ≤ _
  rw [List.size_toArray]; omega
theorem slTo {K : PySem.W.Frag} (h : 0 ≤ i) (hl : l.length ≤ 1000) (q : Q (.str (S (l.take i.toNat))) H) : rSlA K (.str (S l)) none (some i) H Q := Rd.slS (len_S hl) (by rw [cut_to h]; exact q)
theorem slFrom {K : PySem.W.Frag} (h : 0 ≤ i) (hl : l.length ≤ 1000) (q : Q (.str (S (l.drop i.toNat))) H) : rSlA K (.str (S l)) (some i) none H Q := Rd.slS (len_S hl) (by rw [cut_from h]; exact q)
theorem slFT {K : PySem.W.Frag} (h : 0 ≤ i) (h2 : 0 ≤ j) (hl : l.length ≤ 1000) (q : Q (.str (S ((l.drop i.toNat).take (j.toNat - i.toNat)))) H) : rSlA K (.str (S l)) (some i) (some j) H Q := Rd.slS (len_S hl) (by rw [cut_fromto h h2]; exact q)
theorem add (h : a.length + b.length ≤ 1000) (q : Q (.str (S (a ++ b))) H) : rAddA (.str (S a)) (.str (S b)) H Q := by
  refine Rd.addS ?_ ?_
  · have q : sizeLine = 16777216 := sizeLine_eq
    show a.toArray.size + b.toArray.size ≤ _
    rw [List.size_toArray, List.size_toArray]; omega
  · rw [SX.S_cat]; exact q
theorem eq {K : PySem.W.Frag} (q : Q (.bl (decide (a = b))) H) : rEqA K (.str (S a)) (.str (S b)) H Q := Rd.eqS (by rw [dec_S]; exact q)
theorem ne {K : PySem.W.Frag} (q : Q (.bl (!decide (a = b))) H) : rNeA K (.str (S a)) (.str (S b)) H Q := Rd.neS (by rw [dec_S]; exact q)
theorem ix {K : PySem.W.Frag} {c : Nat} (h : l.length ≤ 1000) (h2 : atI l i = some c) (q : Q (.str (S [c])) H) : rIx K (.str (S l)) (.int i) H Q := Rd.ixS (len_S h) h2 q
theorem upper (h : l.all (· < 128) = true) (hl : l.length ≤ 1000) (q : Q (.str (S (l.map PyProof.Rows.up1))) H) : rUpper (.str (S l)) [] H Q := ⟨_, rfl, rfl, by
  show l.toArray.size ≤ _
  rw [List.size_toArray]; omega, by rw [SX.upper_S h]; exact q⟩
theorem len {K : PySem.W.Frag} (h : l.length ≤ 1000) (q : Q (.int l.length) H) : rLenA K [.str (S l)] H Q := Rd.lenS (len_S h) (by
  have e : (S l).length = l.length := SX.S_len l
  rw [e]; exact q)
end RS
end Fw

namespace Fw
open PySem PySem.Spec L2
/-- an own error class over ValueError, its __init__ one that stores its argument as fld -/
structure Er (K : PySem.W.Frag) (mg : Str → Option Value) (nm qual fld : Str) (st : Stmt) where
  C : Addr
  f : Addr
  fd : FuncData
  T : OexC K C
  iC : PySem.W.findIn K (.ref C) "__init__" = some (some (.ref f))
  tI : PySem.W.typeIn K (.ref f) = some (.type "function")
  g : mg nm = some (.ref C)
  no : PySem.W.findIn K (.ref C) fld = some none
  F : Fun K "__init__" qual st f fd
  b : Binds K fd ["self", fld] []
  xf : XfC K C
  xc : ExcC K C
  te : PySem.W.exmOne K (.ref C) (.ref C) = some true
/-- what such an __init__ keeps -/
def spErI (C : Addr) (fld : Str) : Sp := fun vs H Q _ => ∃ (a : Addr) (v : V), vs = [.ref a, v] ∧ H a = some (exo a C none) ∧ ∀ dx, H dx = none → dx ≠ a → Q .non (upd (upd H dx (exd dx [(fld, v)])) a (exo a C (some dx)))
theorem kost {X : Cx} (K : PySem.W.Frag) {o e : Expr} {to te : TE} {f : Str} {p' pos : Pos} (ho : PE X o to) (he : PE X e te) (h : X.K = K := by rfl) (hs : swapsWith e (some (.Attribute o f p')) pos.line X.env = pure false := by rfl) : PS X (.Assign [.Attribute o f p'] e pos) (tOst K f to te) := by
  subst h; exact ps_ost ho he hs
section
variable {X : Cx}
theorem pmk_er {P : Program} {w : World} {K : PySem.W.Frag} {mg : Str → Option Value} {base : Heap} {nm qual fld : Str} {st : Stmt} {k : Nat} {e : Expr} {es : List Expr} {ta : TA} {p pos : Pos} (r : Er K mg nm qual fld st) (F1 : FnOk P w K mg base CX0 k r.f r.fd ["self", fld] (spErI r.C fld)) (hr : Room (k + 1) X.A) (ha : PA X (e :: es) ta)
    (h1 : X.prog = P := by rfl) (h2 : X.w = w := by rfl) (h3 : X.K = K := by rfl) (h4 : X.mg = mg := by rfl) (h5 : X.base = base := by rfl) (hg : Gl X nm := by rfl)
    (hdb : (nm == ("__debug__" : Str)) = false := by decide) (he : starEach (e :: es) X.env = (false, eval e X.env) :: starEach es X.env := by rfl) (hpl : (backTo pos (starEach es X.env)).any (·.1) = false := by rfl) :
    PMk X (.Call (.Name nm p) (e :: es) [] pos) (tMkO r.C (spErI r.C fld) [] ta) := by
  subst h1 h2 h3 h4 h5
  exact pmk_oex (pos := pos) (p := p) r.T r.iC r.tI F1 hr r.b .nil pass0 hg r.g ha hdb he hpl
end
/-- what is left of raise C(v) -/
def ErGo (C : Addr) (fld : Str) (vs : List V) (H1 : Hp) (Q : XK) : Prop := vs.length ≤ 1000 ∧ ∀ a, H1 a = none → spErI C fld (.ref a :: (vs ++ [])) (upd H1 a (exo a C none))
  (fun v H2 => v = .non ∧ ∃ (d : Addr) (fs : List (Str × V)), H2 a = some (exo a C (some d)) ∧ H2 d = some (exd d fs) ∧ H1 d = none ∧ Q (.ref C) (some d) (upd (del H2 a) d (.xd fs))) (fun _ _ _ => False)
namespace Rd
theorem raise {t : St → Hp → XK → Prop} {W : WX} {σ : St} {H : Hp} {N : St → Hp → Prop} {r : VK} {bk ct : St → Hp → Prop} (h : t σ H fun cls d H' => W cls d σ H') : (fun (_ : Ends) (σ : St) (H : Hp) => t σ H fun cls d H' => W cls d σ H') (Ends.mk N r bk ct) σ H := h
theorem mko {C : Addr} {fld : Str} {ta : TA} {σ : St} {H : Hp} {Q : XK} (h : ta σ H fun vs H1 => ErGo C fld vs H1 Q) : tMkO C (spErI C fld) [] ta σ H Q := h
theorem erGo {C : Addr} {fld : Str} {v : V} {H1 : Hp} {Q : XK} (q : ∀ d, H1 d = none → Q (.ref C) (some d) (upd H1 d (.xd [(fld, v)]))) : ErGo C fld [v] H1 Q := by
  refine ⟨Nat.succ_le_succ (Nat.zero_le _), fun a ha => ⟨a, v, rfl, upd_same, fun dx hx ne => ⟨rfl, dx, [(fld, v)], upd_same, by rw [upd_ne ne]; exact upd_same, ?_, ?_⟩⟩⟩
  · rw [upd_ne ne] at hx; exact hx
  · rw [upd_ne ne] at hx
    have e2 : upd (del (upd (upd (upd H1 a (exo a C none)) dx (exd dx [(fld, v)])) a (exo a C (some dx))) a) dx (.xd [(fld, v)]) = upd H1 dx (.xd [(fld, v)]) := by
      funext b
      by_cases hb : b = dx
      · rw [hb, upd_same, upd_same]
      · rw [upd_ne hb, upd_ne hb]
        by_cases hb2 : b = a
        · rw [hb2, del_same, ha]
        · rw [del_ne hb2, upd_ne hb2, upd_ne hb, upd_ne hb2]
    rw [e2]
    exact q dx hx
/-- self.f = v in such an __init__ -/
theorem ost {K : PySem.W.Frag} {f : Str} {to te : TE} {σ : St} {H : Hp} {N : St → Hp → Prop} {r : VK} {bk ct : St → Hp → Prop} (h : te σ H fun y H1 => to σ H1 fun x H2 => ∃ a C : Addr, x = .ref a ∧ OexC K C ∧ PySem.W.findIn K (.ref C) f = some none ∧
  ((H2 a = some (exo a C none) ∧ ∀ dx, H2 dx = none → dx ≠ a → N σ (upd (upd H2 dx (exd dx [(f, y)])) a (exo a C (some dx)))) ∨
    ∃ (dx : Addr) (fs : List (Str × V)), H2 a = some (exo a C (some dx)) ∧ H2 dx = some (exd dx fs) ∧ fs.length ≤ 900 ∧ N σ (upd H2 dx (exd dx ((f, y) :: fs))))) : tOst K f to te (Ends.mk N r bk ct) σ H := h
theorem leC {H : Hp} {Q : VK} {a b : Nat} (q : Q (.bl (decide (a ≤ b))) H) : rLeA (.str (S [a])) (.str (S [b])) H Q := by
  refine Rd.leS ?_
  have e : (!decide ((S [b]).cps.toList < (S [a]).cps.toList)) = decide (a ≤ b) := by
    show (!decide ([b] < [a])) = decide (a ≤ b)
    by_cases h : a ≤ b
    · have n : ¬ [b] < [a] := by
        intro z
        cases z with
        | rel z => have z' : b < a := z; omega
        | cons z => cases z
      rw [decide_eq_true h, decide_eq_false n]; rfl
    · have n : [b] < [a] := List.Lex.rel (show b < a by omega)
      rw [decide_eq_false h, decide_eq_true n]; rfl
  rw [e]; exact q
end Rd
end Fw

namespace Fw
open PySem PySem.Spec L2
/-- what is left of C(..) -/
def MkGo (C : Addr) (sp : Sp) (vs : List V) (H1 : Hp) (Q : VK) (E : XK) : Prop := ∀ x dx, H1 x = none → H1 dx = none → dx ≠ x → sp (.ref x :: (vs ++ [])) (upd (upd H1 dx (.own x)) x (.ins C dx [])) (fun v H2 => v = .non ∧ Q (.ref x) H2) E

namespace Rd
variable {K : PySem.W.Frag} {σ : St} {H : Hp} {Q : VK} {te to ta tv : TE} {t : TA} {N : St → Hp → Prop} {r : VK} {bk ct : St → Hp → Prop}
theorem make {C : Addr} {sp : Sp} {E : XK} (h : t σ H fun vs H1 => MkGo C sp vs H1 Q E) : tMake C sp [] E t σ H Q := h
theorem meth {C : Addr} {m : Str} {sp : Sp} {E : XK} (h : ta σ H fun x H1 => ∃ a dx fs, x = .ref a ∧ H1 a = some (.ins C dx fs) ∧ fs.lookup m = none ∧ t σ H1 fun vs H2 => sp (x :: (vs ++ [])) H2 Q E) : tMeth C m sp [] E ta t σ H Q := h
theorem sfld {f : Str} (h : tv σ H fun y H1 => ta σ H1 fun x H2 => ∃ a C dx fs, x = .ref a ∧ H2 a = some (.ins C dx fs) ∧ Cls K C ∧ NoAttr K C f ∧ fs.length < 1000 ∧ N σ (upd H2 a (.ins C dx (putF f y fs)))) : sFld K ta tv f (Ends.mk N r bk ct) σ H := h
theorem con_ {f : Str} (h : ta σ H fun x H1 => ∃ a C dx fs v u, x = .ref a ∧ H1 a = some (.ins C dx fs) ∧ Cls K C ∧ Con K C f v u ∧ fs.lookup f = none ∧ Q v H1) : tCon K ta f σ H Q := h
end Rd
section
variable {X : Cx}
theorem kset {K : PySem.W.Frag} {o value : Expr} {f : Str} {ta tv : TE} {pos pos' : Pos} (ha : PE X o ta) (hv : PE X value tv) (h : X.K = K := by rfl) (hs : swapsWith value (some (.Attribute o f pos')) pos.line X.env = pure false := by rfl) : PS X (.Assign [.Attribute o f pos'] value pos) (sFld K ta tv f) := by
  subst h; exact ps_fld ha hv hs
theorem pe_mk {P : Program} {w : World} {K : PySem.W.Frag} {mg : Str → Option Value} {base : Heap} {CX : CXT} {x qual : Str} {st : Stmt} {C : Addr} {k : Nat} {ps : List Str} {sp : Sp} {E : XK} {e : Expr} {es : List Expr} {t : TA} {p pos : Pos} (d : Mf K "__init__" qual st ps) (M : Mk K C d.f) (hm : mg x = some (.ref C)) (F : FnOk P w K mg base CX k d.f d.fd ps sp) (hr : Room (k + 1) X.A) (hx : Passes CX X E) (ha : PA X (e :: es) t)
    (h1 : X.prog = P := by rfl) (h2 : X.w = w := by rfl) (h3 : X.K = K := by rfl) (h4 : X.mg = mg := by rfl) (h5 : X.base = base := by rfl) (hg : Gl X x := by rfl)
    (hdb : (x == ("__debug__" : Str)) = false := by decide) (he : starEach (e :: es) X.env = (false, eval e X.env) :: starEach es X.env := by rfl) (hpl : (backTo pos (starEach es X.env)).any (·.1) = false := by rfl) :
    PE X (.Call (.Name x p) (e :: es) [] pos) (tMake C sp [] E t) := by
  subst h1 h2 h3 h4 h5
  exact pe_make M F hr hg hm d.b .nil hx ha hdb he hpl
/-- o.m() on an instance of the class at C -/
theorem pe_m00 {pl : Sem Bool} {P : Program} {w : World} {K : PySem.W.Frag} {mg : Str → Option Value} {base : Heap} {CX : CXT} {m qual : Str} {st : Stmt} {C : Addr} {k : Nat} {ps : List Str} {sp : Sp} {E : XK} {o : Expr} {ta : TE} {apos pos : Pos} {nm : Str} (he : PE X o ta) (c : Cls K C) (d : Mf K nm qual st ps) (hm : Meth K C m d.f) (F : FnOk P w K mg base CX k d.f d.fd ps sp) (hr : Room k X.A) (hx : Passes CX X E)
    (h1 : X.prog = P := by rfl) (h2 : X.w = w := by rfl) (h3 : X.K = K := by rfl) (h4 : X.mg = mg := by rfl) (h5 : X.base = base := by rfl)
    (ht : eval (.Call (.Attribute o m apos) [] [] pos) X.env = (do
      let ov ← eval o X.env
      standAt apos.atName
      let (f, first) ← holding [ov] (getMethod ov m pl)
      callWith pos f first (backTo pos (starEach [] X.env)) (backToKw pos (keywordEach [] X.env))) := by rfl) :
    PE X (.Call (.Attribute o m apos) [] [] pos) (tMeth C m sp [] E ta tNil) := by
  subst h1 h2 h3 h4 h5
  exact pe_meth0 (pl := pl) he c hm F hr d.b .nil hx ht
end
end Fw

namespace Fw
open PySem PySem.Spec L2
section
open PySem.W PySem.Calls PyProof.Rows
variable {prog : Program} {w : World} {A : Around} {E : Value → Shared → Prop} {s : Shared} {K : PySem.W.Frag} {x D : Addr} {ox od : Obj}
/-- the class of a caught error that has a dict -/
theorem class_ofX {Q : Option Value → Shared → Prop} (T : ExcC K D) (X : K.In s.heap) (I : InstAt s.heap x ox D (some od)) (h : Q (some (.ref D)) { s with toks := s.toks + 1 }) : wpAny (model prog w) A (getAttr? (.ref x) "__class__") Q E s := by
  have hsome : (clsIn K D).isSome = true := by obtain ⟨c0, hc0, _⟩ := any_some T.hd; rw [hc0]; rfl
  have found : findObj K D (some od) "__class__" = some (.bind (.builtin "getset_descriptor.__get__") (.builtin "object.__class__")) := findObj_data hsome T.ha T.hn T.ht
  obtain ⟨hp, g, d, t, os⟩ := s
  have ly := I.type (M := model prog w)
  have lga := looks_findIn (M := model prog w) X T.hg
  have lgt := looks_findIn (M := model prog w) X T.hk
  have lfd := looks_find (M := model prog w) X I found
  have lsb : Looks (model prog w) hp (isInstance (.ref x) (.type "BaseException")) true := ly.andThen (looks_subIn X T.hs)
  have ne0 : (Value.builtin "BaseException.__getattribute__" == Value.builtin "object.__getattribute__") = false := by decide +kernel
  have nb0 : (onTheHeap (Value.ref D) && Value.builtin "BaseException.__getattribute__" == Value.builtin "object.__getattribute__") = false := by rw [ne0]; rfl
  unfold getAttr? getAttrBy? getAttrBy; refine wpAny_bind (wpAny_mkText (wpAny_bind (wpAny_attempt (wpAny_holding (wpAny_bind (ly.at (wpAny_bind (lga.at ?_))))))))
  show wpAny _ _ (if (onTheHeap (Value.ref D) && Value.builtin "BaseException.__getattribute__" == Value.builtin "object.__getattribute__") = true then _ else _) _ _ _; rw [nb0, if_neg Bool.false_ne_true]
  unfold getAttrByItsOwn hookBefore; refine wpAny_bind ?_; rw [if_pos (show onTheHeap (Value.ref D) = true from rfl)]
  refine lgt.at ?_; refine wpAny_bind (wpAny_attempt (wpAny_holding ?_))
  unfold callGetattribute boundAndCalled; rw [show (false && onTheHeap (Value.builtin "BaseException.__getattribute__")) = false from rfl, if_neg Bool.false_ne_true]
  rw [PySem.F.excAttr_ValueError.ga.bind (.ref x)]; refine wpAny_bind (wpAny_pure ?_)
  show wpAny _ _ (call (.builtin "BaseException.__getattribute__") [.ref x, .str "__class__" t]) _ _ _; refine wpAny_call (codeAny_call_builtin PySem.F.excAttr_ValueError.ga.plain PySem.F.entry_bexc_ga ?_)
  refine @check_slot (model prog w) _ _ ⟨hp, g, d, t + 1, os⟩ "BaseException.__getattribute__" "BaseException" "__getattribute__" (.ref x) [.str "__class__" t] [] _ (by decide +kernel) (by decide +kernel) lsb (PySem.F.args_bexc_ga (.ref x) (.str "__class__" t)) ?_
  unfold Builtin.«object.__getattribute__»; refine wpAny_bind (wpAny_of_eq (a := ((Value.ref x : Value), [Value.str "__class__" t])) (by first | rfl | (simp only [slotArgs]; rfl)) ?_)
  refine wpAny_bind (wpAny_pure (wpAny_bind (ly.at (wpAny_bind (lfd.at ?_)))))
  show wpAny _ _ (holding [Value.builtin "object.__class__"] (call (.builtin "getset_descriptor.__get__") [.builtin "object.__class__", .ref x, .ref D]) >>= ret) _ _ _
  refine wpAny_bind (wpAny_holding (wpAny_call (class_get (s := ⟨hp, g, d, t + 1, os⟩) (ox := ox) (od := some od) X I T.hm ?_))); refine wpAny_pure ?_
  show wpAny _ _ (handedOut (.ref D)) _ _ _; rw [handedOut_of (v := .ref D) rfl]
  first | exact wpAny_pure (wpAny_pure h) | exact wpAny_pure h | exact wpAny_pure (wpAny_bind (wpAny_pure (wpAny_pure h)))
theorem kitX (T : ExcC K D) : KitX K (.ref x) (.ref D) (fun h => InstAt h x ox D (some od)) where
  ty := fun _ _ _ I => I.type
  it := fun M h X _ => by
    obtain ⟨c0, hc0, _⟩ := any_some T.hd
    unfold clsIn at hc0; split at hc0
    · next ho =>
      intro A' Q' E' s' k q
      obtain ⟨h1, g1, d1, t1, o1⟩ := s'
      exact ks_wpAny_isType_cls (k _ _ (X _ _ ho)) rfl q
    · cases hc0
  ne := fun h tp dd its n sl X htp => by
    obtain ⟨c0, hc0, _⟩ := any_some T.hd
    unfold clsIn at hc0; split at hc0
    · next ho =>
      refine Bool.eq_false_iff.mpr fun q => ?_
      have e := Value.ref.inj (beq_iff_eq.mp q)
      rw [← e, X _ _ ho] at htp; cases htp
    · cases hc0
  ca := fun X I k => class_ofX T X I k
end
/-- isinstance(e, c), e the error that the suite holds, with its dict -/
def rIsX (K : PySem.W.Frag) (D a : Addr) (cls : Value) (d : Option Addr) : List V → Hp → VK → Prop := fun xs H Q => ∃ (c : V) (cv : Value) (b : Bool) (dd : Addr) (fs : List (Str × V)), xs = [.ref a, c] ∧ (∀ u, RelV c u → u = cv) ∧ cls = .ref D ∧ d = some dd ∧ H dd = some (.xd fs) ∧ PySem.W.kitOne K (.ref D) cv = some b ∧ Q (.bl b) H
theorem call_isX {X : Cx} {K : PySem.W.Frag} {a D : Addr} {oe : Obj} {cls : Value} {d : Option Addr} {pn : List (Addr × Obj)} (C : ExcC K D) (hz : Zc cls d oe) (hf : ∃ vs, oe.data = .fields vs) (hK : X.K = K := by rfl) : CallR (X.suite a ((a, oe) :: pn)) (.builtin "isinstance") (rIsX K D a cls d) := by
  subst hK
  intro pins s σ H xs us Q I r h
  obtain ⟨c, cv, b, dd, fs, rfl, hcv, rfl, rfl, hd, e, q⟩ := h
  obtain ⟨u1, u2, rfl, r1, r2⟩ := vals2 r
  cases r1
  have ec := hcv _ r2
  subst ec
  obtain ⟨hget, _⟩ := I.pin (a, oe) (List.mem_append.mpr (.inl List.mem_cons_self))
  obtain ⟨vs, hv⟩ := hf
  obtain ⟨mA, ⟨o0, es, ep, ho0, _⟩, _⟩ := (show ObjOk X.prog X.w H s.heap dd (.xd fs) from I.hok dd _ hd)
  have J : PySem.W.InstAt s.heap a oe D (some o0) := ⟨hget, hz.1, by unfold PySem.W.notCls; rw [hv] <;> rfl, by rw [hz.2]; exact ho0⟩
  exact PySem.W.kia_one (kitX C) I.kIn J e (fun z => nomatch z) fun tk => ⟨.bl b, H, I.kept (t' := tk) fun _ _ z => z, rfl, q⟩
/-- e.f in the suite -/
theorem kxf {X : Cx} {K : PySem.W.Frag} {a C : Addr} {oe : Obj} {cls : Value} {d : Option Addr} {pn : List (Addr × Obj)} {e : Expr} {te : TE} {pos : Pos} {n : Str} (T : XfC K C) (hno : PySem.W.findIn K (.ref C) n = some none) (hz : Zc cls d oe) (hf : ∃ vs, oe.data = .fields vs) (he : PE (X.suite a ((a, oe) :: pn)) e te) (hK : X.K = K := by rfl) (hb : attributeBase e n X.env (eval e X.env) = eval e X.env := by rfl) :
    PE (X.suite a ((a, oe) :: pn)) (.Attribute e n pos) (tXf a cls d C n te) := by
  subst hK
  exact pe_xf T hno hz hf he hb
namespace Rd
theorem xf {a : Addr} {cls : Value} {d : Option Addr} {C : Addr} {f : Str} {te : TE} {σ : St} {H : Hp} {Q : VK} (h : te σ H fun x H1 => x = .ref a ∧ cls = .ref C ∧ ∃ (dd : Addr) (fs : List (Str × V)) (v : V), d = some dd ∧ H1 dd = some (.xd fs) ∧ fs.lookup f = some v ∧ Q v H1) : tXf a cls d C f te σ H Q := h
end Rd
end Fw

namespace Fw
open PySem PySem.Spec L2
/-- try: .. except C as n: .. (nothing else leaves) -/
def tTryAs (K : PySem.W.Frag) (c : Value) (i : Nat) (tb : WX → TS) (ts : Addr → Value → Option Addr → TS) : TS := fun D σ H => tb (wAs K c i ts (fun _ _ _ _ => False) D) D σ H
section
variable {X : Cx} {x n : Str} {c : Value} {body suite : List Stmt} {b₀ : Stmt} {np pos pos' : Pos} {tb : WX → TS} {ts : Addr → Value → Option Addr → TS}
theorem ktry_as (K : PySem.W.Frag) (i : Nat) (hN : X.N.Nodup) (hc : Names X x c)
    (hb : ∀ (W : WX) (pn : List (Addr × Obj)) (xe : Value → Shared → Prop), Takes (X.tr pn xe) W → PassesOwn (model X.prog X.w) X.A X.env xe → PSs (X.tr pn xe) body (tb W))
    (hsu : ∀ (a : Addr) (oe : Obj) (cls : Value) (d : Option Addr) (pn : List (Addr × Obj)), Zc cls d oe → (∃ vs, oe.data = .fields vs) → PSs (X.suite a ((a, oe) :: pn)) (b₀ :: suite) (ts a cls d))
    (hK : X.K = K := by rfl) (hs : X.stack = X.env :: X.outer := by rfl) (hf : X.env.frame = some X.env.locals := by rfl) (hi : X.N[i]? = some n := by rfl) (hln : X.env.kindOf n = some .local := by rfl) :
    PS X (.Try body [.ExceptHandler (some (.Name x np)) (some n) (b₀ :: suite) pos'] [] [] pos) (tTryAs K c i tb ts) := by
  subst hK
  exact ps_try_as hs hf hN hi hln hc takes0 hb hsu
/-- a call within a try's body -/
theorem pe_cfS {P : Program} {w : World} {K : PySem.W.Frag} {mg : Str → Option Value} {base : Heap} {nm q : Str} {st : Stmt} {ps : List Str} {k : Nat} {sp : Sp} {W : WX} {e : Expr} {es : List Expr} {t : TA} {p pos : Pos} (d : Df K mg nm q st ps) (F : FnOk P w K mg base (L2.CX P w) k d.f d.fd ps sp) (hr : Room k X.A) (tk : Takes X W)
    (ha : PA X (e :: es) t) (h1 : X.prog = P := by rfl) (h2 : X.w = w := by rfl) (h3 : X.K = K := by rfl) (h4 : X.mg = mg := by rfl) (h5 : X.base = base := by rfl) (hg : Gl X nm := by rfl) (hd : (nm == ("__debug__" : Str)) = false := by decide) (he : starEach (e :: es) X.env = (false, eval e X.env) :: starEach es X.env := by rfl) (hpl : (backTo pos (starEach es X.env)).any (·.1) = false := by rfl) :
    PE X (.Call (.Name nm p) (e :: es) [] pos) (tCallS sp (WE W) t) := by
  subst h1 h2 h3 h4 h5
  exact pe_callS F hr hg d.g d.F.kp d.b (fun σ => passAt tk σ) ha hd he hpl
end
namespace Rd
variable {K : PySem.W.Frag} {σ : St} {H : Hp} {Q : VK} {N : St → Hp → Prop} {r : VK} {bk ct : St → Hp → Prop}
theorem tryAs {c : Value} {i : Nat} {tb : WX → TS} {ts : Addr → Value → Option Addr → TS} (h : tb (wAs K c i ts (fun _ _ _ _ => False) (Ends.mk N r bk ct)) (Ends.mk N r bk ct) σ H) : tTryAs K c i tb ts (Ends.mk N r bk ct) σ H := h
theorem callS {sp : Sp} {E : St → XK} {t : TA} (h : t σ H fun vs H1 => sp vs H1 Q (E σ)) : tCallS sp E t σ H Q := h
/-- the clause takes it -/
theorem wAs_yes {c cls : Value} {d : Option Addr} {i : Nat} {ts : Addr → Value → Option Addr → TS} {Wo : WX} (te : PySem.W.exmOne K cls c = some true) (h : ∀ a, H a = none → ts a cls d (Ends.mk (fun σ' H' => N (σ'.set i none) H') r (fun σ' H' => bk (σ'.set i none) H') (fun σ' H' => ct (σ'.set i none) H')) (σ.set i (some (.ref a))) H) :
    WE (wAs K c i ts Wo (Ends.mk N r bk ct)) σ cls d H := ⟨true, te, fun _ a ha => h a ha, fun q => nomatch q⟩
theorem isX {D a dd : Addr} {cls cv : Value} {d : Option Addr} {c : V} {b : Bool} {fs : List (Str × V)} (hc : ∀ u, RelV c u → u = cv) (e1 : cls = .ref D) (e2 : d = some dd) (hd : H dd = some (.xd fs)) (e : PySem.W.kitOne K (.ref D) cv = some b) (q : Q (.bl b) H) : rIsX K D a cls d [.ref a, c] H Q := ⟨c, cv, b, dd, fs, rfl, hc, e1, e2, hd, e, q⟩
theorem isi {x c : V} {t u : Value} {b : Bool} (k : ClsV c u) (ty : TyX K H x t) (e : PySem.W.kitOne K t u = some b) (q : Q (.bl b) H) : rIsi K [x, c] H Q := ⟨x, c, t, u, b, rfl, k, ty, e, q⟩
end Rd
end Fw
namespace Fw
open PySem PySem.Spec L2
/-! ### lists and tuples of numbers, bools and texts, compared -/
def okV : V → Bool
  | .non => true
  | .bl _ => true
  | .int _ => true
  | .str x => PyData.canLay0 (.str x)
  | _ => false
def dOf : V → PyData
  | .bl b => .bool b
  | .int i => .int i
  | .str x => .str x
  | _ => .none
section
variable {K : PySem.W.Frag} {H : Hp} {Q : VK} {a b : Addr} {xs : List V}
theorem dp_all : ∀ {xs : List V}, xs.all okV = true → DpAll K H xs (xs.map dOf)
  | [], _ => .nil
  | x :: xs, h => by
    rw [List.all_cons, Bool.and_eq_true] at h
    refine .cons ?_ (dp_all h.2)
    cases x with
    | non => exact .non
    | bl b => exact .bl b
    | int i => exact .int i
    | str x => exact .str x
    | byt _ => exact Bool.noConfusion h.1
    | flt _ => exact Bool.noConfusion h.1
    | ref _ => exact Bool.noConfusion h.1
    | ty _ => exact Bool.noConfusion h.1
theorem can_all : ∀ {xs : List V}, xs.all okV = true → PyData.canLayAll0 (xs.map dOf) = true
  | [], _ => rfl
  | x :: xs, h => by
    rw [List.all_cons, Bool.and_eq_true] at h
    show (PyData.canLay0 (dOf x) && PyData.canLayAll0 (xs.map dOf)) = true
    rw [can_all h.2, Bool.and_true]
    cases x with
    | str x => exact h.1
    | _ => first | rfl | exact Bool.noConfusion h.1
theorem depth_all : ∀ xs : List V, PyData.depthAll (xs.map dOf) = 0
  | [] => rfl
  | x :: xs => by
    show max (PyData.depth (dOf x)) (PyData.depthAll (xs.map dOf)) = 0
    rw [depth_all xs]
    cases x <;> rfl
theorem shL (h : xs.all okV = true) : SeqAt.shaped (.list (xs.map dOf)) = true := by
  show (PyData.canLayAll0 (xs.map dOf) && decide (PyData.depthAll (xs.map dOf) + 1 ≤ 64)) = true
  rw [can_all h, depth_all]; rfl
theorem shT (h : xs.all okV = true) : SeqAt.shaped (.tuple (xs.map dOf)) = true := by
  show (PyData.canLayAll0 (xs.map dOf) && decide (PyData.depthAll (xs.map dOf) + 1 ≤ 64)) = true
  rw [can_all h, depth_all]; rfl
theorem reflL (h : xs.all okV = true) : PyData.eqv (.list (xs.map dOf)) (.list (xs.map dOf)) = true := SeqAt.eqv_refl _ (can_all h)
theorem reflT (h : xs.all okV = true) : PyData.eqv (.tuple (xs.map dOf)) (.tuple (xs.map dOf)) = true := SeqAt.eqv_refl _ (can_all h)
namespace Rd
theorem eqLs (h1 : SqL K H a xs) (h2 : SqL K H b xs) (h : xs.all okV = true) (q : Q (.bl true) H) : rEqA K (.ref a) (.ref b) H Q := Rd.eqD (.lst h1 (dp_all h)) (.lst h2 (dp_all h)) (shL h) (shL h) (by rw [reflL h]; exact q)
theorem neLs (h1 : SqL K H a xs) (h2 : SqL K H b xs) (h : xs.all okV = true) (q : Q (.bl false) H) : rNeA K (.ref a) (.ref b) H Q := Rd.neD (.lst h1 (dp_all h)) (.lst h2 (dp_all h)) (shL h) (shL h) (by rw [reflL h]; exact q)
theorem eqTs (h1 : SqT K H a xs) (h2 : SqT K H b xs) (h : xs.all okV = true) (q : Q (.bl true) H) : rEqA K (.ref a) (.ref b) H Q := Rd.eqD (.tup h1 (dp_all h)) (.tup h2 (dp_all h)) (shT h) (shT h) (by rw [reflT h]; exact q)
theorem neTs (h1 : SqT K H a xs) (h2 : SqT K H b xs) (h : xs.all okV = true) (q : Q (.bl false) H) : rNeA K (.ref a) (.ref b) H Q := Rd.neD (.tup h1 (dp_all h)) (.tup h2 (dp_all h)) (shT h) (shT h) (by rw [reflT h]; exact q)
theorem iteBT {b : Bool} {A B : Prop} (hb : b = true) (h : A) : if b = true then A else B := by rw [if_pos hb]; exact h
theorem iteBF {b : Bool} {A B : Prop} (hb : b = false) (h : B) : if b = true then A else B := by rw [hb, if_neg Bool.false_ne_true]; exact h
theorem iteDT {c A B : Prop} [Decidable c] (hc : c) (h : A) : if decide c = true then A else B := by rw [decide_eq_true hc, if_pos rfl]; exact h
theorem iteDF {c A B : Prop} [Decidable c] (hc : ¬ c) (h : B) : if decide c = true then A else B := by rw [decide_eq_false hc, if_neg Bool.false_ne_true]; exact h
theorem iteNDT {c A B : Prop} [Decidable c] (hc : c) (h : B) : if (!decide c) = true then A else B := by rw [decide_eq_true hc]; exact h
theorem iteNDF {c A B : Prop} [Decidable c] (hc : ¬ c) (h : A) : if (!decide c) = true then A else B := by rw [decide_eq_false hc]; exact h
end Rd
end
/-- o.m(), by the facts -/
theorem pe_m0g {X : Cx} {pl : Sem Bool} {P : Program} {w : World} {K : PySem.W.Frag} {mg : Str → Option Value} {base : Heap} {CX : CXT} {m : Str} {C f : Addr} {fd : FuncData} {k : Nat} {ps : List Str} {sp : Sp} {E : XK} {o : Expr} {ta : TE} {apos pos : Pos} (he : PE X o ta) (c : Cls K C) (hm : Meth K C m f) (F : FnOk P w K mg base CX k f fd ps sp) (hr : Room k X.A) (hx : Passes CX X E) (hb : Binds K fd ps [])
    (h1 : X.prog = P := by rfl) (h2 : X.w = w := by rfl) (h3 : X.K = K := by rfl) (h4 : X.mg = mg := by rfl) (h5 : X.base = base := by rfl)
    (ht : eval (.Call (.Attribute o m apos) [] [] pos) X.env = (do let ov ← eval o X.env; standAt apos.atName; let (f, first) ← holding [ov] (getMethod ov m pl); callWith pos f first (backTo pos (starEach [] X.env)) (backToKw pos (keywordEach [] X.env))) := by rfl) :
    PE X (.Call (.Attribute o m apos) [] [] pos) (tMeth C m sp [] E ta tNil) := by
  subst h1 h2 h3 h4 h5
  exact pe_meth0 (pl := pl) he c hm F hr hb .nil hx ht
end Fw

namespace Fw
open PySem PySem.Spec L2
/-- one expression, read in one of several ways (an object of one of several classes) -/
def tAltN (n : Nat) (t : Nat → TE) : TE := fun σ H Q => ∃ m, m < n ∧ t m σ H Q
theorem pe_altN {X : Cx} {e : Expr} {n : Nat} {t : Nat → TE} (h : ∀ m, m < n → PE X e (t m)) : PE X e (tAltN n t) := ⟨fun pins s σ H Q I ⟨m, hm, q⟩ => (h m hm).run pins s σ H Q I q⟩
theorem Rd.alt {n m : Nat} {t : Nat → TE} {σ : St} {H : Hp} {Q : VK} (hm : m < n) (h : t m σ H Q) : tAltN n t σ H Q := ⟨m, hm, h⟩
end Fw

set_option Elab.async false
set_option linter.all false
set_option maxRecDepth 100000
set_option maxHeartbeats 4000000
namespace Fw
open PySem PySem.Spec L2
open PySem.W (ksFn ksEnv ks_superObj)
/-- the scope of a method that says super() and has no names of its own -/
def supScope : Scope := { kind := .function, names := [("self", .local), ("__class__", .free), ("super", .globalImplicit)], isGenerator := false, isCoroutine := false, more := [] }
/-- such a method: its def, its cell, the class at D in it -/
structure Sf (P : Program) (K : PySem.W.Frag) (nm qual : Str) (st : Stmt) (D : Addr) where
  f : Addr
  cc : Addr
  fd : FuncData
  lk : ∃ (oc : Value) (od : Option Addr) (kV doc pm : Value) (an : Option Addr) (cda : Addr) (ct : Value) (osl : Array (Option Value)) (ccl : Value) (cdd : Option Addr) (vs : Array Value) (ccs : Array (Option Value)) (file : Str) (tf : Tok),
    fd = ksFn nm qual (defArgs st) (defBody st) supScope .none kV doc pm an (.ref cda) ct cc ∧ K.lookup f = some ⟨oc, od, .func fd, osl⟩ ∧ PySem.W.codeIn K (.ref cda) qual = true ∧ K.lookup cda = some ⟨ccl, cdd, .fields vs, ccs⟩ ∧ vs[2]? = some (.str file tf) ∧ ((P.main.file : Str) == file) = true
  cell : ∃ (cl : Value) (cld : Option Addr) (csl : Array (Option Value)), K.lookup cc = some ⟨cl, cld, .cell (some (.ref D)), csl⟩
  cls : ∃ cd, PySem.W.clsIn K D = some cd
/-- a role's words: the group, then ws -/
def spW (RA : Addr → Hp → Addr → List Nat → Prop) (C : Addr) (ws : List (List Nat)) : Sp := fun vs H Q _ => ∃ (p : Addr) (g : List Nat), vs = [.ref p] ∧ RA C H p g ∧ ∀ l H', H l = none → Same H H' → H' l = some (.lst (.str (S g) :: ws.map fun z => V.str (S z))) → Q (.ref l) H'
theorem Sf.binds {P : Program} {K : PySem.W.Frag} {nm qual : Str} {st : Stmt} {D : Addr} (F : Sf P K nm qual st D) (h : ∀ (kV doc pm : Value) (an : Option Addr) (cdv ct : Value) (cc : Addr) (us : List Value), us.length = 1 → bindArgs (ksFn nm qual (defArgs st) (defBody st) supScope .none kV doc pm an cdv ct cc) ⟨us, []⟩ = pure ((["self"] : List Str).zip us)) : Binds K F.fd ["self"] [] := by
  obtain ⟨oc, od, kV, doc, pm, an, cda, ct, osl, ccl, cdd, vs, ccs, file, tf, hfd, _⟩ := F.lk
  rw [hfd]
  exact .all (h kV doc pm an (.ref cda) ct F.cc)
theorem sup_names {x : Str} {k : NameKind} (h : supScope.names.lookup x = some k) (hk : k = .cell ∨ k = .free) : x = "__class__" := by
  have hm := PySem.mem_of_lookup h
  simp only [supScope, List.mem_cons, Prod.mk.injEq, List.not_mem_nil, or_false] at hm
  rcases hm with ⟨_, e⟩ | ⟨e, _⟩ | ⟨_, e⟩
  · subst e; rcases hk with e | e <;> cases e
  · exact e
  · subst e; rcases hk with e | e <;> cases e
section
variable {P : Program} {w : World} {K : PySem.W.Frag} {mg : Str → Option Value} {base : Heap}
/-- its context -/
def supCx (P : Program) (w : World) (K : PySem.W.Frag) (mg : Str → Option Value) (base : Heap) (env : Env) (A : Around) (outer : List Env) (s : Shared) (H : Hp) : Cx where
  prog := P
  w := w
  K := K
  mg := mg
  base := base
  A := A.deeper env
  N := ["self"]
  s_0 := s
  H_0 := H
  env := env
  outer := outer
  stack := env :: outer
  ex := []
  fn := fun _ => false
  calm := true
  pn := []
  xe := fun _ _ => False
theorem sup_inv {A : Around} {outer : List Env} {s : Shared} {H : Hp} {h0 : Heap} {tk : Nat} {qual : Str} {f cc D p : Addr} {cdv : Value} {m : Str → Option Value} (hd : A.handled = none) (e0 : Env0 P w K mg base A outer s H) (hc : ∃ (cl : Value) (cld : Option Addr) (csl : Array (Option Value)), K.lookup cc = some ⟨cl, cld, .cell (some (.ref D)), csl⟩)
    (hn : h0.Ns s.heap.objs.size m) (hm : m "self" = some (.ref p)) (hk : ∀ b o, s.heap.get? b = some o → h0.get? b = some o) : Inv (supCx P w K mg base (ksEnv qual supScope s.heap.objs.size f cdv cc) A outer s H) [] [some (.ref p)] H { s with heap := h0, toks := tk } := by
  obtain ⟨cl, cld, csl, hc⟩ := hc
  have noA : ∀ b : Addr, b ∉ (supCx P w K mg base (ksEnv qual supScope s.heap.objs.size f cdv cc) A outer s H).ex := fun b z => absurd (show b ∈ ([] : List Addr) from z) (by simp)
  have cells : ∀ x c, (ksEnv qual supScope s.heap.objs.size f cdv cc).cells.lookup x = some c → x = "__class__" ∧ c = cc := fun x c h => by
    have hm := PySem.mem_of_lookup h
    have hm' : (x, c) ∈ [(("__class__" : Str), cc)] := hm
    have e := List.mem_singleton.mp hm'
    exact ⟨congrArg Prod.fst e, congrArg Prod.snd e⟩
  have hcc := e0.bs cc _ (e0.mod.kin _ _ hc)
  refine ⟨⟨e0.mod, rfl, rfl, rfl, Nat.le_refl _, fun x y c h1 h2 => ?_, fun x hx => ?_, fun x c hf => ?_, fun _ => hd, Around.frames_deeper e0.frames, .inr ⟨rfl, rfl⟩, fun b z => absurd z (noA b), e0.bs, e0.bsz, fun b _ _ => noA b, fun b z => absurd z (noA b), e0.funs, e0.frf⟩,
    rfl, e0.bare, Un.kept hk, ⟨m, hn, fun i x v h1 h2 h3 => ?_⟩, fun x c h => ?_, e0.hok.fresh (Nat.le_refl _), fun x c h => ?_, fun q hq => absurd (show q ∈ ([] : List (Addr × Obj)) from hq) (by simp), e0.hok.kept hk, rfl⟩
  · rw [(cells x c h1).1, (cells y c h2).1]
  · have hx' : supScope.names.lookup x = some .cell ∨ supScope.names.lookup x = some .free := hx
    have e : x = "__class__" := by rcases hx' with h | h; exact sup_names h (.inl rfl); exact sup_names h (.inr rfl)
    exact ⟨cc, by rw [e]; rfl⟩
  · exact Bool.noConfusion (show false = true from hf)
  · have hi : i = 0 := by
      have := (List.getElem?_eq_some_iff.mp h1).1
      have h : i < 1 := this
      omega
    subst hi
    have ex : x = "self" := (Option.some.inj h1).symm
    subst ex
    have ev : v = .ref p := (Option.some.inj (Option.some.inj h2)).symm
    subst ev
    exact ⟨.ref p, rfl, .inl ⟨rfl, hm⟩⟩
  · obtain ⟨_, rfl⟩ := cells x c h
    exact ⟨_, _, hk _ _ hcc.1, rfl⟩
  · obtain ⟨_, rfl⟩ := cells x c h
    exact hcc.2
open PySem.W PySem.Calls PyProof.Rows in
theorem sup_ok {nm qual : Str} {st : Stmt} {D C f2 : Addr} {fd2 : FuncData} {k : Nat} {ws : List (List Nat)} {z : List Nat} {RA : Addr → Hp → Addr → List Nat → Prop} {x : Str} {p0 p1 p2 p3 apos cpos bpos rpos : Pos} {j : Nat} {ar : Arg} (F : Sf P K nm qual st D)
    (hb : defBody st = [.Return (some (.BinOp (.Call (.Attribute (.Call (.Name "super" p0) [] [] p1) "words" apos) [] [] cpos) .Add (.List [.Constant (.str x) j p2] p3) bpos)) rpos]) (hx : x = S z) (hz : z.length ≤ 100) (hwl : ws.length ≤ 100)
    (har : (defArgs st).posonlyargs ++ (defArgs st).args = [ar]) (har2 : ar.arg = "self")
    (hmro : mroIn K C (.ref D) = some true) (hsup : ks_superIn K C D "words" = some (some (.ref f2))) (hth : nsIn K cStatics "thirdparty.any" = some none) (h2i : fnIn K f2 = true) (h2t : typeIn K (.ref f2) = some (.type "function"))
    (hsn : mg "super" = none) (htop : (P.main.scope.names.lookup ("super" : Str)).isSome = false) (G2 : FnOk P w K mg base CX0 k f2 fd2 ["self"] (spW RA C ws)) (b2 : Binds K fd2 ["self"] [])
    (hRA : ∀ {H p g}, RA C H p g → ∃ dx fs, H p = some (.ins C dx fs))
    (hev : ∀ env : Env, ∃ pl : Sem Bool, eval (.Call (.Attribute (.Call (.Name "super" p0) [] [] p1) "words" apos) [] [] cpos) env = (do let ov ← attributeBase (.Call (.Name "super" p0) [] [] p1) "words" env (eval (.Call (.Name "super" p0) [] [] p1) env); standAt apos.atName; let (f, first) ← holding [ov] (getMethod ov "words" pl); callWith cpos f first (backTo cpos (starEach [] env)) [])) :
    FnOk P w K mg base CX0 (k + 1) F.f F.fd ["self"] (spW RA C (ws ++ [z])) := by
  refine ⟨fun vs H Q E h => by obtain ⟨p, g, rfl, _⟩ := h; rfl, fun A outer s H args us vs Q E hr e0 hbd rv hsp => ?_⟩
  obtain ⟨p, g, rfl, ra, hq⟩ := hsp
  cases rv with
  | @cons _ u _ us' rp rn =>
  cases rn
  obtain rfl : u = Value.ref p := rp
  obtain ⟨oc, od, kV, doc, pm, an, cda, ct, osl, ccl, cdd, vs, ccs, file, tf, hfd, lk, hcd, lcd, hvs, hfile⟩ := F.lk
  have KX : K.In s.heap := e0.mod.kin.keeps fun b o e => (e0.bs b o e).1
  have lim : s.heap.NoLimit := e0.mod.nolimit.keeps fun b o e => (e0.bs b o e).1
  obtain ⟨dx, fs, hp⟩ := hRA ra
  obtain ⟨mA, OM, _⟩ := ins_get e0.hok hp
  obtain ⟨cdD, hD⟩ := F.cls
  obtain ⟨cl, cld, csl, hcell⟩ := id F.cell
  generalize hfd0 : F.fd = fd0 at *
  subst hfd
  refine ks_codeAny_call_defAt (binds := [("self", .ref p)]) (body := defBody st) hr.depth (KX _ _ lk) rfl lim (codeRec_of KX hcd) rfl hbd (show ∀ y ∈ supScope.names, y.2 ≠ .cell by decide) (by intro y hy; rw [List.mem_singleton.mp hy]; rfl) (fun h0 hns hk => ?_) rfl rfl rfl
  have I : Inv (supCx P w K mg base (ksEnv qual supScope s.heap.objs.size F.f (.ref cda) F.cc) A outer s H) [] [some (.ref p)] H { s with heap := h0, toks := s.toks + [(("self" : Str), Value.ref p)].length } :=
    sup_inv hr.hd e0 F.cell hns rfl hk
  have XK : K.In h0 := KX.keeps hk
  show _root_.PySem.wpAt _ _ _ (execs (defBody st) (ksEnv qual supScope s.heap.objs.size F.f (.ref cda) F.cc)) _ _ _
  rw [hb]
  obtain ⟨mb, hbn, hbv⟩ := id I.mod.blt
  obtain ⟨oD, hoD, hDd⟩ : ∃ oD, K.lookup D = some oD ∧ oD.data = .cls cdD := by
    unfold clsIn at hD; split at hD
    · next ho => cases hD; exact ⟨_, ho, rfl⟩
    · cases hD
  have ob : h0.get? p = some (instObj C dx) := hk _ _ OM.obj
  have hself : ("self" : Str) = ar.arg := har2.symm
  obtain ⟨pl, hpl⟩ := hev (ksEnv qual supScope s.heap.objs.size F.f (.ref cda) F.cc)
  refine ks_wpAt_execs_cons (ks_wpAt_Return_some (ks_wpAt_BinOp2 (ks_wpAt_MethodCall (pl := pl) ?_ hpl)))
  refine ks_wpAt_super_base rfl rfl (by decide) rfl (XK _ _ lk) rfl (ar := ar) (by show ((defArgs st).posonlyargs ++ (defArgs st).args).head? = some ar; rw [har]; rfl) rfl (XK _ _ lcd) rfl hvs hfile htop ?_
  refine ks_loadName_global rfl rfl (loadGlobal_builtin (I.mod.glob.keeps I.bk) hsn (hbn.keeps I.bk) ((hbv "super" (by decide)).trans (show bootBuiltins "super" = some (.type "super") by decide +kernel)) ⟨rfl, ?_⟩)
  refine wpAny_loadName_free rfl rfl rfl ⟨_, XK _ _ hcell, rfl⟩ ?_
  rw [har2]
  refine wpAny_loadName_local rfl rfl hns rfl ?_
  refine ks_wpAny_isType_cls (XK _ _ hoD) hDd ⟨rfl, ?_⟩
  refine ks_wpAny_call_super (XK _ _ hoD) hDd ob rfl (fun c e => by cases e) (looks_mroIn XK hmro) (fun h1 e1 k1 => ?_)
  have X1 : K.In h1 := XK.keeps k1
  obtain ⟨cdC, hC, hsup'⟩ := Option.bind_eq_some_iff.mp hsup
  obtain ⟨of, hof, hofc⟩ : ∃ of, K.lookup f2 = some of ∧ of.cls = .type "function" := by
    have t2 : (K.lookup f2).map (·.cls) = some (.type "function") := h2t
    obtain ⟨o, a, b⟩ := Option.map_eq_some_iff.mp t2
    exact ⟨o, a, b⟩
  have pC : p ≠ C := by
    rintro rfl
    unfold clsIn at hC; split at hC
    · next ho => have e := XK _ _ ho; rw [ob] at e; cases e
    · cases hC
  refine ks_wpAny_getMethod_super (of := of) e1 (looks_opaque X1 hth) (l₀ := cdC.mro) (fun A Q E s k q => wpAny_bind ((looks_clsIn X1 hC) A _ E s k (wpAny_pure q))) rfl X1 hsup' (X1 _ _ hof) hofc pC (by decide) ?_
  have k2 : ∀ y o, h0.get? y = some o → (h1.push { cls := .type "method", data := .fields #[.ref f2, .ref p] }).get? y = some o := fun y o e => Heap.get?_push_of_some _ (k1 _ _ e)
  have hm2 : (h1.push { cls := .type "method", data := .fields #[.ref f2, .ref p] }).get? h1.objs.size = some (methodObj (.ref f2) (.ref p)) := Heap.get?_push_at rfl rfl
  refine callWith_M0 (K := K) (g := f2) (self := .ref p) ⟨hm2, XK.keeps k2⟩ h2i ?_
  refine wpAny_call (ks_codeAny_call_bound hm2 ?_)
  have J := I.kept (t' := s.toks + [(("self" : Str), Value.ref p)].length + 1) k2
  refine codeAny_mono (G2.run _ (ksEnv qual supScope s.heap.objs.size F.f (.ref cda) F.cc :: outer) _ H ⟨[.ref p], []⟩ [.ref p] [.ref p] (fun v H' => ∃ l, v = .ref l ∧ Same H H' ∧ H' l = some (.lst (.str (S g) :: ws.map fun z => V.str (S z)))) E0 (hr.deeper _) J.env0 (b2 _ [.ref p] J.kIn rfl) (.cons rfl .nil)
    ⟨p, g, rfl, ra, fun l H' _ s1 hl => ⟨l, rfl, s1, hl⟩⟩) fun r s' hq' => ?_
  cases r with
  | error e => exact (show False from hq').elim
  | ok fl =>
    cases fl with
    | next => exact False.elim hq'
    | brk => exact False.elim hq'
    | cont => exact False.elim hq'
    | ret u2 =>
      obtain ⟨v, H2, J2, r2, l, rfl, s2, hl⟩ := J.after hq'
      have PEl : PE (supCx P w K mg base (ksEnv qual supScope s.heap.objs.size F.f (.ref cda) F.cc) A outer s H) (.List [.Constant (.str x) j p2] p3) (tLst (tCons (tC (.str x)) tNil)) := pe_lst (pa_cons pe_str pa_nil)
      have h3 := PEl.run [] s' [some (.ref p)] H2 (fun v H3 => ∃ l2, v = .ref l2 ∧ H3 = upd H2 l2 (.lst [.str x]) ∧ H2 l2 = none) J2 ⟨by show 1 ≤ sizeLine; decide, fun l2 e2 => ⟨l2, rfl, rfl, e2⟩⟩
      show _root_.PySem.wpAt _ _ _ _ _ _ _
      refine wpAt_of_wpAny (thnF h3 ?_)
      rintro b s3 ⟨y, H3, J3, r3, l2, rfl, rfl, e2⟩
      have hl3 : (upd H2 l2 (.lst [.str x])) l = some (.lst (.str (S g) :: ws.map fun z => V.str (S z))) := by rw [upd_ne (ne_of_none hl e2)]; exact hl
      refine thnF (op_cat [] s3 [some (.ref p)] _ (.ref l) (.ref l2) u2 b Q J3 r2 r3 ⟨l, l2, _, _, rfl, rfl, hl3, upd_same, ?_, fun l3 e3 => ?_⟩) ?_
      · have q : sizeLine = 16777216 := sizeLine_eq
        rw [List.length_cons, List.length_map, List.length_singleton]; omega
      · refine hq l3 _ ((s2.trans (same_new e2)).free e3) ((s2.trans (same_new e2)).trans (same_new e3)) ?_
        rw [upd_same, List.map_append, hx]
        rfl
      · rintro a s4 ⟨v', H4, J4, r4, q4⟩
        exact ⟨v', H4, J4.os, J4.bare, J4.base, J4.hok, r4, q4⟩
end
end Fw

namespace Toy
open PySem L2 Fw
local macro_rules | `(tactic| walk_at "sz") => `(tactic| first | assumption | omega | decide | (have q_sz : sizeLine = 16777216 := sizeLine_eq; simp only [List.length_append, List.length_cons, List.length_nil]; omega) | (have q_sz : sizeLine = 16777216 := sizeLine_eq; simp only [List.length_cons, List.length_nil] at *; omega) | (have q_sz : sizeLine = 16777216 := sizeLine_eq; omega))
local macro_rules | `(tactic| walk_at "hp") => `(tactic| first | assumption | exact upd_same)
local macro_rules | `(tactic| walk_at "sq") => `(tactic| first | assumption | exact SqL.of (by walk_at "hp") | exact SqT.of (by walk_at "hp"))
local macro_rules | `(tactic| walk_at "sl") => `(tactic| first | assumption | omega | (simp only [List.length_append, List.length_take, List.length_drop, List.length_singleton, List.length_cons, List.length_nil, List.length_map, rep_len, Int.reduceToNat]; omega))
local macro_rules | `(tactic| walk_at "rd1") => `(tactic| first
  | ((with_reducible refine' Rd.var ?k1 ?_); (case k1 => rfl))
  | (with_reducible refine Rd.con ?_)
  | (with_reducible refine Rd.op ?_)
  | (with_reducible refine Rd.seq ?_)
  | ((with_reducible refine Rd.asg ?_); dsimp only [List.set])
  | (with_reducible refine Rd.drop ?_)
  | (with_reducible refine Rd.asgSub ?_)
  | ((with_reducible refine' Rd.setL ?k1 ?k2 ?_); (case k1 => walk_at "hp"); (case k2 => first | assumption | rfl); try dsimp only [List.set])
  | (with_reducible refine Rd.ret ?_)
  | (with_reducible refine Rd.retN ?_)
  | (with_reducible refine Rd.next ?_)
  | (with_reducible refine Rd.ifS ?_)
  | (with_reducible refine Rd.cons ?_)
  | (with_reducible refine Rd.nil ?_)
  | (with_reducible refine Rd.call ?_)
  | (with_reducible refine Rd.cb ?_)
  | (with_reducible refine Rd.test ?_)
  | (with_reducible refine Rd.tbv ?_)
  | (with_reducible refine Rd.exbl ?_)
  | (with_reducible refine Rd.exint ?_)
  | (with_reducible refine Rd.yes ?_)
  | (with_reducible refine Rd.andT ?_)
  | (with_reducible refine Rd.orT ?_)
  | (with_reducible refine Rd.notT ?_)
  | (with_reducible refine Rd.andV ?_)
  | (with_reducible refine Rd.orV ?_)
  | (with_reducible refine Rd.notV ?_)
  | (with_reducible refine Rd.chain ?_)
  | (with_reducible refine Rd.sl ?_)
  | (with_reducible refine Rd.lcL ?_)
  | (with_reducible refine Rd.lcT ?_)
  | (with_reducible refine Rd.lcR ?_)
  | (with_reducible refine Rd.lcS ?_)
  | (with_reducible refine Rd.foL ?_)
  | (with_reducible refine Rd.foT ?_)
  | (with_reducible refine Rd.foR ?_)
  | ((with_reducible refine' Rd.exrange ?k1 ?k2 ?_); (case k1 => first | decide | omega); (case k2 => first | decide | omega))
  | (with_reducible refine Rd.exstr ?_)
  | ((with_reducible refine' Rd.exlist ?k1 ?_); (case k1 => walk_at "sq"))
  | ((with_reducible refine' Rd.extup ?k1 ?_); (case k1 => walk_at "sq"))
  | (with_reducible refine Rd.noPart ?_)
  | (with_reducible refine Rd.part ?_)
  | (with_reducible refine Rd.addI ?_)
  | (with_reducible refine Rd.subI ?_)
  | (with_reducible refine Rd.gtI ?_)
  | (with_reducible refine Rd.geI ?_)
  | (with_reducible refine Rd.ltI ?_)
  | (with_reducible refine Rd.leI ?_)
  | (with_reducible refine Rd.eqI ?_)
  | (with_reducible refine Rd.neI ?_)
  | (with_reducible refine RS.eq ?_)
  | (with_reducible refine RS.ne ?_)
  | (with_reducible refine Rd.eqS ?_)
  | (with_reducible refine Rd.neS ?_)
  | (with_reducible refine Rd.leC ?_)
  | (with_reducible refine Rd.ltS ?_)
  | (with_reducible refine Rd.leS ?_)
  | (with_reducible refine Rd.int1 ?_)
  | ((with_reducible refine' Rd.modI ?k1 ?_); (case k1 => first | decide | omega | assumption))
  | ((with_reducible refine' Rd.divI ?k1 ?_); (case k1 => exact ⟨by omega, by omega⟩))
  | ((with_reducible refine' Rd.mulI ?k1 ?_); (case k1 => first | exact .inl ⟨by decide, by decide⟩ | exact .inr ⟨by decide, by decide⟩ | exact .inl ⟨by omega, by omega⟩ | exact .inr ⟨by omega, by omega⟩))
  | ((with_reducible refine' RS.mul ?k1 ?k2 ?k3 ?k4 ?_); (case k1 => decide); (case k2 => decide); (case k3 => walk_at "sl"); (case k4 => walk_at "sl"))
  | ((with_reducible refine' Rd.mulS ?k1 ?k2 ?k3 ?_); (case k1 => first | decide | omega); (case k2 => first | decide | omega); (case k3 => walk_at "sz"))
  | ((with_reducible refine' Rd.powI ?k1 ?_); (case k1 => exact ⟨by decide, by decide, by decide⟩))
  | ((with_reducible refine' Rd.lenL ?k1 ?_); (case k1 => walk_at "sq"))
  | ((with_reducible refine' Rd.lenT ?k1 ?_); (case k1 => walk_at "sq"))
  | ((with_reducible refine' RS.len ?k1 ?_); (case k1 => walk_at "sl"))
  | ((with_reducible refine' Rd.lenS ?k1 ?_); (case k1 => walk_at "sz"))
  | ((with_reducible refine' Rd.sumL ?k1 ?_); (case k1 => walk_at "sq"))
  | ((with_reducible refine' RS.ix ?k1 ?k2 ?_); (case k1 => walk_at "sl"); (case k2 => assumption))
  | ((with_reducible refine' Rd.ixL ?k1 ?k2 ?_); (case k1 => walk_at "sq"); (case k2 => first | assumption | rfl))
  | ((with_reducible refine' Rd.ixT ?k1 ?k2 ?_); (case k1 => walk_at "sq"); (case k2 => first | assumption | rfl))
  | ((with_reducible refine' RS.slTo ?k1 ?k2 ?_); (case k1 => omega); (case k2 => walk_at "sl"))
  | ((with_reducible refine' RS.slFrom ?k1 ?k2 ?_); (case k1 => omega); (case k2 => walk_at "sl"))
  | ((with_reducible refine' RS.slFT ?k1 ?k2 ?k3 ?_); (case k1 => omega); (case k2 => omega); (case k3 => walk_at "sl"))
  | ((with_reducible refine' Rd.slS ?k1 ?_); (case k1 => walk_at "sz"))
  | ((with_reducible refine' RS.add ?k1 ?_); (case k1 => walk_at "sl"))
  | ((with_reducible refine' Rd.addS ?k1 ?_); (case k1 => walk_at "sz"))
  | (with_reducible refine Rd.tup ?_)
  | (with_reducible refine Rd.lst ?_)
  | (with_reducible refine Rd.m0 ?_)
  | (with_reducible refine Rd.m1 ?_)
  | (with_reducible refine Rd.isStr ?_)
  | ((with_reducible refine' RS.upper ?k1 ?k2 ?_); (case k1 => assumption); (case k2 => walk_at "sl"))
  | ((with_reducible refine' Rd.upper ?k1 ?_); (case k1 => walk_at "sz"))
  | (with_reducible refine Rd.bm ?_)
  | ((with_reducible refine' Rd.tyL ?k1 ?_); (case k1 => walk_at "hp"))
  | ((with_reducible refine' Rd.append ?k1 ?k2 ?_); (case k1 => walk_at "hp"); (case k2 => walk_at "sz"))
  | (with_reducible refine Rd.make ?_)
  | (with_reducible refine Rd.meth ?_)
  | (with_reducible refine Rd.sfld ?_)
  | (with_reducible refine Rd.con_ ?_)
  | (with_reducible refine Rd.fld ?_)
  | (with_reducible refine Rd.tryAs ?_)
  | (with_reducible refine Rd.callS ?_)
  | (with_reducible refine Rd.xf ?_)
  | (with_reducible refine Rd.mko ?_)
  | (with_reducible refine Rd.ost ?_)
  | (with_reducible refine Rd.iteNF ?_)
  | (with_reducible refine Rd.iteNT ?_)
  | (with_reducible refine Rd.iteT ?_)
  | (with_reducible refine Rd.iteF ?_)
  | ((with_reducible refine' Rd.iteDT ?k1 ?_); (case k1 => decide))
  | ((with_reducible refine' Rd.iteDF ?k1 ?_); (case k1 => decide))
  | ((with_reducible refine' Rd.iteNDT ?k1 ?_); (case k1 => decide))
  | ((with_reducible refine' Rd.iteNDF ?k1 ?_); (case k1 => decide))
  | ((with_reducible refine' Rd.iteBT ?k1 ?_); (case k1 => rfl))
  | ((with_reducible refine' Rd.iteBF ?k1 ?_); (case k1 => rfl)))
local macro_rules | `(tactic| walk_at "rd") => `(tactic| repeat walk_at "rd1")
def top (i : Nat) : Stmt := PySem.Challenge.pw_redopages_k01_roles_and_their_words.main.body.getD i (.Pass ⟨0, 0, 0, 0⟩)
section
variable {P : Program} {w : World} {K : PySem.W.Frag} {mg : Str → Option Value} {base : Heap} {tk : Tok}
/-! ### the draws -/
def PoolAt (H : Hp) (p : Addr) : Prop := ∃ d s c : Int, H p = some (.lst [.int d, .int s, .int c])
def spDraw : Sp := fun vs H Q _ => ∃ (p : Addr) (m : Int), vs = [.ref p, .int m] ∧ 0 < m ∧ m < 1073741824 ∧ PoolAt H p ∧
  ∀ (r : Int) (H' : Hp), 0 ≤ r → r < m → (∀ a, a ≠ p → H' a = H a) → PoolAt H' p → Q (.int r) H'
abbrev s_law_draw : Stmt := top 18
theorem sc_law_draw : FnScope ["_law_pool_here", "_law_many", "_law_digit"] ["_law_pool_here", "_law_many"] (defScope s_law_draw) := ⟨rfl, rfl, rfl, by decide +kernel, rfl, by decide +kernel, by decide +kernel⟩
theorem ok_draw {f : Addr} {fd : FuncData} (F : Fun K "_law_draw" "_law_draw" s_law_draw f fd) (T : Bt mg) : FnOk P w K mg base CX0 1 f fd ["_law_pool_here", "_law_many"] spDraw := by
  refine F.ok sc_law_draw (fun vs H Q E h => ?_) (fun cdv A outer s H vs Q E hr h => ?_)
  · obtain ⟨p, m, rfl, _⟩ := h
    rfl
  · obtain ⟨p, m, rfl, hm, hm2, ⟨d, sd, c, hp⟩, k⟩ := h
    refine ⟨_, (pss_cons (ps_if (PW.pt (pw_and (pt_cmpR op_gtI (pe_ix (kix K) (pv 0) pe_int (fun _ _ => rfl)) pe_int (nomark _)) (pw_and1 (pt_cmpR op_gtI (pe_ix (kix K) (pv 0) pe_int (fun _ _ => rfl)) pe_int (nomark _))))) (pss_cons (ps_set (i := 2) sc_law_draw.nd rfl (Or.inl rfl) (pe_op op_modI (pe_callTy call_intA (by rfl) T.int (by decide +kernel) (pa_cons (pe_ix (kix K) (pv 0) pe_int (fun _ _ => rfl)) pa_nil)) (pv 1)))
  (pss_cons (ps_asg (pe_op op_divI (pe_ix (kix K) (pv 0) pe_int (fun _ _ => rfl)) (pv 1)) (pg_sub (pv 0) pe_int set_list))
  (pss_cons (ps_asg (pe_op op_subI (pe_ix (kix K) (pv 0) pe_int (fun _ _ => rfl)) pe_int) (pg_sub (pv 0) pe_int set_list))
  (pss_one (ps_ret (pv 2))))))
  pss_nil)
  (pss_cons (ps_asg (pe_op op_modI (pe_callTy call_intA (by rfl) T.int (by decide +kernel) (pa_cons (pe_op op_addA (pe_op op_mulA (pe_ix (kix K) (pv 0) pe_int (fun _ _ => rfl)) pe_int) pe_int) pa_nil)) pe_int) (pg_sub (pv 0) pe_int set_list))
  (pss_one (ps_ret (pe_op op_modI (pe_callTy call_intA (by rfl) T.int (by decide +kernel) (pa_cons (pe_ix (kix K) (pv 0) pe_int (fun _ _ => rfl)) pa_nil)) (pv 1)))))), ?_⟩
    refine Rd.start_ (σ' := [some (.ref p), some (.int m), none]) rfl ?_
    have fin : ∀ (H' : Hp) (x : Int) (d' s' c' : Int), H' = upd (upd H p (.lst [.int d', .int sd, .int c])) p (.lst [.int d', .int s', .int c']) → Q (.int (x % m)) H' := fun H' x d' s' c' e => by
      subst e
      exact k _ _ (Int.emod_nonneg _ (by omega)) (Int.emod_lt_of_pos _ hm) (fun a ha => by rw [upd_ne ha, upd_ne ha]) ⟨_, _, _, upd_same⟩
    have fin1 : ∀ (x : Int) (d' s' c' : Int), Q (.int (x % m)) (upd H p (.lst [.int d', .int s', .int c'])) := fun x d' s' c' =>
      k _ _ (Int.emod_nonneg _ (by omega)) (Int.emod_lt_of_pos _ hm) (fun a ha => by rw [upd_ne ha]) ⟨_, _, _, upd_same⟩
    walk_at "rd"
    refine Rd.iteD (fun h1 => ?_) (fun h1 => ?_)
    · walk_at "rd"
      refine Rd.iteD (fun h2 => ?_) (fun h2 => ?_)
      · walk_at "rd"
        exact fin _ _ _ _ _ rfl
      · walk_at "rd"
        exact fin1 _ _ _ _
    · walk_at "rd"
      exact fin1 _ _ _ _

def spPool (K : PySem.W.Frag) : Sp := fun vs H Q _ => ∃ (a : Addr) (ns : List Int) (k : Int), vs = [.ref a, .int k] ∧ SqL K H a (ns.map V.int) ∧ ns.length ≤ 63 ∧ 0 ≤ k ∧ k < 100 ∧
  ∀ (p : Addr) (H' : Hp), H p = none → Same H H' → PoolAt H' p → Q (.ref p) H'
abbrev s_law_pool : Stmt := top 17
theorem sc_law_pool : FnScope ["_law_script", "_law_k", "_law_seed", "_law_digits"] ["_law_script", "_law_k"] (defScope s_law_pool) := ⟨rfl, rfl, rfl, by decide +kernel, rfl, by decide +kernel, by decide +kernel⟩
theorem ok_pool {f : Addr} {fd : FuncData} (F : Fun K "_law_pool" "_law_pool" s_law_pool f fd) (T : Bt mg) : FnOk P w K mg base CX0 1 f fd ["_law_script", "_law_k"] (spPool K) := by
  refine F.ok sc_law_pool (fun vs H Q E h => ?_) (fun cdv A outer s H vs Q E hr h => ?_)
  · obtain ⟨p, ns, m, rfl, _⟩ := h
    rfl
  · obtain ⟨a, ns, m, rfl, hS, hl, hm, hm2, k⟩ := h
    have hu := hr.units
    refine ⟨_, (pss_cons (ps_set (i := 2) sc_law_pool.nd rfl (Or.inl rfl) (pe_op op_addA (pe_op op_addA (pe_op op_mulA pe_int (pv 1)) pe_int) (pe_op op_mulA pe_int (pe_callB (ksum K) (by rfl) T.sum (by decide +kernel) (pa_cons (pv 0) pa_nil)))))
  (pss_cons (ps_set (i := 3) sc_law_pool.nd rfl (Or.inl rfl) pe_int)
  (pss_cons (ps_if (pt_cmpR op_ltA (pv 1) (pe_callB (klen K) (by rfl) T.len (by decide +kernel) (pa_cons (pv 0) pa_nil)) (nomark _)) (pss_cons (ps_set (i := 2) sc_law_pool.nd rfl (Or.inl rfl) (pe_op op_addA (pv 2) (pe_ix (kix K) (pv 0) (pv 1) (fun _ _ => rfl))))
  (pss_one (ps_if (pt_cmpR op_geI (pe_ix (kix K) (pv 0) (pv 1) (fun _ _ => rfl)) (pe_op op_powI pe_int pe_int) (nomark _)) (pss_one (ps_set (i := 3) sc_law_pool.nd rfl (Or.inl rfl) (pe_ix (kix K) (pv 0) (pv 1) (fun _ _ => rfl))))
  pss_nil)))
  pss_nil)
  (pss_one (ps_ret (pe_lst (pa_cons (pv 3) (pa_cons (pe_op op_modI (pe_callTy call_intA (by rfl) T.int (by decide +kernel) (pa_cons (pv 2) pa_nil)) pe_int) (pa_cons pe_int pa_nil))))))))), ?_⟩
    refine Rd.start_ (σ' := [some (.ref a), some (.int m), none, none]) rfl ?_
    have fin : ∀ x y z : Int, ∀ p, H p = none → Q (.ref p) (upd H p (.lst [.int x, .int y, .int z])) := fun x y z p hp => k p _ hp (same_new hp) ⟨_, _, _, upd_same⟩
    walk_at "rd"
    refine Rd.iteD (fun h1 => ?_) (fun h1 => ?_)
    · rw [List.length_map] at h1
      obtain ⟨z, hat⟩ : ∃ z, atI (ns.map V.int) m = some (V.int z) := by
        have hlt : m.toNat < ns.length := by omega
        have e : m = ((m.toNat : Nat) : Int) := by omega
        exact ⟨ns[m.toNat], (congrArg (atI (ns.map V.int)) e).trans (atI_nat (by simp [hlt]))⟩
      walk_at "rd"
      refine Rd.iteD (fun h2 => ?_) (fun h2 => ?_)
      · walk_at "rd"
        exact ⟨by show 3 ≤ sizeLine; decide, fin _ _ _⟩
      · walk_at "rd"
        exact ⟨by show 3 ≤ sizeLine; decide, fin _ _ _⟩
    · walk_at "rd"
      exact ⟨by show 3 ≤ sizeLine; decide, fin _ _ _⟩

/-! ### words of drawn letters -/
theorem letters_at : ∀ k, k < 26 → ([97, 98, 99, 100, 101, 102, 103, 104, 105, 106, 107, 108, 109, 110, 111, 112, 113, 114, 115, 116, 117, 118, 119, 120, 121, 122] : List Nat)[k]? = some (97 + k) := by decide +kernel
theorem letter_at (n : Int) : atI ([97, 98, 99, 100, 101, 102, 103, 104, 105, 106, 107, 108, 109, 110, 111, 112, 113, 114, 115, 116, 117, 118, 119, 120, 121, 122] : List Nat) (n % 26) = some (97 + (n % 26).toNat) := by
  have h0 : 0 ≤ n % 26 := Int.emod_nonneg _ (by decide)
  have h1 : n % 26 < 26 := Int.emod_lt_of_pos _ (by decide)
  have e : n % 26 = (((n % 26).toNat : Nat) : Int) := by omega
  rw [e]
  exact atI_nat (letters_at _ (by omega))
def wordL (ns : List Int) : List Nat := ns.map fun n => 97 + (n % 26).toNat
theorem join_chars : ∀ l : List Nat, TL.joinL [] (l.map fun c => [c]) = l
  | [] => rfl
  | [c] => rfl
  | c :: d :: l => by
    show [c] ++ ([] ++ TL.joinL [] ((d :: l).map fun c => [c])) = c :: d :: l
    rw [join_chars (d :: l)]
    rfl
theorem join_word (l : List Nat) : Txt.join (S []) (l.map fun c => (⟨#[c]⟩ : Str)) = S l := by
  have e := SX.join_S [] (l.map fun c => [c])
  rw [join_chars, List.map_map] at e
  exact e
theorem sum_ones (l : List Nat) : ((l.map fun c => (⟨#[c]⟩ : Str)).map (·.length)).sum = l.length := by
  induction l with
  | nil => rfl
  | cons c l ih =>
    rw [List.map_cons, List.map_cons, List.sum_cons, ih, List.length_cons]
    show 1 + l.length = l.length + 1
    omega
def spWord (K : PySem.W.Frag) : Sp := fun vs H Q _ => ∃ (a : Addr) (ns : List Int), vs = [.ref a] ∧ SqL K H a (ns.map V.int) ∧ ns.length ≤ 100 ∧
  ∀ (H' : Hp), Same H H' → Q (.str (S (wordL ns))) H'
abbrev s_law_word : Stmt := top 19
theorem sc_law_word : FnScope ["_law_numbers", "_law_letters", "_law_number"] ["_law_numbers"] (defScope s_law_word) := ⟨rfl, rfl, rfl, by decide +kernel, rfl, by decide +kernel, by decide +kernel⟩
theorem ok_word {f : Addr} {fd : FuncData} (F : Fun K "_law_word" "_law_word" s_law_word f fd) (T : Bt mg) : FnOk P w K mg base CX0 1 f fd ["_law_numbers"] (spWord K) := by
  refine F.ok sc_law_word (fun vs H Q E h => ?_) (fun cdv A outer s H vs Q E hr h => ?_)
  · obtain ⟨p, ns, rfl, _⟩ := h
    rfl
  · obtain ⟨a, ns, rfl, hS, hl, k⟩ := h
    refine ⟨_, (pss_cons (ps_set (i := 1) sc_law_word.nd rfl (Or.inr rfl) (pe_lit [97, 98, 99, 100, 101, 102, 103, 104, 105, 106, 107, 108, 109, 110, 111, 112, 113, 114, 115, 116, 117, 118, 119, 120, 121, 122] (by decide +kernel)))
  (pss_one (ps_ret (kjoin K (pe_lit [] (by decide +kernel)) (pe_lc (own := [("_law_number", 2)]) (g := gName 2) (tt := tYes) rfl sc_law_word.nd (kpl K (pv 0)) (blkOk_by (N := ["_law_numbers", "_law_letters", "_law_number"]) (sc := defScope s_law_word) (by decide +kernel)) (fun _ _ _ _ _ => (pg_name (i := 2) sc_law_word.nd rfl (Or.inl rfl))) (fun _ _ _ _ _ => pts_nil) (fun _ _ _ _ _ => (pe_ix (kix K) (pv 1) (pe_op op_modI (pe_callTy call_intA (by rfl) T.int (by decide +kernel) (pa_cons (pv 2) pa_nil)) pe_int) (fun _ _ => rfl)))))))), ?_⟩
    refine Rd.start_ (σ' := [some (.ref a), none, none]) rfl ?_
    walk_at "rd"
    refine Rd.lcW Rd.wList (by rw [List.length_map]; walk_at "sz") (fun i acc H' => Same H H' ∧ acc = (wordL (ns.take i)).map fun c => V.str ⟨#[c]⟩) ⟨Same.refl _, rfl⟩
      (fun D hD i acc ys H' j => ⟨same_upd j.1 hD, j.2⟩) (fun i acc H' hi j => j.1.seq hS) ?_ ?_
    · intro D hD i x acc H' hi hx hacc hlen ⟨j1, j2⟩ Kt Kf hT hF
      dsimp only [List.set]
      rw [List.getElem?_map] at hx
      obtain ⟨z, hz, rfl⟩ := Option.map_eq_some_iff.mp hx
      walk_at "rd"
      refine RS.ix (by decide) (letter_at z) ?_
      refine hT _ _ hacc ⟨j1, ?_⟩
      rw [j2]
      unfold wordL
      rw [List.take_add_one, hz]
      simp
    · intro D acc H' hD hacc hlen ⟨j1, j2⟩
      rw [List.length_map] at j2
      rw [List.take_length] at j2
      have e : acc = (((wordL ns).map fun c => (⟨#[c]⟩ : Str)).map V.str) := by rw [j2, List.map_map]; rfl
      rw [e] at hacc
      refine Rd.join (SqL.of hacc) ?_ ?_
      · rw [sum_ones]
        show _ + _ * 0 ≤ _
        unfold wordL
        rw [List.length_map]
        omega
      · rw [join_word]
        exact k H' j1

end
section
variable {P : Program} {w : World} {K : PySem.W.Frag} {mg : Str → Option Value} {base : Heap} {tk : Tok}
/-! ### names -/
/-- a name: 1 to 8 letters -/
def Nm (l : List Nat) : Prop := 1 ≤ l.length ∧ l.length ≤ 8 ∧ ∀ c ∈ l, 97 ≤ c ∧ c ≤ 122
def letterL (z : Int) : List Nat := [97 + (z % 26).toNat]
/-- the k-th name, as drawn -/
def nameL (style shift stride place size : Int) (word : List Nat) (k : Nat) : List Nat :=
  if style = 2 then letterL (shift + stride * k) ++ (word.drop k).take ((k + (place + 3 * k) % 8).toNat - k)
  else if style = 1 then word.take (1 + (k + place) % 8).toNat
  else word.take (place % size).toNat ++ letterL (shift + stride * k) ++ (word.drop (place % size + 1).toNat).take (size.toNat - (place % size + 1).toNat)
structure Drawn (style shift stride place size : Int) (word : List Nat) : Prop where
  sh : 0 ≤ shift ∧ shift < 26
  st : ∃ d : Int, 0 ≤ d ∧ d < 6 ∧ stride = 1 + 2 * d
  pl : 0 ≤ place ∧ place < 8
  sz : 1 ≤ size ∧ size ≤ 8
  wl : word.length = 8
  wc : ∀ c ∈ word, 97 ≤ c ∧ c ≤ 122
theorem letter_ok {z : Int} : ∀ c ∈ letterL z, 97 ≤ c ∧ c ≤ 122 := by
  intro c hc
  have h1 : z % 26 < 26 := Int.emod_lt_of_pos _ (by decide)
  have e : c = 97 + (z % 26).toNat := List.mem_singleton.mp hc
  omega
section
variable {style shift stride place size : Int} {word : List Nat}
theorem at_lt (D : Drawn style shift stride place size word) : 0 ≤ place % size ∧ place % size < size := ⟨Int.emod_nonneg _ (by have := D.sz; omega), Int.emod_lt_of_pos _ (by have := D.sz; omega)⟩
theorem name_ok (D : Drawn style shift stride place size word) {k : Nat} (hk : k < 8) : Nm (nameL style shift stride place size word k) := by
  obtain ⟨⟨s1, s2⟩, _, ⟨p1, p2⟩, ⟨z1, z2⟩, wl, wc⟩ := id D
  obtain ⟨a1, a2⟩ := at_lt D
  unfold nameL Nm
  by_cases h2 : style = 2
  · rw [if_pos h2]
    refine ⟨?_, ?_, ?_⟩
    · simp [letterL]
    · simp only [letterL, List.length_append, List.length_singleton, List.length_take, List.length_drop, wl]; omega
    · intro c hc
      rcases List.mem_append.mp hc with hc | hc
      · exact letter_ok c hc
      · exact wc c (List.mem_of_mem_drop (List.mem_of_mem_take hc))
  · rw [if_neg h2]
    by_cases h1 : style = 1
    · rw [if_pos h1]
      refine ⟨?_, ?_, fun c hc => wc c (List.mem_of_mem_take hc)⟩
      · rw [List.length_take, wl]; omega
      · rw [List.length_take, wl]; omega
    · rw [if_neg h1]
      refine ⟨?_, ?_, ?_⟩
      · simp only [letterL, List.length_append, List.length_singleton]; omega
      · simp only [letterL, List.length_append, List.length_singleton, List.length_take, List.length_drop, wl]; omega
      · intro c hc
        rcases List.mem_append.mp hc with hc | hc
        · rcases List.mem_append.mp hc with hc | hc
          · exact wc c (List.mem_of_mem_take hc)
          · exact letter_ok c hc
        · exact wc c (List.mem_of_mem_drop (List.mem_of_mem_take hc))
theorem letter_inj (D : Drawn style shift stride place size word) {j k : Nat} (hj : j < 8) (hk : k < 8) (e : 97 + ((shift + stride * j) % 26).toNat = 97 + ((shift + stride * k) % 26).toNat) : j = k := by
  obtain ⟨d, d0, d6, rfl⟩ := D.st
  have hd : d = 0 ∨ d = 1 ∨ d = 2 ∨ d = 3 ∨ d = 4 ∨ d = 5 := by omega
  rcases hd with rfl | rfl | rfl | rfl | rfl | rfl <;> omega
theorem name_inj (D : Drawn style shift stride place size word) {j k : Nat} (hj : j < 8) (hk : k < 8) (e : nameL style shift stride place size word j = nameL style shift stride place size word k) : j = k := by
  obtain ⟨⟨s1, s2⟩, _, ⟨p1, p2⟩, ⟨z1, z2⟩, wl, wc⟩ := id D
  obtain ⟨a1, a2⟩ := at_lt D
  unfold nameL at e
  by_cases h2 : style = 2
  · rw [if_pos h2, if_pos h2] at e
    exact letter_inj D hj hk (List.cons.inj e).1
  · rw [if_neg h2, if_neg h2] at e
    by_cases h1 : style = 1
    · rw [if_pos h1, if_pos h1] at e
      have q := congrArg List.length e
      rw [List.length_take, List.length_take, wl] at q
      omega
    · rw [if_neg h1, if_neg h1, List.append_assoc, List.append_assoc] at e
      exact letter_inj D hj hk (List.cons.inj (List.append_cancel_left e)).1
theorem names_nodup (D : Drawn style shift stride place size word) : ((List.range 8).map (nameL style shift stride place size word)).Nodup := by
  refine List.pairwise_map.mpr (List.Pairwise.imp_of_mem (fun {a b} ha hb hab e => ?_) (List.nodup_range (n := 8)))
  exact hab (name_inj D (List.mem_range.mp ha) (List.mem_range.mp hb) e)
end
/-- all but p as it was -/
def SameB (p : Addr) (H H' : Hp) : Prop := ∀ a o, a ≠ p → H a = some o → H' a = some o
theorem SameB.refl (p : Addr) (H : Hp) : SameB p H H := fun _ _ _ h => h
theorem SameB.trans {p : Addr} {H H1 H2 : Hp} (a : SameB p H H1) (b : SameB p H1 H2) : SameB p H H2 := fun c o n h => b c o n (a c o n h)
theorem SameB.of {p : Addr} {H H' : Hp} (a : Same H H') : SameB p H H' := fun c o _ h => a c o h
theorem SameB.drawn {p : Addr} {H H' : Hp} (a : ∀ b, b ≠ p → H' b = H b) : SameB p H H' := fun c o n h => by rw [a c n]; exact h
theorem SameB.upd {p D : Addr} {o : HO} {H0 H : Hp} (e : SameB p H0 H) (h : H0 D = none) : SameB p H0 (upd H D o) := fun a u n ha => by
  rw [upd_ne (ne_of_none ha h)]; exact e a u n ha
theorem fresh_of {H G : Hp} {a p : Addr} (h : G a = none) (s : SameB p H G) (n : p ≠ a) : H a = none := by
  cases e : H a with
  | none => rfl
  | some o => rw [s a o (Ne.symm n) e] at h; cases h
/-- a list of names at q -/
def NamesAt (H : Hp) (q : Addr) (ns : List (List Nat)) : Prop := H q = some (.lst (ns.map fun l => V.str (S l)))
def spNames : Sp := fun vs H Q _ => ∃ (p : Addr), vs = [.ref p] ∧ PoolAt H p ∧
  ∀ (ns : List (List Nat)) (q : Addr) (H' : Hp), ns.length = 8 → (∀ l ∈ ns, Nm l) → ns.Nodup → H q = none → SameB p H H' → PoolAt H' p → NamesAt H' q ns → Q (.ref q) H'

theorem pool_of {H H' : Hp} {p : Addr} (h : PoolAt H p) (e : Same H H') : PoolAt H' p := by
  obtain ⟨d, s, c, q⟩ := h
  exact ⟨d, s, c, e _ _ q⟩
theorem PoolAt.upd {H : Hp} {p D : Addr} {o : HO} (h : PoolAt H p) (n : p ≠ D) : PoolAt (upd H D o) p := by
  obtain ⟨d, s, c, q⟩ := h
  exact ⟨d, s, c, by rw [upd_ne n]; exact q⟩
theorem pool_ne {H : Hp} {p D : Addr} (h : PoolAt H p) (n : H D = none) : p ≠ D := by
  obtain ⟨d, s, c, q⟩ := h
  exact ne_of_none q n
theorem nameL0 {style shift stride place size : Int} {word : List Nat} {k : Nat} (h1 : ¬ style = 1) (h2 : ¬ style = 2) : nameL style shift stride place size word k = word.take (place % size).toNat ++ letterL (shift + stride * k) ++ (word.drop (place % size + 1).toNat).take (size.toNat - (place % size + 1).toNat) := by
  unfold nameL; rw [if_neg h2, if_neg h1]
theorem nameL1 {style shift stride place size : Int} {word : List Nat} {k : Nat} (h1 : style = 1) : nameL style shift stride place size word k = word.take (1 + (k + place) % 8).toNat := by
  unfold nameL; rw [if_neg (by omega), if_pos h1]
theorem nameL2 {style shift stride place size : Int} {word : List Nat} {k : Nat} (h2 : style = 2) : nameL style shift stride place size word k = letterL (shift + stride * k) ++ (word.drop k).take ((k + (place + 3 * k) % 8).toNat - k) := by
  unfold nameL; rw [if_pos h2]
abbrev s_law_names : Stmt := top 20
theorem sc_law_names : FnScope ["_law_pool_here", "_law_style", "_law_shift", "_law_stride", "_law_place", "_law_size", "_law_word_here", "_law_names_here", "_law_k", "_law_letter", "_law_at", "_law_name"] ["_law_pool_here"] (defScope s_law_names) := ⟨rfl, rfl, rfl, by decide +kernel, rfl, by decide +kernel, by decide +kernel⟩
theorem ok_names {f : Addr} {fd : FuncData} (F : Fun K "_law_names" "_law_names" s_law_names f fd) (T : Bt mg) (dD : Df K mg "_law_draw" "_law_draw" s_law_draw ["_law_pool_here", "_law_many"]) (dW : Df K mg "_law_word" "_law_word" s_law_word ["_law_numbers"]) :
    FnOk P w K mg base CX0 2 f fd ["_law_pool_here"] spNames := by
  have GD : FnOk P w K mg base CX0 1 dD.f dD.fd _ spDraw := ok_draw dD.F T
  have GW : FnOk P w K mg base CX0 1 dW.f dW.fd _ (spWord K) := ok_word dW.F T
  refine F.ok sc_law_names (fun vs H Q E h => ?_) (fun cdv A outer s H vs Q E hr h => ?_)
  · obtain ⟨p, rfl, _⟩ := h
    rfl
  · obtain ⟨p, rfl, hp, k⟩ := h
    have hu := hr.units
    refine ⟨_, (pss_cons (ps_set (i := 1) sc_law_names.nd rfl (Or.inl rfl) (pe_cf dD GD hr pass0 (pa_cons (pv 0) (pa_cons pe_int pa_nil))))
  (pss_cons (ps_set (i := 2) sc_law_names.nd rfl (Or.inl rfl) (pe_cf dD GD hr pass0 (pa_cons (pv 0) (pa_cons pe_int pa_nil))))
  (pss_cons (ps_set (i := 3) sc_law_names.nd rfl (Or.inl rfl) (pe_op op_addA pe_int (pe_op op_mulA pe_int (pe_cf dD GD hr pass0 (pa_cons (pv 0) (pa_cons pe_int pa_nil))))))
  (pss_cons (ps_set (i := 4) sc_law_names.nd rfl (Or.inl rfl) (pe_cf dD GD hr pass0 (pa_cons (pv 0) (pa_cons pe_int pa_nil))))
  (pss_cons (ps_set (i := 5) sc_law_names.nd rfl (Or.inl rfl) (pe_op op_addA pe_int (pe_cf dD GD hr pass0 (pa_cons (pv 0) (pa_cons pe_int pa_nil)))))
  (pss_cons (ps_set (i := 6) sc_law_names.nd rfl (Or.inl rfl) (pe_cf dW GW hr pass0 (pa_cons (pe_lc (own := [("_law_k", 8)]) (g := gName 8) (tt := tYes) rfl sc_law_names.nd (pi_range1 rfl T.range (pa_cons pe_int pa_nil)) (blkOk_by (N := ["_law_pool_here", "_law_style", "_law_shift", "_law_stride", "_law_place", "_law_size", "_law_word_here", "_law_names_here", "_law_k", "_law_letter", "_law_at", "_law_name"]) (sc := defScope s_law_names) (by decide +kernel)) (fun _ _ _ _ _ => (pg_name (i := 8) sc_law_names.nd rfl (Or.inl rfl))) (fun _ _ _ _ _ => pts_nil) (fun _ _ _ _ _ => (pe_cf dD GD hr pass0 (pa_cons (pv 0) (pa_cons pe_int pa_nil))))) pa_nil)))
  (pss_cons (ps_set (i := 7) sc_law_names.nd rfl (Or.inl rfl) (pe_lst pa_nil))
  (pss_cons (ps_for PassesOwn.never rfl (pi_range1 rfl T.range (pa_cons pe_int pa_nil)) (pg_name (i := 8) sc_law_names.nd rfl (Or.inl rfl))
  (pss_cons (ps_set (i := 9) sc_law_names.nd rfl (Or.inl rfl) (pe_cf dW GW hr pass0 (pa_cons (pe_lst (pa_cons (pe_op op_addA (pv 2) (pe_op op_mulA (pv 3) (pv 8))) pa_nil)) pa_nil)))
  (pss_cons (ps_set (i := 10) sc_law_names.nd rfl (Or.inl rfl) (pe_op op_modI (pe_callTy call_intA (by rfl) T.int (by decide +kernel) (pa_cons (pv 4) pa_nil)) (pv 5)))
  (pss_cons (ps_set (i := 11) sc_law_names.nd rfl (Or.inl rfl) (pe_op op_addA (pe_op op_addA (pe_slice (ksl K) (pv 6) po_none (po_some (pv 10))) (pv 9)) (pe_slice (ksl K) (pv 6) (po_some (pe_op op_addA (pv 10) pe_int)) (po_some (pv 5)))))
  (pss_cons (ps_if (pt_cmpR (keq K hu) (pv 1) pe_int (nomark _)) (pss_one (ps_set (i := 11) sc_law_names.nd rfl (Or.inl rfl) (pe_slice (ksl K) (pv 6) po_none (po_some (pe_op op_addA pe_int (pe_op op_modI (pe_callTy call_intA (by rfl) T.int (by decide +kernel) (pa_cons (pe_op op_addA (pv 8) (pv 4)) pa_nil)) pe_int))))))
  pss_nil)
  (pss_cons (ps_if (pt_cmpR (keq K hu) (pv 1) pe_int (nomark _)) (pss_one (ps_set (i := 11) sc_law_names.nd rfl (Or.inl rfl) (pe_op op_addA (pv 9) (pe_slice (ksl K) (pv 6) (po_some (pv 8)) (po_some (pe_op op_addA (pv 8) (pe_op op_modI (pe_callTy call_intA (by rfl) T.int (by decide +kernel) (pa_cons (pe_op op_addA (pv 4) (pe_op op_mulA pe_int (pv 8))) pa_nil)) pe_int)))))))
  pss_nil)
  (pss_one (ps_expr (kapp K (pv 7) (pa_cons (pv 11) pa_nil))))))))))
  (pss_one (ps_ret (pv 7))))))))))), ?_⟩
    refine Rd.start_ (σ' := [some (.ref p), none, none, none, none, none, none, none, none, none, none, none]) rfl ?_
    walk_at "rd"
    refine ⟨_, _, rfl, by decide, by decide, hp, fun style H1 a1 b1 e1 p1 => ?_⟩
    walk_at "rd"
    refine ⟨_, _, rfl, by decide, by decide, p1, fun shift H2 a2 b2 e2 p2 => ?_⟩
    walk_at "rd"
    refine ⟨_, _, rfl, by decide, by decide, p2, fun d H3 a3 b3 e3 p3 => ?_⟩
    walk_at "rd"
    refine ⟨_, _, rfl, by decide, by decide, p3, fun place H4 a4 b4 e4 p4 => ?_⟩
    walk_at "rd"
    refine ⟨_, _, rfl, by decide, by decide, p4, fun sz H5 a5 b5 e5 p5 => ?_⟩
    have s5 : SameB p H H5 := fun a o n h => by rw [e5 a n, e4 a n, e3 a n, e2 a n, e1 a n]; exact h
    walk_at "rd"
    refine Rd.lcW Rd.wRange (by decide) (fun i acc H' => SameB p H5 H' ∧ PoolAt H' p ∧ ∃ ns : List Int, ns.length = i ∧ acc = ns.map V.int) ⟨SameB.refl _ _, p5, [], rfl, rfl⟩
      (fun D hD i acc ys H' ⟨j1, j2, j3⟩ => ⟨j1.upd hD, PoolAt.upd j2 (pool_ne p5 hD), j3⟩) (fun _ _ _ _ _ => trivial) ?_ ?_
    · intro D hD i x acc H' hi hx hacc hlen ⟨j1, j2, ns, j3, j4⟩ Kt Kf hT hF
      dsimp only [List.set]
      walk_at "rd"
      refine ⟨_, _, rfl, by decide, by decide, j2, fun r H6 r0 r1 e6 p6 => ?_⟩
      refine hT _ _ ?_ ⟨j1.trans (SameB.drawn e6), p6, ns ++ [r], by rw [List.length_append, j3]; rfl, by rw [j4, List.map_append]; rfl⟩
      rw [e6 D (Ne.symm (pool_ne p5 hD))]
      exact hacc
    intro D acc H6 hD hacc hlen ⟨j1, j2, ns, j3, j4⟩
    rw [j4] at hacc
    walk_at "rd"
    refine ⟨_, ns, rfl, SqL.of hacc, by rw [j3]; decide, fun H7 s7 => ?_⟩
    have wl : (wordL ns).length = 8 := by unfold wordL; rw [List.length_map]; exact j3
    have wc : ∀ c ∈ wordL ns, 97 ≤ c ∧ c ≤ 122 := by
      intro c hc
      obtain ⟨z, _, rfl⟩ := List.mem_map.mp hc
      have := Int.emod_lt_of_pos z (show (0 : Int) < 26 by decide)
      omega
    generalize wordL ns = word at wl wc ⊢
    have D8 : Drawn style shift (1 + 2 * d) place (1 + sz) word := ⟨⟨a2, b2⟩, ⟨d, a3, b3, rfl⟩, ⟨a4, b4⟩, ⟨by omega, by omega⟩, wl, wc⟩
    have s7' : SameB p H H7 := (s5.trans j1).trans (SameB.of s7)
    have p7 : PoolAt H7 p := pool_of j2 s7
    walk_at "rd"
    refine ⟨Nat.zero_le _, fun q hq => ?_⟩
    have hq0 : H q = none := by
      cases e : H q with
      | none => rfl
      | some o => rw [s7' q o (Ne.symm (pool_ne p7 hq)) e] at hq; cases hq
    have npq := pool_ne p7 hq
    walk_at "rd"
    refine Rd.foW Rd.wRange (fun i σ H' => ∃ a b c d' : Option V, σ = [some (.ref p), some (.int style), some (.int shift), some (.int (1 + 2 * d)), some (.int place), some (.int (1 + sz)), some (.str (S word)), some (.ref q), a, b, c, d'] ∧
      SameB p H H' ∧ PoolAt H' p ∧ NamesAt H' q ((List.range i).map (nameL style shift (1 + 2 * d) place (1 + sz) word)))
      ⟨none, none, none, none, rfl, s7'.upd hq0, p7.upd npq, upd_same⟩ (fun _ _ _ _ _ => trivial) ?_ ?_
    · rintro i x σ H8 hi hx ⟨a, b, c, d', rfl, t1, t2, t3⟩
      rw [Int.zero_add] at hx
      subst hx
      have hi8 : i < 8 := hi
      dsimp only [List.set]
      have fin : ∀ (z : List Nat) (σ' : St), (∃ a b c d' : Option V, σ' = [some (.ref p), some (.int style), some (.int shift), some (.int (1 + 2 * d)), some (.int place), some (.int (1 + sz)), some (.str (S word)), some (.ref q), a, b, c, d']) → ∀ H9, SameB p H H9 → PoolAt H9 p → H9 q = some (.lst (((List.range i).map (nameL style shift (1 + 2 * d) place (1 + sz) word)).map (fun l => V.str (S l)) ++ [.str (S z)])) → z = nameL style shift (1 + 2 * d) place (1 + sz) word i →
          ∃ a b c d' : Option V, σ' = [some (.ref p), some (.int style), some (.int shift), some (.int (1 + 2 * d)), some (.int place), some (.int (1 + sz)), some (.str (S word)), some (.ref q), a, b, c, d'] ∧
      SameB p H H9 ∧ PoolAt H9 p ∧ NamesAt H9 q ((List.range (i + 1)).map (nameL style shift (1 + 2 * d) place (1 + sz) word)) := by
        rintro z σ' ⟨a, b, c, d', e⟩ H9 q1 q2 q3 rfl
        refine ⟨a, b, c, d', e, q1, q2, ?_⟩
        unfold NamesAt
        rw [List.range_succ, List.map_append, List.map_append]
        exact q3
      walk_at "rd"
      refine ⟨by show 1 ≤ sizeLine; decide, fun l hl => ?_⟩
      walk_at "rd"
      refine ⟨_, [shift + (1 + 2 * d) * i], rfl, SqL.of upd_same, (by show 1 ≤ 100; decide), fun H9 s9 => ?_⟩
      have t1' : SameB p H H9 := (t1.trans (SameB.of (same_new hl))).trans (SameB.of s9)
      have t2' : PoolAt H9 p := pool_of (pool_of t2 (same_new hl)) s9
      have t3' : H9 q = some (.lst (((List.range i).map (nameL style shift (1 + 2 * d) place (1 + sz) word)).map (fun l => V.str (S l)))) := s9 _ _ (same_new hl _ _ t3)
      have g0 : 0 ≤ place % (1 + sz) := Int.emod_nonneg _ (by omega)
      have g1 : place % (1 + sz) < 1 + sz := Int.emod_lt_of_pos _ (by omega)
      have wl1 : word.length ≤ 900 := by omega
      have ll : (wordL [shift + (1 + 2 * d) * ↑i]).length = 1 := rfl
      have hq9 : (((List.range i).map (nameL style shift (1 + 2 * d) place (1 + sz) word)).map (fun l => V.str (S l))).length < sizeLine := by
        rw [List.length_map, List.length_map, List.length_range]
        exact Nat.lt_trans hi8 (by decide)
      have en : ∀ z : List Nat, SameB p H (upd H9 q (.lst (((List.range i).map (nameL style shift (1 + 2 * d) place (1 + sz) word)).map (fun l => V.str (S l)) ++ [.str (S z)]))) ∧ PoolAt (upd H9 q (.lst (((List.range i).map (nameL style shift (1 + 2 * d) place (1 + sz) word)).map (fun l => V.str (S l)) ++ [.str (S z)]))) p :=
        fun z => ⟨t1'.upd hq0, t2'.upd npq⟩
      walk_at "rd"
      refine Rd.iteD (fun c1 => ?_) (fun c1 => ?_)
      · walk_at "rd"
        refine Rd.iteD (fun c2 => absurd c2 (by omega)) (fun c2 => ?_)
        walk_at "rd"
        exact fin _ _ ⟨_, _, _, _, rfl⟩ _ (en _).1 (en _).2 upd_same (nameL1 c1).symm
      · walk_at "rd"
        refine Rd.iteD (fun c2 => ?_) (fun c2 => ?_)
        · walk_at "rd"
          exact fin _ _ ⟨_, _, _, _, rfl⟩ _ (en _).1 (en _).2 upd_same (nameL2 c2).symm
        · walk_at "rd"
          exact fin _ _ ⟨_, _, _, _, rfl⟩ _ (en _).1 (en _).2 upd_same (nameL0 c1 c2).symm
    · rintro σ H8 ⟨a, b, c, d', rfl, t1, t2, t3⟩
      walk_at "rd"
      exact k _ q H8 (by rw [List.length_map, List.length_range]) (fun l hl => by
        obtain ⟨j, hj, rfl⟩ := List.mem_map.mp hl
        exact name_ok D8 (List.mem_range.mp hj)) (names_nodup D8) hq0 t1 t2 t3

end
section
variable {P : Program} {w : World} {K : PySem.W.Frag} {mg : Str → Option Value} {base : Heap} {tk : Tok}
/-! ### texts that are no names -/
theorem at_mem {xs : List V} {i : Int} (h0 : 0 ≤ i) (h1 : i < xs.length) : ∃ v, atI xs i = some v ∧ v ∈ xs := by
  have hlt : i.toNat < xs.length := by omega
  have e : i = ((i.toNat : Nat) : Int) := by omega
  exact ⟨xs[i.toNat], (congrArg (atI xs) e).trans (atI_nat (by simp [hlt])), List.getElem_mem hlt⟩
def oddL : List Nat := [32, 33, 34, 35, 36, 38, 39, 40, 41, 42, 43, 44, 45, 46, 47, 48, 49, 50, 51, 52, 53, 54, 55, 56, 57, 58, 59, 60, 61, 62, 63, 64, 65, 66, 67, 68, 69, 70, 71, 72, 73, 74, 75, 76, 77, 78, 79, 80, 81, 82, 83, 84, 85, 86, 87, 88, 89, 90, 91, 92, 93, 94, 95, 96, 123, 124, 125, 126]
theorem odd_at : ∀ k, k < oddL.length → ∃ c, oddL[k]? = some c ∧ (c < 97 ∨ 122 < c) ∧ c < 128 := by
  intro k hk
  have h : ∀ k, k < oddL.length → (oddL.getD k 0 < 97 ∨ 122 < oddL.getD k 0) ∧ oddL.getD k 0 < 128 := by decide +kernel
  refine ⟨oddL[k], List.getElem?_eq_getElem hk, ?_⟩
  have := h k hk
  rw [List.getD_eq_getElem?_getD, List.getElem?_eq_getElem hk] at this
  exact this
theorem odd_ix {i : Int} (h0 : 0 ≤ i) (h1 : i < (oddL.length : Nat)) : ∃ c, atI oddL i = some c ∧ (c < 97 ∨ 122 < c) ∧ c < 128 := by
  obtain ⟨c, e, h⟩ := odd_at i.toNat (by omega)
  have e2 : i = ((i.toNat : Nat) : Int) := by omega
  exact ⟨c, (congrArg (atI oddL) e2).trans (atI_nat e), h⟩
/-- no name, of at most 20 signs -/
def Bad (l : List Nat) : Prop := ¬ Nm l ∧ l.length ≤ 20
theorem bad_sign {l : List Nat} {c : Nat} (h : c ∈ l) (hc : c < 97 ∨ 122 < c) (hl : l.length ≤ 20) : Bad l := ⟨fun n => by
  have := n.2.2 c h
  omega, hl⟩
theorem bad_long {l : List Nat} (h : 8 < l.length) (hl : l.length ≤ 20) : Bad l := ⟨fun n => by have := n.2.1; omega, hl⟩
def spBad : Sp := fun vs H Q _ => ∃ (p : Addr) (l : List Nat), vs = [.ref p, .str (S l)] ∧ Nm l ∧ PoolAt H p ∧
  ∀ (z : List Nat) (H' : Hp), Bad z → (∀ c ∈ z, c < 128) → SameB p H H' → PoolAt H' p → Q (.str (S z)) H'
abbrev s_law_bad_name : Stmt := top 21
theorem sc_law_bad_name : FnScope ["_law_pool_here", "_law_name", "_law_odd", "_law_at", "_law_sign", "_law_spoilt", "_law_texts"] ["_law_pool_here", "_law_name"] (defScope s_law_bad_name) := ⟨rfl, rfl, rfl, by decide +kernel, rfl, by decide +kernel, by decide +kernel⟩
theorem ok_bad {f : Addr} {fd : FuncData} (F : Fun K "_law_bad_name" "_law_bad_name" s_law_bad_name f fd) (T : Bt mg) (dD : Df K mg "_law_draw" "_law_draw" s_law_draw ["_law_pool_here", "_law_many"]) :
    FnOk P w K mg base CX0 2 f fd ["_law_pool_here", "_law_name"] spBad := by
  have GD : FnOk P w K mg base CX0 1 dD.f dD.fd _ spDraw := ok_draw dD.F T
  refine F.ok sc_law_bad_name (fun vs H Q E h => ?_) (fun cdv A outer s H vs Q E hr h => ?_)
  · obtain ⟨p, l, rfl, _⟩ := h
    rfl
  · obtain ⟨p, l, rfl, hN, hp, k⟩ := h
    have hu := hr.units
    obtain ⟨n1, n2, n3⟩ := id hN
    refine ⟨_, (pss_cons (ps_set (i := 2) sc_law_bad_name.nd rfl (Or.inl rfl) (pe_lit [32, 33, 34, 35, 36, 38, 39, 40, 41, 42, 43, 44, 45, 46, 47, 48, 49, 50, 51, 52, 53, 54, 55, 56, 57, 58, 59, 60, 61, 62, 63, 64, 65, 66, 67, 68, 69, 70, 71, 72, 73, 74, 75, 76, 77, 78, 79, 80, 81, 82, 83, 84, 85, 86, 87, 88, 89, 90, 91, 92, 93, 94, 95, 96, 123, 124, 125, 126] (by decide +kernel)))
  (pss_cons (ps_set (i := 3) sc_law_bad_name.nd rfl (Or.inl rfl) (pe_cf dD GD hr pass0 (pa_cons (pv 0) (pa_cons (pe_callB (klen K) (by rfl) T.len (by decide +kernel) (pa_cons (pv 1) pa_nil)) pa_nil))))
  (pss_cons (ps_set (i := 4) sc_law_bad_name.nd rfl (Or.inl rfl) (pe_ix (kix K) (pv 2) (pe_cf dD GD hr pass0 (pa_cons (pv 0) (pa_cons (pe_callB (klen K) (by rfl) T.len (by decide +kernel) (pa_cons (pv 2) pa_nil)) pa_nil))) (fun _ _ => rfl)))
  (pss_cons (ps_set (i := 5) sc_law_bad_name.nd rfl (Or.inl rfl) (pe_op op_addA (pe_op op_addA (pe_slice (ksl K) (pv 1) po_none (po_some (pv 3))) (pv 4)) (pe_slice (ksl K) (pv 1) (po_some (pe_op op_addA (pv 3) pe_int)) po_none)))
  (pss_cons (ps_set (i := 6) sc_law_bad_name.nd rfl (Or.inl rfl) (pe_lst (pa_cons (pe_lit [] (by decide +kernel)) (pa_cons (pe_lit [97, 97, 97, 97, 97, 97, 97, 97, 97] (by decide +kernel)) (pa_cons (pv 5) (pa_cons (pv 5) (pa_cons (pe_upperA (pv 1)) pa_nil)))))))
  (pss_cons (ps_set (i := 6) sc_law_bad_name.nd rfl (Or.inl rfl) (pe_op op_addA (pv 6) (pe_lst (pa_cons (pe_slice (ksl K) (pe_op op_mulA (pv 1) pe_int) po_none (po_some pe_int)) (pa_cons (pe_slice (ksl K) (pe_op op_mulA (pv 1) pe_int) po_none (po_some pe_int)) pa_nil)))))
  (pss_cons (ps_set (i := 6) sc_law_bad_name.nd rfl (Or.inl rfl) (pe_op op_addA (pv 6) (pe_lst (pa_cons (pe_op op_addA (pe_lit [32] (by decide +kernel)) (pe_slice (ksl K) (pv 1) po_none (po_some pe_int))) (pa_cons (pe_op op_addA (pe_slice (ksl K) (pv 1) po_none (po_some pe_int)) (pe_lit [32] (by decide +kernel))) pa_nil)))))
  (pss_one (ps_ret (pe_ix (kix K) (pv 6) (pe_cf dD GD hr pass0 (pa_cons (pv 0) (pa_cons (pe_callB (klen K) (by rfl) T.len (by decide +kernel) (pa_cons (pv 6) pa_nil)) pa_nil))) (fun _ _ => rfl))))))))))), ?_⟩
    refine Rd.start_ (σ' := [some (.ref p), some (.str (S l)), none, none, none, none, none]) rfl ?_
    walk_at "rd"
    refine ⟨_, _, rfl, by omega, by omega, hp, fun at_ H1 a1 b1 e1 p1 => ?_⟩
    walk_at "rd"
    refine ⟨_, _, rfl, by decide, by decide, p1, fun sg H2 a2 b2 e2 p2 => ?_⟩
    obtain ⟨c, hc, hodd, hc8⟩ := odd_ix a2 b2
    have hall : l.all (· < 128) = true := List.all_eq_true.mpr fun c hc => decide_eq_true (by have := n3 c hc; omega)
    refine RS.ix (by decide) hc ?_
    walk_at "rd"
    refine ⟨by show 5 ≤ sizeLine; decide, fun t1 h1 => ?_⟩
    walk_at "rd"
    refine ⟨by show 2 ≤ sizeLine; decide, fun t2 h2 => ?_⟩
    walk_at "rd"
    refine Rd.addL (by rw [upd_ne (ne_of_none upd_same h2)]; exact upd_same) upd_same (by show 7 ≤ sizeLine; decide) (fun t3 h3 => ?_)
    walk_at "rd"
    refine ⟨by show 2 ≤ sizeLine; decide, fun t4 h4 => ?_⟩
    walk_at "rd"
    refine Rd.addL (by rw [upd_ne (ne_of_none upd_same h4)]; exact upd_same) upd_same (by show 9 ≤ sizeLine; decide) (fun t5 h5 => ?_)
    walk_at "rd"
    have s2 : SameB p H H2 := fun a o n h => by rw [e2 a n, e1 a n]; exact h
    have n1' := pool_ne p2 h1
    have f1 := fresh_of h1 s2 n1'
    have n2' := pool_ne (p2.upd n1') h2
    have f2 := fresh_of h2 (s2.upd f1) n2'
    have n3' := pool_ne ((p2.upd n1').upd n2') h3
    have f3 := fresh_of h3 ((s2.upd f1).upd f2) n3'
    have n4' := pool_ne (((p2.upd n1').upd n2').upd n3') h4
    have f4 := fresh_of h4 (((s2.upd f1).upd f2).upd f3) n4'
    have n5' := pool_ne ((((p2.upd n1').upd n2').upd n3').upd n4') h5
    have f5 := fresh_of h5 ((((s2.upd f1).upd f2).upd f3).upd f4) n5'
    refine ⟨_, _, rfl, by show (0 : Int) < 9; decide, by show (9 : Int) < _; decide, ((((p2.upd n1').upd n2').upd n3').upd n4').upd n5', fun r H6 r0 r1 e6 p6 => ?_⟩
    obtain ⟨v, hv, hm⟩ := at_mem (xs := ([V.str (S []), V.str (S [97, 97, 97, 97, 97, 97, 97, 97, 97]), V.str (S (List.take at_.toNat l ++ [c] ++ List.drop (at_ + 1).toNat l)), V.str (S (List.take at_.toNat l ++ [c] ++ List.drop (at_ + 1).toNat l)), V.str (S (List.map PyProof.Rows.up1 l)),
      V.str (S (List.take (9 : Int).toNat (List.replicate (9 : Int).toNat l).flatten)), V.str (S (List.take (20 : Int).toNat (List.replicate (20 : Int).toNat l).flatten)), V.str (S ([32] ++ List.take (7 : Int).toNat l)), V.str (S (List.take (7 : Int).toNat l ++ [32]))] : List V)) r0 r1
    refine Rd.ixL (SqL.of ?_) hv ?_
    · rw [e6 t5 (Ne.symm n5')]
      exact upd_same
    have fin : ∃ z, v = .str (S z) ∧ Bad z ∧ ∀ c ∈ z, c < 128 := by
      have hlen : (List.take at_.toNat l ++ [c] ++ List.drop (at_ + 1).toNat l).length ≤ 20 := by walk_at "sl"
      have b1 : Bad (List.take at_.toNat l ++ [c] ++ List.drop (at_ + 1).toNat l) := bad_sign (c := c) (by simp) hodd hlen
      have b2 : Bad (List.map PyProof.Rows.up1 l) := by
        cases l with
        | nil => exact absurd n1 (by decide)
        | cons d r =>
          refine bad_sign (c := PyProof.Rows.up1 d) (by simp) ?_ (by simp only [List.length_map]; omega)
          have := n3 d (by simp)
          unfold PyProof.Rows.up1
          rw [if_pos ⟨this.1, this.2⟩]
          omega
      have b3 : ∀ n : Int, 9 ≤ n → n ≤ 20 → Bad (List.take n.toNat (List.replicate n.toNat l).flatten) := fun n x1 x2 => by
        have e1 : n.toNat * 1 ≤ n.toNat * l.length := Nat.mul_le_mul_left _ n1
        refine bad_long ?_ ?_
        · rw [List.length_take, rep_len]; omega
        · rw [List.length_take]; omega
      simp only [List.mem_cons, List.not_mem_nil, or_false] at hm
      have lo : ∀ d ∈ l, d < 128 := fun d hd => by have := n3 d hd; omega
      have lo1 : ∀ d ∈ List.take at_.toNat l ++ [c] ++ List.drop (at_ + 1).toNat l, d < 128 := by
        intro d hd
        simp only [List.mem_append, List.mem_singleton] at hd
        rcases hd with (hd | rfl) | hd
        · exact lo d (List.mem_of_mem_take hd)
        · exact hc8
        · exact lo d (List.mem_of_mem_drop hd)
      have lo2 : ∀ d ∈ List.map PyProof.Rows.up1 l, d < 128 := by
        intro d hd
        obtain ⟨e, he, rfl⟩ := List.mem_map.mp hd
        have := n3 e he
        unfold PyProof.Rows.up1
        split <;> omega
      have lo3 : ∀ n : Nat, ∀ d ∈ List.take n (List.replicate n l).flatten, d < 128 := by
        intro n d hd
        obtain ⟨e, he, hd⟩ := List.mem_flatten.mp (List.mem_of_mem_take hd)
        rw [(List.mem_replicate.mp he).2] at hd
        exact lo d hd
      have lo4 : ∀ d ∈ List.take (7 : Int).toNat l, d < 128 := fun d hd => lo d (List.mem_of_mem_take hd)
      rcases hm with rfl | rfl | rfl | rfl | rfl | rfl | rfl | rfl | rfl
      · exact ⟨[], rfl, ⟨fun n => absurd n.1 (by decide), Nat.zero_le _⟩, fun _ h => nomatch h⟩
      · exact ⟨_, rfl, bad_long (by decide) (by decide), by decide⟩
      · exact ⟨_, rfl, b1, lo1⟩
      · exact ⟨_, rfl, b1, lo1⟩
      · exact ⟨_, rfl, b2, lo2⟩
      · exact ⟨_, rfl, b3 9 (by decide) (by decide), lo3 _⟩
      · exact ⟨_, rfl, b3 20 (by decide) (by decide), lo3 _⟩
      · refine ⟨_, rfl, bad_sign (c := 32) (by simp) (.inl (by decide)) (by walk_at "sl"), fun d hd => ?_⟩
        rcases List.mem_append.mp hd with hd | hd
        · rw [List.mem_singleton.mp hd]; decide
        · exact lo4 d hd
      · refine ⟨_, rfl, bad_sign (c := 32) (by simp) (.inl (by decide)) (by walk_at "sl"), fun d hd => ?_⟩
        rcases List.mem_append.mp hd with hd | hd
        · exact lo4 d hd
        · rw [List.mem_singleton.mp hd]; decide
    obtain ⟨z, rfl, hb, hz8⟩ := fin
    exact k z H6 hb hz8 ((((((s2.upd f1).upd f2).upd f3).upd f4).upd f5).trans (SameB.drawn e6)) p6

end
section
variable {P : Program} {w : World} {K : PySem.W.Frag} {mg : Str → Option Value} {base : Heap} {tk : Tok}
/-! ### the error BadName, require_name -/
abbrev s_BadName___init : Stmt := inClass (top 2) 0
theorem sc_BadName___init : FnScope ["self", "name"] ["self", "name"] (defScope s_BadName___init) := ⟨rfl, rfl, rfl, by decide +kernel, rfl, by decide +kernel, by decide +kernel⟩
abbrev ErN (K : PySem.W.Frag) (mg : Str → Option Value) := Er K mg "BadName" "BadName.__init__" "name" s_BadName___init
theorem ok_bni (r : ErN K mg) : FnOk P w K mg base CX0 1 r.f r.fd ["self", "name"] (spErI r.C "name") := by
  refine r.F.ok sc_BadName___init (fun vs H Q E h => ?_) (fun cdv A outer s H vs Q E hr h => ?_)
  · obtain ⟨a, v, rfl, _⟩ := h
    rfl
  · obtain ⟨a, v, rfl, ha, k⟩ := h
    refine ⟨_, (pss_one (kost K (pv 0) (pv 1))), ?_⟩
    refine Rd.start_ (σ' := [some (.ref a), some v]) rfl ?_
    walk_at "rd"
    exact ⟨a, r.C, rfl, r.T, r.no, .inl ⟨ha, k⟩⟩
/-- an error of the class at C with one field -/
def Raised (E : XK) (C : Addr) (fld : Str) (v : V) (H : Hp) : Prop := ∀ d H', Same H H' → H' d = some (.xd [(fld, v)]) → E (.ref C) (some d) H'
def spReq (C : Addr) : Sp := fun vs H Q E => ∃ l : List Nat, vs = [.str (S l)] ∧ l.length ≤ 100 ∧ (Nm l → ∀ H', Same H H' → Q .non H') ∧ (¬ Nm l → Raised E C "name" (.str (S l)) H)
def lett (l : List Nat) : List Nat := l.filter fun c => decide (97 ≤ c ∧ c ≤ 122)
theorem lett_all {l : List Nat} : (lett l).length < l.length ↔ ¬ ∀ c ∈ l, 97 ≤ c ∧ c ≤ 122 := by
  unfold lett
  constructor
  · intro h z
    rw [List.filter_eq_self.mpr (fun c hc => decide_eq_true (z c hc))] at h
    omega
  · intro h
    refine Nat.lt_of_le_of_ne (List.length_filter_le _ _) fun e => h fun c hc => ?_
    exact of_decide_eq_true (List.length_filter_eq_length_iff.mp e c hc)
abbrev s_require_name : Stmt := top 6
theorem sc_require_name : FnScope ["text", "letters", "sign"] ["text"] (defScope s_require_name) := ⟨rfl, rfl, rfl, by decide +kernel, rfl, by decide +kernel, by decide +kernel⟩
theorem ok_req {f : Addr} {fd : FuncData} (F : Fun K "require_name" "require_name" s_require_name f fd) (T : Bt mg) (eN : ErN K mg) (gL : mg "LONGEST_NAME" = some (.int 8 tk)) : FnOk P w K mg base (L2.CX P w) 3 f fd ["text"] (spReq eN.C) := by
  have GN : FnOk P w K mg base CX0 1 eN.f eN.fd _ (spErI eN.C "name") := ok_bni eN
  refine F.okX sc_require_name (fun vs H Q E h => ?_) (fun cdv A outer s H vs Q E hr h => ?_)
  · obtain ⟨l, rfl, _⟩ := h
    rfl
  · obtain ⟨l, rfl, hl, k1, k2⟩ := h
    have hu := hr.units
    refine ⟨_, (pss_cons (ps_setLc (i := 1) (own := [("sign", 2)]) (g := gName 2) rfl sc_require_name.nd rfl rfl (sw_true rfl rfl rfl (by decide +kernel)) (pi_str (pv 0)) (blkOk_by (N := ["text", "letters", "sign"]) (sc := defScope s_require_name) (by decide +kernel)) (fun _ _ _ _ _ => (pg_name (i := 2) sc_require_name.nd rfl (Or.inl rfl))) (fun _ _ _ _ _ => (pts_one (pt_chain op_leA op_leA (pe_lit [97] (by decide +kernel)) (pv 2) (pe_lit [122] (by decide +kernel))))) (fun _ _ _ _ _ => (pv 2)))
  (pss_one (ps_if (PW.pt (pw_or (pt_not (pt_chain op_leA op_leA pe_int (pe_callB (klen K) (by rfl) T.len (by decide +kernel) (pa_cons (pv 0) pa_nil)) (pe_glob (v := .int 8) rfl gL ⟨_, rfl⟩))) (pw_or1 (pt_cmpR op_ltA (pe_callB (klen K) (by rfl) T.len (by decide +kernel) (pa_cons (pv 1) pa_nil)) (pe_callB (klen K) (by rfl) T.len (by decide +kernel) (pa_cons (pv 0) pa_nil)) (nomark _))))) (pss_one (ps_raise rfl (takes_of rfl rfl rfl rfl) (pmk_er eN GN hr (pa_cons (pv 0) pa_nil))))
  pss_nil))), ?_⟩
    refine Rd.start_ (σ' := [some (.str (S l)), none, none]) rfl ?_
    walk_at "rd"
    refine Rd.lcW Rd.wStr (by show l.toArray.size < _; rw [List.size_toArray]; walk_at "sz") (fun i acc H' => Same H H' ∧ acc = (lett (l.take i)).map fun c => V.str (S [c])) ⟨Same.refl _, rfl⟩
      (fun D hD i acc ys H' j => ⟨same_upd j.1 hD, j.2⟩) (fun _ _ _ _ _ => trivial) ?_ ?_
    · rintro D hD i x acc H' hi ⟨c, hc, rfl⟩ hacc hlen ⟨j1, j2⟩ Kt Kf hT hF
      dsimp only [List.set]
      have hc' : l[i]? = some c := by
        rw [List.getElem?_toArray] at hc; exact hc
      have e1 : ∀ b : Bool, decide (97 ≤ c ∧ c ≤ 122) = b → lett (l.take (i + 1)) = lett (l.take i) ++ (if b then [c] else []) := by
        intro b hb
        unfold lett
        rw [List.take_add_one, hc', List.filter_append]
        congr 1
        cases b with
        | true => simp [of_decide_eq_true hb]
        | false =>
          have := of_decide_eq_false hb
          simp only [Option.toList, List.filter_cons, hb]
          rfl
      walk_at "rd"
      refine Rd.iteD (fun c1 => ?_) (fun c1 => ?_)
      · walk_at "rd"
        refine Rd.iteD (fun c2 => ?_) (fun c2 => ?_)
        · walk_at "rd"
          refine hT _ _ hacc ⟨j1, ?_⟩
          rw [j2, e1 true (decide_eq_true ⟨c1, c2⟩), List.map_append]
          rfl
        · refine hF _ hacc ⟨j1, ?_⟩
          rw [j2, e1 false (decide_eq_false fun z => c2 z.2), List.map_append]
          simp
      · walk_at "rd"
        refine hF _ hacc ⟨j1, ?_⟩
        rw [j2, e1 false (decide_eq_false fun z => c1 z.1), List.map_append]
        simp
    · intro D acc H' hD hacc hlen ⟨j1, j2⟩
      have e0 : l.take (S l).cps.size = l := by
        show l.take l.toArray.size = l
        rw [List.size_toArray, List.take_length]
      rw [e0] at j2
      have hal : acc.length = (lett l).length := by rw [j2, List.length_map]
      have good : Nm l → Q .non H' := fun n => k1 n H' j1
      have badE : ¬ Nm l → ∀ d, H' d = none → E (.ref eN.C) (some d) (upd H' d (.xd [("name", .str (S l))])) := fun n d hd => k2 n d _ (Same.trans j1 (same_new hd)) upd_same
      walk_at "rd"
      refine Rd.iteD (fun c1 => ?_) (fun c1 => ?_)
      · walk_at "rd"
        refine Rd.iteN (fun c2 => ?_) (fun c2 => ?_)
        · walk_at "rd"
          exact Rd.erGo (badE fun n => c2 (by have := n.2.1; omega))
        · walk_at "rd"
          refine Rd.iteD (fun c3 => ?_) (fun c3 => ?_)
          · walk_at "rd"
            rw [hal] at c3
            exact Rd.erGo (badE fun n => lett_all.mp (by omega) n.2.2)
          · walk_at "rd"
            rw [hal] at c3
            refine good ⟨by omega, by omega, ?_⟩
            exact Classical.byContradiction fun z => c3 (by have := lett_all.mpr z; omega)
      · walk_at "rd"
        exact Rd.erGo (badE fun n => c1 (by have := n.1; omega))

end
section
variable {P : Program} {w : World} {K : PySem.W.Frag} {mg : Str → Option Value} {base : Heap} {tk : Tok}
/-! ### roles -/
/-- a class of roles -/
structure Rc (K : PySem.W.Frag) (mg : Str → Option Value) (mI : Addr) (nm : Str) (mk : List Nat) where
  C : Addr
  g : mg nm = some (.ref C)
  cl : Cls K C
  M : Mk K C mI
  nN : NoAttr K C "name"
  nG : NoAttr K C "group"
  u : Value
  mark : Con K C "MARK" (.str (S mk)) u
  ha : PySem.W.findIn K (.ref C) "__class__" = some (some (.builtin "object.__class__"))
  hn : PySem.W.specialIn K (.builtin "object.__class__") "__get__" = some (some (.builtin "getset_descriptor.__get__"))
  htk : PySem.W.takesIn K (.builtin "object.__class__") = some true
  hm : PySem.W.mroIn K C (.type "object") = some true
def flds (n g : List Nat) : List (Str × V) := [("name", .str (S n)), ("group", .str (S g))]
theorem ng_ne : ¬ (("name" : Str) = "group") := by decide +kernel
theorem flds_put (v : V) (n g : List Nat) : putF "group" (.str (S g)) (putF "name" (.str (S n)) []) = flds n g := by
  show (if ("name" : Str) = "group" then [(("name" : Str), V.str (S g))] else (("name" : Str), V.str (S n)) :: putF "group" (V.str (S g)) []) = flds n g
  rw [if_neg ng_ne]
  rfl
theorem flds_name (n g : List Nat) : (flds n g).lookup ("name" : Str) = some (.str (S n)) := by
  unfold flds; simp [List.lookup]
theorem flds_group (n g : List Nat) : (flds n g).lookup ("group" : Str) = some (.str (S g)) := by
  have e : (("group" : Str) == "name") = false := by decide +kernel
  unfold flds; simp [List.lookup, e]
theorem flds_no (n g : List Nat) {m : Str} (h1 : (m == ("name" : Str)) = false) (h2 : (m == ("group" : Str)) = false) : (flds n g).lookup m = none := by
  unfold flds; simp [List.lookup, h1, h2]
/-- a role of the class at C stands at x -/
def RoleAt (C : Addr) (H : Hp) (x : Addr) (n g : List Nat) : Prop := ∃ dx, H x = some (.ins C dx (flds n g))
theorem RoleAt.mono {C : Addr} {H H' : Hp} {x : Addr} {n g : List Nat} (h : RoleAt C H x n g) (e : Same H H') : RoleAt C H' x n g := by
  obtain ⟨dx, h⟩ := h
  exact ⟨dx, e _ _ h⟩
def spInit (K : PySem.W.Frag) (eC : Addr) : Sp := fun vs H Q E => ∃ (p C dx : Addr) (n g : List Nat), vs = [.ref p, .str (S n), .str (S g)] ∧ n.length ≤ 100 ∧ g.length ≤ 100 ∧ Cls K C ∧ NoAttr K C "name" ∧ NoAttr K C "group" ∧ H p = some (.ins C dx []) ∧
  (Nm n → Nm g → ∀ H', SameB p H H' → H' p = some (.ins C dx (flds n g)) → Q .non H') ∧ (¬ Nm n → Raised E eC "name" (.str (S n)) H) ∧ (Nm n → ¬ Nm g → Raised E eC "name" (.str (S g)) H)
abbrev s_Role___init : Stmt := inClass (top 7) 1
theorem sc_Role___init : FnScope ["self", "name", "group"] ["self", "name", "group"] (defScope s_Role___init) := ⟨rfl, rfl, rfl, by decide +kernel, rfl, by decide +kernel, by decide +kernel⟩
theorem Raised.mono {E : XK} {C : Addr} {fld : Str} {v : V} {H H' : Hp} (h : Raised E C fld v H) (e : Same H H') : Raised E C fld v H' := fun d G s q => h d G (e.trans s) q
abbrev DReq (K : PySem.W.Frag) (mg : Str → Option Value) := Df K mg "require_name" "require_name" s_require_name ["text"]
abbrev MInit (K : PySem.W.Frag) := Mf K "__init__" "Role.__init__" s_Role___init ["self", "name", "group"]
theorem ok_init (m : MInit K) (T : Bt mg) (dR : DReq K mg) (eN : ErN K mg) (gL : mg "LONGEST_NAME" = some (.int 8 tk)) : FnOk P w K mg base (L2.CX P w) 4 m.f m.fd ["self", "name", "group"] (spInit K eN.C) := by
  have GR : FnOk P w K mg base (L2.CX P w) 3 dR.f dR.fd _ (spReq eN.C) := ok_req dR.F T eN gL
  refine m.F.okX sc_Role___init (fun vs H Q E h => ?_) (fun cdv A outer s H vs Q E hr h => ?_)
  · obtain ⟨p, C, dx, n, g, rfl, _⟩ := h
    rfl
  · obtain ⟨p, C, dx, n, g, rfl, hn, hg, cl, nN, nG, hp, k1, k2, k3⟩ := h
    refine ⟨_, (pss_cons (ps_expr (pe_cf dR GR hr (passes_call (takes_of rfl rfl rfl rfl) (fun _ _ _ _ h => h)) (pa_cons (pv 1) pa_nil)))
  (pss_cons (ps_expr (pe_cf dR GR hr (passes_call (takes_of rfl rfl rfl rfl) (fun _ _ _ _ h => h)) (pa_cons (pv 2) pa_nil)))
  (pss_cons (kset (pv 0) (pv 1))
  (pss_one (kset (pv 0) (pv 2)))))), ?_⟩
    refine Rd.start_ (σ' := [some (.ref p), some (.str (S n)), some (.str (S g))]) rfl ?_
    walk_at "rd"
    refine ⟨n, rfl, hn, fun a1 H1 s1 => ?_, fun a1 => k2 a1⟩
    walk_at "rd"
    refine ⟨g, rfl, hg, fun a2 H2 s2 => ?_, fun a2 => (k3 a1 a2).mono s1⟩
    walk_at "rd"
    have hp2 := s2 _ _ (s1 _ _ hp)
    refine ⟨p, C, dx, [], rfl, hp2, cl, nN, by decide, ?_⟩
    walk_at "rd"
    refine ⟨p, C, dx, _, rfl, upd_same, cl, nG, by show 1 < 1000; decide, ?_⟩
    refine k1 a1 a2 _ (fun a o na ha => ?_) ?_
    · rw [upd_ne na, upd_ne na]
      exact s2 _ _ (s1 _ _ ha)
    · rw [upd_same, flds_put .non]
/-- C(name, group), C a class of roles -/
theorem mk_go {mI : Addr} {nm : Str} {mk : List Nat} (c : Rc K mg mI nm mk) {eC : Addr} {n g : List Nat} {H : Hp} {Q : VK} {E : XK} (hn : n.length ≤ 100) (hg : g.length ≤ 100)
    (k1 : Nm n → Nm g → ∀ x H', H x = none → Same H H' → RoleAt c.C H' x n g → Q (.ref x) H') (k2 : ¬ Nm n → Raised E eC "name" (.str (S n)) H) (k3 : Nm n → ¬ Nm g → Raised E eC "name" (.str (S g)) H) :
    MkGo c.C (spInit K eC) [.str (S n), .str (S g)] H Q E := by
  intro x dx hx hd ne
  have s0 : Same H (upd (upd H dx (.own x)) x (.ins c.C dx [])) := fun b o e => by
    rw [upd_ne (ne_of_none e hx), upd_ne (ne_of_none e hd)]; exact e
  refine ⟨x, c.C, dx, n, g, rfl, hn, hg, c.cl, c.nN, c.nG, upd_same, fun a1 a2 H' s1 h1 => ⟨rfl, ?_⟩, fun a1 => (k2 a1).mono s0, fun a1 a2 => (k3 a1 a2).mono s0⟩
  exact k1 a1 a2 x H' hx (fun b o e => s1 b o (ne_of_none e hx) (s0 b o e)) ⟨dx, h1⟩
/-! ### their methods -/
def spTells (v : V) : Sp := fun vs H Q _ => ∃ p : Addr, vs = [.ref p] ∧ Q v H
theorem ok_tells {nm qual : Str} {st : Stmt} {pos pos' : Pos} {j : Nat} {b : Bool} (m : Mf K nm qual st ["self"]) (S0 : FnScope ["self"] ["self"] (defScope st)) (hb : defBody st = [.Return (some (.Constant (.bool b) j pos)) pos']) : FnOk P w K mg base CX0 1 m.f m.fd ["self"] (spTells (.bl b)) := by
  refine m.F.ok S0 (fun vs H Q E h => ?_) (fun cdv A outer s H vs Q E hr h => ?_)
  · obtain ⟨p, rfl, _⟩ := h
    rfl
  · obtain ⟨p, rfl, k⟩ := h
    rw [hb]
    exact ⟨_, pss_one (ps_ret pe_bl), k⟩
abbrev s_Role_reads : Stmt := inClass (top 7) 2
theorem sc_Role_reads : FnScope ["self"] ["self"] (defScope s_Role_reads) := ⟨rfl, rfl, rfl, by decide +kernel, rfl, by decide +kernel, by decide +kernel⟩
abbrev s_Role_makes : Stmt := inClass (top 7) 3
theorem sc_Role_makes : FnScope ["self"] ["self"] (defScope s_Role_makes) := ⟨rfl, rfl, rfl, by decide +kernel, rfl, by decide +kernel, by decide +kernel⟩
abbrev s_Role_derived : Stmt := inClass (top 7) 4
theorem sc_Role_derived : FnScope ["self"] ["self"] (defScope s_Role_derived) := ⟨rfl, rfl, rfl, by decide +kernel, rfl, by decide +kernel, by decide +kernel⟩
abbrev s_Read_reads : Stmt := inClass (top 8) 1
theorem sc_Read_reads : FnScope ["self"] ["self"] (defScope s_Read_reads) := ⟨rfl, rfl, rfl, by decide +kernel, rfl, by decide +kernel, by decide +kernel⟩
abbrev s_Fresh_makes : Stmt := inClass (top 9) 1
theorem sc_Fresh_makes : FnScope ["self"] ["self"] (defScope s_Fresh_makes) := ⟨rfl, rfl, rfl, by decide +kernel, rfl, by decide +kernel, by decide +kernel⟩
abbrev s_Made_makes : Stmt := inClass (top 11) 1
theorem sc_Made_makes : FnScope ["self"] ["self"] (defScope s_Made_makes) := ⟨rfl, rfl, rfl, by decide +kernel, rfl, by decide +kernel, by decide +kernel⟩
abbrev s_Made_derived : Stmt := inClass (top 11) 2
theorem sc_Made_derived : FnScope ["self"] ["self"] (defScope s_Made_derived) := ⟨rfl, rfl, rfl, by decide +kernel, rfl, by decide +kernel, by decide +kernel⟩
abbrev MRr (K : PySem.W.Frag) := Mf K "reads" "Role.reads" s_Role_reads ["self"]
theorem ok_Rr (m : MRr K) : FnOk P w K mg base CX0 1 m.f m.fd ["self"] (spTells (.bl false)) := ok_tells m sc_Role_reads rfl
abbrev MRm (K : PySem.W.Frag) := Mf K "makes" "Role.makes" s_Role_makes ["self"]
theorem ok_Rm (m : MRm K) : FnOk P w K mg base CX0 1 m.f m.fd ["self"] (spTells (.bl false)) := ok_tells m sc_Role_makes rfl
abbrev MRd (K : PySem.W.Frag) := Mf K "derived" "Role.derived" s_Role_derived ["self"]
theorem ok_Rd (m : MRd K) : FnOk P w K mg base CX0 1 m.f m.fd ["self"] (spTells (.bl false)) := ok_tells m sc_Role_derived rfl
abbrev MEr (K : PySem.W.Frag) := Mf K "reads" "Read.reads" s_Read_reads ["self"]
theorem ok_Er (m : MEr K) : FnOk P w K mg base CX0 1 m.f m.fd ["self"] (spTells (.bl true)) := ok_tells m sc_Read_reads rfl
abbrev MFm (K : PySem.W.Frag) := Mf K "makes" "Fresh.makes" s_Fresh_makes ["self"]
theorem ok_Fm (m : MFm K) : FnOk P w K mg base CX0 1 m.f m.fd ["self"] (spTells (.bl true)) := ok_tells m sc_Fresh_makes rfl
abbrev MMm (K : PySem.W.Frag) := Mf K "makes" "Made.makes" s_Made_makes ["self"]
theorem ok_Mm (m : MMm K) : FnOk P w K mg base CX0 1 m.f m.fd ["self"] (spTells (.bl true)) := ok_tells m sc_Made_makes rfl
abbrev MMd (K : PySem.W.Frag) := Mf K "derived" "Made.derived" s_Made_derived ["self"]
theorem ok_Md (m : MMd K) : FnOk P w K mg base CX0 1 m.f m.fd ["self"] (spTells (.bl true)) := ok_tells m sc_Made_derived rfl
/-- imaged: the role itself, or a new one of the class at D -/
def spSelf : Sp := fun vs H Q _ => ∃ p : Addr, vs = [.ref p] ∧ Q (.ref p) H
abbrev s_Role_imaged : Stmt := inClass (top 7) 6
theorem sc_Role_imaged : FnScope ["self"] ["self"] (defScope s_Role_imaged) := ⟨rfl, rfl, rfl, by decide +kernel, rfl, by decide +kernel, by decide +kernel⟩
abbrev MRi (K : PySem.W.Frag) := Mf K "imaged" "Role.imaged" s_Role_imaged ["self"]
theorem ok_Ri (m : MRi K) : FnOk P w K mg base CX0 1 m.f m.fd ["self"] spSelf := by
  refine m.F.ok sc_Role_imaged (fun vs H Q E h => ?_) (fun cdv A outer s H vs Q E hr h => ?_)
  · obtain ⟨p, rfl, _⟩ := h
    rfl
  · obtain ⟨p, rfl, k⟩ := h
    refine ⟨_, (pss_one (ps_ret (pv 0))), ?_⟩
    refine Rd.start_ (σ' := [some (.ref p)]) rfl ?_
    walk_at "rd"
    exact k
def spImg (K : PySem.W.Frag) (C D : Addr) : Sp := fun vs H Q _ => ∃ (p : Addr) (n g : List Nat), vs = [.ref p] ∧ Cls K C ∧ NoAttr K C "name" ∧ NoAttr K C "group" ∧ RoleAt C H p n g ∧ Nm n ∧ Nm g ∧ ∀ x H', Same H H' → RoleAt D H' x n g → Q (.ref x) H'
abbrev s_Made_imaged : Stmt := inClass (top 11) 4
theorem sc_Made_imaged : FnScope ["self"] ["self"] (defScope s_Made_imaged) := ⟨rfl, rfl, rfl, by decide +kernel, rfl, by decide +kernel, by decide +kernel⟩
abbrev s_Both_imaged : Stmt := inClass (top 12) 1
theorem sc_Both_imaged : FnScope ["self"] ["self"] (defScope s_Both_imaged) := ⟨rfl, rfl, rfl, by decide +kernel, rfl, by decide +kernel, by decide +kernel⟩
abbrev MMi (K : PySem.W.Frag) := Mf K "imaged" "Made.imaged" s_Made_imaged ["self"]
abbrev MBi (K : PySem.W.Frag) := Mf K "imaged" "Both.imaged" s_Both_imaged ["self"]
theorem ok_Mi {mk : List Nat} {C : Addr} (m : MMi K) (mI : MInit K) (cF : Rc K mg mI.f "Fresh" mk) (T : Bt mg) (dR : DReq K mg) (eN : ErN K mg) (gL : mg "LONGEST_NAME" = some (.int 8 tk)) : FnOk P w K mg base CX0 6 m.f m.fd ["self"] (spImg K C cF.C) := by
  have GI : FnOk P w K mg base (L2.CX P w) 4 mI.f mI.fd _ (spInit K eN.C) := ok_init mI T dR eN gL
  refine m.F.ok sc_Made_imaged (fun vs H Q E h => ?_) (fun cdv A outer s H vs Q E hr h => ?_)
  · obtain ⟨p, n, g, rfl, _⟩ := h
    rfl
  · obtain ⟨p, n, g, rfl, cl, nN, nG, ⟨dx, hp⟩, hn, hg, k⟩ := h
    refine ⟨_, (pss_one (ps_ret (pe_mk mI cF.M cF.g GI hr passL (pa_cons (kfld K (pv 0)) (pa_cons (kfld K (pv 0)) pa_nil))))), ?_⟩
    refine Rd.start_ (σ' := [some (.ref p)]) rfl ?_
    walk_at "rd"
    refine ⟨p, C, dx, _, _, rfl, hp, cl, nN, flds_name _ _, ?_⟩
    walk_at "rd"
    refine ⟨p, C, dx, _, _, rfl, hp, cl, nG, flds_group _ _, ?_⟩
    walk_at "rd"
    exact mk_go cF (by have := hn.2.1; omega) (by have := hg.2.1; omega) (fun _ _ x H' _ s r => k x H' s r) (fun a => absurd hn a) (fun _ a => absurd hg a)
theorem ok_Bi {mk : List Nat} {C : Addr} (m : MBi K) (mI : MInit K) (cF : Rc K mg mI.f "Renewed" mk) (T : Bt mg) (dR : DReq K mg) (eN : ErN K mg) (gL : mg "LONGEST_NAME" = some (.int 8 tk)) : FnOk P w K mg base CX0 6 m.f m.fd ["self"] (spImg K C cF.C) := by
  have GI : FnOk P w K mg base (L2.CX P w) 4 mI.f mI.fd _ (spInit K eN.C) := ok_init mI T dR eN gL
  refine m.F.ok sc_Both_imaged (fun vs H Q E h => ?_) (fun cdv A outer s H vs Q E hr h => ?_)
  · obtain ⟨p, n, g, rfl, _⟩ := h
    rfl
  · obtain ⟨p, n, g, rfl, cl, nN, nG, ⟨dx, hp⟩, hn, hg, k⟩ := h
    refine ⟨_, (pss_one (ps_ret (pe_mk mI cF.M cF.g GI hr passL (pa_cons (kfld K (pv 0)) (pa_cons (kfld K (pv 0)) pa_nil))))), ?_⟩
    refine Rd.start_ (σ' := [some (.ref p)]) rfl ?_
    walk_at "rd"
    refine ⟨p, C, dx, _, _, rfl, hp, cl, nN, flds_name _ _, ?_⟩
    walk_at "rd"
    refine ⟨p, C, dx, _, _, rfl, hp, cl, nG, flds_group _ _, ?_⟩
    walk_at "rd"
    exact mk_go cF (by have := hn.2.1; omega) (by have := hg.2.1; omega) (fun _ _ x H' _ s r => k x H' s r) (fun a => absurd hn a) (fun _ a => absurd hg a)

end
section
variable {P : Program} {w : World} {K : PySem.W.Frag} {mg : Str → Option Value} {base : Heap} {tk : Tok}
/-! ### the law's helpers -/
structure Six (K : PySem.W.Frag) (mg : Str → Option Value) (mI : Addr) where
  r : Rc K mg mI "Role" []
  e : Rc K mg mI "Read" [114]
  m : Rc K mg mI "Made" [109]
  f : Rc K mg mI "Fresh" [102]
  b : Rc K mg mI "Both" [114, 109]
  w : Rc K mg mI "Renewed" [114, 102]
section
variable {mI : Addr}
/-- the class of the mode m -/
def Six.C (c : Six K mg mI) : Nat → Addr
  | 0 => c.e.C
  | 1 => c.m.C
  | 2 => c.f.C
  | 3 => c.b.C
  | 4 => c.w.C
  | _ => c.r.C
theorem Six.cl (c : Six K mg mI) (m : Nat) : Cls K (c.C m) := match m with
  | 0 => c.e.cl
  | 1 => c.m.cl
  | 2 => c.f.cl
  | 3 => c.b.cl
  | 4 => c.w.cl
  | _ + 5 => c.r.cl
theorem Six.nN (c : Six K mg mI) (m : Nat) : NoAttr K (c.C m) "name" := match m with
  | 0 => c.e.nN
  | 1 => c.m.nN
  | 2 => c.f.nN
  | 3 => c.b.nN
  | 4 => c.w.nN
  | _ + 5 => c.r.nN
theorem Six.nG (c : Six K mg mI) (m : Nat) : NoAttr K (c.C m) "group" := match m with
  | 0 => c.e.nG
  | 1 => c.m.nG
  | 2 => c.f.nG
  | 3 => c.b.nG
  | 4 => c.w.nG
  | _ + 5 => c.r.nG
theorem Six.ty (c : Six K mg mI) (m : Nat) {H : Hp} {p dx : Addr} {fs : List (Str × V)} (h : H p = some (.ins (c.C m) dx fs)) : TyX K H (.ref p) (.ref (c.C m)) := match m, h with
  | 0, h => .base (.ins h c.e.cl c.e.ha c.e.hn c.e.htk c.e.hm)
  | 1, h => .base (.ins h c.m.cl c.m.ha c.m.hn c.m.htk c.m.hm)
  | 2, h => .base (.ins h c.f.cl c.f.ha c.f.hn c.f.htk c.f.hm)
  | 3, h => .base (.ins h c.b.cl c.b.ha c.b.hn c.b.htk c.b.hm)
  | 4, h => .base (.ins h c.w.cl c.w.ha c.w.hn c.w.htk c.w.hm)
  | _ + 5, h => .base (.ins h c.r.cl c.r.ha c.r.hn c.r.htk c.r.hm)
end
/-- a new role of the mode m, or BadName -/
def spRole (eC : Addr) (C : Nat → Addr) (lim : Nat) : Sp := fun vs H Q E => ∃ (n g : List Nat) (m : Nat), vs = [.str (S n), .str (S g), .int (m : Nat)] ∧ m < lim ∧ n.length ≤ 100 ∧ g.length ≤ 100 ∧
  (Nm n → Nm g → ∀ x H', H x = none → Same H H' → RoleAt (C m) H' x n g → Q (.ref x) H') ∧ (¬ Nm n → Raised E eC "name" (.str (S n)) H) ∧ (Nm n → ¬ Nm g → Raised E eC "name" (.str (S g)) H)
abbrev s_law_role : Stmt := top 14
theorem sc_law_role : FnScope ["_law_name", "_law_group", "_law_mode"] ["_law_name", "_law_group", "_law_mode"] (defScope s_law_role) := ⟨rfl, rfl, rfl, by decide +kernel, rfl, by decide +kernel, by decide +kernel⟩
abbrev DRo (K : PySem.W.Frag) (mg : Str → Option Value) := Df K mg "_law_role" "_law_role" s_law_role ["_law_name", "_law_group", "_law_mode"]
theorem ok_role (d : DRo K mg) (mI : MInit K) (c : Six K mg mI.f) (T : Bt mg) (dR : DReq K mg) (eN : ErN K mg) (gL : mg "LONGEST_NAME" = some (.int 8 tk)) : FnOk P w K mg base (L2.CX P w) 6 d.f d.fd ["_law_name", "_law_group", "_law_mode"] (spRole eN.C c.C 5) := by
  have GI : FnOk P w K mg base (L2.CX P w) 4 mI.f mI.fd _ (spInit K eN.C) := ok_init mI T dR eN gL
  refine d.F.okX sc_law_role (fun vs H Q E h => ?_) (fun cdv A outer s H vs Q E hr h => ?_)
  · obtain ⟨n, g, m, rfl, _⟩ := h
    rfl
  · obtain ⟨n, g, m, rfl, hm, hn, hg, k1, k2, k3⟩ := h
    have hu := hr.units
    refine ⟨_, (pss_cons (ps_if (pt_cmpR (keq K hu) (pv 2) pe_int (nomark _)) (pss_one (ps_ret (pe_mk mI c.e.M c.e.g GI hr (passes_call (takes_of rfl rfl rfl rfl) (fun _ _ _ _ h => h)) (pa_cons (pv 0) (pa_cons (pv 1) pa_nil)))))
  pss_nil)
  (pss_cons (ps_if (pt_cmpR (keq K hu) (pv 2) pe_int (nomark _)) (pss_one (ps_ret (pe_mk mI c.m.M c.m.g GI hr (passes_call (takes_of rfl rfl rfl rfl) (fun _ _ _ _ h => h)) (pa_cons (pv 0) (pa_cons (pv 1) pa_nil)))))
  pss_nil)
  (pss_cons (ps_if (pt_cmpR (keq K hu) (pv 2) pe_int (nomark _)) (pss_one (ps_ret (pe_mk mI c.f.M c.f.g GI hr (passes_call (takes_of rfl rfl rfl rfl) (fun _ _ _ _ h => h)) (pa_cons (pv 0) (pa_cons (pv 1) pa_nil)))))
  pss_nil)
  (pss_cons (ps_if (pt_cmpR (keq K hu) (pv 2) pe_int (nomark _)) (pss_one (ps_ret (pe_mk mI c.b.M c.b.g GI hr (passes_call (takes_of rfl rfl rfl rfl) (fun _ _ _ _ h => h)) (pa_cons (pv 0) (pa_cons (pv 1) pa_nil)))))
  pss_nil)
  (pss_one (ps_ret (pe_mk mI c.w.M c.w.g GI hr (passes_call (takes_of rfl rfl rfl rfl) (fun _ _ _ _ h => h)) (pa_cons (pv 0) (pa_cons (pv 1) pa_nil))))))))), ?_⟩
    refine Rd.start_ (σ' := [some (.str (S n)), some (.str (S g)), some (.int m)]) rfl ?_
    have hm' : m = 0 ∨ m = 1 ∨ m = 2 ∨ m = 3 ∨ m = 4 := by omega
    rcases hm' with rfl | rfl | rfl | rfl | rfl <;>
    · walk_at "rd"
      repeat (first | exact mk_go _ hn hg k1 k2 k3 | (refine Rd.iteD (fun h => ?_) (fun h => ?_)) | (exfalso; revert h; decide) | walk_at "rd1")
abbrev s_law_any_role : Stmt := top 22
theorem sc_law_any_role : FnScope ["_law_name", "_law_group", "_law_mode"] ["_law_name", "_law_group", "_law_mode"] (defScope s_law_any_role) := ⟨rfl, rfl, rfl, by decide +kernel, rfl, by decide +kernel, by decide +kernel⟩
abbrev DAny (K : PySem.W.Frag) (mg : Str → Option Value) := Df K mg "_law_any_role" "_law_any_role" s_law_any_role ["_law_name", "_law_group", "_law_mode"]
theorem ok_any (d : DAny K mg) (dRo : DRo K mg) (mI : MInit K) (c : Six K mg mI.f) (T : Bt mg) (dR : DReq K mg) (eN : ErN K mg) (gL : mg "LONGEST_NAME" = some (.int 8 tk)) : FnOk P w K mg base (L2.CX P w) 7 d.f d.fd ["_law_name", "_law_group", "_law_mode"] (spRole eN.C c.C 6) := by
  have GI : FnOk P w K mg base (L2.CX P w) 5 mI.f mI.fd _ (spInit K eN.C) := (ok_init mI T dR eN gL).mono (by decide)
  have GRo : FnOk P w K mg base (L2.CX P w) 6 dRo.f dRo.fd _ (spRole eN.C c.C 5) := ok_role dRo mI c T dR eN gL
  refine d.F.okX sc_law_any_role (fun vs H Q E h => ?_) (fun cdv A outer s H vs Q E hr h => ?_)
  · obtain ⟨n, g, m, rfl, _⟩ := h
    rfl
  · obtain ⟨n, g, m, rfl, hm, hn, hg, k1, k2, k3⟩ := h
    have hu := hr.units
    refine ⟨_, (pss_cons (ps_if (pt_cmpR (keq K hu) (pv 2) pe_int (nomark _)) (pss_one (ps_ret (pe_mk mI c.r.M c.r.g GI hr (passes_call (takes_of rfl rfl rfl rfl) (fun _ _ _ _ h => h)) (pa_cons (pv 0) (pa_cons (pv 1) pa_nil)))))
  pss_nil)
  (pss_one (ps_ret (pe_cf dRo GRo hr (passes_call (takes_of rfl rfl rfl rfl) (fun _ _ _ _ h => h)) (pa_cons (pv 0) (pa_cons (pv 1) (pa_cons (pv 2) pa_nil))))))), ?_⟩
    refine Rd.start_ (σ' := [some (.str (S n)), some (.str (S g)), some (.int m)]) rfl ?_
    walk_at "rd"
    refine Rd.iteD (fun h => ?_) (fun h => ?_)
    · have e : m = 5 := by omega
      subst e
      walk_at "rd"
      exact mk_go _ hn hg k1 k2 k3
    · walk_at "rd"
      exact ⟨n, g, m, rfl, by omega, hn, hg, k1, k2, k3⟩
/-! whether a role of the mode m reads, makes, is derived; to which classes it belongs -/
def rdB (m : Nat) : Bool := decide (m = 0 ∨ m = 3 ∨ m = 4)
def mkB (m : Nat) : Bool := decide (1 ≤ m ∧ m ≤ 4)
def dvB (m : Nat) : Bool := decide (m = 1 ∨ m = 3)
def spLr : Sp := fun vs H Q _ => ∃ m : Nat, m < 5 ∧ vs = [.int m] ∧ Q (.bl (rdB m)) H
def spLd : Sp := fun vs H Q _ => ∃ m : Nat, m < 6 ∧ vs = [.int m] ∧ Q (.bl (dvB m)) H
theorem lr_go {m : Nat} {H : Hp} {Q : VK} {E : XK} (h : m < 5) (q : Q (.bl (rdB m)) H) : spLr ([.int m] ++ []) H Q E := ⟨m, h, rfl, q⟩
theorem ld_go {m : Nat} {H : Hp} {Q : VK} {E : XK} (h : m < 6) (q : Q (.bl (dvB m)) H) : spLd ([.int m] ++ []) H Q E := ⟨m, h, rfl, q⟩
abbrev s_law_reads : Stmt := top 15
theorem sc_law_reads : FnScope ["_law_mode"] ["_law_mode"] (defScope s_law_reads) := ⟨rfl, rfl, rfl, by decide +kernel, rfl, by decide +kernel, by decide +kernel⟩
abbrev s_law_derived : Stmt := top 16
theorem sc_law_derived : FnScope ["_law_mode"] ["_law_mode"] (defScope s_law_derived) := ⟨rfl, rfl, rfl, by decide +kernel, rfl, by decide +kernel, by decide +kernel⟩
theorem ok_lr {f : Addr} {fd : FuncData} (F : Fun K "_law_reads" "_law_reads" s_law_reads f fd) : FnOk P w K mg base CX0 1 f fd ["_law_mode"] spLr := by
  refine F.ok sc_law_reads (fun vs H Q E h => ?_) (fun cdv A outer s H vs Q E hr h => ?_)
  · obtain ⟨m, _, rfl, _⟩ := h
    rfl
  · obtain ⟨m, hm, rfl, k⟩ := h
    have hu := hr.units
    refine ⟨_, (pss_one (ps_ret (pe_or (pe_cmpR (keq K hu) (pv 0) pe_int (nomark _)) (pe_one (pe_cmpR op_geI (pv 0) pe_int (nomark _)))))), ?_⟩
    refine Rd.start_ (σ' := [some (.int m)]) rfl ?_
    have hm' : m = 0 ∨ m = 1 ∨ m = 2 ∨ m = 3 ∨ m = 4 := by omega
    walk_at "rd"
    rcases hm' with rfl | rfl | rfl | rfl | rfl
    all_goals
      refine Rd.iteD (fun h => ?_) (fun h => ?_)
      all_goals first | exact k | (exfalso; revert h; decide) | (walk_at "rd"; exact k)
theorem ok_ld {f : Addr} {fd : FuncData} (F : Fun K "_law_derived" "_law_derived" s_law_derived f fd) : FnOk P w K mg base CX0 1 f fd ["_law_mode"] spLd := by
  refine F.ok sc_law_derived (fun vs H Q E h => ?_) (fun cdv A outer s H vs Q E hr h => ?_)
  · obtain ⟨m, _, rfl, _⟩ := h
    rfl
  · obtain ⟨m, hm, rfl, k⟩ := h
    have hu := hr.units
    refine ⟨_, (pss_one (ps_ret (pe_or (pe_cmpR (keq K hu) (pv 0) pe_int (nomark _)) (pe_one (pe_cmpR (keq K hu) (pv 0) pe_int (nomark _)))))), ?_⟩
    refine Rd.start_ (σ' := [some (.int m)]) rfl ?_
    have hm' : m = 0 ∨ m = 1 ∨ m = 2 ∨ m = 3 ∨ m = 4 ∨ m = 5 := by omega
    walk_at "rd"
    rcases hm' with rfl | rfl | rfl | rfl | rfl | rfl
    all_goals
      refine Rd.iteD (fun h => ?_) (fun h => ?_)
      all_goals first | exact k | (exfalso; revert h; decide) | (walk_at "rd"; exact k)

end
section
variable {P : Program} {w : World} {K : PySem.W.Frag} {mg : Str → Option Value} {base : Heap} {tk : Tok}
/-! ### classes, flags, errors -/
def subB (m j : Nat) : Bool := match j with
  | 0 => decide (m = 0 ∨ m = 3 ∨ m = 4)
  | 1 => decide (m = 1 ∨ m = 3)
  | 2 => decide (m = 2 ∨ m = 4)
  | 3 => decide (m = 3)
  | 4 => decide (m = 4)
  | _ => true
/-- isinstance of a role of the mode m, for each class -/
def Kits {mI : Addr} (c : Six K mg mI) : Prop := ∀ m j, m < 6 → j < 6 → PySem.W.kitOne K (.ref (c.C m)) (.ref (c.C j)) = some (subB m j)
def clsL (m : Nat) : List V := [.bl (subB m 5), .bl (subB m 0), .bl (subB m 1), .bl (subB m 2), .bl (subB m 3), .bl (subB m 4)]
abbrev s_law_classes : Stmt := top 24
theorem sc_law_classes : FnScope ["_law_role_here", "_law_found"] ["_law_role_here"] (defScope s_law_classes) := ⟨rfl, rfl, rfl, by decide +kernel, rfl, by decide +kernel, by decide +kernel⟩
abbrev DCl (K : PySem.W.Frag) (mg : Str → Option Value) := Df K mg "_law_classes" "_law_classes" s_law_classes ["_law_role_here"]
def spList (C : Nat → Addr) (vsOf : Nat → List V) : Sp := fun vs H Q _ => ∃ (p : Addr) (n g : List Nat) (m : Nat), vs = [.ref p] ∧ m < 6 ∧ RoleAt (C m) H p n g ∧ ∀ l H', Same H H' → H' l = some (.lst (vsOf m)) → Q (.ref l) H'
theorem ok_classes {mI : Addr} (d : DCl K mg) (c : Six K mg mI) (ks : Kits c) (T : Bt mg) : FnOk P w K mg base CX0 1 d.f d.fd ["_law_role_here"] (spList c.C clsL) := by
  refine d.F.ok sc_law_classes (fun vs H Q E h => ?_) (fun cdv A outer s H vs Q E hr h => ?_)
  · obtain ⟨p, n, g, m, rfl, _⟩ := h
    rfl
  · obtain ⟨p, n, g, m, rfl, hm, ⟨dx, hp⟩, k⟩ := h
    have hu := hr.units
    refine ⟨_, (pss_cons (ps_set (i := 1) sc_law_classes.nd rfl (Or.inl rfl) (pe_lst (pa_cons (pe_callB (kisi K) (by rfl) T.isinstance (by decide +kernel) (pa_cons (pv 0) (pa_cons (pe_glob (v := .ref c.r.C) rfl c.r.g rfl) pa_nil))) (pa_cons (pe_callB (kisi K) (by rfl) T.isinstance (by decide +kernel) (pa_cons (pv 0) (pa_cons (pe_glob (v := .ref c.e.C) rfl c.e.g rfl) pa_nil))) (pa_cons (pe_callB (kisi K) (by rfl) T.isinstance (by decide +kernel) (pa_cons (pv 0) (pa_cons (pe_glob (v := .ref c.m.C) rfl c.m.g rfl) pa_nil))) pa_nil)))))
  (pss_one (ps_ret (pe_op op_addA (pv 1) (pe_lst (pa_cons (pe_callB (kisi K) (by rfl) T.isinstance (by decide +kernel) (pa_cons (pv 0) (pa_cons (pe_glob (v := .ref c.f.C) rfl c.f.g rfl) pa_nil))) (pa_cons (pe_callB (kisi K) (by rfl) T.isinstance (by decide +kernel) (pa_cons (pv 0) (pa_cons (pe_glob (v := .ref c.b.C) rfl c.b.g rfl) pa_nil))) (pa_cons (pe_callB (kisi K) (by rfl) T.isinstance (by decide +kernel) (pa_cons (pv 0) (pa_cons (pe_glob (v := .ref c.w.C) rfl c.w.g rfl) pa_nil))) pa_nil)))))))), ?_⟩
    refine Rd.start_ (σ' := [some (.ref p), none]) rfl ?_
    have ty := c.ty m hp
    walk_at "rd"
    refine Rd.isi (.own _) ty (ks m 5 hm (by decide)) ?_
    walk_at "rd"
    refine Rd.isi (.own _) ty (ks m 0 hm (by decide)) ?_
    walk_at "rd"
    refine Rd.isi (.own _) ty (ks m 1 hm (by decide)) ?_
    walk_at "rd"
    refine ⟨by show 3 ≤ sizeLine; decide, fun l1 h1 => ?_⟩
    have ty2 := c.ty m (same_new (o := .lst [.bl (subB m 5), .bl (subB m 0), .bl (subB m 1)]) h1 _ _ hp)
    walk_at "rd"
    refine Rd.isi (.own _) ty2 (ks m 2 hm (by decide)) ?_
    walk_at "rd"
    refine Rd.isi (.own _) ty2 (ks m 3 hm (by decide)) ?_
    walk_at "rd"
    refine Rd.isi (.own _) ty2 (ks m 4 hm (by decide)) ?_
    walk_at "rd"
    refine ⟨by show 3 ≤ sizeLine; decide, fun l2 h2 => ?_⟩
    refine Rd.addL (by rw [upd_ne (ne_of_none upd_same h2)]; exact upd_same) upd_same (by show 6 ≤ sizeLine; decide) (fun l3 h3 => ?_)
    exact k l3 _ (((same_new h1).trans (same_new h2)).trans (same_new h3)) upd_same
/-- what a class's method without arguments tells -/
def Tells (P : Program) (w : World) (K : PySem.W.Frag) (mg : Str → Option Value) (base : Heap) (C : Addr) (m : Str) (v : V) : Prop := ∃ (nm q : Str) (st : Stmt) (d : Mf K nm q st ["self"]), Meth K C m d.f ∧ FnOk P w K mg base CX0 1 d.f d.fd ["self"] (spTells v)
def flagL (m : Nat) : List V := [.bl (rdB m), .bl (mkB m), .bl (dvB m)]
abbrev s_law_flags : Stmt := top 25
theorem sc_law_flags : FnScope ["_law_role_here", "_law_flags_here", "_law_flag"] ["_law_role_here"] (defScope s_law_flags) := ⟨rfl, rfl, rfl, by decide +kernel, rfl, by decide +kernel, by decide +kernel⟩
abbrev DFl (K : PySem.W.Frag) (mg : Str → Option Value) := Df K mg "_law_flags" "_law_flags" s_law_flags ["_law_role_here"]
theorem ok_flags {mI : Addr} (d : DFl K mg) (c : Six K mg mI) (T : Bt mg) (t1 : ∀ m, m < 6 → Tells P w K mg base (c.C m) "reads" (.bl (rdB m))) (t2 : ∀ m, m < 6 → Tells P w K mg base (c.C m) "makes" (.bl (mkB m))) (t3 : ∀ m, m < 6 → Tells P w K mg base (c.C m) "derived" (.bl (dvB m))) :
    FnOk P w K mg base CX0 2 d.f d.fd ["_law_role_here"] (spList c.C flagL) := by
  refine d.F.ok sc_law_flags (fun vs H Q E h => ?_) (fun cdv A outer s H vs Q E hr h => ?_)
  · obtain ⟨p, n, g, m, rfl, _⟩ := h
    rfl
  · obtain ⟨p, n, g, m, rfl, hm, ⟨dx, hp⟩, k⟩ := h
    have hu := hr.units
    obtain ⟨_, _, _, d1, m1, G1⟩ := t1 m hm
    obtain ⟨_, _, _, d2, m2, G2⟩ := t2 m hm
    obtain ⟨_, _, _, d3, m3, G3⟩ := t3 m hm
    refine ⟨_, (pss_cons (ps_set (i := 1) sc_law_flags.nd rfl (Or.inl rfl) (pe_lst (pa_cons (pe_m00 (pv 0) (c.cl m) d1 m1 G1 hr pass0) (pa_cons (pe_m00 (pv 0) (c.cl m) d2 m2 G2 hr pass0) (pa_cons (pe_m00 (pv 0) (c.cl m) d3 m3 G3 hr pass0) pa_nil)))))
  (pss_cons (ps_for PassesOwn.never rfl (kpl K (pv 1)) (pg_name (i := 2) sc_law_flags.nd rfl (Or.inl rfl))
  (pss_one (ps_if (pt_not (pt_val (pe_callB (kisi K) (by rfl) T.isinstance (by decide +kernel) (pa_cons (pv 2) (pa_cons (pe_bltn (v := .ty "bool") (by rfl) T.bool (by decide +kernel) rfl) pa_nil))))) (pss_one (ps_ret (pe_lst pa_nil)))
  pss_nil)))
  (pss_one (ps_ret (pv 1))))), ?_⟩
    refine Rd.start_ (σ' := [some (.ref p), none, none]) rfl ?_
    walk_at "rd"
    refine ⟨p, dx, _, rfl, hp, flds_no _ _ (by decide +kernel) (by decide +kernel), ?_⟩
    walk_at "rd"
    refine ⟨p, rfl, ?_⟩
    walk_at "rd"
    refine ⟨p, dx, _, rfl, hp, flds_no _ _ (by decide +kernel) (by decide +kernel), ?_⟩
    walk_at "rd"
    refine ⟨p, rfl, ?_⟩
    walk_at "rd"
    refine ⟨p, dx, _, rfl, hp, flds_no _ _ (by decide +kernel) (by decide +kernel), ?_⟩
    walk_at "rd"
    refine ⟨p, rfl, ?_⟩
    walk_at "rd"
    refine ⟨by show 3 ≤ sizeLine; decide, fun l hl => ?_⟩
    walk_at "rd"
    refine Rd.foW (Rd.wList (xs := flagL m)) (fun i σ H' => ∃ a : Option V, σ = [some (.ref p), some (.ref l), a] ∧ H' = upd H l (.lst (flagL m))) ⟨none, rfl, rfl⟩ (fun i σ H' hi ⟨a, _, e⟩ => by subst e; exact SqL.of upd_same) ?_ ?_
    · rintro i x σ H' hi hx ⟨a, rfl, rfl⟩
      obtain ⟨b, rfl⟩ : ∃ b, x = V.bl b := by
        have hi3 : i < 3 := hi
        have : i = 0 ∨ i = 1 ∨ i = 2 := by omega
        rcases this with rfl | rfl | rfl <;> exact ⟨_, (Option.some.inj hx).symm⟩
      dsimp only [List.set]
      walk_at "rd"
      refine Rd.isi (.ty _) (.base (.bl b)) (kit_ty (r := true) (by decide +kernel)) ?_
      walk_at "rd"
      exact ⟨_, rfl, rfl⟩
    · rintro σ H' ⟨a, rfl, rfl⟩
      walk_at "rd"
      exact k l _ (same_new hl) upd_same
def spError : Sp := fun vs H Q _ => ∃ (n g z : List Nat) (m : Nat), vs = [.str (S n), .str (S g), .int (m : Nat)] ∧ m < 6 ∧ n.length ≤ 100 ∧ g.length ≤ 100 ∧ ((¬ Nm n ∧ z = n) ∨ (Nm n ∧ ¬ Nm g ∧ z = g)) ∧
  ∀ l H', Same H H' → H' l = some (.tup [.str (S z)]) → Q (.ref l) H'
abbrev s_law_error : Stmt := top 23
theorem sc_law_error : FnScope ["_law_name", "_law_group", "_law_mode", "e"] ["_law_name", "_law_group", "_law_mode"] (defScope s_law_error) := ⟨rfl, rfl, rfl, by decide +kernel, rfl, by decide +kernel, by decide +kernel⟩
abbrev DEr (K : PySem.W.Frag) (mg : Str → Option Value) := Df K mg "_law_error" "_law_error" s_law_error ["_law_name", "_law_group", "_law_mode"]
theorem ok_error (d : DEr K mg) (dA : DAny K mg) (dRo : DRo K mg) (mI : MInit K) (c : Six K mg mI.f) (T : Bt mg) (dR : DReq K mg) (eN : ErN K mg) (gL : mg "LONGEST_NAME" = some (.int 8 tk)) {cRE cBK : Addr} (gRE : mg "RedoError" = some (.ref cRE)) (gBK : mg "BadKind" = some (.ref cBK))
    (k1 : PySem.W.kitOne K (.ref eN.C) (.ref cRE) = some true) (k2 : PySem.W.kitOne K (.ref eN.C) (.type "ValueError") = some true) (k3 : PySem.W.kitOne K (.ref eN.C) (.ref cBK) = some false) : FnOk P w K mg base CX0 8 d.f d.fd ["_law_name", "_law_group", "_law_mode"] spError := by
  have GA : FnOk P w K mg base (L2.CX P w) 7 dA.f dA.fd _ (spRole eN.C c.C 6) := ok_any dA dRo mI c T dR eN gL
  refine d.F.ok sc_law_error (fun vs H Q E h => ?_) (fun cdv A outer s H vs Q E hr h => ?_)
  · obtain ⟨n, g, z, m, rfl, _⟩ := h
    rfl
  · obtain ⟨n, g, z, m, rfl, hm, hn, hg, hz, k⟩ := h
    have hu := hr.units
    refine ⟨_, (pss_cons (ktry_as K 3 sc_law_error.nd ⟨rfl, by decide, Or.inl eN.g⟩ (fun W pn xe tk _ => (pss_one (ps_expr (pe_cfS dA GA hr tk (pa_cons (pv 0) (pa_cons (pv 1) (pa_cons (pv 2) pa_nil))))))) (fun a oe cls d pn hz hf => (pss_one (ps_if (PW.pt (pw_and (pt_val (pe_callB (call_isX eN.xc hz hf) (by rfl) T.isinstance (by decide +kernel) (pa_cons (pv 3) (pa_cons (pe_glob (v := .ref cRE) rfl gRE rfl) pa_nil)))) (pw_and (pt_val (pe_callB (call_isX eN.xc hz hf) (by rfl) T.isinstance (by decide +kernel) (pa_cons (pv 3) (pa_cons (pe_bltn (v := .ty "ValueError") (by rfl) T.ValueError (by decide +kernel) rfl) pa_nil)))) (pw_and1 (pt_not (pt_val (pe_callB (call_isX eN.xc hz hf) (by rfl) T.isinstance (by decide +kernel) (pa_cons (pv 3) (pa_cons (pe_glob (v := .ref cBK) rfl gBK rfl) pa_nil))))))))) (pss_one (ps_ret (pe_tup (pa_cons (kxf eN.xf eN.no hz hf (pv 3)) pa_nil))))
  pss_nil))))
  (pss_one (ps_ret (pe_tup pa_nil)))), ?_⟩
    refine Rd.start_ (σ' := [some (.str (S n)), some (.str (S g)), some (.int m), none]) rfl ?_
    walk_at "rd"
    refine ⟨n, g, m, rfl, hm, hn, hg, fun a1 a2 => ?_, fun a1 dd H1 s1 hd => Rd.wAs_yes eN.te fun a ha => ?_, fun a1 a2 dd H1 s1 hd => Rd.wAs_yes eN.te fun a ha => ?_⟩
    · rcases hz with ⟨z1, _⟩ | ⟨_, z1, _⟩
      · exact absurd a1 z1
      · exact absurd a2 z1
    all_goals
      dsimp only [List.set]
      walk_at "rd"
      refine Rd.isX (fun u h => h) rfl rfl hd k1 ?_
      walk_at "rd"
      refine Rd.isX (fun u h => h) rfl rfl hd k2 ?_
      walk_at "rd"
      refine Rd.isX (fun u h => h) rfl rfl hd k3 ?_
      walk_at "rd"
      refine ⟨rfl, rfl, dd, _, _, rfl, hd, by simp [List.lookup]; rfl, ?_⟩
      walk_at "rd"
      refine ⟨by show 1 ≤ sizeLine; decide, fun l hl => ?_⟩
    · rcases hz with ⟨_, rfl⟩ | ⟨z1, _⟩
      · exact k l _ (s1.trans (same_new hl)) upd_same
      · exact absurd z1 a1
    · rcases hz with ⟨z1, _⟩ | ⟨_, _, rfl⟩
      · exact absurd a1 z1
      · exact k l _ (s1.trans (same_new hl)) upd_same

end
section
variable {P : Program} {w : World} {K : PySem.W.Frag} {mg : Str → Option Value} {base : Heap} {tk : Tok}
/-! ### words -/
def RA (C : Addr) (H : Hp) (p : Addr) (g : List Nat) : Prop := ∃ n, RoleAt C H p n g
theorem RA.ins {C : Addr} {H : Hp} {p : Addr} {g : List Nat} (h : RA C H p g) : ∃ dx fs, H p = some (.ins C dx fs) := by
  obtain ⟨n, dx, h⟩ := h
  exact ⟨dx, _, h⟩
abbrev s_Role_words : Stmt := inClass (top 7) 5
theorem sc_Role_words : FnScope ["self"] ["self"] (defScope s_Role_words) := ⟨rfl, rfl, rfl, by decide +kernel, rfl, by decide +kernel, by decide +kernel⟩
abbrev MRw (K : PySem.W.Frag) := Mf K "words" "Role.words" s_Role_words ["self"]
theorem ok_Rw {C : Addr} (m : MRw K) (cl : Cls K C) (nG : NoAttr K C "group") : FnOk P w K mg base CX0 1 m.f m.fd ["self"] (spW RA C []) := by
  refine m.F.ok sc_Role_words (fun vs H Q E h => ?_) (fun cdv A outer s H vs Q E hr h => ?_)
  · obtain ⟨p, g, rfl, _⟩ := h
    rfl
  · obtain ⟨p, g, rfl, ⟨n, dx, hp⟩, k⟩ := h
    refine ⟨_, (pss_one (ps_ret (pe_lst (pa_cons (kfld K (pv 0)) pa_nil)))), ?_⟩
    refine Rd.start_ (σ' := [some (.ref p)]) rfl ?_
    walk_at "rd"
    refine ⟨p, C, dx, _, _, rfl, hp, cl, nG, flds_group _ _, ?_⟩
    walk_at "rd"
    exact ⟨by show 1 ≤ sizeLine; decide, fun l hl => k l _ hl (same_new hl) upd_same⟩
abbrev s_Read_words : Stmt := inClass (top 8) 2
abbrev s_Fresh_words : Stmt := inClass (top 9) 2
abbrev s_Made_words : Stmt := inClass (top 11) 3
/-- one step up: a word behind what the next class tells -/
structure Up (P : Program) (w : World) (K : PySem.W.Frag) (mg : Str → Option Value) (base : Heap) (C : Addr) (k : Nat) (ws : List (List Nat)) (f : Addr) (fd : FuncData) : Prop where
  G : FnOk P w K mg base CX0 k f fd ["self"] (spW RA C ws)
  b : Binds K fd ["self"] []
  fi : PySem.W.fnIn K f = true
  ft : PySem.W.typeIn K (.ref f) = some (.type "function")
structure SupT (P : Program) (K : PySem.W.Frag) (mg : Str → Option Value) : Prop where
  th : PySem.W.nsIn K cStatics "thirdparty.any" = some none
  sn : mg "super" = none
  top : (P.main.scope.names.lookup ("super" : Str)).isSome = false
section
variable {C D f2 : Addr} {fd2 : FuncData} {k : Nat} {ws : List (List Nat)}
theorem up_Read (F : Sf P K "words" "Read.words" s_Read_words D) (T : SupT P K mg) (hwl : ws.length ≤ 100) (hm : PySem.W.mroIn K C (.ref D) = some true) (hs : PySem.W.ks_superIn K C D "words" = some (some (.ref f2))) (fi : PySem.W.fnIn K F.f = true) (ft : PySem.W.typeIn K (.ref F.f) = some (.type "function")) (U : Up P w K mg base C k ws f2 fd2) : Up P w K mg base C (k + 1) (ws ++ [[114, 101, 97, 100]]) F.f F.fd :=
  ⟨sup_ok (z := [114, 101, 97, 100]) F rfl (by decide +kernel) (by decide) hwl rfl rfl hm hs T.th U.fi U.ft T.sn T.top U.G U.b RA.ins (fun _ => ⟨_, rfl⟩), F.binds fun _ _ _ _ _ _ _ us hl => match us, hl with | [_], _ => rfl, fi, ft⟩
theorem up_Fresh (F : Sf P K "words" "Fresh.words" s_Fresh_words D) (T : SupT P K mg) (hwl : ws.length ≤ 100) (hm : PySem.W.mroIn K C (.ref D) = some true) (hs : PySem.W.ks_superIn K C D "words" = some (some (.ref f2))) (fi : PySem.W.fnIn K F.f = true) (ft : PySem.W.typeIn K (.ref F.f) = some (.type "function")) (U : Up P w K mg base C k ws f2 fd2) : Up P w K mg base C (k + 1) (ws ++ [[102, 114, 101, 115, 104]]) F.f F.fd :=
  ⟨sup_ok (z := [102, 114, 101, 115, 104]) F rfl (by decide +kernel) (by decide) hwl rfl rfl hm hs T.th U.fi U.ft T.sn T.top U.G U.b RA.ins (fun _ => ⟨_, rfl⟩), F.binds fun _ _ _ _ _ _ _ us hl => match us, hl with | [_], _ => rfl, fi, ft⟩
theorem up_Made (F : Sf P K "words" "Made.words" s_Made_words D) (T : SupT P K mg) (hwl : ws.length ≤ 100) (hm : PySem.W.mroIn K C (.ref D) = some true) (hs : PySem.W.ks_superIn K C D "words" = some (some (.ref f2))) (fi : PySem.W.fnIn K F.f = true) (ft : PySem.W.typeIn K (.ref F.f) = some (.type "function")) (U : Up P w K mg base C k ws f2 fd2) : Up P w K mg base C (k + 1) (ws ++ [[109, 97, 100, 101]]) F.f F.fd :=
  ⟨sup_ok (z := [109, 97, 100, 101]) F rfl (by decide +kernel) (by decide) hwl rfl rfl hm hs T.th U.fi U.ft T.sn T.top U.G U.b RA.ins (fun _ => ⟨_, rfl⟩), F.binds fun _ _ _ _ _ _ _ us hl => match us, hl with | [_], _ => rfl, fi, ft⟩
end
/-- what a role of the mode m says besides its group -/
def wordsOf : Nat → List (List Nat)
  | 0 => [[114, 101, 97, 100]]
  | 1 => [[109, 97, 100, 101]]
  | 2 => [[102, 114, 101, 115, 104]]
  | 3 => [[109, 97, 100, 101], [114, 101, 97, 100]]
  | 4 => [[102, 114, 101, 115, 104], [114, 101, 97, 100]]
  | _ => []
def TellsW (P : Program) (w : World) (K : PySem.W.Frag) (mg : Str → Option Value) (base : Heap) (C : Addr) (ws : List (List Nat)) : Prop := ∃ (f : Addr) (fd : FuncData), Meth K C "words" f ∧ Binds K fd ["self"] [] ∧ FnOk P w K mg base CX0 3 f fd ["self"] (spW RA C ws)
theorem ok_S {l : List Nat} (h : Nm l) : okV (.str (S l)) = true := by
  show l.toArray.all (· < 0x110000) = true
  rw [List.all_toArray]
  exact List.all_eq_true.mpr fun c hc => decide_eq_true (by have := h.2.2 c hc; omega)
/-! ### what the law says of a role -/
def markOf : Nat → List Nat
  | 0 => [114]
  | 1 => [109]
  | 2 => [102]
  | 3 => [114, 109]
  | 4 => [114, 102]
  | _ => []
theorem Six.mark {mI : Addr} (c : Six K mg mI) (m : Nat) : ∃ u, Con K (c.C m) "MARK" (.str (S (markOf m))) u := match m with
  | 0 => ⟨_, c.e.mark⟩
  | 1 => ⟨_, c.m.mark⟩
  | 2 => ⟨_, c.f.mark⟩
  | 3 => ⟨_, c.b.mark⟩
  | 4 => ⟨_, c.w.mark⟩
  | _ + 5 => ⟨_, c.r.mark⟩
def spIs (C : Nat → Addr) : Sp := fun vs H Q _ => ∃ (p : Addr) (n g : List Nat) (m : Nat), vs = [.ref p, .str (S n), .str (S g), .int (m : Nat)] ∧ m < 6 ∧ Nm n ∧ Nm g ∧ RoleAt (C m) H p n g ∧ ∀ H', Same H H' → Q (.bl true) H'
abbrev s_law_is : Stmt := top 26
theorem sc_law_is : FnScope ["_law_role_here", "_law_name", "_law_group", "_law_mode", "_law_words", "_law_told", "_law_reads_here", "_law_made", "_law_fresh"] ["_law_role_here", "_law_name", "_law_group", "_law_mode"] (defScope s_law_is) := ⟨rfl, rfl, rfl, by decide +kernel, rfl, by decide +kernel, by decide +kernel⟩
abbrev DIs (K : PySem.W.Frag) (mg : Str → Option Value) := Df K mg "_law_is" "_law_is" s_law_is ["_law_role_here", "_law_name", "_law_group", "_law_mode"]
abbrev DLr (K : PySem.W.Frag) (mg : Str → Option Value) := Df K mg "_law_reads" "_law_reads" s_law_reads ["_law_mode"]
abbrev DLd (K : PySem.W.Frag) (mg : Str → Option Value) := Df K mg "_law_derived" "_law_derived" s_law_derived ["_law_mode"]
theorem ok_is {mI : Addr} (d : DIs K mg) (dLr : DLr K mg) (dLd : DLd K mg) (dFl : DFl K mg) (dCl : DCl K mg) (c : Six K mg mI) (ks : Kits c) (T : Bt mg) (t1 : ∀ m, m < 6 → Tells P w K mg base (c.C m) "reads" (.bl (rdB m))) (t2 : ∀ m, m < 6 → Tells P w K mg base (c.C m) "makes" (.bl (mkB m))) (t3 : ∀ m, m < 6 → Tells P w K mg base (c.C m) "derived" (.bl (dvB m)))
    (tw : ∀ m, m < 6 → TellsW P w K mg base (c.C m) (wordsOf m)) : FnOk P w K mg base CX0 4 d.f d.fd ["_law_role_here", "_law_name", "_law_group", "_law_mode"] (spIs c.C) := by
  have GLr : FnOk P w K mg base CX0 1 dLr.f dLr.fd _ spLr := ok_lr dLr.F
  have GLd : FnOk P w K mg base CX0 1 dLd.f dLd.fd _ spLd := ok_ld dLd.F
  have GFl : FnOk P w K mg base CX0 2 dFl.f dFl.fd _ (spList c.C flagL) := ok_flags dFl c T t1 t2 t3
  have GCl : FnOk P w K mg base CX0 1 dCl.f dCl.fd _ (spList c.C clsL) := ok_classes dCl c ks T
  refine d.F.ok sc_law_is (fun vs H Q E h => ?_) (fun cdv A outer s H vs Q E hr h => ?_)
  · obtain ⟨p, n, g, m, rfl, _⟩ := h
    rfl
  · obtain ⟨p, n, g, m, rfl, hm, hn, hg, ⟨dx, hp⟩, k⟩ := h
    have hu := hr.units
    have hr3 : Room 3 _ := hr
    have hr2 : Room 2 _ := hr.mono (by decide)
    have hr1 : Room 1 _ := hr.mono (by decide)
    obtain ⟨fW, fdW, mW, bW, GW⟩ := tw m hm
    refine ⟨_, (pss_cons (ps_set (i := 4) sc_law_is.nd rfl (Or.inl rfl) (pe_lst (pa_cons (pv 2) pa_nil)))
  (pss_cons (ps_if (PW.pt (pw_or (pt_cmpR (keq K hu) (pv 3) pe_int (nomark _)) (pw_or1 (pt_cmpR (keq K hu) (pv 3) pe_int (nomark _))))) (pss_one (ps_expr (kapp K (pv 4) (pa_cons (pe_lit [109, 97, 100, 101] (by decide +kernel)) pa_nil))))
  pss_nil)
  (pss_cons (ps_if (PW.pt (pw_or (pt_cmpR (keq K hu) (pv 3) pe_int (nomark _)) (pw_or1 (pt_cmpR (keq K hu) (pv 3) pe_int (nomark _))))) (pss_one (ps_expr (kapp K (pv 4) (pa_cons (pe_lit [102, 114, 101, 115, 104] (by decide +kernel)) pa_nil))))
  pss_nil)
  (pss_cons (ps_if (PW.pt (pw_and (pt_cmpR op_ltA (pv 3) pe_int (nomark _)) (pw_and1 (pt_val (pe_cf dLr GLr hr1 pass0 (pa_cons (pv 3) pa_nil)))))) (pss_one (ps_expr (kapp K (pv 4) (pa_cons (pe_lit [114, 101, 97, 100] (by decide +kernel)) pa_nil))))
  pss_nil)
  (pss_cons (ps_set (i := 5) sc_law_is.nd rfl (Or.inl rfl) (pe_m0g (pv 0) (c.cl m) mW GW hr3 pass0 bW))
  (pss_cons (ps_if (PW.pt (pw_or (pt_not (pt_val (pe_callB (kisi K) (by rfl) T.isinstance (by decide +kernel) (pa_cons (pv 5) (pa_cons (pe_bltn (v := .ty "list") (by rfl) T.list (by decide +kernel) rfl) pa_nil))))) (pw_or1 (pt_cmpR (kne K hu) (pv 5) (pv 4) (nomark _))))) (pss_one (ps_ret pe_bl))
  pss_nil)
  (pss_cons (ps_expr (kapp K (pv 5) (pa_cons (pe_lit [109, 111, 114, 101] (by decide +kernel)) pa_nil)))
  (pss_cons (ps_if (PW.pt (pw_or (pt_cmpR (kne K hu) (pe_m0g (pv 0) (c.cl m) mW GW hr3 pass0 bW) (pv 4) (nomark _)) (pw_or (pt_cmpR (kne K hu) (kfld K (pv 0)) (pv 1) (nomark _)) (pw_or1 (pt_cmpR (kne K hu) (kfld K (pv 0)) (pv 2) (nomark _)))))) (pss_one (ps_ret pe_bl))
  pss_nil)
  (pss_cons (ps_if (pt_cmpR (kne K hu) (kcon K (pv 0)) (pe_ix (kix K) (pe_lst (pa_cons (pe_lit [114] (by decide +kernel)) (pa_cons (pe_lit [109] (by decide +kernel)) (pa_cons (pe_lit [102] (by decide +kernel)) (pa_cons (pe_lit [114, 109] (by decide +kernel)) (pa_cons (pe_lit [114, 102] (by decide +kernel)) (pa_cons (pe_lit [] (by decide +kernel)) pa_nil))))))) (pv 3) (fun _ _ => rfl)) (nomark _)) (pss_one (ps_ret pe_bl))
  pss_nil)
  (pss_cons (ps_set (i := 6) sc_law_is.nd rfl (Or.inl rfl) (pe_and (pe_cmpR op_ltA (pv 3) pe_int (nomark _)) (pe_one (pe_cf dLr GLr hr1 pass0 (pa_cons (pv 3) pa_nil)))))
  (pss_cons (ps_if (pt_cmpR (kne K hu) (pe_cf dFl GFl hr2 pass0 (pa_cons (pv 0) pa_nil)) (pe_lst (pa_cons (pv 6) (pa_cons (pe_chain op_ltA op_ltA pe_int (pv 3) pe_int) (pa_cons (pe_cf dLd GLd hr1 pass0 (pa_cons (pv 3) pa_nil)) pa_nil)))) (nomark _)) (pss_one (ps_ret pe_bl))
  pss_nil)
  (pss_cons (ps_set (i := 7) sc_law_is.nd rfl (Or.inl rfl) (pe_or (pe_cmpR (keq K hu) (pv 3) pe_int (nomark _)) (pe_one (pe_cmpR (keq K hu) (pv 3) pe_int (nomark _)))))
  (pss_cons (ps_set (i := 8) sc_law_is.nd rfl (Or.inl rfl) (pe_or (pe_cmpR (keq K hu) (pv 3) pe_int (nomark _)) (pe_one (pe_cmpR (keq K hu) (pv 3) pe_int (nomark _)))))
  (pss_one (ps_ret (pe_cmpR (keq K hu) (pe_cf dCl GCl hr1 pass0 (pa_cons (pv 0) pa_nil)) (pe_lst (pa_cons pe_bl (pa_cons (pv 6) (pa_cons (pv 7) (pa_cons (pv 8) (pa_cons (pe_cmpR (keq K hu) (pv 3) pe_int (nomark _)) (pa_cons (pe_cmpR (keq K hu) (pv 3) pe_int (nomark _)) pa_nil))))))) (nomark _))))))))))))))))), ?_⟩
    refine Rd.start_ (σ' := [some (.ref p), some (.str (S n)), some (.str (S g)), some (.int m), none, none, none, none, none]) rfl ?_
    walk_at "rd"
    refine ⟨by show 1 ≤ sizeLine; decide, fun l1 h1 => ?_⟩
    have okn : okV (.str (S n)) = true := ok_S hn
    have okg : okV (.str (S g)) = true := ok_S hg
    have hm' : m = 0 ∨ m = 1 ∨ m = 2 ∨ m = 3 ∨ m = 4 ∨ m = 5 := by omega
    have hp1 : upd H l1 (.lst [.str (S g)]) p = some (.ins (c.C m) dx (flds n g)) := by rw [upd_ne (ne_of_none hp h1)]; exact hp
    have np1 : p ≠ l1 := ne_of_none hp h1
    have s1 : ∀ o, Same H (upd H l1 o) := fun o => same_new h1
    obtain ⟨u, hmark⟩ := c.mark m
    have cl := c.cl m
    have nN := c.nN m
    have nG := c.nG m
    have hall : (flagL m).all okV = true := rfl
    have hall2 : (clsL m).all okV = true := rfl
    have okw : (V.str (S g) :: (wordsOf m).map fun z => V.str (S z)).all okV = true := by
      rw [List.all_cons, okg, Bool.true_and]
      rcases hm' with rfl | rfl | rfl | rfl | rfl | rfl <;> decide +kernel
    have hlen : (V.str (S g) :: (wordsOf m).map fun z => V.str (S z)).length < sizeLine := by
      have q : sizeLine = 16777216 := sizeLine_eq
      rw [q, List.length_cons, List.length_map]
      rcases hm' with rfl | rfl | rfl | rfl | rfl | rfl <;> decide
    rcases hm' with rfl | rfl | rfl | rfl | rfl | rfl
    all_goals
      walk_at "rd"
      try (refine lr_go (by decide) ?_; walk_at "rd")
      refine ⟨p, dx, _, rfl, (by simp only [upd_ne np1]; exact hp), flds_no _ _ (by decide +kernel) (by decide +kernel), ?_⟩
      walk_at "rd"
      refine ⟨p, g, rfl, ⟨n, dx, (by simp only [upd_ne np1]; exact hp)⟩, fun l2 H2 f2 s2 h2 => ?_⟩
      have w2 := s2 l1 _ upd_same
      have s02 : Same H H2 := fun a o e => s2 a o (by have na : a ≠ l1 := ne_of_none e h1; simp only [upd_ne na]; exact e)
      have p2 := s02 p _ hp
      have np2 : p ≠ l2 := ne_of p2 h2 (by intro e; cases e)
      have n12 : l1 ≠ l2 := ne_of_none upd_same f2
      have n2 : H l2 = none := by
        have n21 : l2 ≠ l1 := Ne.symm n12
        simp only [upd_ne n21] at f2
        exact f2
      walk_at "rd"
      refine Rd.isi (.ty _) (.base (.lst h2)) (kit_ty (r := true) (by decide +kernel)) ?_
      walk_at "rd"
      refine Rd.neLs (SqL.of h2) (SqL.of w2) okw ?_
      walk_at "rd"
      refine ⟨p, dx, _, rfl, (by rw [upd_ne np2]; exact p2), flds_no _ _ (by decide +kernel) (by decide +kernel), ?_⟩
      walk_at "rd"
      refine ⟨p, g, rfl, ⟨n, dx, by rw [upd_ne np2]; exact p2⟩, fun l3 H3 f3 s3 h3 => ?_⟩
      have w3 := s3 l1 _ (by rw [upd_ne n12]; exact w2)
      have s03 : Same H H3 := fun a o e => s3 a o (by rw [upd_ne (ne_of_none e n2)]; exact s02 a o e)
      have p3 := s03 p _ hp
      walk_at "rd"
      refine Rd.neLs (SqL.of h3) (SqL.of w3) okw ?_
      walk_at "rd"
      refine ⟨p, _, dx, _, _, rfl, p3, cl, nN, flds_name _ _, ?_⟩
      walk_at "rd"
      refine Rd.iteNDT rfl ?_
      walk_at "rd"
      refine ⟨p, _, dx, _, _, rfl, p3, cl, nG, flds_group _ _, ?_⟩
      walk_at "rd"
      refine Rd.iteNDT rfl ?_
      walk_at "rd"
      refine ⟨p, _, dx, _, _, u, rfl, p3, cl, hmark, flds_no _ _ (by decide +kernel) (by decide +kernel), ?_⟩
      walk_at "rd"
      refine ⟨by show 6 ≤ sizeLine; decide, fun l4 h4 => ?_⟩
      walk_at "rd"
      try (refine lr_go (by decide) ?_; walk_at "rd")
      have p4 := same_new (o := .lst [V.str (S [114]), V.str (S [109]), V.str (S [102]), V.str (S [114, 109]), V.str (S [114, 102]), V.str (S [])]) h4 p _ p3
      refine ⟨p, n, g, _, rfl, hm, ⟨dx, p4⟩, fun l5 H5 s5 h5 => ?_⟩
      walk_at "rd"
      refine ld_go (by decide) ?_
      walk_at "rd"
      refine ⟨by show 3 ≤ sizeLine; decide, fun l6 h6 => ?_⟩
      refine Rd.neLs (SqL.of (by rw [upd_ne (ne_of_none h5 h6)]; exact h5)) (SqL.of upd_same) hall ?_
      walk_at "rd"
      refine ⟨p, n, g, _, rfl, hm, ⟨dx, same_new h6 p _ (s5 p _ p4)⟩, fun l7 H7 s7 h7 => ?_⟩
      walk_at "rd"
      refine ⟨by show 6 ≤ sizeLine; decide, fun l8 h8 => ?_⟩
      refine Rd.eqLs (SqL.of (by rw [upd_ne (ne_of_none h7 h8)]; exact h7)) (SqL.of upd_same) hall2 ?_
      exact k _ (((((s03.trans (same_new h4)).trans s5).trans (same_new h6)).trans s7).trans (same_new h8))

end
section
variable {P : Program} {w : World} {K : PySem.W.Frag} {mg : Str → Option Value} {base : Heap} {tk : Tok}
/-! ### imaged, of each class; the law -/
def imOf : Nat → Nat
  | 1 => 2
  | 3 => 4
  | n => n
def spIm (C : Nat → Addr) (m : Nat) : Sp := fun vs H Q _ => ∃ (p : Addr) (n g : List Nat), vs = [.ref p] ∧ RoleAt (C m) H p n g ∧ Nm n ∧ Nm g ∧ ∀ x H', Same H H' → RoleAt (C (imOf m)) H' x n g → Q (.ref x) H'
def TellsI (P : Program) (w : World) (K : PySem.W.Frag) (mg : Str → Option Value) (base : Heap) (C : Nat → Addr) (m : Nat) : Prop := ∃ (f : Addr) (fd : FuncData), Meth K (C m) "imaged" f ∧ Binds K fd ["self"] [] ∧ FnOk P w K mg base CX0 6 f fd ["self"] (spIm C m)
theorem im_self {C : Nat → Addr} {m k : Nat} {f : Addr} {fd : FuncData} (hk : k ≤ 6) (hm : imOf m = m) (G : FnOk P w K mg base CX0 k f fd ["self"] spSelf) : FnOk P w K mg base CX0 6 f fd ["self"] (spIm C m) :=
  (G.mono hk).imp fun vs H Q E ⟨p, n, g, hv, hr, hn, hg, q⟩ => ⟨p, hv, q p H (Same.refl H) (by rw [hm]; exact hr)⟩
theorem im_new {C : Nat → Addr} {m : Nat} {D f : Addr} {fd : FuncData} (cl : Cls K (C m)) (nN : NoAttr K (C m) "name") (nG : NoAttr K (C m) "group") (hm : C (imOf m) = D) (G : FnOk P w K mg base CX0 6 f fd ["self"] (spImg K (C m) D)) : FnOk P w K mg base CX0 6 f fd ["self"] (spIm C m) :=
  G.imp fun vs H Q E ⟨p, n, g, hv, hr, hn, hg, q⟩ => ⟨p, n, g, hv, cl, nN, nG, hr, hn, hg, fun x H' s r => q x H' s (by rw [hm]; exact r)⟩
theorem at_names {ns : List (List Nat)} {r : Int} (h0 : 0 ≤ r) (h1 : r < ns.length) : ∃ l ∈ ns, atI (ns.map fun l => V.str (S l)) r = some (.str (S l)) := by
  have hlt : r.toNat < ns.length := by omega
  have e : r = ((r.toNat : Nat) : Int) := by omega
  exact ⟨ns[r.toNat], List.getElem_mem hlt, (congrArg (atI _) e).trans (atI_nat (by simp [hlt]))⟩
def spLaw (K : PySem.W.Frag) : Sp := fun vs H Q _ => ∃ (a : Addr) (ns : List Int), vs = [.ref a] ∧ SqL K H a (ns.map V.int) ∧ ns.length ≤ 63 ∧ ∀ H', Q (.bl true) H'
abbrev s_law : Stmt := top 27
theorem sc_law : FnScope ["_law_script", "_law_pool_here", "_law_names_here", "_law_name", "_law_group", "_law_mode", "_law_role_here", "_law_bad", "_law_other"] ["_law_script"] (defScope s_law) := ⟨rfl, rfl, rfl, by decide +kernel, rfl, by decide +kernel, by decide +kernel⟩
abbrev DPool (K : PySem.W.Frag) (mg : Str → Option Value) := Df K mg "_law_pool" "_law_pool" s_law_pool ["_law_script", "_law_k"]
abbrev DDraw (K : PySem.W.Frag) (mg : Str → Option Value) := Df K mg "_law_draw" "_law_draw" s_law_draw ["_law_pool_here", "_law_many"]
abbrev DWord (K : PySem.W.Frag) (mg : Str → Option Value) := Df K mg "_law_word" "_law_word" s_law_word ["_law_numbers"]
abbrev DNames (K : PySem.W.Frag) (mg : Str → Option Value) := Df K mg "_law_names" "_law_names" s_law_names ["_law_pool_here"]
abbrev DBad (K : PySem.W.Frag) (mg : Str → Option Value) := Df K mg "_law_bad_name" "_law_bad_name" s_law_bad_name ["_law_pool_here", "_law_name"]
theorem ok_law {f : Addr} {fd : FuncData} {mI : Addr} (F : Fun K "law" "law" s_law f fd) (T : Bt mg) (dP : DPool K mg) (dD : DDraw K mg) (dN : DNames K mg) (dA : DAny K mg) (dI : DIs K mg) (dB : DBad K mg) (dE : DEr K mg) (c : Six K mg mI) {eC : Addr}
    (GP : FnOk P w K mg base CX0 1 dP.f dP.fd ["_law_script", "_law_k"] (spPool K)) (GD : FnOk P w K mg base CX0 1 dD.f dD.fd ["_law_pool_here", "_law_many"] spDraw) (GN : FnOk P w K mg base CX0 2 dN.f dN.fd ["_law_pool_here"] spNames)
    (GA : FnOk P w K mg base (L2.CX P w) 7 dA.f dA.fd ["_law_name", "_law_group", "_law_mode"] (spRole eC c.C 6)) (GI : FnOk P w K mg base CX0 4 dI.f dI.fd ["_law_role_here", "_law_name", "_law_group", "_law_mode"] (spIs c.C)) (GB : FnOk P w K mg base CX0 2 dB.f dB.fd ["_law_pool_here", "_law_name"] spBad)
    (GE : FnOk P w K mg base CX0 8 dE.f dE.fd ["_law_name", "_law_group", "_law_mode"] spError) (ti : ∀ m, m < 6 → TellsI P w K mg base c.C m) : FnOk P w K mg base CX0 9 f fd ["_law_script"] (spLaw K) := by
  refine F.ok sc_law (fun vs H Q E h => ?_) (fun cdv A outer s H vs Q E hr h => ?_)
  · obtain ⟨a, ns, rfl, _⟩ := h
    rfl
  · obtain ⟨a, ns, rfl, hS, hl, k⟩ := h
    have hu := hr.units
    have hr7 : Room 7 _ := hr.mono (by decide)
    have hr6 : Room 6 _ := hr.mono (by decide)
    have hr4 : Room 4 _ := hr.mono (by decide)
    have hr2 : Room 2 _ := hr.mono (by decide)
    have hr1 : Room 1 _ := hr.mono (by decide)
    refine ⟨_, (pss_cons (ps_set (i := 1) sc_law.nd rfl (Or.inl rfl) (pe_cf dP GP hr1 pass0 (pa_cons (pv 0) (pa_cons pe_int pa_nil))))
  (pss_cons (ps_set (i := 2) sc_law.nd rfl (Or.inl rfl) (pe_cf dN GN hr2 pass0 (pa_cons (pv 1) pa_nil)))
  (pss_cons (ps_set (i := 3) sc_law.nd rfl (Or.inl rfl) (pe_ix (kix K) (pv 2) (pe_cf dD GD hr1 pass0 (pa_cons (pv 1) (pa_cons pe_int pa_nil))) (fun _ _ => rfl)))
  (pss_cons (ps_set (i := 4) sc_law.nd rfl (Or.inl rfl) (pe_ix (kix K) (pv 2) (pe_cf dD GD hr1 pass0 (pa_cons (pv 1) (pa_cons pe_int pa_nil))) (fun _ _ => rfl)))
  (pss_cons (ps_for PassesOwn.never rfl (pi_range1 rfl T.range (pa_cons pe_int pa_nil)) (pg_name (i := 5) sc_law.nd rfl (Or.inl rfl))
  (pss_cons (ps_set (i := 6) sc_law.nd rfl (Or.inl rfl) (pe_cf dA GA hr7 passL (pa_cons (pv 3) (pa_cons (pv 4) (pa_cons (pv 5) pa_nil)))))
  (pss_cons (ps_if (pt_not (pt_val (pe_cf dI GI hr4 pass0 (pa_cons (pv 6) (pa_cons (pv 3) (pa_cons (pv 4) (pa_cons (pv 5) pa_nil))))))) (pss_one (ps_ret pe_bl))
  pss_nil)
  (pss_cons (ps_if (pt_not (pt_val (pe_cf dI GI hr4 pass0 (pa_cons (pe_altN (n := 6) (t := fun m => tMeth (c.C m) "imaged" (spIm c.C m) [] E0 (tVar 6) tNil) fun m hm => by obtain ⟨fi, fdi, hM, hB, hG⟩ := ti m hm; exact pe_m0g (pv 6) (c.cl m) hM hG hr6 pass0 hB) (pa_cons (pv 3) (pa_cons (pv 4) (pa_cons (pe_ix (kix K) (pe_lst (pa_cons pe_int (pa_cons pe_int (pa_cons pe_int (pa_cons pe_int (pa_cons pe_int (pa_cons pe_int pa_nil))))))) (pv 5) (fun _ _ => rfl)) pa_nil))))))) (pss_one (ps_ret pe_bl))
  pss_nil)
  (pss_one (ps_if (pt_not (pt_val (pe_cf dI GI hr4 pass0 (pa_cons (pv 6) (pa_cons (pv 3) (pa_cons (pv 4) (pa_cons (pv 5) pa_nil))))))) (pss_one (ps_ret pe_bl))
  pss_nil))))))
  (pss_cons (ps_set (i := 7) sc_law.nd rfl (Or.inl rfl) (pe_cf dB GB hr2 pass0 (pa_cons (pv 1) (pa_cons (pv 3) pa_nil))))
  (pss_cons (ps_set (i := 8) sc_law.nd rfl (Or.inl rfl) (pe_cf dB GB hr2 pass0 (pa_cons (pv 1) (pa_cons (pv 4) pa_nil))))
  (pss_cons (ps_for PassesOwn.never rfl (pi_range1 rfl T.range (pa_cons pe_int pa_nil)) (pg_name (i := 5) sc_law.nd rfl (Or.inl rfl))
  (pss_cons (ps_if (pt_cmpR (kne K hu) (pe_cf dE GE hr pass0 (pa_cons (pv 7) (pa_cons (pv 4) (pa_cons (pv 5) pa_nil)))) (pe_tup (pa_cons (pv 7) pa_nil)) (nomark _)) (pss_one (ps_ret pe_bl))
  pss_nil)
  (pss_cons (ps_if (pt_cmpR (kne K hu) (pe_cf dE GE hr pass0 (pa_cons (pv 3) (pa_cons (pv 8) (pa_cons (pv 5) pa_nil)))) (pe_tup (pa_cons (pv 8) pa_nil)) (nomark _)) (pss_one (ps_ret pe_bl))
  pss_nil)
  (pss_one (ps_if (pt_cmpR (kne K hu) (pe_cf dE GE hr pass0 (pa_cons (pv 7) (pa_cons (pv 8) (pa_cons (pv 5) pa_nil)))) (pe_tup (pa_cons (pv 7) pa_nil)) (nomark _)) (pss_one (ps_ret pe_bl))
  pss_nil)))))
  (pss_one (ps_ret pe_bl)))))))))), ?_⟩
    refine Rd.start_ (σ' := [some (.ref a), none, none, none, none, none, none, none, none]) rfl ?_
    walk_at "rd"
    refine ⟨a, ns, 0, rfl, hS, hl, by decide, by decide, fun p H1 hp0 s1 p1 => ?_⟩
    walk_at "rd"
    refine ⟨p, rfl, p1, fun xs q H2 hx8 hxN hxD hq0 s2 p2 hq => ?_⟩
    have npq : p ≠ q := pool_ne p1 hq0
    walk_at "rd"
    refine ⟨_, _, rfl, by decide, by decide, p2, fun r H3 r0 r1 e3 p3 => ?_⟩
    obtain ⟨n, hn, an⟩ := at_names (ns := xs) r0 (by rw [hx8]; exact r1)
    refine Rd.ixL (SqL.of (by rw [e3 q (Ne.symm npq)]; exact hq)) an ?_
    walk_at "rd"
    refine ⟨_, _, rfl, by decide, by decide, p3, fun r' H4 r0' r1' e4 p4 => ?_⟩
    obtain ⟨g, hg, ag⟩ := at_names (ns := xs) r0' (by rw [hx8]; exact r1')
    refine Rd.ixL (SqL.of (by rw [e4 q (Ne.symm npq), e3 q (Ne.symm npq)]; exact hq)) ag ?_
    have nmN := hxN n hn
    have nmG := hxN g hg
    have ln : n.length ≤ 100 := by have := nmN.2.1; omega
    have lg : g.length ≤ 100 := by have := nmG.2.1; omega
    walk_at "rd"
    refine Rd.foW Rd.wRange (fun i σ H' => ∃ b d : Option V, σ = [some (.ref a), some (.ref p), some (.ref q), some (.str (S n)), some (.str (S g)), b, d, none, none] ∧ Same H4 H') ⟨none, none, rfl, Same.refl _⟩ (fun _ _ _ _ _ => trivial) ?_ ?_
    · rintro i x σ H5 hi hx ⟨b, d, rfl, s5⟩
      rw [Int.zero_add] at hx
      subst hx
      have hi6 : i < 6 := hi
      dsimp only [List.set]
      walk_at "rd"
      refine ⟨n, g, i, rfl, hi6, ln, lg, fun _ _ x H6 _ s6 rx => ?_, fun z => absurd nmN z, fun _ z => absurd nmG z⟩
      walk_at "rd"
      refine ⟨x, n, g, i, rfl, hi6, nmN, nmG, rx, fun H7 s7 => ?_⟩
      walk_at "rd"
      obtain ⟨dx, rx7⟩ := rx.mono s7
      refine Rd.alt hi6 ?_
      walk_at "rd"
      refine ⟨x, dx, _, rfl, rx7, flds_no _ _ (by decide +kernel) (by decide +kernel), ?_⟩
      walk_at "rd"
      refine ⟨x, n, g, rfl, ⟨dx, rx7⟩, nmN, nmG, fun y H8 s8 ry => ?_⟩
      walk_at "rd"
      refine ⟨by show 6 ≤ sizeLine; decide, fun l hl => ?_⟩
      have him : imOf i < 6 := by
        have : i = 0 ∨ i = 1 ∨ i = 2 ∨ i = 3 ∨ i = 4 ∨ i = 5 := by omega
        rcases this with rfl | rfl | rfl | rfl | rfl | rfl <;> decide
      have hix : atI ([.int 0, .int 2, .int 2, .int 4, .int 4, .int 5] : List V) (i : Int) = some (.int (imOf i : Nat)) := by
        have : i = 0 ∨ i = 1 ∨ i = 2 ∨ i = 3 ∨ i = 4 ∨ i = 5 := by omega
        rcases this with rfl | rfl | rfl | rfl | rfl | rfl <;> rfl
      walk_at "rd"
      refine ⟨y, n, g, imOf i, rfl, him, nmN, nmG, ry.mono (same_new hl), fun H9 s9 => ?_⟩
      walk_at "rd"
      have rx9 : RoleAt (c.C i) H9 x n g := ⟨dx, s9 _ _ (same_new hl _ _ (s8 _ _ rx7))⟩
      refine ⟨x, n, g, i, rfl, hi6, nmN, nmG, rx9, fun H10 s10 => ?_⟩
      walk_at "rd"
      exact ⟨_, _, rfl, (((((s5.trans s6).trans s7).trans s8).trans (same_new hl)).trans s9).trans s10⟩
    · rintro σ H5 ⟨b, d, rfl, s5⟩
      have p5 := pool_of p4 s5
      walk_at "rd"
      refine ⟨p, n, rfl, nmN, p5, fun z H6 bz oz s6 p6 => ?_⟩
      walk_at "rd"
      refine ⟨p, g, rfl, nmG, p6, fun z' H7 bz' oz' s7 p7 => ?_⟩
      have okz : okV (.str (S z)) = true := by
        show z.toArray.all (· < 0x110000) = true
        rw [List.all_toArray]
        exact List.all_eq_true.mpr fun c hc => decide_eq_true (by have := oz c hc; omega)
      have okz' : okV (.str (S z')) = true := by
        show z'.toArray.all (· < 0x110000) = true
        rw [List.all_toArray]
        exact List.all_eq_true.mpr fun c hc => decide_eq_true (by have := oz' c hc; omega)
      have okl : ([V.str (S z)] : List V).all okV = true := by rw [List.all_cons, okz]; rfl
      have okl' : ([V.str (S z')] : List V).all okV = true := by rw [List.all_cons, okz']; rfl
      have lz : z.length ≤ 100 := by have := bz.2; omega
      have lz' : z'.length ≤ 100 := by have := bz'.2; omega
      walk_at "rd"
      refine Rd.foW Rd.wRange (fun i σ H' => ∃ b d : Option V, σ = [some (.ref a), some (.ref p), some (.ref q), some (.str (S n)), some (.str (S g)), b, d, some (.str (S z)), some (.str (S z'))]) ⟨_, _, rfl⟩ (fun _ _ _ _ _ => trivial) ?_ ?_
      · rintro i x σ H8 hi hx ⟨b, d, rfl⟩
        rw [Int.zero_add] at hx
        subst hx
        have hi6 : i < 6 := hi
        dsimp only [List.set]
        walk_at "rd"
        refine ⟨z, g, z, i, rfl, hi6, lz, lg, .inl ⟨bz.1, rfl⟩, fun l H9 s9 h9 => ?_⟩
        walk_at "rd"
        refine ⟨by show 1 ≤ sizeLine; decide, fun l' hl' => ?_⟩
        refine Rd.neTs (SqT.of (by rw [upd_ne (ne_of_none h9 hl')]; exact h9)) (SqT.of upd_same) okl ?_
        walk_at "rd"
        refine ⟨n, z', z', i, rfl, hi6, ln, lz', .inr ⟨nmN, bz'.1, rfl⟩, fun l1 H10 s10 h10 => ?_⟩
        walk_at "rd"
        refine ⟨by show 1 ≤ sizeLine; decide, fun l2 hl2 => ?_⟩
        refine Rd.neTs (SqT.of (by rw [upd_ne (ne_of_none h10 hl2)]; exact h10)) (SqT.of upd_same) okl' ?_
        walk_at "rd"
        refine ⟨z, z', z, i, rfl, hi6, lz, lz', .inl ⟨bz.1, rfl⟩, fun l3 H11 s11 h11 => ?_⟩
        walk_at "rd"
        refine ⟨by show 1 ≤ sizeLine; decide, fun l4 hl4 => ?_⟩
        refine Rd.neTs (SqT.of (by rw [upd_ne (ne_of_none h11 hl4)]; exact h11)) (SqT.of upd_same) okl ?_
        walk_at "rd"
        exact ⟨_, _, rfl⟩
      · rintro σ H8 ⟨b, d, rfl⟩
        walk_at "rd"
        exact k _

end
section
variable {P : Program} {w : World} {K : PySem.W.Frag} {mg : Str → Option Value} {base : Heap} {tk : Tok}
/-! ### what the top has left -/
theorem fnIn_of {f : Addr} {oc : Value} {od : Option Addr} {fd : FuncData} {sl : Array (Option Value)} (l : K.lookup f = some ⟨oc, od, .func fd, sl⟩) : PySem.W.fnIn K f = true := by
  unfold PySem.W.fnIn; rw [l]
theorem all_mk {P : Program} {w : World} {K : PySem.W.Frag} {h : Heap} {mg : Str → Option Value} {fP fD fW fN fB fR fRo fA fLr fLd fCl fFl fI fErr fInit fRr fRm fRd fEr fFm fMm fMd fRi fMi fBi fRw Cr Ce Cm Cf Cb Cw fEw fFw fMw CEr fBi_ cRE cBK ccEw cdaEw ccFw cdaFw ccMw cdaMw fa fLaw : Addr} (X : K.In h) (G : h.Ns mainGlobals mg) (hfa : mg "law" = some (.ref fa))
    {odP anP : Option Addr} {slP : Array (Option Value)} {ocP kVP dcP pmP cdP ctP : Value}
    {odD anD : Option Addr} {slD : Array (Option Value)} {ocD kVD dcD pmD cdD ctD : Value}
    {odW anW : Option Addr} {slW : Array (Option Value)} {ocW kVW dcW pmW cdW ctW : Value}
    {odN anN : Option Addr} {slN : Array (Option Value)} {ocN kVN dcN pmN cdN ctN : Value}
    {odB anB : Option Addr} {slB : Array (Option Value)} {ocB kVB dcB pmB cdB ctB : Value}
    {odR anR : Option Addr} {slR : Array (Option Value)} {ocR kVR dcR pmR cdR ctR : Value}
    {odRo anRo : Option Addr} {slRo : Array (Option Value)} {ocRo kVRo dcRo pmRo cdRo ctRo : Value}
    {odA anA : Option Addr} {slA : Array (Option Value)} {ocA kVA dcA pmA cdA ctA : Value}
    {odLr anLr : Option Addr} {slLr : Array (Option Value)} {ocLr kVLr dcLr pmLr cdLr ctLr : Value}
    {odLd anLd : Option Addr} {slLd : Array (Option Value)} {ocLd kVLd dcLd pmLd cdLd ctLd : Value}
    {odCl anCl : Option Addr} {slCl : Array (Option Value)} {ocCl kVCl dcCl pmCl cdCl ctCl : Value}
    {odFl anFl : Option Addr} {slFl : Array (Option Value)} {ocFl kVFl dcFl pmFl cdFl ctFl : Value}
    {odI anI : Option Addr} {slI : Array (Option Value)} {ocI kVI dcI pmI cdI ctI : Value}
    {odErr anErr : Option Addr} {slErr : Array (Option Value)} {ocErr kVErr dcErr pmErr cdErr ctErr : Value}
    {odInit anInit : Option Addr} {slInit : Array (Option Value)} {ocInit kVInit dcInit pmInit cdInit ctInit : Value}
    {odRr anRr : Option Addr} {slRr : Array (Option Value)} {ocRr kVRr dcRr pmRr cdRr ctRr : Value}
    {odRm anRm : Option Addr} {slRm : Array (Option Value)} {ocRm kVRm dcRm pmRm cdRm ctRm : Value}
    {odRd anRd : Option Addr} {slRd : Array (Option Value)} {ocRd kVRd dcRd pmRd cdRd ctRd : Value}
    {odEr anEr : Option Addr} {slEr : Array (Option Value)} {ocEr kVEr dcEr pmEr cdEr ctEr : Value}
    {odFm anFm : Option Addr} {slFm : Array (Option Value)} {ocFm kVFm dcFm pmFm cdFm ctFm : Value}
    {odMm anMm : Option Addr} {slMm : Array (Option Value)} {ocMm kVMm dcMm pmMm cdMm ctMm : Value}
    {odMd anMd : Option Addr} {slMd : Array (Option Value)} {ocMd kVMd dcMd pmMd cdMd ctMd : Value}
    {odRi anRi : Option Addr} {slRi : Array (Option Value)} {ocRi kVRi dcRi pmRi cdRi ctRi : Value}
    {odMi anMi : Option Addr} {slMi : Array (Option Value)} {ocMi kVMi dcMi pmMi cdMi ctMi : Value}
    {odBi anBi : Option Addr} {slBi : Array (Option Value)} {ocBi kVBi dcBi pmBi cdBi ctBi : Value}
    {odRw anRw : Option Addr} {slRw : Array (Option Value)} {ocRw kVRw dcRw pmRw cdRw ctRw : Value}
    {xr : Str} {tr : Tok}
    {xe : Str} {te : Tok}
    {xm : Str} {tm : Tok}
    {xf : Str} {tf : Tok}
    {xb : Str} {tb : Tok}
    {xw : Str} {tw : Tok}
    {enm eq : Str} {eN : Addr} {ebs ebm : List Value} {esn : List Str} {esub : List Value} {eab : Bool} {ecol : Option Bool} {edd : Option Addr} {e0 e1 e2 e3 e5 : Option Value}
    {odBi_ anBi_ : Option Addr} {slBi_ : Array (Option Value)} {ocBi_ kVBi_ dcBi_ pmBi_ cdBi_ ctBi_ : Value}
    {tk : Tok}
    {odEw anEw : Option Addr} {slEw : Array (Option Value)} {ocEw kVEw dcEw pmEw ctEw : Value} {cclEw cllEw : Value} {cddEw cldEw : Option Addr} {vsEw : Array Value} {ccsEw cslEw : Array (Option Value)} {fileEw : Str} {tfEw : Tok} {cdDEw : ClassData}
    {odFw anFw : Option Addr} {slFw : Array (Option Value)} {ocFw kVFw dcFw pmFw ctFw : Value} {cclFw cllFw : Value} {cddFw cldFw : Option Addr} {vsFw : Array Value} {ccsFw cslFw : Array (Option Value)} {fileFw : Str} {tfFw : Tok} {cdDFw : ClassData}
    {odMw anMw : Option Addr} {slMw : Array (Option Value)} {ocMw kVMw dcMw pmMw ctMw : Value} {cclMw cllMw : Value} {cddMw cldMw : Option Addr} {vsMw : Array Value} {ccsMw cslMw : Array (Option Value)} {fileMw : Str} {tfMw : Tok} {cdDMw : ClassData}
    {odLaw anLaw : Option Addr} {slLaw : Array (Option Value)} {ocLaw kVLaw dcLaw pmLaw cdLaw ctLaw : Value}
    (aP : PySem.W.nsIn K mainGlobals "_law_pool" = some (some (.ref fP)))
    (lP : K.lookup fP = some ⟨ocP, odP, .func (PySem.W.fnOf "_law_pool" "_law_pool" (defArgs s_law_pool) (defBody s_law_pool) (defScope s_law_pool) .none kVP dcP pmP anP cdP ctP), slP⟩)
    (cP : PySem.W.codeIn K cdP "_law_pool" = true)
    (kP : PySem.W.keepIn K (.ref fP) = true)
    (aD : PySem.W.nsIn K mainGlobals "_law_draw" = some (some (.ref fD)))
    (lD : K.lookup fD = some ⟨ocD, odD, .func (PySem.W.fnOf "_law_draw" "_law_draw" (defArgs s_law_draw) (defBody s_law_draw) (defScope s_law_draw) .none kVD dcD pmD anD cdD ctD), slD⟩)
    (cD : PySem.W.codeIn K cdD "_law_draw" = true)
    (kD : PySem.W.keepIn K (.ref fD) = true)
    (aW : PySem.W.nsIn K mainGlobals "_law_word" = some (some (.ref fW)))
    (lW : K.lookup fW = some ⟨ocW, odW, .func (PySem.W.fnOf "_law_word" "_law_word" (defArgs s_law_word) (defBody s_law_word) (defScope s_law_word) .none kVW dcW pmW anW cdW ctW), slW⟩)
    (cW : PySem.W.codeIn K cdW "_law_word" = true)
    (kW : PySem.W.keepIn K (.ref fW) = true)
    (aN : PySem.W.nsIn K mainGlobals "_law_names" = some (some (.ref fN)))
    (lN : K.lookup fN = some ⟨ocN, odN, .func (PySem.W.fnOf "_law_names" "_law_names" (defArgs s_law_names) (defBody s_law_names) (defScope s_law_names) .none kVN dcN pmN anN cdN ctN), slN⟩)
    (cN : PySem.W.codeIn K cdN "_law_names" = true)
    (kN : PySem.W.keepIn K (.ref fN) = true)
    (aB : PySem.W.nsIn K mainGlobals "_law_bad_name" = some (some (.ref fB)))
    (lB : K.lookup fB = some ⟨ocB, odB, .func (PySem.W.fnOf "_law_bad_name" "_law_bad_name" (defArgs s_law_bad_name) (defBody s_law_bad_name) (defScope s_law_bad_name) .none kVB dcB pmB anB cdB ctB), slB⟩)
    (cB : PySem.W.codeIn K cdB "_law_bad_name" = true)
    (kB : PySem.W.keepIn K (.ref fB) = true)
    (aR : PySem.W.nsIn K mainGlobals "require_name" = some (some (.ref fR)))
    (lR : K.lookup fR = some ⟨ocR, odR, .func (PySem.W.fnOf "require_name" "require_name" (defArgs s_require_name) (defBody s_require_name) (defScope s_require_name) .none kVR dcR pmR anR cdR ctR), slR⟩)
    (cR : PySem.W.codeIn K cdR "require_name" = true)
    (kR : PySem.W.keepIn K (.ref fR) = true)
    (aRo : PySem.W.nsIn K mainGlobals "_law_role" = some (some (.ref fRo)))
    (lRo : K.lookup fRo = some ⟨ocRo, odRo, .func (PySem.W.fnOf "_law_role" "_law_role" (defArgs s_law_role) (defBody s_law_role) (defScope s_law_role) .none kVRo dcRo pmRo anRo cdRo ctRo), slRo⟩)
    (cRo : PySem.W.codeIn K cdRo "_law_role" = true)
    (kRo : PySem.W.keepIn K (.ref fRo) = true)
    (aA : PySem.W.nsIn K mainGlobals "_law_any_role" = some (some (.ref fA)))
    (lA : K.lookup fA = some ⟨ocA, odA, .func (PySem.W.fnOf "_law_any_role" "_law_any_role" (defArgs s_law_any_role) (defBody s_law_any_role) (defScope s_law_any_role) .none kVA dcA pmA anA cdA ctA), slA⟩)
    (cA : PySem.W.codeIn K cdA "_law_any_role" = true)
    (kA : PySem.W.keepIn K (.ref fA) = true)
    (aLr : PySem.W.nsIn K mainGlobals "_law_reads" = some (some (.ref fLr)))
    (lLr : K.lookup fLr = some ⟨ocLr, odLr, .func (PySem.W.fnOf "_law_reads" "_law_reads" (defArgs s_law_reads) (defBody s_law_reads) (defScope s_law_reads) .none kVLr dcLr pmLr anLr cdLr ctLr), slLr⟩)
    (cLr : PySem.W.codeIn K cdLr "_law_reads" = true)
    (kLr : PySem.W.keepIn K (.ref fLr) = true)
    (aLd : PySem.W.nsIn K mainGlobals "_law_derived" = some (some (.ref fLd)))
    (lLd : K.lookup fLd = some ⟨ocLd, odLd, .func (PySem.W.fnOf "_law_derived" "_law_derived" (defArgs s_law_derived) (defBody s_law_derived) (defScope s_law_derived) .none kVLd dcLd pmLd anLd cdLd ctLd), slLd⟩)
    (cLd : PySem.W.codeIn K cdLd "_law_derived" = true)
    (kLd : PySem.W.keepIn K (.ref fLd) = true)
    (aCl : PySem.W.nsIn K mainGlobals "_law_classes" = some (some (.ref fCl)))
    (lCl : K.lookup fCl = some ⟨ocCl, odCl, .func (PySem.W.fnOf "_law_classes" "_law_classes" (defArgs s_law_classes) (defBody s_law_classes) (defScope s_law_classes) .none kVCl dcCl pmCl anCl cdCl ctCl), slCl⟩)
    (cCl : PySem.W.codeIn K cdCl "_law_classes" = true)
    (kCl : PySem.W.keepIn K (.ref fCl) = true)
    (aFl : PySem.W.nsIn K mainGlobals "_law_flags" = some (some (.ref fFl)))
    (lFl : K.lookup fFl = some ⟨ocFl, odFl, .func (PySem.W.fnOf "_law_flags" "_law_flags" (defArgs s_law_flags) (defBody s_law_flags) (defScope s_law_flags) .none kVFl dcFl pmFl anFl cdFl ctFl), slFl⟩)
    (cFl : PySem.W.codeIn K cdFl "_law_flags" = true)
    (kFl : PySem.W.keepIn K (.ref fFl) = true)
    (aI : PySem.W.nsIn K mainGlobals "_law_is" = some (some (.ref fI)))
    (lI : K.lookup fI = some ⟨ocI, odI, .func (PySem.W.fnOf "_law_is" "_law_is" (defArgs s_law_is) (defBody s_law_is) (defScope s_law_is) .none kVI dcI pmI anI cdI ctI), slI⟩)
    (cI : PySem.W.codeIn K cdI "_law_is" = true)
    (kI : PySem.W.keepIn K (.ref fI) = true)
    (aErr : PySem.W.nsIn K mainGlobals "_law_error" = some (some (.ref fErr)))
    (lErr : K.lookup fErr = some ⟨ocErr, odErr, .func (PySem.W.fnOf "_law_error" "_law_error" (defArgs s_law_error) (defBody s_law_error) (defScope s_law_error) .none kVErr dcErr pmErr anErr cdErr ctErr), slErr⟩)
    (cErr : PySem.W.codeIn K cdErr "_law_error" = true)
    (kErr : PySem.W.keepIn K (.ref fErr) = true)
    (gr : PySem.W.nsIn K mainGlobals "Role" = some (some (.ref Cr)))
    (ge : PySem.W.nsIn K mainGlobals "Read" = some (some (.ref Ce)))
    (gm : PySem.W.nsIn K mainGlobals "Made" = some (some (.ref Cm)))
    (gf : PySem.W.nsIn K mainGlobals "Fresh" = some (some (.ref Cf)))
    (gb : PySem.W.nsIn K mainGlobals "Both" = some (some (.ref Cb)))
    (gw : PySem.W.nsIn K mainGlobals "Renewed" = some (some (.ref Cw)))
    (at_reads_r : PySem.W.findIn K (.ref Cr) "reads" = some (some (.ref fRr)))
    (at_makes_r : PySem.W.findIn K (.ref Cr) "makes" = some (some (.ref fRm)))
    (at_derived_r : PySem.W.findIn K (.ref Cr) "derived" = some (some (.ref fRd)))
    (at_imaged_r : PySem.W.findIn K (.ref Cr) "imaged" = some (some (.ref fRi)))
    (at_words_r : PySem.W.findIn K (.ref Cr) "words" = some (some (.ref fRw)))
    (in_r : PySem.W.findIn K (.ref Cr) "__init__" = some (some (.ref fInit)))
    (at_reads_e : PySem.W.findIn K (.ref Ce) "reads" = some (some (.ref fEr)))
    (at_makes_e : PySem.W.findIn K (.ref Ce) "makes" = some (some (.ref fRm)))
    (at_derived_e : PySem.W.findIn K (.ref Ce) "derived" = some (some (.ref fRd)))
    (at_imaged_e : PySem.W.findIn K (.ref Ce) "imaged" = some (some (.ref fRi)))
    (at_words_e : PySem.W.findIn K (.ref Ce) "words" = some (some (.ref fEw)))
    (in_e : PySem.W.findIn K (.ref Ce) "__init__" = some (some (.ref fInit)))
    (at_reads_m : PySem.W.findIn K (.ref Cm) "reads" = some (some (.ref fRr)))
    (at_makes_m : PySem.W.findIn K (.ref Cm) "makes" = some (some (.ref fMm)))
    (at_derived_m : PySem.W.findIn K (.ref Cm) "derived" = some (some (.ref fMd)))
    (at_imaged_m : PySem.W.findIn K (.ref Cm) "imaged" = some (some (.ref fMi)))
    (at_words_m : PySem.W.findIn K (.ref Cm) "words" = some (some (.ref fMw)))
    (in_m : PySem.W.findIn K (.ref Cm) "__init__" = some (some (.ref fInit)))
    (at_reads_f : PySem.W.findIn K (.ref Cf) "reads" = some (some (.ref fRr)))
    (at_makes_f : PySem.W.findIn K (.ref Cf) "makes" = some (some (.ref fFm)))
    (at_derived_f : PySem.W.findIn K (.ref Cf) "derived" = some (some (.ref fRd)))
    (at_imaged_f : PySem.W.findIn K (.ref Cf) "imaged" = some (some (.ref fRi)))
    (at_words_f : PySem.W.findIn K (.ref Cf) "words" = some (some (.ref fFw)))
    (in_f : PySem.W.findIn K (.ref Cf) "__init__" = some (some (.ref fInit)))
    (at_reads_b : PySem.W.findIn K (.ref Cb) "reads" = some (some (.ref fEr)))
    (at_makes_b : PySem.W.findIn K (.ref Cb) "makes" = some (some (.ref fMm)))
    (at_derived_b : PySem.W.findIn K (.ref Cb) "derived" = some (some (.ref fMd)))
    (at_imaged_b : PySem.W.findIn K (.ref Cb) "imaged" = some (some (.ref fBi)))
    (at_words_b : PySem.W.findIn K (.ref Cb) "words" = some (some (.ref fEw)))
    (in_b : PySem.W.findIn K (.ref Cb) "__init__" = some (some (.ref fInit)))
    (at_reads_w : PySem.W.findIn K (.ref Cw) "reads" = some (some (.ref fEr)))
    (at_makes_w : PySem.W.findIn K (.ref Cw) "makes" = some (some (.ref fFm)))
    (at_derived_w : PySem.W.findIn K (.ref Cw) "derived" = some (some (.ref fRd)))
    (at_imaged_w : PySem.W.findIn K (.ref Cw) "imaged" = some (some (.ref fRi)))
    (at_words_w : PySem.W.findIn K (.ref Cw) "words" = some (some (.ref fEw)))
    (in_w : PySem.W.findIn K (.ref Cw) "__init__" = some (some (.ref fInit)))
    (lInit : K.lookup fInit = some ⟨ocInit, odInit, .func (PySem.W.fnOf "__init__" "Role.__init__" (defArgs s_Role___init) (defBody s_Role___init) (defScope s_Role___init) .none kVInit dcInit pmInit anInit cdInit ctInit), slInit⟩)
    (cInit : PySem.W.codeIn K cdInit "Role.__init__" = true)
    (kInit : PySem.W.keepIn K (.ref fInit) = true)
    (fnInit : PySem.W.isFn K (.ref fInit) = true)
    (lRr : K.lookup fRr = some ⟨ocRr, odRr, .func (PySem.W.fnOf "reads" "Role.reads" (defArgs s_Role_reads) (defBody s_Role_reads) (defScope s_Role_reads) .none kVRr dcRr pmRr anRr cdRr ctRr), slRr⟩)
    (cRr : PySem.W.codeIn K cdRr "Role.reads" = true)
    (kRr : PySem.W.keepIn K (.ref fRr) = true)
    (fnRr : PySem.W.isFn K (.ref fRr) = true)
    (lRm : K.lookup fRm = some ⟨ocRm, odRm, .func (PySem.W.fnOf "makes" "Role.makes" (defArgs s_Role_makes) (defBody s_Role_makes) (defScope s_Role_makes) .none kVRm dcRm pmRm anRm cdRm ctRm), slRm⟩)
    (cRm : PySem.W.codeIn K cdRm "Role.makes" = true)
    (kRm : PySem.W.keepIn K (.ref fRm) = true)
    (fnRm : PySem.W.isFn K (.ref fRm) = true)
    (lRd : K.lookup fRd = some ⟨ocRd, odRd, .func (PySem.W.fnOf "derived" "Role.derived" (defArgs s_Role_derived) (defBody s_Role_derived) (defScope s_Role_derived) .none kVRd dcRd pmRd anRd cdRd ctRd), slRd⟩)
    (cRd : PySem.W.codeIn K cdRd "Role.derived" = true)
    (kRd : PySem.W.keepIn K (.ref fRd) = true)
    (fnRd : PySem.W.isFn K (.ref fRd) = true)
    (lEr : K.lookup fEr = some ⟨ocEr, odEr, .func (PySem.W.fnOf "reads" "Read.reads" (defArgs s_Read_reads) (defBody s_Read_reads) (defScope s_Read_reads) .none kVEr dcEr pmEr anEr cdEr ctEr), slEr⟩)
    (cEr : PySem.W.codeIn K cdEr "Read.reads" = true)
    (kEr : PySem.W.keepIn K (.ref fEr) = true)
    (fnEr : PySem.W.isFn K (.ref fEr) = true)
    (lFm : K.lookup fFm = some ⟨ocFm, odFm, .func (PySem.W.fnOf "makes" "Fresh.makes" (defArgs s_Fresh_makes) (defBody s_Fresh_makes) (defScope s_Fresh_makes) .none kVFm dcFm pmFm anFm cdFm ctFm), slFm⟩)
    (cFm : PySem.W.codeIn K cdFm "Fresh.makes" = true)
    (kFm : PySem.W.keepIn K (.ref fFm) = true)
    (fnFm : PySem.W.isFn K (.ref fFm) = true)
    (lMm : K.lookup fMm = some ⟨ocMm, odMm, .func (PySem.W.fnOf "makes" "Made.makes" (defArgs s_Made_makes) (defBody s_Made_makes) (defScope s_Made_makes) .none kVMm dcMm pmMm anMm cdMm ctMm), slMm⟩)
    (cMm : PySem.W.codeIn K cdMm "Made.makes" = true)
    (kMm : PySem.W.keepIn K (.ref fMm) = true)
    (fnMm : PySem.W.isFn K (.ref fMm) = true)
    (lMd : K.lookup fMd = some ⟨ocMd, odMd, .func (PySem.W.fnOf "derived" "Made.derived" (defArgs s_Made_derived) (defBody s_Made_derived) (defScope s_Made_derived) .none kVMd dcMd pmMd anMd cdMd ctMd), slMd⟩)
    (cMd : PySem.W.codeIn K cdMd "Made.derived" = true)
    (kMd : PySem.W.keepIn K (.ref fMd) = true)
    (fnMd : PySem.W.isFn K (.ref fMd) = true)
    (lRi : K.lookup fRi = some ⟨ocRi, odRi, .func (PySem.W.fnOf "imaged" "Role.imaged" (defArgs s_Role_imaged) (defBody s_Role_imaged) (defScope s_Role_imaged) .none kVRi dcRi pmRi anRi cdRi ctRi), slRi⟩)
    (cRi : PySem.W.codeIn K cdRi "Role.imaged" = true)
    (kRi : PySem.W.keepIn K (.ref fRi) = true)
    (fnRi : PySem.W.isFn K (.ref fRi) = true)
    (lMi : K.lookup fMi = some ⟨ocMi, odMi, .func (PySem.W.fnOf "imaged" "Made.imaged" (defArgs s_Made_imaged) (defBody s_Made_imaged) (defScope s_Made_imaged) .none kVMi dcMi pmMi anMi cdMi ctMi), slMi⟩)
    (cMi : PySem.W.codeIn K cdMi "Made.imaged" = true)
    (kMi : PySem.W.keepIn K (.ref fMi) = true)
    (fnMi : PySem.W.isFn K (.ref fMi) = true)
    (lBi : K.lookup fBi = some ⟨ocBi, odBi, .func (PySem.W.fnOf "imaged" "Both.imaged" (defArgs s_Both_imaged) (defBody s_Both_imaged) (defScope s_Both_imaged) .none kVBi dcBi pmBi anBi cdBi ctBi), slBi⟩)
    (cBi : PySem.W.codeIn K cdBi "Both.imaged" = true)
    (kBi : PySem.W.keepIn K (.ref fBi) = true)
    (fnBi : PySem.W.isFn K (.ref fBi) = true)
    (lRw : K.lookup fRw = some ⟨ocRw, odRw, .func (PySem.W.fnOf "words" "Role.words" (defArgs s_Role_words) (defBody s_Role_words) (defScope s_Role_words) .none kVRw dcRw pmRw anRw cdRw ctRw), slRw⟩)
    (cRw : PySem.W.codeIn K cdRw "Role.words" = true)
    (kRw : PySem.W.keepIn K (.ref fRw) = true)
    (fnRw : PySem.W.isFn K (.ref fRw) = true)
    (spc : PySem.W.specialIn K (.builtin "object.__class__") "__get__" = some (some (.builtin "getset_descriptor.__get__")))
    (tkc : PySem.W.takesIn K (.builtin "object.__class__") = some true)
    (pgr : PySem.W.plainGet K Cr Str.empty = true)
    (hdr : PySem.W.hasDictIn K Cr = true)
    (por : PySem.W.plainOver K Cr = true)
    (sar : PySem.W.findIn K (.ref Cr) "__setattr__" = some (some (.builtin "object.__setattr__")))
    (mkr : PySem.W.makesIn K Cr = true)
    (kcr : PySem.W.keepIn K (.ref Cr) = true)
    (nnr : PySem.W.findIn K (.ref Cr) "name" = some none)
    (ngr : PySem.W.findIn K (.ref Cr) "group" = some none)
    (mar : PySem.W.findIn K (.ref Cr) "MARK" = some (some (.str xr tr)))
    (mxr : xr = S [])
    (msr : PySem.W.specialIn K (.str xr tr) "__get__" = some none)
    (car : PySem.W.findIn K (.ref Cr) "__class__" = some (some (.builtin "object.__class__")))
    (mor : PySem.W.mroIn K Cr (.type "object") = some true)
    (pge : PySem.W.plainGet K Ce Str.empty = true)
    (hde : PySem.W.hasDictIn K Ce = true)
    (poe : PySem.W.plainOver K Ce = true)
    (sae : PySem.W.findIn K (.ref Ce) "__setattr__" = some (some (.builtin "object.__setattr__")))
    (mke : PySem.W.makesIn K Ce = true)
    (kce : PySem.W.keepIn K (.ref Ce) = true)
    (nne : PySem.W.findIn K (.ref Ce) "name" = some none)
    (nge : PySem.W.findIn K (.ref Ce) "group" = some none)
    (mae : PySem.W.findIn K (.ref Ce) "MARK" = some (some (.str xe te)))
    (mxe : xe = S [114])
    (mse : PySem.W.specialIn K (.str xe te) "__get__" = some none)
    (cae : PySem.W.findIn K (.ref Ce) "__class__" = some (some (.builtin "object.__class__")))
    (moe : PySem.W.mroIn K Ce (.type "object") = some true)
    (pgm : PySem.W.plainGet K Cm Str.empty = true)
    (hdm : PySem.W.hasDictIn K Cm = true)
    (pom : PySem.W.plainOver K Cm = true)
    (sam : PySem.W.findIn K (.ref Cm) "__setattr__" = some (some (.builtin "object.__setattr__")))
    (mkm : PySem.W.makesIn K Cm = true)
    (kcm : PySem.W.keepIn K (.ref Cm) = true)
    (nnm : PySem.W.findIn K (.ref Cm) "name" = some none)
    (ngm : PySem.W.findIn K (.ref Cm) "group" = some none)
    (mam : PySem.W.findIn K (.ref Cm) "MARK" = some (some (.str xm tm)))
    (mxm : xm = S [109])
    (msm : PySem.W.specialIn K (.str xm tm) "__get__" = some none)
    (cam : PySem.W.findIn K (.ref Cm) "__class__" = some (some (.builtin "object.__class__")))
    (mom : PySem.W.mroIn K Cm (.type "object") = some true)
    (pgf : PySem.W.plainGet K Cf Str.empty = true)
    (hdf : PySem.W.hasDictIn K Cf = true)
    (pof : PySem.W.plainOver K Cf = true)
    (saf : PySem.W.findIn K (.ref Cf) "__setattr__" = some (some (.builtin "object.__setattr__")))
    (mkf : PySem.W.makesIn K Cf = true)
    (kcf : PySem.W.keepIn K (.ref Cf) = true)
    (nnf : PySem.W.findIn K (.ref Cf) "name" = some none)
    (ngf : PySem.W.findIn K (.ref Cf) "group" = some none)
    (maf : PySem.W.findIn K (.ref Cf) "MARK" = some (some (.str xf tf)))
    (mxf : xf = S [102])
    (msf : PySem.W.specialIn K (.str xf tf) "__get__" = some none)
    (caf : PySem.W.findIn K (.ref Cf) "__class__" = some (some (.builtin "object.__class__")))
    (mof : PySem.W.mroIn K Cf (.type "object") = some true)
    (pgb : PySem.W.plainGet K Cb Str.empty = true)
    (hdb : PySem.W.hasDictIn K Cb = true)
    (pob : PySem.W.plainOver K Cb = true)
    (sab : PySem.W.findIn K (.ref Cb) "__setattr__" = some (some (.builtin "object.__setattr__")))
    (mkb : PySem.W.makesIn K Cb = true)
    (kcb : PySem.W.keepIn K (.ref Cb) = true)
    (nnb : PySem.W.findIn K (.ref Cb) "name" = some none)
    (ngb : PySem.W.findIn K (.ref Cb) "group" = some none)
    (mab : PySem.W.findIn K (.ref Cb) "MARK" = some (some (.str xb tb)))
    (mxb : xb = S [114, 109])
    (msb : PySem.W.specialIn K (.str xb tb) "__get__" = some none)
    (cab : PySem.W.findIn K (.ref Cb) "__class__" = some (some (.builtin "object.__class__")))
    (mob : PySem.W.mroIn K Cb (.type "object") = some true)
    (pgw : PySem.W.plainGet K Cw Str.empty = true)
    (hdw : PySem.W.hasDictIn K Cw = true)
    (pow : PySem.W.plainOver K Cw = true)
    (saw : PySem.W.findIn K (.ref Cw) "__setattr__" = some (some (.builtin "object.__setattr__")))
    (mkw : PySem.W.makesIn K Cw = true)
    (kcw : PySem.W.keepIn K (.ref Cw) = true)
    (nnw : PySem.W.findIn K (.ref Cw) "name" = some none)
    (ngw : PySem.W.findIn K (.ref Cw) "group" = some none)
    (maw : PySem.W.findIn K (.ref Cw) "MARK" = some (some (.str xw tw)))
    (mxw : xw = S [114, 102])
    (msw : PySem.W.specialIn K (.str xw tw) "__get__" = some none)
    (caw : PySem.W.findIn K (.ref Cw) "__class__" = some (some (.builtin "object.__class__")))
    (mow : PySem.W.mroIn K Cw (.type "object") = some true)
    (ki00 : PySem.W.kitOne K (.ref Ce) (.ref Ce) = some true)
    (ki01 : PySem.W.kitOne K (.ref Ce) (.ref Cm) = some false)
    (ki02 : PySem.W.kitOne K (.ref Ce) (.ref Cf) = some false)
    (ki03 : PySem.W.kitOne K (.ref Ce) (.ref Cb) = some false)
    (ki04 : PySem.W.kitOne K (.ref Ce) (.ref Cw) = some false)
    (ki05 : PySem.W.kitOne K (.ref Ce) (.ref Cr) = some true)
    (ki10 : PySem.W.kitOne K (.ref Cm) (.ref Ce) = some false)
    (ki11 : PySem.W.kitOne K (.ref Cm) (.ref Cm) = some true)
    (ki12 : PySem.W.kitOne K (.ref Cm) (.ref Cf) = some false)
    (ki13 : PySem.W.kitOne K (.ref Cm) (.ref Cb) = some false)
    (ki14 : PySem.W.kitOne K (.ref Cm) (.ref Cw) = some false)
    (ki15 : PySem.W.kitOne K (.ref Cm) (.ref Cr) = some true)
    (ki20 : PySem.W.kitOne K (.ref Cf) (.ref Ce) = some false)
    (ki21 : PySem.W.kitOne K (.ref Cf) (.ref Cm) = some false)
    (ki22 : PySem.W.kitOne K (.ref Cf) (.ref Cf) = some true)
    (ki23 : PySem.W.kitOne K (.ref Cf) (.ref Cb) = some false)
    (ki24 : PySem.W.kitOne K (.ref Cf) (.ref Cw) = some false)
    (ki25 : PySem.W.kitOne K (.ref Cf) (.ref Cr) = some true)
    (ki30 : PySem.W.kitOne K (.ref Cb) (.ref Ce) = some true)
    (ki31 : PySem.W.kitOne K (.ref Cb) (.ref Cm) = some true)
    (ki32 : PySem.W.kitOne K (.ref Cb) (.ref Cf) = some false)
    (ki33 : PySem.W.kitOne K (.ref Cb) (.ref Cb) = some true)
    (ki34 : PySem.W.kitOne K (.ref Cb) (.ref Cw) = some false)
    (ki35 : PySem.W.kitOne K (.ref Cb) (.ref Cr) = some true)
    (ki40 : PySem.W.kitOne K (.ref Cw) (.ref Ce) = some true)
    (ki41 : PySem.W.kitOne K (.ref Cw) (.ref Cm) = some false)
    (ki42 : PySem.W.kitOne K (.ref Cw) (.ref Cf) = some true)
    (ki43 : PySem.W.kitOne K (.ref Cw) (.ref Cb) = some false)
    (ki44 : PySem.W.kitOne K (.ref Cw) (.ref Cw) = some true)
    (ki45 : PySem.W.kitOne K (.ref Cw) (.ref Cr) = some true)
    (ki50 : PySem.W.kitOne K (.ref Cr) (.ref Ce) = some false)
    (ki51 : PySem.W.kitOne K (.ref Cr) (.ref Cm) = some false)
    (ki52 : PySem.W.kitOne K (.ref Cr) (.ref Cf) = some false)
    (ki53 : PySem.W.kitOne K (.ref Cr) (.ref Cb) = some false)
    (ki54 : PySem.W.kitOne K (.ref Cr) (.ref Cw) = some false)
    (ki55 : PySem.W.kitOne K (.ref Cr) (.ref Cr) = some true)
    (gE : PySem.W.nsIn K mainGlobals "BadName" = some (some (.ref CEr)))
    (xE : K.lookup CEr = some (excClassObj enm eq CEr eN ebs ebm true esn esub eab ecol edd e0 e1 e2 e3 e5 "ValueError.__new__"))
    (bE : PySem.HandSPX.refsVE ebm = true)
    (saE : PySem.W.findIn K (.ref CEr) "__setattr__" = some (some (.builtin "object.__setattr__")))
    (gaE : PySem.W.findIn K (.ref CEr) "__getattribute__" = some (some (.builtin "BaseException.__getattribute__")))
    (ggE : PySem.W.findIn K (.ref CEr) "__getattr__" = some none)
    (nnE : PySem.W.findIn K (.ref CEr) "name" = some none)
    (inE : PySem.W.findIn K (.ref CEr) "__init__" = some (some (.ref fBi_)))
    (tyI : PySem.W.typeIn K (.ref fBi_) = some (.type "function"))
    (lBi_ : K.lookup fBi_ = some ⟨ocBi_, odBi_, .func (PySem.W.fnOf "__init__" "BadName.__init__" (defArgs s_BadName___init) (defBody s_BadName___init) (defScope s_BadName___init) .none kVBi_ dcBi_ pmBi_ anBi_ cdBi_ ctBi_), slBi_⟩)
    (cBi_ : PySem.W.codeIn K cdBi_ "BadName.__init__" = true)
    (kBi_ : PySem.W.keepIn K (.ref fBi_) = true)
    (kE : PySem.W.keepIn K (.ref CEr) = true)
    (exE : PySem.W.subIn K (.ref CEr) (.type "BaseException") = some true)
    (tyE : PySem.W.typeIn K (.ref CEr) = some (.type "type"))
    (hdE : PySem.W.hasDictIn K CEr = true)
    (sE : PySem.W.subIn K (.ref CEr) (.ref CEr) = some true)
    (clE : PySem.W.findIn K (.ref CEr) "__class__" = some (some (.builtin "object.__class__")))
    (moE : PySem.W.mroIn K CEr (.type "object") = some true)
    (gRE : PySem.W.nsIn K mainGlobals "RedoError" = some (some (.ref cRE)))
    (gBK : PySem.W.nsIn K mainGlobals "BadKind" = some (some (.ref cBK)))
    (q1 : PySem.W.kitOne K (.ref CEr) (.ref cRE) = some true)
    (q2 : PySem.W.kitOne K (.ref CEr) (.type "ValueError") = some true)
    (q3 : PySem.W.kitOne K (.ref CEr) (.ref cBK) = some false)
    (gL : PySem.W.nsIn K mainGlobals "LONGEST_NAME" = some (some (.int 8 tk)))
    (z_len : PySem.W.nsIn K mainGlobals "len" = some none)
    (z_sum : PySem.W.nsIn K mainGlobals "sum" = some none)
    (z_int : PySem.W.nsIn K mainGlobals "int" = some none)
    (z_range : PySem.W.nsIn K mainGlobals "range" = some none)
    (z_isinstance : PySem.W.nsIn K mainGlobals "isinstance" = some none)
    (z_any : PySem.W.nsIn K mainGlobals "any" = some none)
    (z_all : PySem.W.nsIn K mainGlobals "all" = some none)
    (z_list : PySem.W.nsIn K mainGlobals "list" = some none)
    (z_tuple : PySem.W.nsIn K mainGlobals "tuple" = some none)
    (z_sorted : PySem.W.nsIn K mainGlobals "sorted" = some none)
    (z_set : PySem.W.nsIn K mainGlobals "set" = some none)
    (z_bool : PySem.W.nsIn K mainGlobals "bool" = some none)
    (z_ValueError : PySem.W.nsIn K mainGlobals "ValueError" = some none)
    (z_super : PySem.W.nsIn K mainGlobals "super" = some none)
    (thp : PySem.W.nsIn K PySem.cStatics "thirdparty.any" = some none)
    (htop : (P.main.scope.names.lookup ("super" : Str)).isSome = false)
    (lEw : K.lookup fEw = some ⟨ocEw, odEw, .func (PySem.W.ksFn "words" "Read.words" (defArgs s_Read_words) (defBody s_Read_words) supScope .none kVEw dcEw pmEw anEw (.ref cdaEw) ctEw ccEw), slEw⟩)
    (cEw : PySem.W.codeIn K (.ref cdaEw) "Read.words" = true)
    (lcEw : K.lookup cdaEw = some ⟨cclEw, cddEw, .fields vsEw, ccsEw⟩)
    (v2Ew : vsEw[2]? = some (.str fileEw tfEw))
    (fiEw : ((P.main.file : Str) == fileEw) = true)
    (ceEw : K.lookup ccEw = some ⟨cllEw, cldEw, .cell (some (.ref Ce)), cslEw⟩)
    (cDEw : PySem.W.clsIn K Ce = some cdDEw)
    (fnEw : PySem.W.isFn K (.ref fEw) = true)
    (kEw : PySem.W.keepIn K (.ref fEw) = true)
    (tyEw : PySem.W.typeIn K (.ref fEw) = some (.type "function"))
    (lFw : K.lookup fFw = some ⟨ocFw, odFw, .func (PySem.W.ksFn "words" "Fresh.words" (defArgs s_Fresh_words) (defBody s_Fresh_words) supScope .none kVFw dcFw pmFw anFw (.ref cdaFw) ctFw ccFw), slFw⟩)
    (cFw : PySem.W.codeIn K (.ref cdaFw) "Fresh.words" = true)
    (lcFw : K.lookup cdaFw = some ⟨cclFw, cddFw, .fields vsFw, ccsFw⟩)
    (v2Fw : vsFw[2]? = some (.str fileFw tfFw))
    (fiFw : ((P.main.file : Str) == fileFw) = true)
    (ceFw : K.lookup ccFw = some ⟨cllFw, cldFw, .cell (some (.ref Cf)), cslFw⟩)
    (cDFw : PySem.W.clsIn K Cf = some cdDFw)
    (fnFw : PySem.W.isFn K (.ref fFw) = true)
    (kFw : PySem.W.keepIn K (.ref fFw) = true)
    (tyFw : PySem.W.typeIn K (.ref fFw) = some (.type "function"))
    (lMw : K.lookup fMw = some ⟨ocMw, odMw, .func (PySem.W.ksFn "words" "Made.words" (defArgs s_Made_words) (defBody s_Made_words) supScope .none kVMw dcMw pmMw anMw (.ref cdaMw) ctMw ccMw), slMw⟩)
    (cMw : PySem.W.codeIn K (.ref cdaMw) "Made.words" = true)
    (lcMw : K.lookup cdaMw = some ⟨cclMw, cddMw, .fields vsMw, ccsMw⟩)
    (v2Mw : vsMw[2]? = some (.str fileMw tfMw))
    (fiMw : ((P.main.file : Str) == fileMw) = true)
    (ceMw : K.lookup ccMw = some ⟨cllMw, cldMw, .cell (some (.ref Cm)), cslMw⟩)
    (cDMw : PySem.W.clsIn K Cm = some cdDMw)
    (fnMw : PySem.W.isFn K (.ref fMw) = true)
    (kMw : PySem.W.keepIn K (.ref fMw) = true)
    (tyMw : PySem.W.typeIn K (.ref fMw) = some (.type "function"))
    (tyRw : PySem.W.typeIn K (.ref fRw) = some (.type "function"))
    (mr_ee : PySem.W.mroIn K Ce (.ref Ce) = some true)
    (su_ee : PySem.W.ks_superIn K Ce Ce "words" = some (some (.ref fRw)))
    (mr_mm : PySem.W.mroIn K Cm (.ref Cm) = some true)
    (su_mm : PySem.W.ks_superIn K Cm Cm "words" = some (some (.ref fRw)))
    (mr_ff : PySem.W.mroIn K Cf (.ref Cf) = some true)
    (su_ff : PySem.W.ks_superIn K Cf Cf "words" = some (some (.ref fRw)))
    (mr_be : PySem.W.mroIn K Cb (.ref Ce) = some true)
    (su_be : PySem.W.ks_superIn K Cb Ce "words" = some (some (.ref fMw)))
    (mr_bm : PySem.W.mroIn K Cb (.ref Cm) = some true)
    (su_bm : PySem.W.ks_superIn K Cb Cm "words" = some (some (.ref fRw)))
    (mr_we : PySem.W.mroIn K Cw (.ref Ce) = some true)
    (su_we : PySem.W.ks_superIn K Cw Ce "words" = some (some (.ref fFw)))
    (mr_wf : PySem.W.mroIn K Cw (.ref Cf) = some true)
    (su_wf : PySem.W.ks_superIn K Cw Cf "words" = some (some (.ref fRw)))
    (aLaw : PySem.W.nsIn K mainGlobals "law" = some (some (.ref fLaw)))
    (lLaw : K.lookup fLaw = some ⟨ocLaw, odLaw, .func (PySem.W.fnOf "law" "law" (defArgs s_law) (defBody s_law) (defScope s_law) .none kVLaw dcLaw pmLaw anLaw cdLaw ctLaw), slLaw⟩)
    (cLaw : PySem.W.codeIn K cdLaw "law" = true)
    (kLaw : PySem.W.keepIn K (.ref fLaw) = true) :
    ∃ fd : FuncData, (∀ (s : Shared) (v : Value), BindsTo s fd ⟨[v], []⟩ [("_law_script", v)]) ∧ ∀ base : Heap, K.In base → base.Ns mainGlobals mg → FnOk P w K mg base CX0 9 fa fd ["_law_script"] (spLaw K) := by
  have e := hfa.symm.trans (PySem.W.mg_of X G aLaw)
  cases e
  refine ⟨PySem.W.fnOf "law" "law" (defArgs s_law) (defBody s_law) (defScope s_law) .none kVLaw dcLaw pmLaw anLaw cdLaw ctLaw, fun s v => .of_eq rfl, fun base _ _ => ?_⟩
  have FP := fun_mk (st := s_law_pool) lP cP kP
  let dP : Df K mg "_law_pool" "_law_pool" s_law_pool ["_law_script", "_law_k"] := ⟨fP, _, FP, PySem.W.mg_of X G aP, FP.binds (ps := ["_law_script", "_law_k"]) fun _ _ _ _ _ _ us hl => match us, hl with | [_, _], _ => rfl⟩
  have FD := fun_mk (st := s_law_draw) lD cD kD
  let dD : Df K mg "_law_draw" "_law_draw" s_law_draw ["_law_pool_here", "_law_many"] := ⟨fD, _, FD, PySem.W.mg_of X G aD, FD.binds (ps := ["_law_pool_here", "_law_many"]) fun _ _ _ _ _ _ us hl => match us, hl with | [_, _], _ => rfl⟩
  have FW := fun_mk (st := s_law_word) lW cW kW
  let dW : Df K mg "_law_word" "_law_word" s_law_word ["_law_numbers"] := ⟨fW, _, FW, PySem.W.mg_of X G aW, FW.binds (ps := ["_law_numbers"]) fun _ _ _ _ _ _ us hl => match us, hl with | [_], _ => rfl⟩
  have FN := fun_mk (st := s_law_names) lN cN kN
  let dN : Df K mg "_law_names" "_law_names" s_law_names ["_law_pool_here"] := ⟨fN, _, FN, PySem.W.mg_of X G aN, FN.binds (ps := ["_law_pool_here"]) fun _ _ _ _ _ _ us hl => match us, hl with | [_], _ => rfl⟩
  have FB := fun_mk (st := s_law_bad_name) lB cB kB
  let dB : Df K mg "_law_bad_name" "_law_bad_name" s_law_bad_name ["_law_pool_here", "_law_name"] := ⟨fB, _, FB, PySem.W.mg_of X G aB, FB.binds (ps := ["_law_pool_here", "_law_name"]) fun _ _ _ _ _ _ us hl => match us, hl with | [_, _], _ => rfl⟩
  have FR := fun_mk (st := s_require_name) lR cR kR
  let dR : Df K mg "require_name" "require_name" s_require_name ["text"] := ⟨fR, _, FR, PySem.W.mg_of X G aR, FR.binds (ps := ["text"]) fun _ _ _ _ _ _ us hl => match us, hl with | [_], _ => rfl⟩
  have FRo := fun_mk (st := s_law_role) lRo cRo kRo
  let dRo : Df K mg "_law_role" "_law_role" s_law_role ["_law_name", "_law_group", "_law_mode"] := ⟨fRo, _, FRo, PySem.W.mg_of X G aRo, FRo.binds (ps := ["_law_name", "_law_group", "_law_mode"]) fun _ _ _ _ _ _ us hl => match us, hl with | [_, _, _], _ => rfl⟩
  have FA := fun_mk (st := s_law_any_role) lA cA kA
  let dA : Df K mg "_law_any_role" "_law_any_role" s_law_any_role ["_law_name", "_law_group", "_law_mode"] := ⟨fA, _, FA, PySem.W.mg_of X G aA, FA.binds (ps := ["_law_name", "_law_group", "_law_mode"]) fun _ _ _ _ _ _ us hl => match us, hl with | [_, _, _], _ => rfl⟩
  have FLr := fun_mk (st := s_law_reads) lLr cLr kLr
  let dLr : Df K mg "_law_reads" "_law_reads" s_law_reads ["_law_mode"] := ⟨fLr, _, FLr, PySem.W.mg_of X G aLr, FLr.binds (ps := ["_law_mode"]) fun _ _ _ _ _ _ us hl => match us, hl with | [_], _ => rfl⟩
  have FLd := fun_mk (st := s_law_derived) lLd cLd kLd
  let dLd : Df K mg "_law_derived" "_law_derived" s_law_derived ["_law_mode"] := ⟨fLd, _, FLd, PySem.W.mg_of X G aLd, FLd.binds (ps := ["_law_mode"]) fun _ _ _ _ _ _ us hl => match us, hl with | [_], _ => rfl⟩
  have FCl := fun_mk (st := s_law_classes) lCl cCl kCl
  let dCl : Df K mg "_law_classes" "_law_classes" s_law_classes ["_law_role_here"] := ⟨fCl, _, FCl, PySem.W.mg_of X G aCl, FCl.binds (ps := ["_law_role_here"]) fun _ _ _ _ _ _ us hl => match us, hl with | [_], _ => rfl⟩
  have FFl := fun_mk (st := s_law_flags) lFl cFl kFl
  let dFl : Df K mg "_law_flags" "_law_flags" s_law_flags ["_law_role_here"] := ⟨fFl, _, FFl, PySem.W.mg_of X G aFl, FFl.binds (ps := ["_law_role_here"]) fun _ _ _ _ _ _ us hl => match us, hl with | [_], _ => rfl⟩
  have FI := fun_mk (st := s_law_is) lI cI kI
  let dI : Df K mg "_law_is" "_law_is" s_law_is ["_law_role_here", "_law_name", "_law_group", "_law_mode"] := ⟨fI, _, FI, PySem.W.mg_of X G aI, FI.binds (ps := ["_law_role_here", "_law_name", "_law_group", "_law_mode"]) fun _ _ _ _ _ _ us hl => match us, hl with | [_, _, _, _], _ => rfl⟩
  have FErr := fun_mk (st := s_law_error) lErr cErr kErr
  let dErr : Df K mg "_law_error" "_law_error" s_law_error ["_law_name", "_law_group", "_law_mode"] := ⟨fErr, _, FErr, PySem.W.mg_of X G aErr, FErr.binds (ps := ["_law_name", "_law_group", "_law_mode"]) fun _ _ _ _ _ _ us hl => match us, hl with | [_, _, _], _ => rfl⟩
  have FInit := fun_mk (st := s_Role___init) lInit cInit kInit
  let mInit : Mf K "__init__" "Role.__init__" s_Role___init ["self", "name", "group"] := ⟨fInit, _, FInit, FInit.binds (ps := ["self", "name", "group"]) fun _ _ _ _ _ _ us hl => match us, hl with | [_, _, _], _ => rfl⟩
  have FRr := fun_mk (st := s_Role_reads) lRr cRr kRr
  let mRr : Mf K "reads" "Role.reads" s_Role_reads ["self"] := ⟨fRr, _, FRr, FRr.binds (ps := ["self"]) fun _ _ _ _ _ _ us hl => match us, hl with | [_], _ => rfl⟩
  have FRm := fun_mk (st := s_Role_makes) lRm cRm kRm
  let mRm : Mf K "makes" "Role.makes" s_Role_makes ["self"] := ⟨fRm, _, FRm, FRm.binds (ps := ["self"]) fun _ _ _ _ _ _ us hl => match us, hl with | [_], _ => rfl⟩
  have FRd := fun_mk (st := s_Role_derived) lRd cRd kRd
  let mRd : Mf K "derived" "Role.derived" s_Role_derived ["self"] := ⟨fRd, _, FRd, FRd.binds (ps := ["self"]) fun _ _ _ _ _ _ us hl => match us, hl with | [_], _ => rfl⟩
  have FEr := fun_mk (st := s_Read_reads) lEr cEr kEr
  let mEr : Mf K "reads" "Read.reads" s_Read_reads ["self"] := ⟨fEr, _, FEr, FEr.binds (ps := ["self"]) fun _ _ _ _ _ _ us hl => match us, hl with | [_], _ => rfl⟩
  have FFm := fun_mk (st := s_Fresh_makes) lFm cFm kFm
  let mFm : Mf K "makes" "Fresh.makes" s_Fresh_makes ["self"] := ⟨fFm, _, FFm, FFm.binds (ps := ["self"]) fun _ _ _ _ _ _ us hl => match us, hl with | [_], _ => rfl⟩
  have FMm := fun_mk (st := s_Made_makes) lMm cMm kMm
  let mMm : Mf K "makes" "Made.makes" s_Made_makes ["self"] := ⟨fMm, _, FMm, FMm.binds (ps := ["self"]) fun _ _ _ _ _ _ us hl => match us, hl with | [_], _ => rfl⟩
  have FMd := fun_mk (st := s_Made_derived) lMd cMd kMd
  let mMd : Mf K "derived" "Made.derived" s_Made_derived ["self"] := ⟨fMd, _, FMd, FMd.binds (ps := ["self"]) fun _ _ _ _ _ _ us hl => match us, hl with | [_], _ => rfl⟩
  have FRi := fun_mk (st := s_Role_imaged) lRi cRi kRi
  let mRi : Mf K "imaged" "Role.imaged" s_Role_imaged ["self"] := ⟨fRi, _, FRi, FRi.binds (ps := ["self"]) fun _ _ _ _ _ _ us hl => match us, hl with | [_], _ => rfl⟩
  have FMi := fun_mk (st := s_Made_imaged) lMi cMi kMi
  let mMi : Mf K "imaged" "Made.imaged" s_Made_imaged ["self"] := ⟨fMi, _, FMi, FMi.binds (ps := ["self"]) fun _ _ _ _ _ _ us hl => match us, hl with | [_], _ => rfl⟩
  have FBi := fun_mk (st := s_Both_imaged) lBi cBi kBi
  let mBi : Mf K "imaged" "Both.imaged" s_Both_imaged ["self"] := ⟨fBi, _, FBi, FBi.binds (ps := ["self"]) fun _ _ _ _ _ _ us hl => match us, hl with | [_], _ => rfl⟩
  have FRw := fun_mk (st := s_Role_words) lRw cRw kRw
  let mRw : Mf K "words" "Role.words" s_Role_words ["self"] := ⟨fRw, _, FRw, FRw.binds (ps := ["self"]) fun _ _ _ _ _ _ us hl => match us, hl with | [_], _ => rfl⟩
  let rr : Rc K mg fInit "Role" [] := ⟨Cr, PySem.W.mg_of X G gr, ⟨pgr, hdr, por, sar⟩, ⟨mkr, in_r, fnInit, kcr⟩, nnr, ngr, .str xr tr, ⟨mar, by rw [mxr]; exact ⟨_, rfl⟩, msr, by decide +kernel⟩, car, spc, tkc, mor⟩
  let re : Rc K mg fInit "Read" [114] := ⟨Ce, PySem.W.mg_of X G ge, ⟨pge, hde, poe, sae⟩, ⟨mke, in_e, fnInit, kce⟩, nne, nge, .str xe te, ⟨mae, by rw [mxe]; exact ⟨_, rfl⟩, mse, by decide +kernel⟩, cae, spc, tkc, moe⟩
  let rm : Rc K mg fInit "Made" [109] := ⟨Cm, PySem.W.mg_of X G gm, ⟨pgm, hdm, pom, sam⟩, ⟨mkm, in_m, fnInit, kcm⟩, nnm, ngm, .str xm tm, ⟨mam, by rw [mxm]; exact ⟨_, rfl⟩, msm, by decide +kernel⟩, cam, spc, tkc, mom⟩
  let rf : Rc K mg fInit "Fresh" [102] := ⟨Cf, PySem.W.mg_of X G gf, ⟨pgf, hdf, pof, saf⟩, ⟨mkf, in_f, fnInit, kcf⟩, nnf, ngf, .str xf tf, ⟨maf, by rw [mxf]; exact ⟨_, rfl⟩, msf, by decide +kernel⟩, caf, spc, tkc, mof⟩
  let rb : Rc K mg fInit "Both" [114, 109] := ⟨Cb, PySem.W.mg_of X G gb, ⟨pgb, hdb, pob, sab⟩, ⟨mkb, in_b, fnInit, kcb⟩, nnb, ngb, .str xb tb, ⟨mab, by rw [mxb]; exact ⟨_, rfl⟩, msb, by decide +kernel⟩, cab, spc, tkc, mob⟩
  let rw_ : Rc K mg fInit "Renewed" [114, 102] := ⟨Cw, PySem.W.mg_of X G gw, ⟨pgw, hdw, pow, saw⟩, ⟨mkw, in_w, fnInit, kcw⟩, nnw, ngw, .str xw tw, ⟨maw, by rw [mxw]; exact ⟨_, rfl⟩, msw, by decide +kernel⟩, caw, spc, tkc, mow⟩
  let c : Six K mg fInit := ⟨rr, re, rm, rf, rb, rw_⟩
  have ks : Kits c := by
    intro m j hm hj
    have hm' : m = 0 ∨ m = 1 ∨ m = 2 ∨ m = 3 ∨ m = 4 ∨ m = 5 := by omega
    have hj' : j = 0 ∨ j = 1 ∨ j = 2 ∨ j = 3 ∨ j = 4 ∨ j = 5 := by omega
    rcases hm' with rfl | rfl | rfl | rfl | rfl | rfl <;> rcases hj' with rfl | rfl | rfl | rfl | rfl | rfl
    · exact ki00
    · exact ki01
    · exact ki02
    · exact ki03
    · exact ki04
    · exact ki05
    · exact ki10
    · exact ki11
    · exact ki12
    · exact ki13
    · exact ki14
    · exact ki15
    · exact ki20
    · exact ki21
    · exact ki22
    · exact ki23
    · exact ki24
    · exact ki25
    · exact ki30
    · exact ki31
    · exact ki32
    · exact ki33
    · exact ki34
    · exact ki35
    · exact ki40
    · exact ki41
    · exact ki42
    · exact ki43
    · exact ki44
    · exact ki45
    · exact ki50
    · exact ki51
    · exact ki52
    · exact ki53
    · exact ki54
    · exact ki55
  have FE := fun_mk (st := s_BadName___init) lBi_ cBi_ kBi_
  let eN_ : ErN K mg := ⟨CEr, fBi_, _, ⟨⟨enm, eq, eN, ebs, ebm, esn, esub, eab, ecol, edd, e0, e1, e2, e3, e5, xE, bE⟩, saE, exE, tyE, kE⟩, inE, tyI, PySem.W.mg_of X G gE, nnE, FE, FE.binds (ps := ["self", "name"]) fun _ _ _ _ _ _ us hl => match us, hl with | [_, _], _ => rfl, ⟨gaE, ggE, exE, hdE⟩, ⟨gaE, ggE, exE, hdE, clE, spc, tkc, moE⟩, PySem.W.exm_ref exE hdE tyE sE⟩
  have T : Bt mg := ⟨PySem.W.mg_none_of X G z_len, PySem.W.mg_none_of X G z_sum, PySem.W.mg_none_of X G z_int, PySem.W.mg_none_of X G z_range, PySem.W.mg_none_of X G z_isinstance, PySem.W.mg_none_of X G z_any, PySem.W.mg_none_of X G z_all, PySem.W.mg_none_of X G z_list, PySem.W.mg_none_of X G z_tuple, PySem.W.mg_none_of X G z_sorted, PySem.W.mg_none_of X G z_set, PySem.W.mg_none_of X G z_bool, PySem.W.mg_none_of X G z_ValueError⟩
  have ST : SupT P K mg := ⟨thp, PySem.W.mg_none_of X G z_super, htop⟩
  let SEw : Sf P K "words" "Read.words" s_Read_words Ce := ⟨fEw, ccEw, _, ⟨ocEw, odEw, kVEw, dcEw, pmEw, anEw, cdaEw, ctEw, slEw, cclEw, cddEw, vsEw, ccsEw, fileEw, tfEw, rfl, lEw, cEw, lcEw, v2Ew, fiEw⟩, ⟨cllEw, cldEw, cslEw, ceEw⟩, ⟨cdDEw, cDEw⟩⟩
  let SFw : Sf P K "words" "Fresh.words" s_Fresh_words Cf := ⟨fFw, ccFw, _, ⟨ocFw, odFw, kVFw, dcFw, pmFw, anFw, cdaFw, ctFw, slFw, cclFw, cddFw, vsFw, ccsFw, fileFw, tfFw, rfl, lFw, cFw, lcFw, v2Fw, fiFw⟩, ⟨cllFw, cldFw, cslFw, ceFw⟩, ⟨cdDFw, cDFw⟩⟩
  let SMw : Sf P K "words" "Made.words" s_Made_words Cm := ⟨fMw, ccMw, _, ⟨ocMw, odMw, kVMw, dcMw, pmMw, anMw, cdaMw, ctMw, slMw, cclMw, cddMw, vsMw, ccsMw, fileMw, tfMw, rfl, lMw, cMw, lcMw, v2Mw, fiMw⟩, ⟨cllMw, cldMw, cslMw, ceMw⟩, ⟨cdDMw, cDMw⟩⟩
  have uR : ∀ (m : Nat), Up P w K mg base (c.C m) 1 [] fRw mRw.fd := fun m => ⟨ok_Rw mRw (c.cl m) (c.nG m), mRw.b, (fnIn_of lRw), tyRw⟩
  have tw : ∀ m, m < 6 → TellsW P w K mg base (c.C m) (wordsOf m) := by
    intro m hm
    have hm' : m = 0 ∨ m = 1 ∨ m = 2 ∨ m = 3 ∨ m = 4 ∨ m = 5 := by omega
    rcases hm' with rfl | rfl | rfl | rfl | rfl | rfl
    · exact ⟨_, _, ⟨at_words_e, fnEw, kEw⟩, (up_Read SEw ST (by decide) mr_ee su_ee (fnIn_of lEw) tyEw (uR 0)).b, (up_Read SEw ST (by decide) mr_ee su_ee (fnIn_of lEw) tyEw (uR 0)).G.mono (by decide)⟩
    · exact ⟨_, _, ⟨at_words_m, fnMw, kMw⟩, (up_Made SMw ST (by decide) mr_mm su_mm (fnIn_of lMw) tyMw (uR 1)).b, (up_Made SMw ST (by decide) mr_mm su_mm (fnIn_of lMw) tyMw (uR 1)).G.mono (by decide)⟩
    · exact ⟨_, _, ⟨at_words_f, fnFw, kFw⟩, (up_Fresh SFw ST (by decide) mr_ff su_ff (fnIn_of lFw) tyFw (uR 2)).b, (up_Fresh SFw ST (by decide) mr_ff su_ff (fnIn_of lFw) tyFw (uR 2)).G.mono (by decide)⟩
    · exact ⟨_, _, ⟨at_words_b, fnEw, kEw⟩, (up_Read SEw ST (by decide) mr_be su_be (fnIn_of lEw) tyEw (up_Made SMw ST (by decide) mr_bm su_bm (fnIn_of lMw) tyMw (uR 3))).b, (up_Read SEw ST (by decide) mr_be su_be (fnIn_of lEw) tyEw (up_Made SMw ST (by decide) mr_bm su_bm (fnIn_of lMw) tyMw (uR 3))).G.mono (by decide)⟩
    · exact ⟨_, _, ⟨at_words_w, fnEw, kEw⟩, (up_Read SEw ST (by decide) mr_we su_we (fnIn_of lEw) tyEw (up_Fresh SFw ST (by decide) mr_wf su_wf (fnIn_of lFw) tyFw (uR 4))).b, (up_Read SEw ST (by decide) mr_we su_we (fnIn_of lEw) tyEw (up_Fresh SFw ST (by decide) mr_wf su_wf (fnIn_of lFw) tyFw (uR 4))).G.mono (by decide)⟩
    · exact ⟨_, _, ⟨at_words_r, fnRw, kRw⟩, (uR 5).b, (uR 5).G.mono (by decide)⟩
  have t1 : ∀ m, m < 6 → Tells P w K mg base (c.C m) "reads" (.bl (rdB m)) := by
    intro m hm
    have hm' : m = 0 ∨ m = 1 ∨ m = 2 ∨ m = 3 ∨ m = 4 ∨ m = 5 := by omega
    rcases hm' with rfl | rfl | rfl | rfl | rfl | rfl
    · exact ⟨_, _, _, mEr, ⟨at_reads_e, fnEr, kEr⟩, ok_Er mEr⟩
    · exact ⟨_, _, _, mRr, ⟨at_reads_m, fnRr, kRr⟩, ok_Rr mRr⟩
    · exact ⟨_, _, _, mRr, ⟨at_reads_f, fnRr, kRr⟩, ok_Rr mRr⟩
    · exact ⟨_, _, _, mEr, ⟨at_reads_b, fnEr, kEr⟩, ok_Er mEr⟩
    · exact ⟨_, _, _, mEr, ⟨at_reads_w, fnEr, kEr⟩, ok_Er mEr⟩
    · exact ⟨_, _, _, mRr, ⟨at_reads_r, fnRr, kRr⟩, ok_Rr mRr⟩
  have t2 : ∀ m, m < 6 → Tells P w K mg base (c.C m) "makes" (.bl (mkB m)) := by
    intro m hm
    have hm' : m = 0 ∨ m = 1 ∨ m = 2 ∨ m = 3 ∨ m = 4 ∨ m = 5 := by omega
    rcases hm' with rfl | rfl | rfl | rfl | rfl | rfl
    · exact ⟨_, _, _, mRm, ⟨at_makes_e, fnRm, kRm⟩, ok_Rm mRm⟩
    · exact ⟨_, _, _, mMm, ⟨at_makes_m, fnMm, kMm⟩, ok_Mm mMm⟩
    · exact ⟨_, _, _, mFm, ⟨at_makes_f, fnFm, kFm⟩, ok_Fm mFm⟩
    · exact ⟨_, _, _, mMm, ⟨at_makes_b, fnMm, kMm⟩, ok_Mm mMm⟩
    · exact ⟨_, _, _, mFm, ⟨at_makes_w, fnFm, kFm⟩, ok_Fm mFm⟩
    · exact ⟨_, _, _, mRm, ⟨at_makes_r, fnRm, kRm⟩, ok_Rm mRm⟩
  have t3 : ∀ m, m < 6 → Tells P w K mg base (c.C m) "derived" (.bl (dvB m)) := by
    intro m hm
    have hm' : m = 0 ∨ m = 1 ∨ m = 2 ∨ m = 3 ∨ m = 4 ∨ m = 5 := by omega
    rcases hm' with rfl | rfl | rfl | rfl | rfl | rfl
    · exact ⟨_, _, _, mRd, ⟨at_derived_e, fnRd, kRd⟩, ok_Rd mRd⟩
    · exact ⟨_, _, _, mMd, ⟨at_derived_m, fnMd, kMd⟩, ok_Md mMd⟩
    · exact ⟨_, _, _, mRd, ⟨at_derived_f, fnRd, kRd⟩, ok_Rd mRd⟩
    · exact ⟨_, _, _, mMd, ⟨at_derived_b, fnMd, kMd⟩, ok_Md mMd⟩
    · exact ⟨_, _, _, mRd, ⟨at_derived_w, fnRd, kRd⟩, ok_Rd mRd⟩
    · exact ⟨_, _, _, mRd, ⟨at_derived_r, fnRd, kRd⟩, ok_Rd mRd⟩
  have gL' : mg "LONGEST_NAME" = some (.int 8 tk) := PySem.W.mg_of X G gL
  have ti : ∀ m, m < 6 → TellsI P w K mg base c.C m := by
    intro m hm
    have hm' : m = 0 ∨ m = 1 ∨ m = 2 ∨ m = 3 ∨ m = 4 ∨ m = 5 := by omega
    rcases hm' with rfl | rfl | rfl | rfl | rfl | rfl
    · exact ⟨_, _, ⟨at_imaged_e, fnRi, kRi⟩, mRi.b, im_self (k := 1) (by decide) rfl (ok_Ri mRi)⟩
    · exact ⟨_, _, ⟨at_imaged_m, fnMi, kMi⟩, mMi.b, im_new (c.cl 1) (c.nN 1) (c.nG 1) rfl (ok_Mi mMi mInit rf T dR eN_ gL')⟩
    · exact ⟨_, _, ⟨at_imaged_f, fnRi, kRi⟩, mRi.b, im_self (k := 1) (by decide) rfl (ok_Ri mRi)⟩
    · exact ⟨_, _, ⟨at_imaged_b, fnBi, kBi⟩, mBi.b, im_new (c.cl 3) (c.nN 3) (c.nG 3) rfl (ok_Bi mBi mInit rw_ T dR eN_ gL')⟩
    · exact ⟨_, _, ⟨at_imaged_w, fnRi, kRi⟩, mRi.b, im_self (k := 1) (by decide) rfl (ok_Ri mRi)⟩
    · exact ⟨_, _, ⟨at_imaged_r, fnRi, kRi⟩, mRi.b, im_self (k := 1) (by decide) rfl (ok_Ri mRi)⟩
  have GP : FnOk P w K mg base CX0 1 dP.f dP.fd _ (spPool K) := ok_pool dP.F T
  have GD : FnOk P w K mg base CX0 1 dD.f dD.fd _ spDraw := ok_draw dD.F T
  have GN : FnOk P w K mg base CX0 2 dN.f dN.fd _ spNames := ok_names dN.F T dD dW
  have GB : FnOk P w K mg base CX0 2 dB.f dB.fd _ spBad := ok_bad dB.F T dD
  have GA : FnOk P w K mg base (L2.CX P w) 7 dA.f dA.fd _ (spRole eN_.C c.C 6) := ok_any dA dRo mInit c T dR eN_ gL'
  have GI : FnOk P w K mg base CX0 4 dI.f dI.fd _ (spIs c.C) := ok_is dI dLr dLd dFl dCl c ks T t1 t2 t3 tw
  have GE : FnOk P w K mg base CX0 8 dErr.f dErr.fd _ spError := ok_error dErr dA dRo mInit c T dR eN_ gL' (PySem.W.mg_of X G gRE) (PySem.W.mg_of X G gBK) q1 q2 q3
  exact ok_law (fun_mk (st := s_law) lLaw cLaw kLaw) T dP dD dN dA dI dB dErr c GP GD GN GA GI GB GE ti
theorem walk {l : PySem.W.OpenLaw} {q : Program} {loose : List Str} {XP : (Str → Option Value) → Heap → Prop} {YP : World → Heap → Prop} {d : DefRec} {K : Params → PySem.W.Frag} (hn : l.most = some 63) (hdf : d.params.defaults = []) (hY : ∀ (w : World) (h : Heap), YP w h → (K w.params).In h)
    (F : ∀ (w : World) (mg : Str → Option Value) (fa : Addr) (h : Heap), (K w.params).In h → h.Ns mainGlobals mg → mg d.name = some (.ref fa) → ∃ fd : FuncData, (∀ (s : Shared) (u : Value), BindsTo s fd ⟨[u], []⟩ [("_law_script", u)]) ∧ ∀ base : Heap, (K w.params).In base → base.Ns mainGlobals mg → FnOk l.prog w (K w.params) mg base CX0 9 fa fd ["_law_script"] (spLaw (K w.params))) :
    PySem.W.WalkO q loose XP YP l.row.toRowW d [] (fun f vs => PySem.call f vs) :=
  L2.walk_of (n := 63) (k := 9) (x := "_law_script") (CX := fun _ => CX0) (sp := fun w => spLaw (K w.params)) hn (by decide) hdf ⟨rfl, by decide, by decide⟩ hY F (fun _ _ a ns hl _ hS => ⟨a, ns, rfl, hS, hl, fun _ => rfl⟩) fun _ _ _ _ _ z => z

end
end Toy
open PySem PySem.W PyProof.Rows in
set_option maxRecDepth 100000 in
set_option maxHeartbeats 0 in
theorem PySem.Challenge.cw_redopages_k01_roles_and_their_words_holds : PySem.Challenge.rw_redopages_k01_roles_and_their_words.Holds := by
  w_on; o_law; k_head; (case hw => w_witness2)
  k_fill
  refine Toy.walk (l := PySem.Challenge.rw_redopages_k01_roles_and_their_words) rfl rfl (fun w h Y => PySem.W.kIn_of Y) ?F
  case F =>
    intro w mg fa h KX G hmg
    refine' Toy.all_mk KX G hmg ?aP ?lP ?cP ?kP ?aD ?lD ?cD ?kD ?aW ?lW ?cW ?kW ?aN ?lN ?cN ?kN ?aB ?lB ?cB ?kB ?aR ?lR ?cR ?kR ?aRo ?lRo ?cRo ?kRo ?aA ?lA ?cA ?kA ?aLr ?lLr ?cLr ?kLr ?aLd ?lLd ?cLd ?kLd ?aCl ?lCl ?cCl ?kCl ?aFl ?lFl ?cFl ?kFl ?aI ?lI ?cI ?kI ?aErr ?lErr ?cErr ?kErr ?gr ?ge ?gm ?gf ?gb ?gw ?at_reads_r ?at_makes_r ?at_derived_r ?at_imaged_r ?at_words_r ?in_r ?at_reads_e ?at_makes_e ?at_derived_e ?at_imaged_e ?at_words_e ?in_e ?at_reads_m ?at_makes_m ?at_derived_m ?at_imaged_m ?at_words_m ?in_m ?at_reads_f ?at_makes_f ?at_derived_f ?at_imaged_f ?at_words_f ?in_f ?at_reads_b ?at_makes_b ?at_derived_b ?at_imaged_b ?at_words_b ?in_b ?at_reads_w ?at_makes_w ?at_derived_w ?at_imaged_w ?at_words_w ?in_w ?lInit ?cInit ?kInit ?fnInit ?lRr ?cRr ?kRr ?fnRr ?lRm ?cRm ?kRm ?fnRm ?lRd ?cRd ?kRd ?fnRd ?lEr ?cEr ?kEr ?fnEr ?lFm ?cFm ?kFm ?fnFm ?lMm ?cMm ?kMm ?fnMm ?lMd ?cMd ?kMd ?fnMd ?lRi ?cRi ?kRi ?fnRi ?lMi ?cMi ?kMi ?fnMi ?lBi ?cBi ?kBi ?fnBi ?lRw ?cRw ?kRw ?fnRw ?spc ?tkc ?pgr ?hdr ?por ?sar ?mkr ?kcr ?nnr ?ngr ?mar ?mxr ?msr ?car ?mor ?pge ?hde ?poe ?sae ?mke ?kce ?nne ?nge ?mae ?mxe ?mse ?cae ?moe ?pgm ?hdm ?pom ?sam ?mkm ?kcm ?nnm ?ngm ?mam ?mxm ?msm ?cam ?mom ?pgf ?hdf ?pof ?saf ?mkf ?kcf ?nnf ?ngf ?maf ?mxf ?msf ?caf ?mof ?pgb ?hdb ?pob ?sab ?mkb ?kcb ?nnb ?ngb ?mab ?mxb ?msb ?cab ?mob ?pgw ?hdw ?pow ?saw ?mkw ?kcw ?nnw ?ngw ?maw ?mxw ?msw ?caw ?mow ?ki00 ?ki01 ?ki02 ?ki03 ?ki04 ?ki05 ?ki10 ?ki11 ?ki12 ?ki13 ?ki14 ?ki15 ?ki20 ?ki21 ?ki22 ?ki23 ?ki24 ?ki25 ?ki30 ?ki31 ?ki32 ?ki33 ?ki34 ?ki35 ?ki40 ?ki41 ?ki42 ?ki43 ?ki44 ?ki45 ?ki50 ?ki51 ?ki52 ?ki53 ?ki54 ?ki55 ?gE ?xE ?bE ?saE ?gaE ?ggE ?nnE ?inE ?tyI ?lBi_ ?cBi_ ?kBi_ ?kE ?exE ?tyE ?hdE ?sE ?clE ?moE ?gRE ?gBK ?q1 ?q2 ?q3 ?gL ?z_len ?z_sum ?z_int ?z_range ?z_isinstance ?z_any ?z_all ?z_list ?z_tuple ?z_sorted ?z_set ?z_bool ?z_ValueError ?z_super ?thp ?htop ?lEw ?cEw ?lcEw ?v2Ew ?fiEw ?ceEw ?cDEw ?fnEw ?kEw ?tyEw ?lFw ?cFw ?lcFw ?v2Fw ?fiFw ?ceFw ?cDFw ?fnFw ?kFw ?tyFw ?lMw ?cMw ?lcMw ?v2Mw ?fiMw ?ceMw ?cDMw ?fnMw ?kMw ?tyMw ?tyRw ?mr_ee ?su_ee ?mr_mm ?su_mm ?mr_ff ?su_ff ?mr_be ?su_be ?mr_bm ?su_bm ?mr_we ?su_we ?mr_wf ?su_wf ?aLaw ?lLaw ?cLaw ?kLaw
    (case aP => k_is)
    (case lP => k_is)
    (case cP => k_is)
    (case kP => k_is)
    (case aD => k_is)
    (case lD => k_is)
    (case cD => k_is)
    (case kD => k_is)
    (case aW => k_is)
    (case lW => k_is)
    (case cW => k_is)
    (case kW => k_is)
    (case aN => k_is)
    (case lN => k_is)
    (case cN => k_is)
    (case kN => k_is)
    (case aB => k_is)
    (case lB => k_is)
    (case cB => k_is)
    (case kB => k_is)
    (case aR => k_is)
    (case lR => k_is)
    (case cR => k_is)
    (case kR => k_is)
    (case aRo => k_is)
    (case lRo => k_is)
    (case cRo => k_is)
    (case kRo => k_is)
    (case aA => k_is)
    (case lA => k_is)
    (case cA => k_is)
    (case kA => k_is)
    (case aLr => k_is)
    (case lLr => k_is)
    (case cLr => k_is)
    (case kLr => k_is)
    (case aLd => k_is)
    (case lLd => k_is)
    (case cLd => k_is)
    (case kLd => k_is)
    (case aCl => k_is)
    (case lCl => k_is)
    (case cCl => k_is)
    (case kCl => k_is)
    (case aFl => k_is)
    (case lFl => k_is)
    (case cFl => k_is)
    (case kFl => k_is)
    (case aI => k_is)
    (case lI => k_is)
    (case cI => k_is)
    (case kI => k_is)
    (case aErr => k_is)
    (case lErr => k_is)
    (case cErr => k_is)
    (case kErr => k_is)
    (case gr => k_is)
    (case ge => k_is)
    (case gm => k_is)
    (case gf => k_is)
    (case gb => k_is)
    (case gw => k_is)
    (case at_reads_r => k_is)
    (case at_makes_r => k_is)
    (case at_derived_r => k_is)
    (case at_imaged_r => k_is)
    (case at_words_r => k_is)
    (case in_r => k_is)
    (case at_reads_e => k_is)
    (case at_makes_e => k_is)
    (case at_derived_e => k_is)
    (case at_imaged_e => k_is)
    (case at_words_e => k_is)
    (case in_e => k_is)
    (case at_reads_m => k_is)
    (case at_makes_m => k_is)
    (case at_derived_m => k_is)
    (case at_imaged_m => k_is)
    (case at_words_m => k_is)
    (case in_m => k_is)
    (case at_reads_f => k_is)
    (case at_makes_f => k_is)
    (case at_derived_f => k_is)
    (case at_imaged_f => k_is)
    (case at_words_f => k_is)
    (case in_f => k_is)
    (case at_reads_b => k_is)
    (case at_makes_b => k_is)
    (case at_derived_b => k_is)
    (case at_imaged_b => k_is)
    (case at_words_b => k_is)
    (case in_b => k_is)
    (case at_reads_w => k_is)
    (case at_makes_w => k_is)
    (case at_derived_w => k_is)
    (case at_imaged_w => k_is)
    (case at_words_w => k_is)
    (case in_w => k_is)
    (case lInit => k_is)
    (case cInit => k_is)
    (case kInit => k_is)
    (case fnInit => k_is)
    (case lRr => k_is)
    (case cRr => k_is)
    (case kRr => k_is)
    (case fnRr => k_is)
    (case lRm => k_is)
    (case cRm => k_is)
    (case kRm => k_is)
    (case fnRm => k_is)
    (case lRd => k_is)
    (case cRd => k_is)
    (case kRd => k_is)
    (case fnRd => k_is)
    (case lEr => k_is)
    (case cEr => k_is)
    (case kEr => k_is)
    (case fnEr => k_is)
    (case lFm => k_is)
    (case cFm => k_is)
    (case kFm => k_is)
    (case fnFm => k_is)
    (case lMm => k_is)
    (case cMm => k_is)
    (case kMm => k_is)
    (case fnMm => k_is)
    (case lMd => k_is)
    (case cMd => k_is)
    (case kMd => k_is)
    (case fnMd => k_is)
    (case lRi => k_is)
    (case cRi => k_is)
    (case kRi => k_is)
    (case fnRi => k_is)
    (case lMi => k_is)
    (case cMi => k_is)
    (case kMi => k_is)
    (case fnMi => k_is)
    (case lBi => k_is)
    (case cBi => k_is)
    (case kBi => k_is)
    (case fnBi => k_is)
    (case lRw => k_is)
    (case cRw => k_is)
    (case kRw => k_is)
    (case fnRw => k_is)
    (case spc => k_is)
    (case tkc => k_is)
    (case pgr => k_is)
    (case hdr => k_is)
    (case por => k_is)
    (case sar => k_is)
    (case mkr => k_is)
    (case kcr => k_is)
    (case nnr => k_is)
    (case ngr => k_is)
    (case mar => k_is)
    (case mxr => decide +kernel)
    (case msr => k_is)
    (case car => k_is)
    (case mor => k_is)
    (case pge => k_is)
    (case hde => k_is)
    (case poe => k_is)
    (case sae => k_is)
    (case mke => k_is)
    (case kce => k_is)
    (case nne => k_is)
    (case nge => k_is)
    (case mae => k_is)
    (case mxe => decide +kernel)
    (case mse => k_is)
    (case cae => k_is)
    (case moe => k_is)
    (case pgm => k_is)
    (case hdm => k_is)
    (case pom => k_is)
    (case sam => k_is)
    (case mkm => k_is)
    (case kcm => k_is)
    (case nnm => k_is)
    (case ngm => k_is)
    (case mam => k_is)
    (case mxm => decide +kernel)
    (case msm => k_is)
    (case cam => k_is)
    (case mom => k_is)
    (case pgf => k_is)
    (case hdf => k_is)
    (case pof => k_is)
    (case saf => k_is)
    (case mkf => k_is)
    (case kcf => k_is)
    (case nnf => k_is)
    (case ngf => k_is)
    (case maf => k_is)
    (case mxf => decide +kernel)
    (case msf => k_is)
    (case caf => k_is)
    (case mof => k_is)
    (case pgb => k_is)
    (case hdb => k_is)
    (case pob => k_is)
    (case sab => k_is)
    (case mkb => k_is)
    (case kcb => k_is)
    (case nnb => k_is)
    (case ngb => k_is)
    (case mab => k_is)
    (case mxb => decide +kernel)
    (case msb => k_is)
    (case cab => k_is)
    (case mob => k_is)
    (case pgw => k_is)
    (case hdw => k_is)
    (case pow => k_is)
    (case saw => k_is)
    (case mkw => k_is)
    (case kcw => k_is)
    (case nnw => k_is)
    (case ngw => k_is)
    (case maw => k_is)
    (case mxw => decide +kernel)
    (case msw => k_is)
    (case caw => k_is)
    (case mow => k_is)
    (case ki00 => kit_is)
    (case ki01 => kit_is)
    (case ki02 => kit_is)
    (case ki03 => kit_is)
    (case ki04 => kit_is)
    (case ki05 => kit_is)
    (case ki10 => kit_is)
    (case ki11 => kit_is)
    (case ki12 => kit_is)
    (case ki13 => kit_is)
    (case ki14 => kit_is)
    (case ki15 => kit_is)
    (case ki20 => kit_is)
    (case ki21 => kit_is)
    (case ki22 => kit_is)
    (case ki23 => kit_is)
    (case ki24 => kit_is)
    (case ki25 => kit_is)
    (case ki30 => kit_is)
    (case ki31 => kit_is)
    (case ki32 => kit_is)
    (case ki33 => kit_is)
    (case ki34 => kit_is)
    (case ki35 => kit_is)
    (case ki40 => kit_is)
    (case ki41 => kit_is)
    (case ki42 => kit_is)
    (case ki43 => kit_is)
    (case ki44 => kit_is)
    (case ki45 => kit_is)
    (case ki50 => kit_is)
    (case ki51 => kit_is)
    (case ki52 => kit_is)
    (case ki53 => kit_is)
    (case ki54 => kit_is)
    (case ki55 => kit_is)
    (case gE => k_is)
    (case xE => k_is)
    (case bE => decide +kernel)
    (case saE => k_is)
    (case gaE => k_is)
    (case ggE => k_is)
    (case nnE => k_is)
    (case inE => k_is)
    (case tyI => k_is)
    (case lBi_ => k_is)
    (case cBi_ => k_is)
    (case kBi_ => k_is)
    (case kE => k_is)
    (case exE => k_is)
    (case tyE => k_is)
    (case hdE => k_is)
    (case sE => first | rfl | k_is)
    (case clE => k_is)
    (case moE => k_is)
    (case gRE => k_is)
    (case gBK => k_is)
    (case q1 => kit_is)
    (case q2 => kit_is)
    (case q3 => kit_is)
    (case gL => k_is)
    (case z_len => k_is)
    (case z_sum => k_is)
    (case z_int => k_is)
    (case z_range => k_is)
    (case z_isinstance => k_is)
    (case z_any => k_is)
    (case z_all => k_is)
    (case z_list => k_is)
    (case z_tuple => k_is)
    (case z_sorted => k_is)
    (case z_set => k_is)
    (case z_bool => k_is)
    (case z_ValueError => k_is)
    (case z_super => k_is)
    (case thp => k_is)
    (case htop => decide +kernel)
    (case lEw => k_is)
    (case cEw => k_is)
    (case lcEw => k_is)
    (case v2Ew => rfl)
    (case fiEw => first | rfl | decide +kernel)
    (case ceEw => k_is)
    (case cDEw => k_is)
    (case fnEw => k_is)
    (case kEw => k_is)
    (case tyEw => k_is)
    (case lFw => k_is)
    (case cFw => k_is)
    (case lcFw => k_is)
    (case v2Fw => rfl)
    (case fiFw => first | rfl | decide +kernel)
    (case ceFw => k_is)
    (case cDFw => k_is)
    (case fnFw => k_is)
    (case kFw => k_is)
    (case tyFw => k_is)
    (case lMw => k_is)
    (case cMw => k_is)
    (case lcMw => k_is)
    (case v2Mw => rfl)
    (case fiMw => first | rfl | decide +kernel)
    (case ceMw => k_is)
    (case cDMw => k_is)
    (case fnMw => k_is)
    (case kMw => k_is)
    (case tyMw => k_is)
    (case tyRw => k_is)
    (case mr_ee => k_is)
    (case su_ee => ks_is)
    (case mr_mm => k_is)
    (case su_mm => ks_is)
    (case mr_ff => k_is)
    (case su_ff => ks_is)
    (case mr_be => k_is)
    (case su_be => ks_is)
    (case mr_bm => k_is)
    (case su_bm => ks_is)
    (case mr_we => k_is)
    (case su_we => ks_is)
    (case mr_wf => k_is)
    (case su_wf => ks_is)
    (case aLaw => k_is)
    (case lLaw => k_is)
    (case cLaw => k_is)
    (case kLaw => k_is)
