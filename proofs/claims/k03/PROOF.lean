import PyProof.Rows.All
import Wide.All
import OpenK.AllK
import Wide.FinOn
import HandS.ForMost
import HandS.Exc
import HandS.ExcOwn
import HandS.ExcInit
import HandS.ExcField
import HandS.ExcIs
import HandS.TryOnly
import HandS.TryMany
import HandS.WordsExc
import HandS.CallSlots
import HandS.IsInst
import HandS.Codes
import HandS.Walk
import HandS.Steps
import HandS.StrMore
import HandS.Strs
import HandS.TupSets
import HandS.Zip
import PyProof.Rows.SortStr
import HandS.OwnIter
import HandS.OwnEq
import HandS.IterVal
import HandS.More
import PySem.Challenge.RW_redopages_k03_catalogs_and_their_groups
set_option Elab.async false
set_option linter.all false
set_option maxRecDepth 100000
set_option maxHeartbeats 4000000
/-! readings by named steps -/
namespace Fw
open PySem PySem.Spec L2

/-! ### a def of the top -/
structure Df (K : PySem.W.Frag) (mg : Str → Option Value) (nm qual : Str) (st : Stmt) (ps : List Str) where
  f : Addr
  fd : FuncData
  F : Fun K nm qual st f fd
  g : mg nm = some (.ref f)
  b : Binds K fd ps []
/-- a method: where it stands -/
structure Mf (K : PySem.W.Frag) (nm qual : Str) (st : Stmt) (ps : List Str) where
  f : Addr
  fd : FuncData
  F : Fun K nm qual st f fd
  b : Binds K fd ps []

section
variable {X : Cx}
/-! ### named relations -/
def rLtS : R2 := fun x y H Q => ∃ i j, x = .str i ∧ y = .str j ∧ Q (.bl (decide (i.cps.toList < j.cps.toList))) H
theorem op_ltS : OpR X (compareOp .Lt) rLtS := op_lt_str
def rLeS : R2 := fun x y H Q => ∃ i j, x = .str i ∧ y = .str j ∧ Q (.bl (!decide (j.cps.toList < i.cps.toList))) H
theorem op_leS : OpR X (compareOp .LtE) rLeS := op_le_str
def rLtA : R2 := fun x y H Q => rI0 (fun i j => .bl (decide (i < j))) x y H Q ∨ rLtS x y H Q
theorem op_ltA : OpR X (compareOp .Lt) rLtA := op_lt.or op_ltS
def rLeA : R2 := fun x y H Q => rI0 (fun i j => .bl (decide (i ≤ j))) x y H Q ∨ rLeS x y H Q
theorem op_leA : OpR X (compareOp .LtE) rLeA := op_le.or op_leS
def rGtI : R2 := rI0 fun i j => .bl (decide (j < i))
theorem op_gtI : OpR X (compareOp .Gt) rGtI := op_gt
def rGeI : R2 := rI0 fun i j => .bl (decide (j ≤ i))
theorem op_geI : OpR X (compareOp .GtE) rGeI := op_ge
def rAddA : R2 := fun x y H Q => rI0 (fun i j => .int (i + j)) x y H Q ∨ rAddS x y H Q ∨ rCat x y H Q
theorem op_addA : OpR X (binaryOp .Add) rAddA := op_add.or (OpR.or (r := rAddS) op_add_str op_cat)
def rSubI : R2 := rI0 fun i j => .int (i - j)
theorem op_subI : OpR X (binaryOp .Sub) rSubI := op_sub
def rModI : R2 := rI (fun _ j => 0 < j) fun i j => .int (i % j)
theorem op_modI : OpR X (binaryOp .Mod) rModI := op_mod
def rDivI : R2 := rI CDiv fun i j => .int (i / j)
theorem op_divI : OpR X (binaryOp .FloorDiv) rDivI := op_fdiv
def rPowI : R2 := rI CPow fun i j => .int (i ^ j.toNat)
theorem op_powI : OpR X (binaryOp .Pow) rPowI := op_pow
/-- == and != : of scalars, of data -/
def rEqA (K : PySem.W.Frag) : R2 := fun x y H Q => rEq x y H Q ∨ rEqD K x y H Q
def rNeA (K : PySem.W.Frag) : R2 := fun x y H Q => rNe x y H Q ∨ rNeD K x y H Q
theorem op_eqA (hu : X.A.units + 64 < cLine) : OpR X (compareOp .Eq) (rEqA X.K) := op_eq.or (op_eqD hu)
theorem op_neA (hu : X.A.units + 64 < cLine) : OpR X (compareOp .NotEq) (rNeA X.K) := op_ne.or (op_neD hu)
def rLenA (K : PySem.W.Frag) : List V → Hp → VK → Prop := fun xs H Q => ∃ x n, xs = [x] ∧ LenV K x H n ∧ Q (.int n) H
theorem call_lenA : CallR X (.builtin "len") (rLenA X.K) := call_len
def rInt1 : List V → Hp → VK → Prop := fun xs H Q => (∃ i, xs = [.int i] ∧ Q (.int i) H) ∨ ∃ k, xs = [.bl k] ∧ Q (.int (if k then 1 else 0)) H
theorem call_intA : CallR X (.type "int") rInt1 := call_int1
def rSlA (K : PySem.W.Frag) : V → Option Int → Option Int → Hp → VK → Prop := fun x lo hi H Q => rSlL K x lo hi H Q ∨ rSlS x lo hi H Q
theorem sl_any : SlR X (rSlA X.K) := sl_list.or sl_str
def rJoin (K : PySem.W.Frag) : V → List V → Hp → VK → Prop := fun x xs H Q => ∃ a p, ∃ ys : List Str, x = .str a ∧ xs = [.ref p] ∧ (SqL K H p (ys.map V.str) ∨ SqT K H p (ys.map V.str)) ∧
    (ys.map (·.length)).sum + ys.length * a.length ≤ 16777216 ∧ Q (.str (Txt.join a ys)) H
def rUpper : V → List V → Hp → VK → Prop := fun x xs H Q => ∃ a, x = .str a ∧ xs = [] ∧ a.length ≤ 5592405 ∧ Q (.str (Txt.upper a)) H
theorem pe_joinA {o e : Expr} {to te : TE} {apos pos : Pos} (ho : PE X o to) (he : PE X e te) (hs : starEach [e] X.env = [(false, eval e X.env)] := by rfl) (hbase : attributeBase o "join" X.env (eval o X.env) = eval o X.env := by rfl) (hline : (apos.endLine == pos.line) = true := by rfl) :
    PE X (.Call (.Attribute o "join" apos) [e] [] pos) (tM1 (rJoin X.K) to te) := pe_join ho he hs hbase hline
theorem pe_upperA {o : Expr} {to : TE} {apos pos : Pos} (ho : PE X o to) (hbase : attributeBase o "upper" X.env (eval o X.env) = eval o X.env := by rfl) (hline : (apos.endLine == pos.line) = true := by rfl) :
    PE X (.Call (.Attribute o "upper" apos) [] [] pos) (tM0 rUpper to) := pe_upper ho hbase hline

/-! ### calls of defs -/
theorem pe_cf {P : Program} {w : World} {K : PySem.W.Frag} {mg : Str → Option Value} {base : Heap} {nm q : Str} {st : Stmt} {ps : List Str} {CX : CXT} {k : Nat} {sp : Sp} {E : XK} {e : Expr} {es : List Expr} {t : TA} {p pos : Pos} (d : Df K mg nm q st ps) (F : FnOk P w K mg base CX k d.f d.fd ps sp) (hr : Room k X.A) (hx : Passes CX X E)
    (ha : PA X (e :: es) t) (h1 : X.prog = P := by rfl) (h2 : X.w = w := by rfl) (h3 : X.K = K := by rfl) (h4 : X.mg = mg := by rfl) (h5 : X.base = base := by rfl) (hg : Gl X nm := by rfl) (hd : (nm == ("__debug__" : Str)) = false := by decide) (he : starEach (e :: es) X.env = (false, eval e X.env) :: starEach es X.env := by rfl) (hpl : (backTo pos (starEach es X.env)).any (·.1) = false := by rfl) :
    PE X (.Call (.Name nm p) (e :: es) [] pos) (tCall sp [] E t) := by
  subst h1 h2 h3 h4 h5
  exact pe_call F hr hg d.g d.F.kp d.b .nil hx ha hd he hpl
end

/-! ### readings, step by step -/
namespace Rd
variable {K : PySem.W.Frag} {σ : St} {H : Hp} {Q : VK} {x y z v : V} {ta tb te tc to tx : TE} {t u : TS} {i j : Int} {a b p : Addr} {N : St → Hp → Prop} {r : VK} {bk ct : St → Hp → Prop} {g : Int → Int → V}
theorem var {i : Nat} (h : σ[i]? = some (some v)) (q : Q v H) : tVar i σ H Q := ⟨v, h, q⟩
theorem con (q : Q v H) : tC v σ H Q := q
theorem op {r : R2} (h : ta σ H fun x H1 => tb σ H1 fun y H2 => r x y H2 Q) : tOp r ta tb σ H Q := h
theorem i0 (q : Q (g i j) H) : rI0 g (.int i) (.int j) H Q := ⟨i, j, rfl, rfl, q⟩
theorem ii {C : Int → Int → Prop} (c : C i j) (q : Q (g i j) H) : rI C g (.int i) (.int j) H Q := ⟨i, j, rfl, rfl, c, q⟩
theorem addI (q : Q (.int (i + j)) H) : rAddA (.int i) (.int j) H Q := .inl ⟨i, j, rfl, rfl, q⟩
theorem addS {x y : Str} (h : x.length + y.length ≤ sizeLine) (q : Q (.str (x ++ y)) H) : rAddA (.str x) (.str y) H Q := .inr (.inl ⟨x, y, rfl, rfl, h, q⟩)
theorem addL {xs ys : List V} (h1 : H a = some (.lst xs)) (h2 : H b = some (.lst ys)) (hl : xs.length + ys.length ≤ sizeLine) (q : ∀ p, H p = none → Q (.ref p) (upd H p (.lst (xs ++ ys)))) : rAddA (.ref a) (.ref b) H Q :=
  .inr (.inr ⟨a, b, xs, ys, rfl, rfl, h1, h2, hl, q⟩)
theorem subI (q : Q (.int (i - j)) H) : rSubI (.int i) (.int j) H Q := ⟨i, j, rfl, rfl, q⟩
theorem modI (h : 0 < j) (q : Q (.int (i % j)) H) : rModI (.int i) (.int j) H Q := ⟨i, j, rfl, rfl, h, q⟩
theorem divI (h : CDiv i j) (q : Q (.int (i / j)) H) : rDivI (.int i) (.int j) H Q := ⟨i, j, rfl, rfl, h, q⟩
theorem powI (h : CPow i j) (q : Q (.int (i ^ j.toNat)) H) : rPowI (.int i) (.int j) H Q := ⟨i, j, rfl, rfl, h, q⟩
theorem gtI (q : Q (.bl (decide (j < i))) H) : rGtI (.int i) (.int j) H Q := ⟨i, j, rfl, rfl, q⟩
theorem geI (q : Q (.bl (decide (j ≤ i))) H) : rGeI (.int i) (.int j) H Q := ⟨i, j, rfl, rfl, q⟩
theorem ltI (q : Q (.bl (decide (i < j))) H) : rLtA (.int i) (.int j) H Q := .inl ⟨i, j, rfl, rfl, q⟩
theorem leI (q : Q (.bl (decide (i ≤ j))) H) : rLeA (.int i) (.int j) H Q := .inl ⟨i, j, rfl, rfl, q⟩
theorem ltS {x y : Str} (q : Q (.bl (decide (x.cps.toList < y.cps.toList))) H) : rLtA (.str x) (.str y) H Q := .inr ⟨x, y, rfl, rfl, q⟩
theorem leS {x y : Str} (q : Q (.bl (!decide (y.cps.toList < x.cps.toList))) H) : rLeA (.str x) (.str y) H Q := .inr ⟨x, y, rfl, rfl, q⟩
theorem eqI (q : Q (.bl (decide (i = j))) H) : rEqA K (.int i) (.int j) H Q := .inl ⟨rfl, by
  have e : decide (V.int i = V.int j) = decide (i = j) := decide_eq_decide.mpr ⟨fun z => V.int.inj z, fun z => by rw [z]⟩
  rw [e]; exact q⟩
theorem neI (q : Q (.bl (!decide (i = j))) H) : rNeA K (.int i) (.int j) H Q := .inl ⟨rfl, by
  have e : decide (V.int i = V.int j) = decide (i = j) := decide_eq_decide.mpr ⟨fun z => V.int.inj z, fun z => by rw [z]⟩
  rw [e]; exact q⟩
theorem eqS {x y : Str} (q : Q (.bl (decide (x = y))) H) : rEqA K (.str x) (.str y) H Q := .inl ⟨rfl, by
  have e : decide (V.str x = V.str y) = decide (x = y) := decide_eq_decide.mpr ⟨fun z => V.str.inj z, fun z => by rw [z]⟩
  rw [e]; exact q⟩
theorem neS {x y : Str} (q : Q (.bl (!decide (x = y))) H) : rNeA K (.str x) (.str y) H Q := .inl ⟨rfl, by
  have e : decide (V.str x = V.str y) = decide (x = y) := decide_eq_decide.mpr ⟨fun z => V.str.inj z, fun z => by rw [z]⟩
  rw [e]; exact q⟩
theorem eqD {d e : PyData} (h1 : Dp K H x d) (h2 : Dp K H y e) (s1 : SeqAt.shaped d = true) (s2 : SeqAt.shaped e = true) (q : Q (.bl (PyData.eqv d e)) H) : rEqA K x y H Q := .inr ⟨d, e, h1, h2, s1, s2, q⟩
theorem neD {d e : PyData} (h1 : Dp K H x d) (h2 : Dp K H y e) (s1 : SeqAt.shaped d = true) (s2 : SeqAt.shaped e = true) (q : Q (.bl (!PyData.eqv d e)) H) : rNeA K x y H Q := .inr ⟨d, e, h1, h2, s1, s2, q⟩
theorem int1 (q : Q (.int i) H) : rInt1 [.int i] H Q := .inl ⟨i, rfl, q⟩
theorem lenL {xs : List V} (h : SqL K H p xs) (q : Q (.int xs.length) H) : rLenA K [.ref p] H Q := ⟨_, _, rfl, .inl ⟨xs, h, rfl⟩, q⟩
theorem lenT {xs : List V} (h : SqT K H p xs) (q : Q (.int xs.length) H) : rLenA K [.ref p] H Q := ⟨_, _, rfl, .inr ⟨xs, h, rfl⟩, q⟩
theorem lenS {x : Str} (h : x.length ≤ sizeLine) (q : Q (.int x.length) H) : rLenA K [.str x] H Q := ⟨_, _, rfl, ⟨h, rfl⟩, q⟩
theorem ixL {xs : List V} (h : SqL K H p xs) (h2 : atI xs i = some v) (q : Q v H) : rIx K (.ref p) (.int i) H Q := .inl ⟨p, xs, i, v, rfl, rfl, h, h2, q⟩
theorem ixT {xs : List V} (h : SqT K H p xs) (h2 : atI xs i = some v) (q : Q v H) : rIx K (.ref p) (.int i) H Q := .inr (.inl ⟨p, xs, i, v, rfl, rfl, h, h2, q⟩)
theorem ixS {x : Str} {c : Nat} (h : x.length ≤ sizeLine) (h2 : atI x.cps.toList i = some c) (q : Q (.str ⟨#[c]⟩) H) : rIx K (.str x) (.int i) H Q := .inr (.inr ⟨x, i, c, rfl, rfl, h, h2, q⟩)
theorem slL {xs : List V} {lo hi : Option Int} (h : SqL K H a xs) (q : ∀ p, H p = none → Q (.ref p) (upd H p (.lst (cutV xs lo hi)))) : rSlA K (.ref a) lo hi H Q := .inl ⟨a, xs, rfl, h, q⟩
theorem slS {x : Str} {lo hi : Option Int} (h : x.length ≤ sizeLine) (q : Q (.str (cutS x lo hi)) H) : rSlA K (.str x) lo hi H Q := .inr ⟨x, rfl, h, q⟩
theorem sl {r : V → Option Int → Option Int → Hp → VK → Prop} {tl th : TO} (h : te σ H fun x H1 => tl σ H1 fun l H2 => th σ H2 fun u H3 => r x l u H3 Q) : tSl r te tl th σ H Q := h
theorem noPart {Q : Option Int → Hp → Prop} (q : Q none H) : tNoPart σ H Q := q
theorem part {Q : Option Int → Hp → Prop} (h : te σ H fun x H1 => ∃ i, x = .int i ∧ Q (some i) H1) : tPart te σ H Q := h
theorem exint {P : Int → Prop} (h : P i) : ∃ k, V.int i = .int k ∧ P k := ⟨i, rfl, h⟩
/-- tests -/
theorem test {Q : Bool → Hp → Prop} (h : te σ H fun x H' => ∃ k, x = .bl k ∧ Q k H') : tTest te σ H Q := h
theorem tbv {Q : Bool → Hp → Prop} (h : te σ H fun x H' => ∃ k, x = .bl k ∧ Q k H') : tB te σ H Q := h
theorem exbl {b : Bool} {P : Bool → Prop} (h : P b) : ∃ k, V.bl b = .bl k ∧ P k := ⟨b, rfl, h⟩
theorem yes {Q : Bool → Hp → Prop} (q : Q true H) : tYes σ H Q := q
theorem andT {t u : TT} {Q : Bool → Hp → Prop} (h : t σ H fun c H1 => if c = true then u σ H1 Q else Q false H1) : tAnd t u σ H Q := h
theorem orT {t u : TT} {Q : Bool → Hp → Prop} (h : t σ H fun c H1 => if c = true then Q true H1 else u σ H1 Q) : tOr t u σ H Q := h
theorem notT {t : TT} {Q : Bool → Hp → Prop} (h : t σ H fun c H1 => Q (!c) H1) : tNot t σ H Q := h
theorem andV (h : ta σ H fun x H1 => ∃ c, x = .bl c ∧ if c = true then tb σ H1 Q else Q (.bl false) H1) : tAndV ta tb σ H Q := h
theorem orV (h : ta σ H fun x H1 => ∃ c, x = .bl c ∧ if c = true then Q (.bl true) H1 else tb σ H1 Q) : tOrV ta tb σ H Q := h
theorem notV (h : ta σ H fun x H1 => ∃ c, x = .bl c ∧ Q (.bl (!c)) H1) : tNotV ta σ H Q := h
theorem chain {r r' : R2} (h : ta σ H fun x H1 => tb σ H1 fun y H2 => r x y H2 fun z H3 => ∃ k, z = .bl k ∧ (if k = true then tc σ H3 fun w' H4 => r' y w' H4 Q else Q (.bl false) H3)) : tChain r r' ta tb tc σ H Q := h
/-- statements -/
theorem seq (h : t (Ends.mk (u (Ends.mk N r bk ct)) r bk ct) σ H) : tSeq t u (Ends.mk N r bk ct) σ H := h
theorem asg {i : Nat} (h : te σ H fun x H1 => N (σ.set i (some x)) H1) : tAsg te (gName i) (Ends.mk N r bk ct) σ H := h
theorem drop (h : te σ H fun _ H1 => N σ H1) : tDrop te (Ends.mk N r bk ct) σ H := h
theorem ret (h : te σ H r) : tRet te (Ends.mk N r bk ct) σ H := h
theorem retN (h : r .non H) : tRetN (Ends.mk N r bk ct) σ H := h
theorem next (h : N σ H) : tNext (Ends.mk N r bk ct) σ H := h
theorem ifS {c : TT} (h : c σ H fun b H1 => if b = true then t (Ends.mk N r bk ct) σ H1 else u (Ends.mk N r bk ct) σ H1) : tIfS c t u (Ends.mk N r bk ct) σ H := h
theorem iteT {A B : Prop} (h : A) : if true = true then A else B := by rw [if_pos rfl]; exact h
theorem iteF {A B : Prop} (h : B) : if false = true then A else B := by rw [if_neg Bool.false_ne_true]; exact h
theorem iteNF {A B : Prop} (h : A) : if (!false) = true then A else B := h
theorem iteNT {A B : Prop} (h : B) : if (!true) = true then A else B := h
theorem iteD {c A B : Prop} [Decidable c] (h1 : c → A) (h2 : ¬ c → B) : if decide c = true then A else B := by
  by_cases h : c
  · rw [decide_eq_true h, if_pos rfl]; exact h1 h
  · rw [decide_eq_false h, if_neg Bool.false_ne_true]; exact h2 h
theorem iteN {c A B : Prop} [Decidable c] (h1 : ¬ c → A) (h2 : c → B) : if (!decide c) = true then A else B := by
  by_cases h : c
  · rw [decide_eq_true h]; rw [if_neg (by decide)]; exact h2 h
  · rw [decide_eq_false h]; rw [if_pos (by decide)]; exact h1 h
/-- calls, displays -/
theorem cons {tr : TA} {Q : List V → Hp → Prop} (h : ta σ H fun x H1 => tr σ H1 fun xs H2 => Q (x :: xs) H2) : tCons ta tr σ H Q := h
theorem nil {Q : List V → Hp → Prop} (q : Q [] H) : tNil σ H Q := q
theorem call {sp : Sp} {E : XK} {t : TA} (h : t σ H fun vs H1 => sp (vs ++ []) H1 Q E) : tCall sp [] E t σ H Q := h
theorem cb {r : List V → Hp → VK → Prop} {t : TA} (h : t σ H fun vs H1 => r vs H1 Q) : tCB r t σ H Q := h
theorem tup {t : TA} (h : t σ H fun xs H1 => xs.length ≤ sizeLine ∧ ∀ p, H1 p = none → Q (.ref p) (upd H1 p (.tup xs))) : tTup t σ H Q := h
theorem lst {t : TA} (h : t σ H fun xs H1 => xs.length ≤ sizeLine ∧ ∀ p, H1 p = none → Q (.ref p) (upd H1 p (.lst xs))) : tLst t σ H Q := h
theorem m0 {r : V → List V → Hp → VK → Prop} (h : to σ H fun x H1 => (∃ a, x = .str a) ∧ r x [] H1 Q) : tM0 r to σ H Q := h
theorem m1 {r : V → List V → Hp → VK → Prop} (h : to σ H fun x H1 => (∃ a, x = .str a) ∧ te σ H1 fun y H2 => r x [y] H2 Q) : tM1 r to te σ H Q := h
theorem isStr {x : Str} {A : Prop} (h : A) : (∃ a, V.str x = .str a) ∧ A := ⟨⟨x, rfl⟩, h⟩
theorem upper {x : Str} (h : x.length ≤ 5592405) (q : Q (.str (Txt.upper x)) H) : rUpper (.str x) [] H Q := ⟨x, rfl, rfl, h, q⟩
theorem join {x : Str} {ys : List Str} (h : SqL K H p (ys.map V.str)) (hz : (ys.map (·.length)).sum + ys.length * x.length ≤ 16777216) (q : Q (.str (Txt.join x ys)) H) : rJoin K (.str x) [.ref p] H Q := ⟨x, p, ys, rfl, rfl, .inl h, hz, q⟩
theorem fld {f : Str} (h : ta σ H fun x H1 => ∃ a C dx fs v, x = .ref a ∧ H1 a = some (.ins C dx fs) ∧ Cls K C ∧ NoAttr K C f ∧ fs.lookup f = some v ∧ Q v H1) : tFld K ta f σ H Q := h
theorem start_ {t : TS} {D : Ends} {σ' : St} (e : σ = σ') (h : t D σ' H) : t D σ H := by rw [e]; exact h
end Rd

/-- heaps -/
theorem same_new {H : Hp} {p : Addr} {o : HO} (h : H p = none) : Same H (upd H p o) := fun a u e => by
  rw [upd_ne (ne_of_none e h)]; exact e
theorem same_upd {H0 H : Hp} {p : Addr} {o : HO} (e : Same H0 H) (h : H0 p = none) : Same H0 (upd H p o) := fun a u ha => by
  rw [upd_ne (ne_of_none ha h)]; exact e a u ha
theorem Same.sqt {K : PySem.W.Frag} {H H' : Hp} {a : Addr} {xs : List V} (e : Same H H') (h : SqT K H a xs) : SqT K H' a xs := by
  rcases h with (h | ⟨o, h⟩) | h
  · exact .inl (.inl (e _ _ h))
  · exact .inl (.inr ⟨o, e _ _ h⟩)
  · exact .inr h
end Fw
namespace Fw
open PySem PySem.Spec L2
/-- the built-ins that the program leaves alone -/
structure Bt (mg : Str → Option Value) : Prop where
  len : mg "len" = none
  sum : mg "sum" = none
  int : mg "int" = none
  range : mg "range" = none
  isinstance : mg "isinstance" = none
  any : mg "any" = none
  all : mg "all" = none
  list : mg "list" = none
  tuple : mg "tuple" = none
  sorted : mg "sorted" = none
  set : mg "set" = none
  bool : mg "bool" = none
  ValueError : mg "ValueError" = none
section
variable {X : Cx}
def rMulS : R2 := fun x y H Q => ∃ z i, x = .str z ∧ y = .int i ∧ 0 ≤ i ∧ i < 1000 ∧ z.length ≤ 1000 ∧ Q (.str (Txt.mul z i)) H
theorem op_mulS : OpR X (binaryOp .Mult) rMulS := by
  intro pins s σ H x y v u Q I rx ry h
  obtain ⟨z, i, rfl, rfl, h0, h1, h2, q⟩ := h
  obtain ⟨t, rfl⟩ := rx
  obtain ⟨t', rfl⟩ := ry
  have e : i.toNat ≤ 1000 := by omega
  have hm : z.length * i.toNat ≤ 1000 * 1000 := Nat.mul_le_mul h2 e
  refine PySem.SB.mul ⟨?_, fun hn _ => ?_, fun hn _ => ?_⟩ fun t' k => ⟨.str _, H, I.tok k, ⟨t', rfl⟩, q⟩
  · rw [decide_eq_false (by omega), decide_eq_false (by omega)]; rfl
  · have hd : 1000 ≤ (2 ^ 63 - 1) / i := by
      rw [Int.le_ediv_iff_mul_le (by omega)]
      omega
    omega
  · show decide _ = false
    apply decide_eq_false
    have q : sizeLine = 16777216 := sizeLine_eq
    omega
def rMulA : R2 := fun x y H Q => rI CMul (fun i j => .int (i * j)) x y H Q ∨ rMulS x y H Q
theorem op_mulA : OpR X (binaryOp .Mult) rMulA := op_mul.or op_mulS
end
namespace Rd
variable {H : Hp} {Q : VK} {i j : Int} 
theorem mulI (h : CMul i j) (q : Q (.int (i * j)) H) : rMulA (.int i) (.int j) H Q := .inl ⟨i, j, rfl, rfl, h, q⟩
theorem mulS {z : Str} (h0 : 0 ≤ i) (h1 : i < 1000) (h2 : z.length ≤ 1000) (q : Q (.str (Txt.mul z i)) H) : rMulA (.str z) (.int i) H Q := .inr ⟨z, i, rfl, rfl, h0, h1, h2, q⟩
theorem asgSub {σ : St} {N : St → Hp → Prop} {r : VK} {bk ct : St → Hp → Prop} {te to ti : TE} {t : TSet} (h : te σ H fun v H1 => to σ H1 fun o H2 => ti σ H2 fun i H3 => t o i v H3 fun H4 => N σ H4) : tAsg te (gSub to ti t) (Ends.mk N r bk ct) σ H := h
theorem setL {p : Addr} {v : V} {xs : List V} {j : Nat} {Q : Hp → Prop} (h : H p = some (.lst xs)) (h2 : ixN xs.length i = some j) (q : Q (upd H p (.lst (xs.set j v)))) : rSetL (.ref p) (.int i) v H Q := ⟨p, xs, i, j, rfl, rfl, h, h2, q⟩
theorem sumL {K : PySem.W.Frag} {a : Addr} {ns : List Int} (h : SqL K H a (ns.map V.int)) (q : Q (.int ns.sum) H) : rSum K [.ref a] H Q := ⟨a, ns, rfl, h, q⟩
end Rd
end Fw
namespace Fw
open PySem PySem.Spec L2
/-- what is left of a comprehension, of a for, once the thing to walk is known -/
def LcGo (J : It) (g : TG) (tt : TT) (te : TE) (vs : List Nat) (σ : St) (H1 : Hp) (Q : VK) : Prop := tLc (fun _ H R => R J H) g tt te vs σ H1 Q
def FoGo (J : It) (g : TG) (tb : TS) (D : Ends) (σ : St) (H : Hp) : Prop := tFor (fun _ H R => R J H) g tb D σ H
abbrev Flat (Itm : Nat → V → Prop) : Nat → Hp → V → Hp → Prop := fun i H x H' => H' = H ∧ Itm i x
namespace Rd
variable {K : PySem.W.Frag} {σ : St} {H : Hp} {Q : VK} {te tl : TE} {ta : TA} {tt : TT} {g : TG} {vs : List Nat} {tb : TS} {D : Ends} {J : It} {n : Nat} {G : Hp → Prop} {Itm : Nat → V → Prop}
theorem lcL (h : tl σ H fun x H1 => ∃ a, x = .ref a ∧ (∃ xs, SqL K H1 a xs) ∧ LcGo (Itl K a) g tt te vs σ H1 Q) : tLc (iList K tl) g tt te vs σ H Q := h
theorem lcT (h : tl σ H fun x H1 => ∃ a, x = .ref a ∧ (∃ xs, SqT K H1 a xs) ∧ LcGo (Itt K a) g tt te vs σ H1 Q) : tLc (iTup K tl) g tt te vs σ H Q := h
theorem lcR (h : ta σ H fun us H1 => ∃ j : Int, us = [.int j] ∧ -(2 ^ 62) ≤ j ∧ j < 2 ^ 62 ∧ LcGo (Itr 0 j.toNat) g tt te vs σ H1 Q) : tLc (iRng1 ta) g tt te vs σ H Q := h
theorem lcS (h : tl σ H fun v H1 => ∃ x, v = .str x ∧ LcGo (Its x) g tt te vs σ H1 Q) : tLc (iStr tl) g tt te vs σ H Q := h
theorem foL (h : tl σ H fun x H1 => ∃ a, x = .ref a ∧ (∃ xs, SqL K H1 a xs) ∧ FoGo (Itl K a) g tb D σ H1) : tFor (iList K tl) g tb D σ H := h
theorem foT (h : tl σ H fun x H1 => ∃ a, x = .ref a ∧ (∃ xs, SqT K H1 a xs) ∧ FoGo (Itt K a) g tb D σ H1) : tFor (iTup K tl) g tb D σ H := h
theorem foR (h : ta σ H fun us H1 => ∃ j : Int, us = [.int j] ∧ -(2 ^ 62) ≤ j ∧ j < 2 ^ 62 ∧ FoGo (Itr 0 j.toNat) g tb D σ H1) : tFor (iRng1 ta) g tb D σ H := h
theorem exrange {i : Int} {P : Int → Prop} (h1 : -(2 ^ 62) ≤ i) (h2 : i < 2 ^ 62) (h : P i) : ∃ j : Int, [V.int i] = [.int j] ∧ -(2 ^ 62) ≤ j ∧ j < 2 ^ 62 ∧ P j := ⟨i, rfl, h1, h2, h⟩
theorem exstr {x : Str} {P : Str → Prop} (h : P x) : ∃ z, V.str x = .str z ∧ P z := ⟨x, rfl, h⟩
theorem exlist {a : Addr} {xs : List V} {P : Addr → Prop} (hs : SqL K H a xs) (h : P a) : ∃ b, V.ref a = .ref b ∧ (∃ xs, SqL K H b xs) ∧ P b := ⟨a, rfl, ⟨xs, hs⟩, h⟩
theorem extup {a : Addr} {xs : List V} {P : Addr → Prop} (hs : SqT K H a xs) (h : P a) : ∃ b, V.ref a = .ref b ∧ (∃ xs, SqT K H b xs) ∧ P b := ⟨a, rfl, ⟨xs, hs⟩, h⟩
/-- a comprehension: Jv by turn, items made and heap -/
theorem lcW {s : Nat} (w : Walk J n G (Flat Itm)) (hn : n < sizeLine) (Jv : Nat → List V → Hp → Prop) (h0 : Jv 0 [] H)
    (hst : ∀ D, H D = none → ∀ i acc ys H', Jv i acc H' → Jv i acc (upd H' D (.lst ys))) (hG : ∀ i acc H', i ≤ n → Jv i acc H' → G H')
    (step : ∀ D, H D = none → ∀ i x acc H', i < n → Itm i x → H' D = some (.lst acc) → acc.length ≤ i → Jv i acc H' → ∀ (Kt : V → Hp → Prop) (Kf : Hp → Prop), (∀ y H4, H4 D = some (.lst acc) → Jv (i + 1) (acc ++ [y]) H4 → Kt y H4) → (∀ H3, H3 D = some (.lst acc) → Jv (i + 1) acc H3 → Kf H3) →
      tt ((σ.set s none).set s (some x)) H' fun b H3 => if b = true then te ((σ.set s none).set s (some x)) H3 Kt else Kf H3)
    (fin : ∀ D acc H', H D = none → H' D = some (.lst acc) → acc.length ≤ n → Jv n acc H' → Q (.ref D) H') : LcGo J (gName s) tt te [s] σ H Q := by
  intro D hD
  refine lc_it w (fun i H' => ∃ acc, H' D = some (.lst acc) ∧ acc.length ≤ i ∧ Jv i acc H') ⟨[], upd_same, Nat.le_refl _, hst D hD _ _ _ _ h0⟩ (fun i H' hi ⟨acc, _, _, j⟩ => hG i acc H' hi j) ?_ (fun H' ⟨acc, a1, a2, a3⟩ => fin D acc H' hD a1 a2 a3)
  rintro i x H' H2 hi ⟨acc, a1, a2, a3⟩ ⟨rfl, hx⟩
  show wipe (((wipe σ [s])).set s (some x)) [s] = wipe σ [s] ∧ _
  refine ⟨?_, ?_⟩
  · show ((σ.set s none).set s (some x)).set s none = σ.set s none
    rw [List.set_set, List.set_set]
  · exact step D hD i x acc _ hi hx a1 a2 a3 _ _
      (fun y H4 b1 b2 => ⟨acc, b1, Nat.lt_of_le_of_lt a2 (Nat.lt_trans hi hn), acc ++ [y], upd_same, by rw [List.length_append, List.length_singleton]; omega, hst D hD _ _ _ _ b2⟩)
      (fun H3 b1 b2 => ⟨acc, b1, Nat.le_succ_of_le a2, b2⟩)
/-- a for: Pv by turn, slots and heap -/
theorem foW {s : Nat} {N : St → Hp → Prop} {r : VK} {bk ct : St → Hp → Prop} (w : Walk J n G (Flat Itm)) (Pv : Nat → St → Hp → Prop) (h0 : Pv 0 σ H) (hG : ∀ i σ H, i ≤ n → Pv i σ H → G H)
    (step : ∀ i x σ H, i < n → Itm i x → Pv i σ H → tb (Ends.mk (Pv (i + 1)) r N (Pv (i + 1))) (σ.set s (some x)) H) (fin : ∀ σ H, Pv n σ H → N σ H) : FoGo J (gName s) tb (Ends.mk N r bk ct) σ H :=
  for_it w Pv h0 hG (fun i x σ H H' hi p ⟨e, hx⟩ => by subst e; exact step i x σ _ hi hx p) fin
theorem wList {a : Addr} {xs : List V} : Walk (Itl K a) xs.length (fun H => SqL K H a xs) (Flat fun i x => xs[i]? = some x) := walk_list
theorem wTup {a : Addr} {xs : List V} : Walk (Itt K a) xs.length (fun H => SqT K H a xs) (Flat fun i x => xs[i]? = some x) := walk_tup
theorem wRange {n : Nat} : Walk (Itr 0 n) n (fun _ => True) (Flat fun i x => x = .int (0 + i)) := walk_range
theorem wStr {z : Str} : Walk (Its z) z.cps.size (fun _ => True) (Flat fun i v => ∃ c, z.cps[i]? = some c ∧ v = .str ⟨#[c]⟩) := walk_str
end Rd
end Fw
namespace Fw
open PySem PySem.Spec L2
section
variable {X : Cx} (K : PySem.W.Frag)
theorem kix (h : X.K = K := by rfl) : IxR X (rIx K) := by subst h; exact ix_seq
theorem keq (hu : X.A.units + 64 < cLine) (h : X.K = K := by rfl) : OpR X (compareOp .Eq) (rEqA K) := by subst h; exact op_eqA hu
theorem kne (hu : X.A.units + 64 < cLine) (h : X.K = K := by rfl) : OpR X (compareOp .NotEq) (rNeA K) := by subst h; exact op_neA hu
theorem klen (h : X.K = K := by rfl) : CallR X (.builtin "len") (rLenA K) := by subst h; exact call_lenA
theorem ksum (hc : X.calm = true := by rfl) (h : X.K = K := by rfl) : CallR X (.builtin "sum") (rSum K) := by subst h; exact cr_sum hc
theorem kany (hc : X.calm = true := by rfl) (h : X.K = K := by rfl) : CallR X (.builtin "any") (rAny K) := by subst h; exact cr_any hc
theorem kall (hc : X.calm = true := by rfl) (h : X.K = K := by rfl) : CallR X (.builtin "all") (rAll K) := by subst h; exact cr_all hc
theorem kisi (h : X.K = K := by rfl) : CallR X (.builtin "isinstance") (rIsi K) := by subst h; exact call_isi
def rListOf (K : PySem.W.Frag) : List V → Hp → VK → Prop := fun xs H Q => ∃ p ys, xs = [.ref p] ∧ (SqL K H p ys ∨ SqT K H p ys) ∧ ∀ l, H l = none → Q (.ref l) (upd H l (.lst ys))
def rTupOf (K : PySem.W.Frag) : List V → Hp → VK → Prop := fun xs H Q => ∃ p ys, xs = [.ref p] ∧ ((SqL K H p ys ∧ ∀ l, H l = none → Q (.ref l) (upd H l (.tup ys))) ∨ (SqT K H p ys ∧ Q (.ref p) H))
theorem klist (h : X.K = K := by rfl) : CallR X (.type "list") (rListOf K) := by subst h; exact call_list_of
theorem ktuple (h : X.K = K := by rfl) : CallR X (.type "tuple") (rTupOf K) := by subst h; exact call_tuple_of
theorem ksl (h : X.K = K := by rfl) : SlR X (rSlA K) := by subst h; exact sl_any
theorem kin (h : X.K = K := by rfl) : OpR X (compareOp .In) (rIn K false) := by subst h; exact op_in_seq
theorem knin (h : X.K = K := by rfl) : OpR X (compareOp .NotIn) (rIn K true) := by subst h; exact op_notIn_seq
theorem kpl {tg l : Expr} {tl : TE} (hl : PE X l tl) (h : X.K = K := by rfl) : PI X tg l (iList K tl) := by subst h; exact pi_list hl
theorem kpt {tg l : Expr} {tl : TE} (hl : PE X l tl) (h : X.K = K := by rfl) : PI X tg l (iTup K tl) := by subst h; exact pi_tup hl
theorem kjoin {o e : Expr} {to te : TE} {apos pos : Pos} (ho : PE X o to) (he : PE X e te) (h : X.K = K := by rfl) (hs : starEach [e] X.env = [(false, eval e X.env)] := by rfl) (hbase : attributeBase o "join" X.env (eval o X.env) = eval o X.env := by rfl) (hline : (apos.endLine == pos.line) = true := by rfl) :
    PE X (.Call (.Attribute o "join" apos) [e] [] pos) (tM1 (rJoin K) to te) := by subst h; exact pe_joinA ho he hs hbase hline
theorem kfld {e : Expr} {f : Str} {ta : TE} {pos : Pos} (he : PE X e ta) (h : X.K = K := by rfl) (hb : attributeBase e f X.env (eval e X.env) = eval e X.env := by rfl) : PE X (.Attribute e f pos) (tFld K ta f) := by subst h; exact pe_fld he hb
theorem kcon {e : Expr} {f : Str} {ta : TE} {pos : Pos} (he : PE X e ta) (h : X.K = K := by rfl) (hb : attributeBase e f X.env (eval e X.env) = eval e X.env := by rfl) : PE X (.Attribute e f pos) (tCon K ta f) := by subst h; exact pe_con he hb
end
namespace Rd
variable {K : PySem.W.Frag} {H : Hp} {Q : VK} {p : Addr}
theorem listL {ys : List V} (h : SqL K H p ys) (q : ∀ l, H l = none → Q (.ref l) (upd H l (.lst ys))) : rListOf K [.ref p] H Q := ⟨p, ys, rfl, .inl h, q⟩
theorem listT {ys : List V} (h : SqT K H p ys) (q : ∀ l, H l = none → Q (.ref l) (upd H l (.lst ys))) : rListOf K [.ref p] H Q := ⟨p, ys, rfl, .inr h, q⟩
theorem tupL {ys : List V} (h : SqL K H p ys) (q : ∀ l, H l = none → Q (.ref l) (upd H l (.tup ys))) : rTupOf K [.ref p] H Q := ⟨p, ys, rfl, .inl ⟨h, q⟩⟩
theorem tupT {ys : List V} (h : SqT K H p ys) (q : Q (.ref p) H) : rTupOf K [.ref p] H Q := ⟨p, ys, rfl, .inr ⟨h, q⟩⟩
/-- xs.append(y) -/
theorem bm {T : String} {r : V → List V → Hp → VK → Prop} {to : TE} {t : TA} {σ : St} (h : to σ H fun x H1 => tyV K T x H1 ∧ t σ H1 fun xs H2 => r x xs H2 Q) : tBM K T r to t σ H Q := h
theorem tyL {xs : List V} {A : Prop} (h : H p = some (.lst xs)) (q : A) : tyV K "list" (.ref p) H ∧ A := ⟨.inl ⟨rfl, _, SqL.of h⟩, q⟩
theorem append {xs : List V} {y : V} (h : H p = some (.lst xs)) (hl : xs.length < sizeLine) (q : Q .non (upd H p (.lst (xs ++ [y])))) : rAppend (.ref p) [y] H Q := ⟨p, xs, y, rfl, rfl, h, hl, q⟩
end Rd
end Fw

namespace Fw
open PySem PySem.Spec L2
theorem kapp {X : Cx} (K : PySem.W.Frag) {o e : Expr} {to : TE} {t : TA} {apos cpos : Pos} (ho : PE X o to) (ha : PA X [e] t) (h : X.K = K := by rfl)
    (hbase : attributeBase o "append" X.env (eval o X.env) = eval o X.env := by rfl)
    (hfew : ((backTo cpos (starEach [e] X.env)).all (fun x => !x.1) && (backToKw cpos (keywordEach [] X.env)).all (fun x => x.1.isSome)
      && decide (([e] : List Expr).length + ([] : List Keyword).length + (if ([] : List Keyword).isEmpty then 0 else 1) < 30)) = true := by rfl)
    (hline : (apos.endLine == cpos.line) = true := by rfl) (hs : starEach [e] X.env = (false, eval e X.env) :: starEach [] X.env := by rfl) (hplain : (backTo cpos (starEach [] X.env)).any (·.1) = false := by rfl) :
    PE X (.Call (.Attribute o "append" apos) [e] [] cpos) (tBM K "list" rAppend to t) := by
  subst h
  exact pe_bm PySem.F.plainAttrs_list PySem.F.slot_list_append PySem.F.type_list_append mt_append ho ha hbase hfew hline hs hplain
end Fw

namespace Fw
open PySem PySem.Spec L2
abbrev S (l : List Nat) : Str := ⟨l.toArray⟩
theorem pe_lit {X : Cx} (l : List Nat) {x : Str} {j pos} (h : x = S l) : PE X (.Constant (.str x) j pos) (tC (.str (S l))) := by subst h; exact pe_str
theorem dec_S {a b : List Nat} : decide (S a = S b) = decide (a = b) := decide_eq_decide.mpr ⟨fun h => SX.S_inj h, fun h => by rw [h]⟩
theorem sIx_ge {n d : Nat} {i : Int} (h : 0 ≤ i) : HT.sIx n d (some i) = min i.toNat n := by
  have e : i = ((i.toNat : Nat) : Int) := by omega
  rw [e, HT.sIx_nat]
  rfl
theorem cut_to {l : List Nat} {i : Int} (h : 0 ≤ i) : cutS (S l) none (some i) = S (l.take i.toNat) := by
  show (⟨((l.toArray.toList.drop 0).take (HT.sIx l.toArray.size l.toArray.size (some i) - 0)).toArray⟩ : Str) = ⟨(l.take i.toNat).toArray⟩
  rw [sIx_ge h, List.drop_zero, Nat.sub_zero, List.size_toArray]
  show (⟨(l.take (min i.toNat l.length)).toArray⟩ : Str) = ⟨(l.take i.toNat).toArray⟩
  by_cases hl : i.toNat ≤ l.length
  · rw [Nat.min_eq_left hl]
  · have e1 : min i.toNat l.length = l.length := by omega
    have e2 : l.take i.toNat = l := List.take_of_length_le (by omega)
    rw [e1, e2, List.take_length]
theorem cut_fromto {l : List Nat} {i j : Int} (h : 0 ≤ i) (h2 : 0 ≤ j) : cutS (S l) (some i) (some j) = S ((l.drop i.toNat).take (j.toNat - i.toNat)) := by
  show (⟨((l.toArray.toList.drop (HT.sIx l.toArray.size 0 (some i))).take (HT.sIx l.toArray.size l.toArray.size (some j) - HT.sIx l.toArray.size 0 (some i))).toArray⟩ : Str) = _
  rw [sIx_ge h, sIx_ge h2, List.size_toArray]
  show (⟨((l.drop (min i.toNat l.length)).take (min j.toNat l.length - min i.toNat l.length)).toArray⟩ : Str) = ⟨((l.drop i.toNat).take (j.toNat - i.toNat)).toArray⟩
  by_cases hl : i.toNat ≤ l.length
  · rw [Nat.min_eq_left hl]
    by_cases hj : j.toNat ≤ l.length
    · rw [Nat.min_eq_left hj]
    · have e1 : min j.toNat l.length = l.length := by omega
      have e2 : (l.drop i.toNat).take (l.length - i.toNat) = l.drop i.toNat := List.take_of_length_le (by rw [List.length_drop]; omega)
      have e3 : (l.drop i.toNat).take (j.toNat - i.toNat) = l.drop i.toNat := List.take_of_length_le (by rw [List.length_drop]; omega)
      rw [e1, e2, e3]
  · have e1 : min i.toNat l.length = l.length := by omega
    have e2 : l.drop i.toNat = [] := List.drop_of_length_le (by omega)
    have e3 : l.drop l.length = [] := List.drop_of_length_le (Nat.le_refl _)
    rw [e1, e2, e3, List.take_nil, List.take_nil]
theorem cut_from {l : List Nat} {i : Int} (h : 0 ≤ i) : cutS (S l) (some i) none = S (l.drop i.toNat) := by
  show (⟨((l.toArray.toList.drop (HT.sIx l.toArray.size 0 (some i))).take (l.toArray.size - HT.sIx l.toArray.size 0 (some i))).toArray⟩ : Str) = _
  rw [sIx_ge h, List.size_toArray]
  show (⟨((l.drop (min i.toNat l.length)).take (l.length - min i.toNat l.length)).toArray⟩ : Str) = ⟨(l.drop i.toNat).toArray⟩
  have e2 : (l.drop (min i.toNat l.length)).take (l.length - min i.toNat l.length) = l.drop (min i.toNat l.length) := List.take_of_length_le (by rw [List.length_drop]; omega)
  rw [e2]
  by_cases hl : i.toNat ≤ l.length
  · rw [Nat.min_eq_left hl]
  · have e1 : min i.toNat l.length = l.length := by omega
    have e2 : l.drop i.toNat = [] := List.drop_of_length_le (by omega)
    have e3 : l.drop l.length = [] := List.drop_of_length_le (Nat.le_refl _)
    rw [e1, e2, e3]
theorem foldl_cps (l : List Nat) : ∀ (n : Nat) (acc : Array Nat), ((List.replicate n l.toArray).foldl (· ++ ·) acc).toList = acc.toList ++ (List.replicate n l).flatten
  | 0, acc => by simp
  | n + 1, acc => by
    rw [List.replicate_succ, List.foldl_cons, foldl_cps l n]
    simp [List.replicate_succ]
theorem mul_S {l : List Nat} {n : Int} (h : 1 < n) (hl : 1 ≤ l.length) : Txt.mul (S l) n = S ((List.replicate n.toNat l).flatten) := by
  unfold Txt.mul
  rw [if_neg (by omega), if_neg]
  · have e := foldl_cps l n.toNat #[]
    rw [List.nil_append] at e
    show (⟨(List.replicate n.toNat l.toArray).foldl (· ++ ·) #[]⟩ : Str) = ⟨_⟩
    congr 1
    rw [← e]
  · intro z
    rw [Bool.or_eq_true] at z
    rcases z with z | z
    · have := eq_of_beq z; omega
    · have := eq_of_beq z
      rw [SX.S_len] at this
      omega
theorem rep_len (l : List Nat) (n : Nat) : ((List.replicate n l).flatten).length = n * l.length := by
  induction n with
  | zero => simp
  | succ n ih => rw [List.replicate_succ, List.flatten_cons, List.length_append, ih, Nat.succ_mul, Nat.add_comm]
namespace RS
theorem mul {H : Hp} {Q : VK} {i : Int} {l : List Nat} (h : 1 < i) (h1 : i < 1000) (hl : 1 ≤ l.length) (h2 : l.length ≤ 1000) (q : Q (.str (S ((List.replicate i.toNat l).flatten))) H) : rMulA (.str (S l)) (.int i) H Q :=
  Rd.mulS (by omega) h1 (by show l.toArray.size ≤ _; rw [List.size_toArray]; exact h2) (by rw [mul_S h hl]; exact q)
variable {H : Hp} {Q : VK} {i j : Int} {l a b : List Nat}
theorem len_S {l : List Nat} (h : l.length ≤ 1000) : (S l).length ≤ sizeLine := by
  have q : sizeLine = 16777216 := sizeLine_eq
  show l.toArray.size ≤ _
  rw [List.size_toArray]; omega
theorem slTo {K : PySem.W.Frag} (h : 0 ≤ i) (hl : l.length ≤ 1000) (q : Q (.str (S (l.take i.toNat))) H) : rSlA K (.str (S l)) none (some i) H Q := Rd.slS (len_S hl) (by rw [cut_to h]; exact q)
theorem slFrom {K : PySem.W.Frag} (h : 0 ≤ i) (hl : l.length ≤ 1000) (q : Q (.str (S (l.drop i.toNat))) H) : rSlA K (.str (S l)) (some i) none H Q := Rd.slS (len_S hl) (by rw [cut_from h]; exact q)
theorem slFT {K : PySem.W.Frag} (h : 0 ≤ i) (h2 : 0 ≤ j) (hl : l.length ≤ 1000) (q : Q (.str (S ((l.drop i.toNat).take (j.toNat - i.toNat)))) H) : rSlA K (.str (S l)) (some i) (some j) H Q := Rd.slS (len_S hl) (by rw [cut_fromto h h2]; exact q)
theorem add (h : a.length + b.length ≤ 1000) (q : Q (.str (S (a ++ b))) H) : rAddA (.str (S a)) (.str (S b)) H Q := by
  refine Rd.addS ?_ ?_
  · have q : sizeLine = 16777216 := sizeLine_eq
    show a.toArray.size + b.toArray.size ≤ _
    rw [List.size_toArray, List.size_toArray]; omega
  · rw [SX.S_cat]; exact q
theorem eq {K : PySem.W.Frag} (q : Q (.bl (decide (a = b))) H) : rEqA K (.str (S a)) (.str (S b)) H Q := Rd.eqS (by rw [dec_S]; exact q)
theorem ne {K : PySem.W.Frag} (q : Q (.bl (!decide (a = b))) H) : rNeA K (.str (S a)) (.str (S b)) H Q := Rd.neS (by rw [dec_S]; exact q)
theorem ix {K : PySem.W.Frag} {c : Nat} (h : l.length ≤ 1000) (h2 : atI l i = some c) (q : Q (.str (S [c])) H) : rIx K (.str (S l)) (.int i) H Q := Rd.ixS (len_S h) h2 q
theorem upper (h : l.all (· < 128) = true) (hl : l.length ≤ 1000) (q : Q (.str (S (l.map PyProof.Rows.up1))) H) : rUpper (.str (S l)) [] H Q := ⟨_, rfl, rfl, by
  show l.toArray.size ≤ _
  rw [List.size_toArray]; omega, by rw [SX.upper_S h]; exact q⟩
theorem len {K : PySem.W.Frag} (h : l.length ≤ 1000) (q : Q (.int l.length) H) : rLenA K [.str (S l)] H Q := Rd.lenS (len_S h) (by
  have e : (S l).length = l.length := SX.S_len l
  rw [e]; exact q)
end RS
end Fw

namespace Fw
open PySem PySem.Spec L2
/-- an own error class over ValueError, its __init__ one that stores its argument as fld -/
structure Er (K : PySem.W.Frag) (mg : Str → Option Value) (nm qual fld : Str) (st : Stmt) where
  C : Addr
  f : Addr
  fd : FuncData
  T : OexC K C
  iC : PySem.W.findIn K (.ref C) "__init__" = some (some (.ref f))
  tI : PySem.W.typeIn K (.ref f) = some (.type "function")
  g : mg nm = some (.ref C)
  no : PySem.W.findIn K (.ref C) fld = some none
  F : Fun K "__init__" qual st f fd
  b : Binds K fd ["self", fld] []
  xf : XfC K C
  xc : ExcC K C
  te : PySem.W.exmOne K (.ref C) (.ref C) = some true
/-- what such an __init__ keeps -/
def spErI (C : Addr) (fld : Str) : Sp := fun vs H Q _ => ∃ (a : Addr) (v : V), vs = [.ref a, v] ∧ H a = some (exo a C none) ∧ ∀ dx, H dx = none → dx ≠ a → Q .non (upd (upd H dx (exd dx [(fld, v)])) a (exo a C (some dx)))
theorem kost {X : Cx} (K : PySem.W.Frag) {o e : Expr} {to te : TE} {f : Str} {p' pos : Pos} (ho : PE X o to) (he : PE X e te) (h : X.K = K := by rfl) (hs : swapsWith e (some (.Attribute o f p')) pos.line X.env = pure false := by rfl) : PS X (.Assign [.Attribute o f p'] e pos) (tOst K f to te) := by
  subst h; exact ps_ost ho he hs
section
variable {X : Cx}
theorem pmk_er {P : Program} {w : World} {K : PySem.W.Frag} {mg : Str → Option Value} {base : Heap} {nm qual fld : Str} {st : Stmt} {k : Nat} {e : Expr} {es : List Expr} {ta : TA} {p pos : Pos} (r : Er K mg nm qual fld st) (F1 : FnOk P w K mg base CX0 k r.f r.fd ["self", fld] (spErI r.C fld)) (hr : Room (k + 1) X.A) (ha : PA X (e :: es) ta)
    (h1 : X.prog = P := by rfl) (h2 : X.w = w := by rfl) (h3 : X.K = K := by rfl) (h4 : X.mg = mg := by rfl) (h5 : X.base = base := by rfl) (hg : Gl X nm := by rfl)
    (hdb : (nm == ("__debug__" : Str)) = false := by decide) (he : starEach (e :: es) X.env = (false, eval e X.env) :: starEach es X.env := by rfl) (hpl : (backTo pos (starEach es X.env)).any (·.1) = false := by rfl) :
    PMk X (.Call (.Name nm p) (e :: es) [] pos) (tMkO r.C (spErI r.C fld) [] ta) := by
  subst h1 h2 h3 h4 h5
  exact pmk_oex (pos := pos) (p := p) r.T r.iC r.tI F1 hr r.b .nil pass0 hg r.g ha hdb he hpl
end
/-- what is left of raise C(v) -/
def ErGo (C : Addr) (fld : Str) (vs : List V) (H1 : Hp) (Q : XK) : Prop := vs.length ≤ 1000 ∧ ∀ a, H1 a = none → spErI C fld (.ref a :: (vs ++ [])) (upd H1 a (exo a C none))
  (fun v H2 => v = .non ∧ ∃ (d : Addr) (fs : List (Str × V)), H2 a = some (exo a C (some d)) ∧ H2 d = some (exd d fs) ∧ H1 d = none ∧ Q (.ref C) (some d) (upd (del H2 a) d (.xd fs))) (fun _ _ _ => False)
namespace Rd
theorem raise {t : St → Hp → XK → Prop} {W : WX} {σ : St} {H : Hp} {N : St → Hp → Prop} {r : VK} {bk ct : St → Hp → Prop} (h : t σ H fun cls d H' => W cls d σ H') : (fun (_ : Ends) (σ : St) (H : Hp) => t σ H fun cls d H' => W cls d σ H') (Ends.mk N r bk ct) σ H := h
theorem mko {C : Addr} {fld : Str} {ta : TA} {σ : St} {H : Hp} {Q : XK} (h : ta σ H fun vs H1 => ErGo C fld vs H1 Q) : tMkO C (spErI C fld) [] ta σ H Q := h
theorem erGo {C : Addr} {fld : Str} {v : V} {H1 : Hp} {Q : XK} (q : ∀ d, H1 d = none → Q (.ref C) (some d) (upd H1 d (.xd [(fld, v)]))) : ErGo C fld [v] H1 Q := by
  refine ⟨Nat.succ_le_succ (Nat.zero_le _), fun a ha => ⟨a, v, rfl, upd_same, fun dx hx ne => ⟨rfl, dx, [(fld, v)], upd_same, by rw [upd_ne ne]; exact upd_same, ?_, ?_⟩⟩⟩
  · rw [upd_ne ne] at hx; exact hx
  · rw [upd_ne ne] at hx
    have e2 : upd (del (upd (upd (upd H1 a (exo a C none)) dx (exd dx [(fld, v)])) a (exo a C (some dx))) a) dx (.xd [(fld, v)]) = upd H1 dx (.xd [(fld, v)]) := by
      funext b
      by_cases hb : b = dx
      · rw [hb, upd_same, upd_same]
      · rw [upd_ne hb, upd_ne hb]
        by_cases hb2 : b = a
        · rw [hb2, del_same, ha]
        · rw [del_ne hb2, upd_ne hb2, upd_ne hb, upd_ne hb2]
    rw [e2]
    exact q dx hx
/-- self.f = v in such an __init__ -/
theorem ost {K : PySem.W.Frag} {f : Str} {to te : TE} {σ : St} {H : Hp} {N : St → Hp → Prop} {r : VK} {bk ct : St → Hp → Prop} (h : te σ H fun y H1 => to σ H1 fun x H2 => ∃ a C : Addr, x = .ref a ∧ OexC K C ∧ PySem.W.findIn K (.ref C) f = some none ∧
  ((H2 a = some (exo a C none) ∧ ∀ dx, H2 dx = none → dx ≠ a → N σ (upd (upd H2 dx (exd dx [(f, y)])) a (exo a C (some dx)))) ∨
    ∃ (dx : Addr) (fs : List (Str × V)), H2 a = some (exo a C (some dx)) ∧ H2 dx = some (exd dx fs) ∧ fs.length ≤ 900 ∧ N σ (upd H2 dx (exd dx ((f, y) :: fs))))) : tOst K f to te (Ends.mk N r bk ct) σ H := h
theorem leC {H : Hp} {Q : VK} {a b : Nat} (q : Q (.bl (decide (a ≤ b))) H) : rLeA (.str (S [a])) (.str (S [b])) H Q := by
  refine Rd.leS ?_
  have e : (!decide ((S [b]).cps.toList < (S [a]).cps.toList)) = decide (a ≤ b) := by
    show (!decide ([b] < [a])) = decide (a ≤ b)
    by_cases h : a ≤ b
    · have n : ¬ [b] < [a] := by
        intro z
        cases z with
        | rel z => have z' : b < a := z; omega
        | cons z => cases z
      rw [decide_eq_true h, decide_eq_false n]; rfl
    · have n : [b] < [a] := List.Lex.rel (show b < a by omega)
      rw [decide_eq_false h, decide_eq_true n]; rfl
  rw [e]; exact q
end Rd
end Fw

namespace Fw
open PySem PySem.Spec L2
/-- what is left of C(..) -/
def MkGo (C : Addr) (sp : Sp) (vs : List V) (H1 : Hp) (Q : VK) (E : XK) : Prop := ∀ x dx, H1 x = none → H1 dx = none → dx ≠ x → sp (.ref x :: (vs ++ [])) (upd (upd H1 dx (.own x)) x (.ins C dx [])) (fun v H2 => v = .non ∧ Q (.ref x) H2) E

namespace Rd
variable {K : PySem.W.Frag} {σ : St} {H : Hp} {Q : VK} {te to ta tv : TE} {t : TA} {N : St → Hp → Prop} {r : VK} {bk ct : St → Hp → Prop}
theorem make {C : Addr} {sp : Sp} {E : XK} (h : t σ H fun vs H1 => MkGo C sp vs H1 Q E) : tMake C sp [] E t σ H Q := h
theorem meth {C : Addr} {m : Str} {sp : Sp} {E : XK} (h : ta σ H fun x H1 => ∃ a dx fs, x = .ref a ∧ H1 a = some (.ins C dx fs) ∧ fs.lookup m = none ∧ t σ H1 fun vs H2 => sp (x :: (vs ++ [])) H2 Q E) : tMeth C m sp [] E ta t σ H Q := h
theorem sfld {f : Str} (h : tv σ H fun y H1 => ta σ H1 fun x H2 => ∃ a C dx fs, x = .ref a ∧ H2 a = some (.ins C dx fs) ∧ Cls K C ∧ NoAttr K C f ∧ fs.length < 1000 ∧ N σ (upd H2 a (.ins C dx (putF f y fs)))) : sFld K ta tv f (Ends.mk N r bk ct) σ H := h
theorem con_ {f : Str} (h : ta σ H fun x H1 => ∃ a C dx fs v u, x = .ref a ∧ H1 a = some (.ins C dx fs) ∧ Cls K C ∧ Con K C f v u ∧ fs.lookup f = none ∧ Q v H1) : tCon K ta f σ H Q := h
end Rd
section
variable {X : Cx}
theorem kset {K : PySem.W.Frag} {o value : Expr} {f : Str} {ta tv : TE} {pos pos' : Pos} (ha : PE X o ta) (hv : PE X value tv) (h : X.K = K := by rfl) (hs : swapsWith value (some (.Attribute o f pos')) pos.line X.env = pure false := by rfl) : PS X (.Assign [.Attribute o f pos'] value pos) (sFld K ta tv f) := by
  subst h; exact ps_fld ha hv hs
theorem pe_mk {P : Program} {w : World} {K : PySem.W.Frag} {mg : Str → Option Value} {base : Heap} {CX : CXT} {x qual : Str} {st : Stmt} {C : Addr} {k : Nat} {ps : List Str} {sp : Sp} {E : XK} {e : Expr} {es : List Expr} {t : TA} {p pos : Pos} (d : Mf K "__init__" qual st ps) (M : Mk K C d.f) (hm : mg x = some (.ref C)) (F : FnOk P w K mg base CX k d.f d.fd ps sp) (hr : Room (k + 1) X.A) (hx : Passes CX X E) (ha : PA X (e :: es) t)
    (h1 : X.prog = P := by rfl) (h2 : X.w = w := by rfl) (h3 : X.K = K := by rfl) (h4 : X.mg = mg := by rfl) (h5 : X.base = base := by rfl) (hg : Gl X x := by rfl)
    (hdb : (x == ("__debug__" : Str)) = false := by decide) (he : starEach (e :: es) X.env = (false, eval e X.env) :: starEach es X.env := by rfl) (hpl : (backTo pos (starEach es X.env)).any (·.1) = false := by rfl) :
    PE X (.Call (.Name x p) (e :: es) [] pos) (tMake C sp [] E t) := by
  subst h1 h2 h3 h4 h5
  exact pe_make M F hr hg hm d.b .nil hx ha hdb he hpl
/-- o.m() on an instance of the class at C -/
theorem pe_m00 {pl : Sem Bool} {P : Program} {w : World} {K : PySem.W.Frag} {mg : Str → Option Value} {base : Heap} {CX : CXT} {m qual : Str} {st : Stmt} {C : Addr} {k : Nat} {ps : List Str} {sp : Sp} {E : XK} {o : Expr} {ta : TE} {apos pos : Pos} {nm : Str} (he : PE X o ta) (c : Cls K C) (d : Mf K nm qual st ps) (hm : Meth K C m d.f) (F : FnOk P w K mg base CX k d.f d.fd ps sp) (hr : Room k X.A) (hx : Passes CX X E)
    (h1 : X.prog = P := by rfl) (h2 : X.w = w := by rfl) (h3 : X.K = K := by rfl) (h4 : X.mg = mg := by rfl) (h5 : X.base = base := by rfl)
    (ht : eval (.Call (.Attribute o m apos) [] [] pos) X.env = (do
      let ov ← eval o X.env
      standAt apos.atName
      let (f, first) ← holding [ov] (getMethod ov m pl)
      callWith pos f first (backTo pos (starEach [] X.env)) (backToKw pos (keywordEach [] X.env))) := by rfl) :
    PE X (.Call (.Attribute o m apos) [] [] pos) (tMeth C m sp [] E ta tNil) := by
  subst h1 h2 h3 h4 h5
  exact pe_meth0 (pl := pl) he c hm F hr d.b .nil hx ht
end
end Fw

namespace Fw
open PySem PySem.Spec L2
section
open PySem.W PySem.Calls PyProof.Rows
variable {prog : Program} {w : World} {A : Around} {E : Value → Shared → Prop} {s : Shared} {K : PySem.W.Frag} {x D : Addr} {ox od : Obj}
/-- the class of a caught error that has a dict -/
theorem class_ofX {Q : Option Value → Shared → Prop} (T : ExcC K D) (X : K.In s.heap) (I : InstAt s.heap x ox D (some od)) (h : Q (some (.ref D)) { s with toks := s.toks + 1 }) : wpAny (model prog w) A (getAttr? (.ref x) "__class__") Q E s := by
  have hsome : (clsIn K D).isSome = true := by obtain ⟨c0, hc0, _⟩ := any_some T.hd; rw [hc0]; rfl
  have found : findObj K D (some od) "__class__" = some (.bind (.builtin "getset_descriptor.__get__") (.builtin "object.__class__")) := findObj_data hsome T.ha T.hn T.ht
  obtain ⟨hp, g, d, t, os⟩ := s
  have ly := I.type (M := model prog w)
  have lga := looks_findIn (M := model prog w) X T.hg
  have lgt := looks_findIn (M := model prog w) X T.hk
  have lfd := looks_find (M := model prog w) X I found
  have lsb : Looks (model prog w) hp (isInstance (.ref x) (.type "BaseException")) true := ly.andThen (looks_subIn X T.hs)
  have ne0 : (Value.builtin "BaseException.__getattribute__" == Value.builtin "object.__getattribute__") = false := by decide +kernel
  have nb0 : (onTheHeap (Value.ref D) && Value.builtin "BaseException.__getattribute__" == Value.builtin "object.__getattribute__") = false := by rw [ne0]; rfl
  unfold getAttr? getAttrBy? getAttrBy; refine wpAny_bind (wpAny_mkText (wpAny_bind (wpAny_attempt (wpAny_holding (wpAny_bind (ly.at (wpAny_bind (lga.at ?_))))))))
  show wpAny _ _ (if (onTheHeap (Value.ref D) && Value.builtin "BaseException.__getattribute__" == Value.builtin "object.__getattribute__") = true then _ else _) _ _ _; rw [nb0, if_neg Bool.false_ne_true]
  unfold getAttrByItsOwn hookBefore; refine wpAny_bind ?_; rw [if_pos (show onTheHeap (Value.ref D) = true from rfl)]
  refine lgt.at ?_; refine wpAny_bind (wpAny_attempt (wpAny_holding ?_))
  unfold callGetattribute boundAndCalled; rw [show (false && onTheHeap (Value.builtin "BaseException.__getattribute__")) = false from rfl, if_neg Bool.false_ne_true]
  rw [PySem.F.excAttr_ValueError.ga.bind (.ref x)]; refine wpAny_bind (wpAny_pure ?_)
  show wpAny _ _ (call (.builtin "BaseException.__getattribute__") [.ref x, .str "__class__" t]) _ _ _; refine wpAny_call (codeAny_call_builtin PySem.F.excAttr_ValueError.ga.plain PySem.F.entry_bexc_ga ?_)
  refine @check_slot (model prog w) _ _ ⟨hp, g, d, t + 1, os⟩ "BaseException.__getattribute__" "BaseException" "__getattribute__" (.ref x) [.str "__class__" t] [] _ (by decide +kernel) (by decide +kernel) lsb (PySem.F.args_bexc_ga (.ref x) (.str "__class__" t)) ?_
  unfold Builtin.«object.__getattribute__»; refine wpAny_bind (wpAny_of_eq (a := ((Value.ref x : Value), [Value.str "__class__" t])) (by first | rfl | (simp only [slotArgs]; rfl)) ?_)
  refine wpAny_bind (wpAny_pure (wpAny_bind (ly.at (wpAny_bind (lfd.at ?_)))))
  show wpAny _ _ (holding [Value.builtin "object.__class__"] (call (.builtin "getset_descriptor.__get__") [.builtin "object.__class__", .ref x, .ref D]) >>= ret) _ _ _
  refine wpAny_bind (wpAny_holding (wpAny_call (class_get (s := ⟨hp, g, d, t + 1, os⟩) (ox := ox) (od := some od) X I T.hm ?_))); refine wpAny_pure ?_
  show wpAny _ _ (handedOut (.ref D)) _ _ _; rw [handedOut_of (v := .ref D) rfl]
  first | exact wpAny_pure (wpAny_pure h) | exact wpAny_pure h | exact wpAny_pure (wpAny_bind (wpAny_pure (wpAny_pure h)))
theorem kitX (T : ExcC K D) : KitX K (.ref x) (.ref D) (fun h => InstAt h x ox D (some od)) where
  ty := fun _ _ _ I => I.type
  it := fun M h X _ => by
    obtain ⟨c0, hc0, _⟩ := any_some T.hd
    unfold clsIn at hc0; split at hc0
    · next ho =>
      intro A' Q' E' s' k q
      obtain ⟨h1, g1, d1, t1, o1⟩ := s'
      exact ks_wpAny_isType_cls (k _ _ (X _ _ ho)) rfl q
    · cases hc0
  ne := fun h tp dd its n sl X htp => by
    obtain ⟨c0, hc0, _⟩ := any_some T.hd
    unfold clsIn at hc0; split at hc0
    · next ho =>
      refine Bool.eq_false_iff.mpr fun q => ?_
      have e := Value.ref.inj (beq_iff_eq.mp q)
      rw [← e, X _ _ ho] at htp; cases htp
    · cases hc0
  ca := fun X I k => class_ofX T X I k
end
/-- isinstance(e, c), e the error that the suite holds, with its dict -/
def rIsX (K : PySem.W.Frag) (D a : Addr) (cls : Value) (d : Option Addr) : List V → Hp → VK → Prop := fun xs H Q => ∃ (c : V) (cv : Value) (b : Bool) (dd : Addr) (fs : List (Str × V)), xs = [.ref a, c] ∧ (∀ u, RelV c u → u = cv) ∧ cls = .ref D ∧ d = some dd ∧ H dd = some (.xd fs) ∧ PySem.W.kitOne K (.ref D) cv = some b ∧ Q (.bl b) H
theorem call_isX {X : Cx} {K : PySem.W.Frag} {a D : Addr} {oe : Obj} {cls : Value} {d : Option Addr} {pn : List (Addr × Obj)} (C : ExcC K D) (hz : Zc cls d oe) (hf : ∃ vs, oe.data = .fields vs) (hK : X.K = K := by rfl) : CallR (X.suite a ((a, oe) :: pn)) (.builtin "isinstance") (rIsX K D a cls d) := by
  subst hK
  intro pins s σ H xs us Q I r h
  obtain ⟨c, cv, b, dd, fs, rfl, hcv, rfl, rfl, hd, e, q⟩ := h
  obtain ⟨u1, u2, rfl, r1, r2⟩ := vals2 r
  cases r1
  have ec := hcv _ r2
  subst ec
  obtain ⟨hget, _⟩ := I.pin (a, oe) (List.mem_append.mpr (.inl List.mem_cons_self))
  obtain ⟨vs, hv⟩ := hf
  obtain ⟨mA, ⟨o0, es, ep, ho0, _⟩, _⟩ := (show ObjOk X.prog X.w H s.heap dd (.xd fs) from I.hok dd _ hd)
  have J : PySem.W.InstAt s.heap a oe D (some o0) := ⟨hget, hz.1, by unfold PySem.W.notCls; rw [hv] <;> rfl, by rw [hz.2]; exact ho0⟩
  exact PySem.W.kia_one (kitX C) I.kIn J e (fun z => nomatch z) fun tk => ⟨.bl b, H, I.kept (t' := tk) fun _ _ z => z, rfl, q⟩
/-- e.f in the suite -/
theorem kxf {X : Cx} {K : PySem.W.Frag} {a C : Addr} {oe : Obj} {cls : Value} {d : Option Addr} {pn : List (Addr × Obj)} {e : Expr} {te : TE} {pos : Pos} {n : Str} (T : XfC K C) (hno : PySem.W.findIn K (.ref C) n = some none) (hz : Zc cls d oe) (hf : ∃ vs, oe.data = .fields vs) (he : PE (X.suite a ((a, oe) :: pn)) e te) (hK : X.K = K := by rfl) (hb : attributeBase e n X.env (eval e X.env) = eval e X.env := by rfl) :
    PE (X.suite a ((a, oe) :: pn)) (.Attribute e n pos) (tXf a cls d C n te) := by
  subst hK
  exact pe_xf T hno hz hf he hb
namespace Rd
theorem xf {a : Addr} {cls : Value} {d : Option Addr} {C : Addr} {f : Str} {te : TE} {σ : St} {H : Hp} {Q : VK} (h : te σ H fun x H1 => x = .ref a ∧ cls = .ref C ∧ ∃ (dd : Addr) (fs : List (Str × V)) (v : V), d = some dd ∧ H1 dd = some (.xd fs) ∧ fs.lookup f = some v ∧ Q v H1) : tXf a cls d C f te σ H Q := h
end Rd
end Fw

namespace Fw
open PySem PySem.Spec L2
/-- try: .. except C as n: .. (nothing else leaves) -/
def tTryAs (K : PySem.W.Frag) (c : Value) (i : Nat) (tb : WX → TS) (ts : Addr → Value → Option Addr → TS) : TS := fun D σ H => tb (wAs K c i ts (fun _ _ _ _ => False) D) D σ H
section
variable {X : Cx} {x n : Str} {c : Value} {body suite : List Stmt} {b₀ : Stmt} {np pos pos' : Pos} {tb : WX → TS} {ts : Addr → Value → Option Addr → TS}
theorem ktry_as (K : PySem.W.Frag) (i : Nat) (hN : X.N.Nodup) (hc : Names X x c)
    (hb : ∀ (W : WX) (pn : List (Addr × Obj)) (xe : Value → Shared → Prop), Takes (X.tr pn xe) W → PassesOwn (model X.prog X.w) X.A X.env xe → PSs (X.tr pn xe) body (tb W))
    (hsu : ∀ (a : Addr) (oe : Obj) (cls : Value) (d : Option Addr) (pn : List (Addr × Obj)), Zc cls d oe → (∃ vs, oe.data = .fields vs) → PSs (X.suite a ((a, oe) :: pn)) (b₀ :: suite) (ts a cls d))
    (hK : X.K = K := by rfl) (hs : X.stack = X.env :: X.outer := by rfl) (hf : X.env.frame = some X.env.locals := by rfl) (hi : X.N[i]? = some n := by rfl) (hln : X.env.kindOf n = some .local := by rfl) :
    PS X (.Try body [.ExceptHandler (some (.Name x np)) (some n) (b₀ :: suite) pos'] [] [] pos) (tTryAs K c i tb ts) := by
  subst hK
  exact ps_try_as hs hf hN hi hln hc takes0 hb hsu
/-- a call within a try's body -/
theorem pe_cfS {P : Program} {w : World} {K : PySem.W.Frag} {mg : Str → Option Value} {base : Heap} {nm q : Str} {st : Stmt} {ps : List Str} {k : Nat} {sp : Sp} {W : WX} {e : Expr} {es : List Expr} {t : TA} {p pos : Pos} (d : Df K mg nm q st ps) (F : FnOk P w K mg base (L2.CX P w) k d.f d.fd ps sp) (hr : Room k X.A) (tk : Takes X W)
    (ha : PA X (e :: es) t) (h1 : X.prog = P := by rfl) (h2 : X.w = w := by rfl) (h3 : X.K = K := by rfl) (h4 : X.mg = mg := by rfl) (h5 : X.base = base := by rfl) (hg : Gl X nm := by rfl) (hd : (nm == ("__debug__" : Str)) = false := by decide) (he : starEach (e :: es) X.env = (false, eval e X.env) :: starEach es X.env := by rfl) (hpl : (backTo pos (starEach es X.env)).any (·.1) = false := by rfl) :
    PE X (.Call (.Name nm p) (e :: es) [] pos) (tCallS sp (WE W) t) := by
  subst h1 h2 h3 h4 h5
  exact pe_callS F hr hg d.g d.F.kp d.b (fun σ => passAt tk σ) ha hd he hpl
end
namespace Rd
variable {K : PySem.W.Frag} {σ : St} {H : Hp} {Q : VK} {N : St → Hp → Prop} {r : VK} {bk ct : St → Hp → Prop}
theorem tryAs {c : Value} {i : Nat} {tb : WX → TS} {ts : Addr → Value → Option Addr → TS} (h : tb (wAs K c i ts (fun _ _ _ _ => False) (Ends.mk N r bk ct)) (Ends.mk N r bk ct) σ H) : tTryAs K c i tb ts (Ends.mk N r bk ct) σ H := h
theorem callS {sp : Sp} {E : St → XK} {t : TA} (h : t σ H fun vs H1 => sp vs H1 Q (E σ)) : tCallS sp E t σ H Q := h
/-- the clause takes it -/
theorem wAs_yes {c cls : Value} {d : Option Addr} {i : Nat} {ts : Addr → Value → Option Addr → TS} {Wo : WX} (te : PySem.W.exmOne K cls c = some true) (h : ∀ a, H a = none → ts a cls d (Ends.mk (fun σ' H' => N (σ'.set i none) H') r (fun σ' H' => bk (σ'.set i none) H') (fun σ' H' => ct (σ'.set i none) H')) (σ.set i (some (.ref a))) H) :
    WE (wAs K c i ts Wo (Ends.mk N r bk ct)) σ cls d H := ⟨true, te, fun _ a ha => h a ha, fun q => nomatch q⟩
theorem isX {D a dd : Addr} {cls cv : Value} {d : Option Addr} {c : V} {b : Bool} {fs : List (Str × V)} (hc : ∀ u, RelV c u → u = cv) (e1 : cls = .ref D) (e2 : d = some dd) (hd : H dd = some (.xd fs)) (e : PySem.W.kitOne K (.ref D) cv = some b) (q : Q (.bl b) H) : rIsX K D a cls d [.ref a, c] H Q := ⟨c, cv, b, dd, fs, rfl, hc, e1, e2, hd, e, q⟩
theorem isi {x c : V} {t u : Value} {b : Bool} (k : ClsV c u) (ty : TyX K H x t) (e : PySem.W.kitOne K t u = some b) (q : Q (.bl b) H) : rIsi K [x, c] H Q := ⟨x, c, t, u, b, rfl, k, ty, e, q⟩
end Rd
end Fw
namespace Fw
open PySem PySem.Spec L2
/-! ### lists and tuples of numbers, bools and texts, compared -/
def okV : V → Bool
  | .non => true
  | .bl _ => true
  | .int _ => true
  | .str x => PyData.canLay0 (.str x)
  | _ => false
def dOf : V → PyData
  | .bl b => .bool b
  | .int i => .int i
  | .str x => .str x
  | _ => .none
section
variable {K : PySem.W.Frag} {H : Hp} {Q : VK} {a b : Addr} {xs : List V}
theorem dp_all : ∀ {xs : List V}, xs.all okV = true → DpAll K H xs (xs.map dOf)
  | [], _ => .nil
  | x :: xs, h => by
    rw [List.all_cons, Bool.and_eq_true] at h
    refine .cons ?_ (dp_all h.2)
    cases x with
    | non => exact .non
    | bl b => exact .bl b
    | int i => exact .int i
    | str x => exact .str x
    | byt _ => exact Bool.noConfusion h.1
    | flt _ => exact Bool.noConfusion h.1
    | ref _ => exact Bool.noConfusion h.1
    | ty _ => exact Bool.noConfusion h.1
theorem can_all : ∀ {xs : List V}, xs.all okV = true → PyData.canLayAll0 (xs.map dOf) = true
  | [], _ => rfl
  | x :: xs, h => by
    rw [List.all_cons, Bool.and_eq_true] at h
    show (PyData.canLay0 (dOf x) && PyData.canLayAll0 (xs.map dOf)) = true
    rw [can_all h.2, Bool.and_true]
    cases x with
    | str x => exact h.1
    | _ => first | rfl | exact Bool.noConfusion h.1
theorem depth_all : ∀ xs : List V, PyData.depthAll (xs.map dOf) = 0
  | [] => rfl
  | x :: xs => by
    show max (PyData.depth (dOf x)) (PyData.depthAll (xs.map dOf)) = 0
    rw [depth_all xs]
    cases x <;> rfl
theorem shL (h : xs.all okV = true) : SeqAt.shaped (.list (xs.map dOf)) = true := by
  show (PyData.canLayAll0 (xs.map dOf) && decide (PyData.depthAll (xs.map dOf) + 1 ≤ 64)) = true
  rw [can_all h, depth_all]; rfl
theorem shT (h : xs.all okV = true) : SeqAt.shaped (.tuple (xs.map dOf)) = true := by
  show (PyData.canLayAll0 (xs.map dOf) && decide (PyData.depthAll (xs.map dOf) + 1 ≤ 64)) = true
  rw [can_all h, depth_all]; rfl
theorem reflL (h : xs.all okV = true) : PyData.eqv (.list (xs.map dOf)) (.list (xs.map dOf)) = true := SeqAt.eqv_refl _ (can_all h)
theorem reflT (h : xs.all okV = true) : PyData.eqv (.tuple (xs.map dOf)) (.tuple (xs.map dOf)) = true := SeqAt.eqv_refl _ (can_all h)
namespace Rd
theorem eqLs (h1 : SqL K H a xs) (h2 : SqL K H b xs) (h : xs.all okV = true) (q : Q (.bl true) H) : rEqA K (.ref a) (.ref b) H Q := Rd.eqD (.lst h1 (dp_all h)) (.lst h2 (dp_all h)) (shL h) (shL h) (by rw [reflL h]; exact q)
theorem neLs (h1 : SqL K H a xs) (h2 : SqL K H b xs) (h : xs.all okV = true) (q : Q (.bl false) H) : rNeA K (.ref a) (.ref b) H Q := Rd.neD (.lst h1 (dp_all h)) (.lst h2 (dp_all h)) (shL h) (shL h) (by rw [reflL h]; exact q)
theorem eqTs (h1 : SqT K H a xs) (h2 : SqT K H b xs) (h : xs.all okV = true) (q : Q (.bl true) H) : rEqA K (.ref a) (.ref b) H Q := Rd.eqD (.tup h1 (dp_all h)) (.tup h2 (dp_all h)) (shT h) (shT h) (by rw [reflT h]; exact q)
theorem neTs (h1 : SqT K H a xs) (h2 : SqT K H b xs) (h : xs.all okV = true) (q : Q (.bl false) H) : rNeA K (.ref a) (.ref b) H Q := Rd.neD (.tup h1 (dp_all h)) (.tup h2 (dp_all h)) (shT h) (shT h) (by rw [reflT h]; exact q)
theorem iteBT {b : Bool} {A B : Prop} (hb : b = true) (h : A) : if b = true then A else B := by rw [if_pos hb]; exact h
theorem iteBF {b : Bool} {A B : Prop} (hb : b = false) (h : B) : if b = true then A else B := by rw [hb, if_neg Bool.false_ne_true]; exact h
theorem iteDT {c A B : Prop} [Decidable c] (hc : c) (h : A) : if decide c = true then A else B := by rw [decide_eq_true hc, if_pos rfl]; exact h
theorem iteDF {c A B : Prop} [Decidable c] (hc : ¬ c) (h : B) : if decide c = true then A else B := by rw [decide_eq_false hc, if_neg Bool.false_ne_true]; exact h
theorem iteNDT {c A B : Prop} [Decidable c] (hc : c) (h : B) : if (!decide c) = true then A else B := by rw [decide_eq_true hc]; exact h
theorem iteNDF {c A B : Prop} [Decidable c] (hc : ¬ c) (h : A) : if (!decide c) = true then A else B := by rw [decide_eq_false hc]; exact h
end Rd
end
/-- o.m(), by the facts -/
theorem pe_m0g {X : Cx} {pl : Sem Bool} {P : Program} {w : World} {K : PySem.W.Frag} {mg : Str → Option Value} {base : Heap} {CX : CXT} {m : Str} {C f : Addr} {fd : FuncData} {k : Nat} {ps : List Str} {sp : Sp} {E : XK} {o : Expr} {ta : TE} {apos pos : Pos} (he : PE X o ta) (c : Cls K C) (hm : Meth K C m f) (F : FnOk P w K mg base CX k f fd ps sp) (hr : Room k X.A) (hx : Passes CX X E) (hb : Binds K fd ps [])
    (h1 : X.prog = P := by rfl) (h2 : X.w = w := by rfl) (h3 : X.K = K := by rfl) (h4 : X.mg = mg := by rfl) (h5 : X.base = base := by rfl)
    (ht : eval (.Call (.Attribute o m apos) [] [] pos) X.env = (do let ov ← eval o X.env; standAt apos.atName; let (f, first) ← holding [ov] (getMethod ov m pl); callWith pos f first (backTo pos (starEach [] X.env)) (backToKw pos (keywordEach [] X.env))) := by rfl) :
    PE X (.Call (.Attribute o m apos) [] [] pos) (tMeth C m sp [] E ta tNil) := by
  subst h1 h2 h3 h4 h5
  exact pe_meth0 (pl := pl) he c hm F hr hb .nil hx ht
end Fw

namespace Fw
open PySem PySem.Spec L2
/-- one expression, read in one of several ways (an object of one of several classes) -/
def tAltN (n : Nat) (t : Nat → TE) : TE := fun σ H Q => ∃ m, m < n ∧ t m σ H Q
theorem pe_altN {X : Cx} {e : Expr} {n : Nat} {t : Nat → TE} (h : ∀ m, m < n → PE X e (t m)) : PE X e (tAltN n t) := ⟨fun pins s σ H Q I ⟨m, hm, q⟩ => (h m hm).run pins s σ H Q I q⟩
theorem Rd.alt {n m : Nat} {t : Nat → TE} {σ : St} {H : Hp} {Q : VK} (hm : m < n) (h : t m σ H Q) : tAltN n t σ H Q := ⟨m, hm, h⟩
end Fw

set_option Elab.async false
set_option linter.all false
set_option maxRecDepth 100000
set_option maxHeartbeats 4000000
/-! more readings: enumerate, two for, two except clauses -/
namespace Fw
open PySem PySem.Spec L2
section
variable {X : Cx} (K : PySem.W.Frag)
theorem kenum {e : Expr} {ta : TA} {p pos tpos : Pos} {elts : List Expr} {kk : Nat} (hm : X.mg "enumerate" = none) (ha : PA X [e] ta) (h : X.K = K := by rfl) (hg : Gl X "enumerate" := by rfl) (hs : starEach [e] X.env = [(false, eval e X.env)] := by rfl) :
    PI X (.Tuple elts kk tpos) (.Call (.Name "enumerate" p) [e] [] pos) (iEnum K ta) := by subst h; exact pi_enum hg hm ha hs
theorem kgt2 {e1 e2 : Expr} {k : Nat} {t1 t2 : TG} {pos : Pos} (h1 : PG X e1 t1) (h2 : PG X e2 t2) (hc : X.calm = true := by rfl) (h : X.K = K := by rfl) (hn : (assignEach [e1, e2] X.env).length = 2 := by rfl) (hst : (assignEach [e1, e2] X.env).findIdx? (·.1) = none := by rfl)
    (hs : (assignEach [e1, e2] X.env).map (·.2) = assign e1 X.env :: (assignEach [e2] X.env).map (·.2) := by rfl) (hs2 : (assignEach [e2] X.env).map (·.2) = assign e2 X.env :: (assignEach [] X.env).map (·.2) := by rfl) :
    PG X (.Tuple [e1, e2] k pos) (gTup K 2 (gCons t1 (gCons t2 gNil))) := by
  subst h; exact pg_tup hc (pgs_cons h1 (pgs_cons h2 pgs_nil hs2) hs) hn hst
end
/-- what is left of a comprehension with two for -/
def Lc2Go (J : It) (g : TG) (tt : TT) (wi1 : TI) (g1 : TG) (tt1 : TT) (te : TE) (vs vs1 : List Nat) (σ : St) (H1 : Hp) (Q : VK) : Prop := tLc2 (fun _ H R => R J H) g tt wi1 g1 tt1 te vs vs1 σ H1 Q
namespace Rd
variable {K : PySem.W.Frag} {σ : St} {H : Hp} {Q : VK} {te tl tl1 : TE} {ta : TA} {tt tt1 : TT} {g g1 : TG} {wi1 : TI} {vs vs1 : List Nat} {tb : TS} {D : Ends} {J : It} {n : Nat}
theorem foE (h : ta σ H fun us H1 => ∃ a, us = [.ref a] ∧ (∃ xs, SqL K H1 a xs) ∧ FoGo (Ite K a) g tb D σ H1) : tFor (iEnum K ta) g tb D σ H := by
  unfold tFor iEnum
  have e : (fun us H1 => ∃ a, us = [V.ref a] ∧ (∃ xs, SqL K H1 a xs) ∧ FoGo (Ite K a) g tb D σ H1) = fun us H1 => ∃ a xs, us = [V.ref a] ∧ SqL K H1 a xs ∧ FoGo (Ite K a) g tb D σ H1 := by
    funext us H1
    exact propext ⟨fun ⟨a, e, ⟨xs, h⟩, k⟩ => ⟨a, xs, e, h, k⟩, fun ⟨a, xs, e, h, k⟩ => ⟨a, e, ⟨xs, h⟩, k⟩⟩
  rw [e] at h
  exact h
theorem exlist1 {a : Addr} {xs : List V} {P : Addr → Prop} (hs : SqL K H a xs) (h : P a) : ∃ b, [V.ref a] = [.ref b] ∧ (∃ xs, SqL K H b xs) ∧ P b := ⟨a, rfl, ⟨xs, hs⟩, h⟩
/-- for i, x in enumerate(xs) -/
theorem foP {a : Addr} {xs : List V} {s1 s2 : Nat} {N : St → Hp → Prop} {r : VK} {bk ct : St → Hp → Prop} (Pv : Nat → St → Hp → Prop) (h0 : Pv 0 σ H) (hG : ∀ i σ H, i ≤ xs.length → Pv i σ H → SqL K H a xs)
    (step : ∀ i x σ H T, i < xs.length → xs[i]? = some x → Pv i σ H → H T = none → tb (Ends.mk (Pv (i + 1)) r N (Pv (i + 1))) ((σ.set s1 (some (.int (i : Nat)))).set s2 (some x)) (upd H T (.tup [.int (i : Nat), x]))) (fin : ∀ σ H, Pv xs.length σ H → N σ H) :
    FoGo (Ite K a) (gTup K 2 (gCons (gName s1) (gCons (gName s2) gNil))) tb (Ends.mk N r bk ct) σ H :=
  for_it walk_enum Pv h0 hG (fun i v σ H H' hi p ⟨T, y, x, e1, e2, e3, e4, e5⟩ => by
    cases e4; subst e1; subst e3
    exact ⟨T, _, rfl, SqT.of upd_same, rfl, _, _, rfl, _, _, rfl, rfl, step i x σ H T hi e5 p e2⟩) fin
theorem lc2L (h : tl σ H fun x H1 => ∃ a, x = .ref a ∧ (∃ xs, SqL K H1 a xs) ∧ Lc2Go (Itl K a) g tt wi1 g1 tt1 te vs vs1 σ H1 Q) : tLc2 (iList K tl) g tt wi1 g1 tt1 te vs vs1 σ H Q := h
/-- [e for x in xs for y in ys if t]: Jv by the two turns, items made and heap -/
theorem lc2W {s s1 : Nat} {a b : Addr} {xs ys : List V} (hss : s ≠ s1) (hn : xs.length * ys.length < sizeLine) (Jv : Nat → Nat → List V → Hp → Prop) (h0 : Jv 0 0 [] H)
    (hst : ∀ D, H D = none → ∀ i j acc zs H', (∀ a o, H' a = some (.tup o) → a ≠ D) → Jv i j acc H' → Jv i j acc (upd H' D (.lst zs))) (hG : ∀ i j acc H', Jv i j acc H' → SqL K H' a xs ∧ SqL K H' b ys)
    (hin : ∀ x H', tl1 (((σ.set s1 none).set s none).set s (some x)) H' fun z H1 => z = .ref b ∧ H1 = H') (hmono : ∀ (σ : St) (H : Hp) (Q R : VK), (∀ v H, Q v H → R v H) → tl1 σ H Q → tl1 σ H R)
    (hend : ∀ i acc H', i < xs.length → Jv i ys.length acc H' → Jv (i + 1) 0 acc H')
    (step : ∀ D, H D = none → ∀ i j x y acc H', xs[i]? = some x → ys[j]? = some y → H' D = some (.lst acc) → Jv i j acc H' → ∀ (Kt : V → Hp → Prop) (Kf : Hp → Prop), (∀ z H4, H4 D = some (.lst acc) → Jv i (j + 1) (acc ++ [z]) H4 → Kt z H4) → (∀ H3, H3 D = some (.lst acc) → Jv i (j + 1) acc H3 → Kf H3) →
      tt1 ((((σ.set s1 none).set s none).set s (some x)).set s1 (some y)) H' fun c H3 => if c = true then te ((((σ.set s1 none).set s none).set s (some x)).set s1 (some y)) H3 Kt else Kf H3)
    (fin : ∀ D acc H', H D = none → H' D = some (.lst acc) → acc.length ≤ xs.length * ys.length → Jv xs.length 0 acc H' → Q (.ref D) H') :
    Lc2Go (Itl K a) (gName s) tYes (iList K tl1) (gName s1) tt1 te [s, s1] [s1] σ H Q := by
  intro D hD
  refine ⟨fun i m H' => m = xs.length - i ∧ i ≤ xs.length ∧ ∃ acc, H' D = some (.lst acc) ∧ acc.length ≤ i * ys.length ∧ Jv i 0 acc H', ⟨_, rfl, Nat.zero_le _, [], upd_same, Nat.zero_le _, hst D hD _ _ _ _ _ (fun a o e z => by rw [z, hD] at e; cases e) h0⟩, ?_⟩
  rintro i m H' ⟨rfl, hi, acc, a1, a2, a3⟩
  rcases Nat.lt_or_ge i xs.length with lt | ge
  · refine .inr ⟨⟨xs, xs[i], (hG _ _ _ _ a3).1, List.getElem?_eq_getElem lt⟩, fun H'' => i + 1 ≤ xs.length ∧ ∃ acc, H'' D = some (.lst acc) ∧ acc.length ≤ (i + 1) * ys.length ∧ Jv (i + 1) 0 acc H'', fun H'' q => ⟨xs.length - (i + 1), by omega, rfl, q.1, q.2⟩, ?_⟩
    rintro x H2 ⟨rfl, hx⟩
    have hx' := hx xs (hG _ _ _ _ a3).1
    have w0 : wipe σ [s, s1] = (σ.set s1 none).set s none := rfl
    rw [w0]
    refine ⟨?_, ?_⟩
    · show ((((σ.set s1 none).set s none).set s (some x)).set s1 none).set s none = (σ.set s1 none).set s none
      rw [List.set_set, List.set_comm (some x) none hss, List.set_set, List.set_set]
    · show tl1 _ _ _
      refine hmono _ _ _ _ (fun z H1 ⟨e1, e2⟩ => ?_) (hin x _)
      subst e1 e2
      refine ⟨b, rfl, ⟨ys, (hG _ _ _ _ a3).2⟩, ?_⟩
      refine ⟨fun j k H'' => k = ys.length - j ∧ j ≤ ys.length ∧ ∃ acc, H'' D = some (.lst acc) ∧ acc.length ≤ i * ys.length + j ∧ Jv i j acc H'', ⟨_, rfl, Nat.zero_le _, acc, a1, a2, a3⟩, ?_⟩
      rintro j k H'' ⟨rfl, hj, acc, b1, b2, b3⟩
      rcases Nat.lt_or_ge j ys.length with lt1 | ge1
      · refine .inr ⟨⟨ys, ys[j], (hG _ _ _ _ b3).2, List.getElem?_eq_getElem lt1⟩, fun H3 => j + 1 ≤ ys.length ∧ ∃ acc, H3 D = some (.lst acc) ∧ acc.length ≤ i * ys.length + (j + 1) ∧ Jv i (j + 1) acc H3, fun H3 q => ⟨ys.length - (j + 1), by omega, rfl, q.1, q.2⟩, ?_⟩
        rintro y H3 ⟨rfl, hy⟩
        have hy' := hy ys (hG _ _ _ _ b3).2
        have w1 : wipe ((((σ.set s1 none).set s none).set s (some x))) [s1] = ((σ.set s1 none).set s none).set s (some x) := by
          show (((σ.set s1 none).set s none).set s (some x)).set s1 none = _
          rw [List.set_set, List.set_comm (some x) none hss, List.set_set]
        rw [w1]
        refine ⟨?_, ?_⟩
        · show ((((σ.set s1 none).set s none).set s (some x)).set s1 (some y)).set s1 none = _
          rw [List.set_set]
          exact w1
        · have lt2 : i * ys.length + j < xs.length * ys.length := Nat.lt_of_lt_of_le (show i * ys.length + j < (i + 1) * ys.length by rw [Nat.succ_mul]; omega) (Nat.mul_le_mul_right _ lt)
          refine step D hD i j x y acc _ hx' hy' b1 b3 _ _ (fun z H4 c1 c2 => ⟨acc, c1, by omega, lt1, acc ++ [z], upd_same, by rw [List.length_append, List.length_singleton]; omega, hst D hD _ _ _ _ _ (fun a o e z => by rw [z, c1] at e; cases e) c2⟩) fun H3 c1 c2 => ⟨lt1, acc, c1, by omega, c2⟩
      · have ej : j = ys.length := by omega
        subst ej
        exact .inl ⟨⟨ys, (hG _ _ _ _ b3).2, Nat.le_refl _⟩, lt, acc, b1, by rw [Nat.succ_mul]; exact b2, hend i acc _ lt b3⟩
  · have ei : i = xs.length := by omega
    subst ei
    exact .inl ⟨⟨xs, (hG _ _ _ _ a3).1, Nat.le_refl _⟩, fin D acc _ hD a1 a2 a3⟩
end Rd
end Fw

set_option Elab.async false
set_option linter.all false
set_option maxRecDepth 100000
set_option maxHeartbeats 4000000
/-! a set made of a list, whatever its items: one item after another -/
namespace Sets
open PySem PySem.Spec PyProof.Rows
/-- the set that is under way at S: J i h, it holds the first i items -/
structure Grows (P : Program) (w : World) (B : Around) (S : Addr) (n : Nat) (Pv : Nat → Value → Prop) (wr : List Addr) (J : Nat → Heap → Prop) : Prop where
  keep : ∀ {i : Nat} {h h' : Heap}, J i h → (∀ b o, b ∉ wr → h.get? b = some o → h'.get? b = some o) → J i h'
  add : ∀ {i : Nat} {v : Value} {s : Shared} {E : Value → Shared → Prop} {Q : Bool → Shared → Prop}, i < n → Pv i v → J i s.heap →
    (∀ (b : Bool) (h' : Heap) (tk : Nat), s.toks ≤ tk → Heap.SameBut S s.heap h' → J (i + 1) h' → Q b { s with heap := h', toks := tk }) → wpAny (model P w) B (setAdd S v) Q E s
section
variable {P : Program} {w : World} {A : Around} {R : Result → Shared → Prop} {I S : Addr} {fp wr : List Addr} {G : Array GenState → Array GenState → Prop} {n : Nat} {Pv : Nat → Value → Prop} {St : Nat → Shared → Prop} {J : Nat → Heap → Prop}
theorem grow_loop (W : WalksS P w A.in1 I fp wr G n Pv St) (hS : S ∉ fp) (g : Grows P w A.in1 S n Pv wr J) (d : Nat) :
    ∀ (i : Nat) (s : Shared), i + d = n → St i s → J i s.heap → (∀ z, Moved (S :: wr) G s z → J n z.heap → R (.ok (.ret .none)) z) → codeAny (model P w) A (.builtin "set.update.loop" ⟨[.ref S, .ref I], []⟩) R s := by
  have more : ∀ b, b ∈ wr → b ∈ S :: wr := fun b m => List.mem_cons.mpr (.inr m)
  induction d with
  | zero =>
    intro i s e st j k
    have e' : i = n := e
    subst e'
    refine codeAny_builtin F.entry_set_update_loop ?_; rw [Around.under_plainId F.plain_set_update_loop _]
    refine wpAny_bind (m := pyNext (.ref I)) (W.done s _ _ st fun z mv => ?_)
    exact wpAny_pure (M := model P w) (k z (mv.mono more) (g.keep j fun b o nb q => mv.heap b o nb q))
  | succ d ih =>
    intro i s e st j k
    refine codeAny_builtin F.entry_set_update_loop ?_; rw [Around.under_plainId F.plain_set_update_loop _]
    refine wpAny_bind (m := pyNext (.ref I)) (W.item i s _ _ (by omega) st fun v z pv st' mv => ?_)
    refine wpAny_bind (m := holding [v] (setAdd S v)) (wpAny_holding (g.add (by omega) pv (g.keep j fun b o nb q => mv.heap b o nb q) fun r h' tk ht sb j' => ?_))
    have far : ∀ b, b ≠ S → ∀ o, z.heap.get? b = some o → h'.get? b = some o := fun b nb o q => (sb.2 b nb).trans q
    refine wpAny_pure ⟨plainId_quiet F.plain_set_update_loop _, ih (i + 1) _ (by omega) (W.frame _ z _ _ st' ht fun b m o q => far b (fun x => hS (x ▸ m)) o q) j' fun z' mv' j'' => ?_⟩
    exact k z' (Moved.trans W.gtrans ((mv.mono more).then_heap ht fun b o nb q => far b (fun x => nb (x ▸ List.mem_cons_self)) o q) mv') j''
end
/-- a set just made -/
abbrev newSet0 (led : Bool) : Obj := { cls := .type "set", dict := none, data := .set #[] 0 (.fresh 0 0 led) }
section
variable {P : Program} {w : World} {A : Around} {E : Value → Shared → Prop} {s : Shared} {J : Nat → Heap → Prop} {l : Addr} {items : Array Value} {Q : Value → Shared → Prop}
/-- set(xs), xs a list -/
theorem set_of (hh : A.handled = none) (hl : s.heap.IsList l items) (h0 : ∀ led : Bool, (w.params.followText "set-order" = true ∨ led = true) → J 0 (s.heap.push (newSet0 led)))
    (g : Grows P w A.in1.in1.in1 s.heap.objs.size items.size (fun i v => items[i]? = some v) [s.heap.objs.size + 1] J)
    (k : ∀ (h' : Heap) (tk : Nat), J items.size h' → (∀ b o, b < s.heap.objs.size → s.heap.get? b = some o → h'.get? b = some o) → Q (.ref s.heap.objs.size) { s with heap := h', toks := tk }) :
    wpAny (model P w) A (call (.type "set") [.ref l]) Q E s := by
  obtain ⟨c, tl, q_mro⟩ := PySem.F.called_set.mro
  have q_made := PySem.F.called_set.made
  have q_sub := PySem.F.called_set.sub; have q_nt := PySem.F.called_set.notType
  have q_can := PySem.F.called_set.canCreate; have q_tc := PySem.F.typeCall_set_1 (.ref l)
  refine wpAny_call (codeAny_of_tree ?_)
  refine wpAny_pure (M := model P w) ⟨Code.quiet_builtin _ (by decide +kernel), codeAny_builtin PySem.F.entry_type_call ?_⟩
  rw [Around.under_plain (weight_type_call_type "set" [.ref l] []) rfl]
  repeat (any_goals (first | assumption | wp_step))
  refine codeAny_mono (L2.code_set_led1 (.ref l) (E := E) (Q₁ := fun x z => ∃ led : Bool, (w.params.followText "set-order" = true ∨ led = true) ∧ x = .ref s.heap.objs.size ∧ z = { s with heap := s.heap.push (newSet0 led) }) ⟨_, by cases w.params.followText "set-order" <;> simp, rfl, rfl⟩) fun r s₁ hr => ?_
  match r, hr with
  | .error e, hr => exact hr
  | .ok (.ret obj), hr =>
    obtain ⟨led, hled, rfl, rfl⟩ := hr
    have q_at : (s.heap.push (newSet0 led)).get? s.heap.objs.size = some (newSet0 led) := Heap.get?_push_size _ rfl
    have q_ty : Shared.TypeIs { s with heap := s.heap.push (newSet0 led) } (.ref s.heap.objs.size) "set" := ⟨_, q_at, rfl⟩
    have q_il := PySem.F.called_set.init.lookup
    have q_ib := PySem.F.called_set.init.bind (.ref s.heap.objs.size)
    repeat (any_goals (first | assumption | wp_step))
    refine codeAny_mono (codeAny_call_builtin (R := wants (fun x z => x = .none ∧ ∃ h' tk, z = { s with heap := h', toks := tk } ∧ J items.size h' ∧ (∀ b o, b < s.heap.objs.size → s.heap.get? b = some o → h'.get? b = some o)) E)
      PySem.F.called_set.init.plain PySem.F.entry_set_init (check_set_init_1 q_ty ?_)) fun r₂ s₂ hr₂ => ?_
    · obtain ⟨⟨oc, od, oD, os⟩, q_ol, q_c, q_n, q_d⟩ := hl
      simp only at q_c q_d
      subst q_c; subst q_d
      have q_ol' : (s.heap.push (newSet0 led)).get? l = some ⟨.type "list", od, .seq items q_n, os⟩ := Heap.get?_push_of_some _ q_ol
      have q_s1 := PySem.F.sub_list_set; have q_s2 := PySem.F.sub_list_frozenset
      have q_ne : (Value.type "list" == Value.type "dict") = false := by decide
      have q_il2 : (s.heap.push (newSet0 led)).IsList l items := ⟨_, q_ol', rfl, q_n, rfl⟩
      unfold Builtin.«set.__init__» noKeywords Builtin.Frozenset.updateFrom
      generalize q_pi : pyIter = PI
      wp_walk
      subst q_pi
      refine wpAny_pyIter_list q_il2 ?_; refine wpAny_bind (wpAny_runValue ?_)
      have lt : l < s.heap.objs.size := Heap.lt_size q_ol
      have z1 : (s.heap.push (newSet0 led)).objs.size = s.heap.objs.size + 1 := Heap.size_push ..
      have n1 : l ≠ s.heap.objs.size + 1 := Nat.ne_of_lt (Nat.lt_succ_of_lt lt)
      have n2 : ¬ s.heap.objs.size = s.heap.objs.size + 1 := Nat.ne_of_lt (Nat.lt_succ_self _)
      have n3 : ¬ s.heap.objs.size = l := Nat.ne_of_gt lt
      have far1 : ∀ b o, s.heap.get? b = some o → ((s.heap.push (newSet0 led)).push { cls := .type "list_iterator", data := .fields #[.ref l, .int 0 0] }).get? b = some o := fun b o e => Heap.get?_push_of_some _ (Heap.get?_push_of_some _ e)
      refine grow_loop ((Walks.list (I := (s.heap.push (newSet0 led)).objs.size) (by simp [hh]) l (z1.symm ▸ n1) items).toS) (S := s.heap.objs.size) (z1.symm ▸ fun m => (List.mem_cons.mp m).elim n2 fun m => n3 (List.mem_singleton.mp m)) (z1.symm ▸ g) items.size 0 _ (by omega)
        ⟨⟨_, Heap.get?_push_size _ rfl, rfl, rfl⟩, q_il2.push _⟩ (g.keep (h0 led hled) fun b o _ e => Heap.get?_push_of_some _ e) fun z mv j => ?_
      obtain ⟨h', g', d', tk', os'⟩ := z
      have eg : g' = s.gens := mv.gens
      have ed : d' = s.drawn := mv.drawn
      have eo : os' = s.os := mv.os
      subst eg ed eo
      show wpAny _ _ _ _ _ _
      refine wpAny_pure ?_
      refine wpAny_pure (M := model P w) ⟨rfl, h', tk', rfl, j, fun b o lb e => mv.heap b o (fun m => ?_) (far1 b o e)⟩
      have lb' : ∀ c, s.heap.objs.size ≤ c → b ≠ c := fun c q => Nat.ne_of_lt (Nat.lt_of_lt_of_le lb q)
      rcases List.mem_cons.mp m with e1 | e1
      · exact lb' _ (Nat.le_refl _) e1
      · exact lb' _ (by rw [z1]; exact Nat.le_succ _) (List.mem_singleton.mp e1)
    · match r₂, hr₂ with
      | .error e, hr₂ => exact hr₂
      | .ok (.ret x), hr₂ =>
        obtain ⟨rfl, h', tk, rfl, j, kp⟩ := hr₂
        repeat (any_goals (first | assumption | wp_step))
        exact k _ _ j kp
      | .ok .next, hr₂ => exact hr₂.elim
end
end Sets

set_option Elab.async false
set_option linter.all false
set_option maxRecDepth 100000
set_option maxHeartbeats 4000000
/-! len(set(xs)), xs a list of texts -/
namespace Sets
open PySem PySem.Spec PyProof.Rows L2
/-- the set at S holds the first i texts -/
def HasT (P : Program) (w : World) (S : Addr) (xs : List Str) (i : Nat) (h : Heap) : Prop :=
  ∃ m, h.SetOf (strKind P w) S (fun k => (xs.take i).any (· == k)) m ∧ m ≤ i ∧ (m = i ↔ (xs.take i).Nodup)
theorem any_next {xs : List Str} {i : Nat} {x : Str} (hx : xs[i]? = some x) (k : Str) : ((xs.take i).any (· == k) || decide (k = x)) = (xs.take (i + 1)).any (· == k) := by
  rw [List.take_add_one, hx, List.any_append]
  congr 1
  show decide (k = x) = ((x == k) || false)
  rw [Bool.or_false]
  by_cases e : k = x
  · subst e; simp
  · rw [decide_eq_false e]; exact (beq_eq_false_iff_ne.mpr fun q => e q.symm).symm
theorem nodup_next {xs : List Str} {i : Nat} {x : Str} (hx : xs[i]? = some x) : (xs.take (i + 1)).Nodup ↔ (xs.take i).Nodup ∧ (xs.take i).any (· == x) = false := by
  rw [List.take_add_one, hx]
  show (xs.take i ++ [x]).Nodup ↔ _
  rw [List.nodup_append]
  constructor
  · rintro ⟨a, _, c⟩
    exact ⟨a, List.any_eq_false.mpr fun y hy e => c y hy x (List.mem_singleton.mpr rfl) (eq_of_beq e)⟩
  · rintro ⟨a, b⟩
    refine ⟨a, by simp, fun y hy z hz e => ?_⟩
    have := List.any_eq_false.mp b y hy
    rw [List.mem_singleton] at hz
    subst e hz
    exact this (beq_self_eq_true _)
theorem grows_texts {P : Program} {w : World} {B : Around} {S I : Addr} {xs : List Str} {n : Nat} {Pv : Nat → Value → Prop} (hn : n ≤ xs.length) (hb : xs.length ≤ 4000) (hSI : S ≠ I) (hv : ∀ i v, Pv i v → ∃ t, v = .str (xs.getD i Str.empty) t) : Grows P w B S n Pv [I] (HasT P w S xs) where
  keep := fun {i h h'} ⟨m, ⟨o, es, ep, t, ho, r⟩, q⟩ k => ⟨m, ⟨o, es, ep, t, k S o (fun z => hSI (List.mem_singleton.mp z)) ho, r⟩, q⟩
  add := fun {i v s E Q} hi pv ⟨m, hS, hm, hd⟩ k => by
    obtain ⟨t, rfl⟩ := hv i v pv
    have hx : xs[i]? = some (xs.getD i Str.empty) := by
      have : i < xs.length := by omega
      simp [List.getD, this]
    generalize xs.getD i Str.empty = x at hx ⊢
    unfold setAdd
    refine wpAny_holding (wpAny_bind ((strKind P w).pyHash (k := x) (strKind_is _ _ _ _) ?_))
    refine wpAny_setAddHashed_of (s := { s with toks := s.toks + 1 }) (knd := strKind P w) (strKind_is _ _ _ _) rfl hS (by unfold scanBound; omega) fun h' sb hS' => ?_
    refine k _ h' _ (Nat.le_succ _) sb ⟨_, SetOf_congr hS' (any_next hx) rfl, ?_, ?_⟩
    · split <;> omega
    · rw [nodup_next hx, ← hd]
      try dsimp only
      cases (xs.take i).any (· == x)
      · simp only [Bool.false_eq_true, if_false]
        constructor
        · intro q; exact ⟨by omega, by simp⟩
        · intro q; omega
      · simp only [if_true]
        constructor
        · intro q; omega
        · intro q; exact absurd q.2 (by simp)
def tLenSetT (K : PySem.W.Frag) (ta : TE) : TE := fun σ H Q => ta σ H fun x H1 => ∃ (l : Addr) (xs : List Str), x = .ref l ∧ SqL K H1 l (xs.map V.str) ∧ xs.length ≤ 4000 ∧ ∀ m : Nat, m ≤ xs.length → (m = xs.length ↔ xs.Nodup) → Q (.int m) H1
theorem pe_lenSetT {X : Cx} {a : Expr} {ta : TE} {p p2 q pos : Pos} (hg : Gl X "len") (hm : X.mg "len" = none) (hg2 : Gl X "set") (hm2 : X.mg "set" = none) (ha : PE X a ta) (hc : X.calm = true := by rfl)
    (na : starEach [a] X.env = (false, eval a X.env) :: starEach [] X.env := by rfl) : PE X (.Call (.Name "len" p) [.Call (.Name "set" p2) [a] [] q] [] pos) (tLenSetT X.K ta) := by
  constructor
  intro pins s σ H Q I h
  refine Call_ (ld_blt I hg hm boot_len (callWith_builtin1 (args_cons ?_ rfl) rfl rfl))
  refine Call_ (ld_blt I hg2 hm2 boot_set (callWith_type1 (args_cons (thn (ha.run pins s σ H _ I h) fun v z ⟨x, H1, I1, r1, q1⟩ => args_nil ?_) na) na rfl))
  obtain ⟨l, xs, rfl, hq, hl, q1⟩ := q1
  cases r1
  obtain ⟨its, r, pl, _⟩ := I1.list hq
  have sa := Vals.strs r
  have hlen : its.toArray.size = xs.length := by rw [List.size_toArray, ← r.length, List.length_map]
  have hv : ∀ (i : Nat) (v : Value), its.toArray[i]? = some v → ∃ t, v = .str (xs.getD i Str.empty) t := fun i v e => SS.strs_at sa i v (by simpa using e)
  refine set_of (J := HasT X.prog X.w z.heap.objs.size xs) (I1.ok.hd hc) pl.isList (fun led _ => ⟨0, ?_, Nat.le_refl _, by simp⟩) (grows_texts (by omega) hl (Nat.ne_of_lt (Nat.lt_succ_self _)) hv) fun h' tk ⟨m, hS, hm', hd⟩ kp => ?_
  · exact SetOf_congr ((setObjOf_fresh (knd := strKind X.prog X.w) led).setOf (Heap.get?_push_size _ rfl) (by unfold scanBound; omega)) (fun _ => rfl) rfl
  · refine args_nil ?_
    rw [hlen, List.take_length] at hd
    rw [hlen] at hm'
    obtain ⟨o, es, ep, t, ho, ex, dt, _, _, _, hf, hn⟩ := hS
    have I2 : Inv X pins σ H1 { z with heap := h', toks := tk } := I1.kept fun b o e => kp b o (Heap.lt_size e) e
    exact call_len_set ho ex dt hf (by rw [hn]; omega) ⟨.int m, H1, I2.tok _, ⟨_, by rw [hn]⟩, q1 m (by omega) (by rw [← hd])⟩
end Sets
namespace Rd
open PySem PySem.Spec L2
theorem lenSetT {K : PySem.W.Frag} {ta : TE} {σ : St} {H : Hp} {Q : VK} (h : ta σ H fun x H1 => ∃ (l : Addr) (xs : List Str), x = .ref l ∧ SqL K H1 l (xs.map V.str) ∧ xs.length ≤ 4000 ∧ ∀ m : Nat, m ≤ xs.length → (m = xs.length ↔ xs.Nodup) → Q (.int m) H1) : Sets.tLenSetT K ta σ H Q := h
end Rd

set_option Elab.async false
set_option linter.all false
set_option maxRecDepth 100000
set_option maxHeartbeats 4000000
/-! sorted(set(xs)), xs a list of texts -/
namespace Sets
open PySem PySem.Spec PyProof.Rows L2
def tkey (e : Int × Value) : Str := match e.2 with | .str x _ => x | _ => Str.empty
/-- what a set of texts is made of: S its texts, at most n -/
structure TxBody (P : Program) (w : World) (S : Str → Bool) (n : Nat) (es : Array (Int × Value)) (t : SetTable) : Prop where
  good : ∀ e ∈ es.toList, ∃ x tk, e.2 = Value.str x tk ∧ e.1 = (strKind P w).hash x
  nd : (es.toList.map tkey).Nodup
  mem : ∀ k, S k = true ↔ k ∈ es.toList.map tkey
  most : es.size ≤ n
  few : n < scanBound
  fits : t.fits es.size = true
  ris : Ris t.place.toList
  led : w.params.followText "set-order" = true ∨ t.led = true
def TxSet (P : Program) (w : World) (h : Heap) (a : Addr) (S : Str → Bool) (n : Nat) : Prop := ∃ o es ep t, h.get? a = some o ∧ o.ExactSet ∧ o.data = .set es ep t ∧ TxBody P w S n es t
section
variable {P : Program} {w : World} {A : Around} {E : Value → Shared → Prop} {s : Shared} {a : Addr} {S : Str → Bool} {n : Nat} {es : Array (Int × Value)} {t : SetTable}
theorem TxSet.at {h h' : Heap} (R : TxSet P w h a S n) (k : ∀ o, h.get? a = some o → h'.get? a = some o) : TxSet P w h' a S n := by
  obtain ⟨o, es, ep, t, ho, r⟩ := R
  exact ⟨o, es, ep, t, k o ho, r⟩
theorem TxBody.elems (B : TxBody P w S n es t) : ElemsOf (strKind P w) es.toList := fun e he => by
  obtain ⟨x, tk, e2, e1⟩ := B.good e he
  rw [e2]
  exact ⟨⟨x, strKind_is P w x tk, e1⟩, rfl⟩
theorem TxBody.is (B : TxBody P w S n es t) {k : Str} : (∃ e ∈ es.toList, (strKind P w).is k e.2 = true) ↔ k ∈ es.toList.map tkey := by
  constructor
  · rintro ⟨e, he, q⟩
    obtain ⟨x, tk, e2, _⟩ := B.good e he
    rw [e2] at q
    have := (strKind P w).inj _ _ _ q (strKind_is P w x tk)
    exact List.mem_map.mpr ⟨e, he, by unfold tkey; rw [e2, this]⟩
  · intro q
    obtain ⟨e, he, z⟩ := List.mem_map.mp q
    obtain ⟨x, tk, e2, _⟩ := B.good e he
    have ex : x = k := by rw [← z]; unfold tkey; rw [e2]
    exact ⟨e, he, by rw [e2, ex]; exact strKind_is P w k tk⟩
theorem TxBody.perm (B : TxBody P w S n es t) {es' : Array (Int × Value)} {t' : SetTable} (p : es'.toList.Perm es.toList) (f : t'.fits es'.size = true) (r : Ris t'.place.toList) (l : t'.led = t.led) : TxBody P w S n es' t' := by
  have pk := p.map tkey
  have sz : es'.size = es.size := by rw [← Array.length_toList, p.length_eq, Array.length_toList]
  exact ⟨fun e he => B.good e (p.mem_iff.mp he), pk.nodup_iff.mpr B.nd, fun k => (B.mem k).trans pk.mem_iff.symm, by rw [sz]; exact B.most, B.few, f, r, B.led.imp id fun z => by rw [l]; exact z⟩
theorem TxBody.more (B : TxBody P w S n es t) {es' : Array (Int × Value)} {t' : SetTable} {k : Str} {tk : Tok} (hk : S k = false) (p : es'.toList.Perm (es.toList ++ [((strKind P w).hash k, Value.str k tk)])) (f : t'.fits es'.size = true) (r : Ris t'.place.toList) (l : t'.led = t.led) (hn : n + 1 < scanBound) :
    TxBody P w (fun j => S j || decide (j = k)) (n + 1) es' t' := by
  have pc := p.trans (List.perm_append_singleton _ _)
  have pk : (es'.toList.map tkey).Perm (k :: es.toList.map tkey) := pc.map tkey
  have sz : es'.size = es.size + 1 := by rw [← Array.length_toList, pc.length_eq, List.length_cons, Array.length_toList]
  refine ⟨fun e he => ?_, pk.nodup_iff.mpr (List.nodup_cons.mpr ⟨fun z => ?_, B.nd⟩), fun j => ?_, by have := B.most; omega, hn, f, r, B.led.imp id fun z => by rw [l]; exact z⟩
  · rcases List.mem_cons.mp (pc.mem_iff.mp he) with z | z
    · exact ⟨k, tk, by rw [z], by rw [z]⟩
    · exact B.good e z
  · rw [(B.mem k).mpr z] at hk; cases hk
  · rw [pk.mem_iff, List.mem_cons, ← B.mem j, Bool.or_eq_true, decide_eq_true_eq]
    exact Or.comm
theorem TxBody.same (B : TxBody P w S n es t) {k : Str} (hk : S k = true) (hn : n + 1 < scanBound) : TxBody P w (fun j => S j || decide (j = k)) (n + 1) es t :=
  ⟨B.good, B.nd, fun j => by rw [Bool.or_eq_true, decide_eq_true_eq, ← B.mem j]; exact ⟨fun z => z.elim id fun e => e ▸ hk, .inl⟩, Nat.le_succ_of_le B.most, hn, B.fits, B.ris, B.led⟩
theorem kept_at {h : Heap} {o : Obj} {es' : Array (Int × Value)} {ep : Nat} {t' : SetTable} (ho : h.get? a = some o) (hd : o.data = .set es ep t) : (h.update a (Obj.putSet es' t')).get? a = some { o with data := .set es' (ep + 1) t' } := L2.store_at ho hd
/-- one text more -/
theorem tx_add {k : Str} {tk : Tok} {Q : Bool → Shared → Prop} (R : TxSet P w s.heap a S n) (room : n + 1 < scanBound)
    (q : ∀ (b : Bool) h', Heap.SameBut a s.heap h' → TxSet P w h' a (fun j => S j || decide (j = k)) (n + 1) → Q b { s with heap := h' }) : wpAny (model P w) A (setAddHashed a (.str k tk) ((strKind P w).hash k)) Q E s := by
  obtain ⟨o, es, ep, t, ho, ex, hd, B⟩ := R
  have few : es.size < scanBound := Nat.lt_of_le_of_lt B.most B.few
  unfold setAddHashed setAddHashedIn
  refine wpAny_holding (wpAny_bind (wpAny_setState_of ho hd B.fits ?_)); dsimp only
  rw [byScan_of rfl few B.elems]; simp only [↓reduceIte]
  unfold setAddByScan
  refine wpAny_bind (wpAny_bind (wpAny_rule (wpAny_bind (wpAny_setScan_of (strKind_is P w k tk) ho hd B.fits B.elems ?_))))
  cases found : List.findIdx? (fun e => (strKind P w).is k e.2) es.toList with
  | some j =>
    obtain ⟨hj, pj, _⟩ := List.findIdx?_eq_some_iff_getElem.mp found
    have yes : S k = true := (B.mem k).mpr (B.is.mp ⟨es.toList[j], List.getElem_mem hj, pj⟩)
    exact wpAny_pure (wpAny_pure (q false s.heap (Heap.SameBut.refl a s.heap) ⟨o, es, ep, t, ho, ex, hd, B.same yes room⟩))
  | none =>
    have no : S k = false := by
      cases z : S k with
      | false => rfl
      | true =>
        obtain ⟨e, he, y⟩ := B.is.mpr ((B.mem k).mp z)
        have c := List.findIdx?_eq_none_iff.mp found e he
        rw [y] at c; cases c
    dsimp only
    have p1 := layNew_perm t es ((strKind P w).hash k) (.str k tk)
    have f1 := layNew_fits t es ((strKind P w).hash k) (.str k tk)
    have r1 := L2.layNew_ris t es ((strKind P w).hash k) (.str k tk) B.ris
    have l1 := L2.layNew_led t es ((strKind P w).hash k) (.str k tk)
    generalize layNew t es ((strKind P w).hash k) (.str k tk) = Z at p1 f1 r1 l1 ⊢
    obtain ⟨es1, t1, dmy, gave⟩ := Z
    dsimp only at p1 f1 r1 l1 ⊢
    rw [Array.toList_push] at p1
    have give : ∀ (b : Bool) {z : Shared} {Q' : Unit → Shared → Prop}, Q' () z → wpAny (model P w) A (match b with | true => rule "set.scan.the-table-gave-way" | false => pure ()) Q' E z := fun b z Q' y => by
      cases b
      · exact wpAny_pure y
      · exact wpAny_rule y
    refine wpAny_bind (give _ ?_)
    -- the store, and the laying anew
    have tail : ∀ t2 : SetTable, t2.fits es1.size = true → Ris t2.place.toList → t2.led = t.led → ∀ (g : Bool → Sem Unit), (∀ (b : Bool) (z : Shared) (Q' : Unit → Shared → Prop), Q' () z → wpAny (model P w) A (g b) Q' E z) → ∀ (W : Option Bool → Shared → Prop),
        (∀ h', Heap.SameBut a s.heap h' → TxSet P w h' a (fun j => S j || decide (j = k)) (n + 1) → W (some true) { s with heap := h' }) →
        wpAny (model P w) A (do
          storeSet a es1 t2
          if (!dmy && t2.tooFull) = true then do
            g (relayAll t2 es1 (SetTable.grown es1.size)).2.2; storeSet a (relayAll t2 es1 (SetTable.grown es1.size)).1 (relayAll t2 es1 (SetTable.grown es1.size)).2.1; pure (some true)
          else pure (some true)) W E s := by
      intro t2 f2 r2 l2 g hg W hW
      have B2 : TxBody P w (fun j => S j || decide (j = k)) (n + 1) es1 t2 := B.more no p1 f2 r2 l2 room
      have few2 : es1.size < scanBound := Nat.lt_of_le_of_lt B2.most room
      refine wpAny_bind (wpAny_storeSet_of ho hd ?_ (fits_of_scanBound few2))
      have o1 := kept_at (es' := es1) (t' := t2) ho hd
      have sb := Heap.SameBut.update s.heap a (Obj.putSet es1 t2)
      split
      · have p3 := relayAll_perm t2 es1 (SetTable.grown es1.size)
        have f3 := relayAll_fits t2 es1 (SetTable.grown es1.size)
        have r3 := L2.relayAll_ris t2 es1 (SetTable.grown es1.size)
        have l3 := L2.relayAll_led t2 es1 (SetTable.grown es1.size)
        generalize relayAll t2 es1 (SetTable.grown es1.size) = Y at p3 f3 r3 l3 ⊢
        obtain ⟨es3, t3, gave3⟩ := Y
        dsimp only at p3 f3 r3 l3 ⊢
        have B3 := B2.perm p3 f3 r3 l3
        refine wpAny_bind (hg _ _ _ (wpAny_bind (wpAny_storeSet_of o1 rfl ?_ (fits_of_scanBound (Nat.lt_of_le_of_lt B3.most room)))))
        exact wpAny_pure (hW _ (sb.trans (Heap.SameBut.update _ a _)) ⟨_, es3, _, t3, kept_at o1 rfl, ex, rfl, B3⟩)
      · exact wpAny_pure (hW _ sb ⟨_, es1, _, t2, o1, ex, rfl, B2⟩)
    have done : ∀ h', Heap.SameBut a s.heap h' → TxSet P w h' a (fun j => S j || decide (j = k)) (n + 1) → Q true { s with heap := h' } := fun h' sb r => q true h' sb r
    have gv : ∀ (b : Bool) (z : Shared) (Q' : Unit → Shared → Prop), Q' () z → wpAny (model P w) A (match b with | true => rule "set.scan.the-table-gave-way" | false => pure ()) Q' E z := fun b z Q' y => give b y
    split
    · rw [hashByValue_scannable 8 rfl]
      refine wpAny_bind (wpAny_pure ?_)
      refine tail _ ?_ ?_ ?_ _ (fun b z Q' y => by cases b <;> first | exact wpAny_pure y | exact wpAny_rule y) _ fun h' sb r => wpAny_pure (done h' sb r)
      · split
        · exact f1
        · exact SetTable.fits_plain_off f1
      · split <;> exact r1
      · split <;> exact l1
    · refine wpAny_bind (wpAny_pure ?_)
      simp only [↓reduceIte]
      exact tail _ f1 r1 l1 _ (fun b z Q' y => by cases b <;> first | exact wpAny_pure y | exact wpAny_rule y) _ fun h' sb r => wpAny_pure (done h' sb r)
end
end Sets

set_option Elab.async false
set_option linter.all false
set_option maxRecDepth 100000
set_option maxHeartbeats 4000000
/-! sorted(set(xs)), xs a list of texts: the rule -/
namespace Sets
open PySem PySem.Spec PyProof.Rows L2
section
variable {P : Program} {w : World} {A : Around} {E : Value → Shared → Prop} {s : Shared} {a : Addr} {S : Str → Bool} {n : Nat}
theorem strs_vals (es : List (Int × Value)) (h : ∀ e ∈ es, ∃ x tk, e.2 = Value.str x tk) : StrsAre (es.map (·.2)) (es.map tkey) := by
  induction es with
  | nil => exact .nil
  | cons e es ih =>
    obtain ⟨x, tk, q⟩ := h e List.mem_cons_self
    have k : tkey e = x := by unfold tkey; rw [q]
    show StrsAre (e.2 :: es.map (·.2)) (tkey e :: es.map tkey)
    rw [k, q]
    exact .cons x tk (ih fun e he => h e (List.mem_cons_of_mem _ he))
def vkey (v : Value) : Str := match v with | .str x _ => x | _ => Str.empty
theorem strs_of (l : List Value) (h : ∀ v ∈ l, ∃ x tk, v = Value.str x tk) : StrsAre l (l.map vkey) := by
  induction l with
  | nil => exact .nil
  | cons v l ih =>
    obtain ⟨x, tk, rfl⟩ := h v List.mem_cons_self
    exact .cons x tk (ih fun v hv => h v (List.mem_cons_of_mem _ hv))
/-- sorted(the set at a) -/
theorem tx_sorted {Q : Value → Shared → Prop} (R : TxSet P w s.heap a S n) (hh : A.handled = none) (h64 : n < 64)
    (q : ∀ z p (out : Array Value) (c : Nat) (ks : List Str), (∀ b o, s.heap.get? b = some o → z.heap.get? b = some o) → z.gens = s.gens → z.os = s.os → s.heap.objs.size ≤ p →
      z.heap.get? p = some (seqObj "list" out c) → StrsAre out.toList ks → sortedS ks = true → ks.Nodup → (∀ k, k ∈ ks ↔ S k = true) → ks.length ≤ n → Q (.ref p) z) : wpAny (model P w) A (call (.builtin "sorted") [.ref a]) Q E s := by
  obtain ⟨o, es, ep, t, ho, ex, hd, B⟩ := R
  have few : es.size < scanBound := Nat.lt_of_le_of_lt B.most B.few
  refine Calls.call_function_entry kind_sorted plain_sorted entry_sorted (args_sorted1 _) ?_
  unfold Builtin.«sorted»
  refine wpAny_bind (m := checkCount "sorted" 1 1 _) (wpAny_pure (wpAny_bind (collect_set (A := A.in1) hh ⟨o, ho, ex.1, hd⟩ B.fits few B.ris B.led fun z vs kp hz hg hos pm => ?_)))
  have lv : vs.length ≤ n := by rw [pm.length_eq, List.length_map, Array.length_toList]; exact B.most
  have hS : StrsAre vs (vs.map vkey) := strs_of vs fun v hv => by
    obtain ⟨e, he, y⟩ := List.mem_map.mp (pm.mem_iff.mp hv)
    obtain ⟨x, tk, h1, _⟩ := B.good e he
    exact ⟨x, tk, y ▸ h1⟩
  have pk : (vs.map vkey).Perm (es.toList.map tkey) := by
    have y := pm.map vkey
    rw [List.map_map] at y
    exact y
  refine wpAny_bind (wpAny_newList ?_ (by rw [sizeLine_eq]; omega))
  have oL : (z.heap.push (seqObj "list" vs.toArray 0)).get? z.heap.objs.size = some (seqObj "list" vs.toArray 0) := Heap.get?_push_size _ rfl
  refine wpAny_bind (wpAny_holding (wpAny_call_entry slot_list_sort ⟨_, oL, rfl⟩ entry_list_sort (list_sort_treeK strKind_oneLt oL hS.keysOf (fun v₁ v₂ rest e => keyKind_strs (by rw [← e]; exact hS)) (by omega) fun st' hp hs => ⟨_, rfl, ?_⟩) (args_list_sort _)))
  obtain ⟨ks, k1, k2, k3⟩ := sorted_out_str hS hp hs
  obtain ⟨c, hc⟩ := sortedHeap_at (vs := vs) (out := (arrOf st').map (·.2)) oL
  have pn := k2.trans pk
  refine wpAny_pure ⟨_, rfl, q _ z.heap.objs.size _ c ks (fun b u e => ?_) hg hos hz hc k1 k3 (pn.nodup_iff.mpr B.nd) (fun k => by rw [pn.mem_iff, ← B.mem k]) (by rw [pn.length_eq, List.length_map, Array.length_toList]; exact B.most)⟩
  have y := kp b u e
  have lt := Heap.lt_size y
  show (sortedHeap (z.heap.push (seqObj "list" vs.toArray 0)) z.heap.objs.size vs _).get? b = some u
  rw [sortedHeap_old (Nat.ne_of_lt lt) (by rw [size_push']; exact Nat.lt_succ_of_lt lt)]
  exact Heap.get?_push_of_some _ y
end
/-- the set at S holds the first i texts -/
def HasW (P : Program) (w : World) (a : Addr) (xs : List Str) (i : Nat) (h : Heap) : Prop := TxSet P w h a (fun k => (xs.take i).any (· == k)) i
theorem TxSet.congr {P : Program} {w : World} {h : Heap} {a : Addr} {S S' : Str → Bool} {n : Nat} (R : TxSet P w h a S n) (e : ∀ k, S k = S' k) : TxSet P w h a S' n := by
  have : S = S' := funext e
  subst this
  exact R
theorem grows_tx {P : Program} {w : World} {B : Around} {a I : Addr} {xs : List Str} {n : Nat} {Pv : Nat → Value → Prop} (hn : n ≤ xs.length) (hb : xs.length ≤ 4000) (hSI : a ≠ I) (hv : ∀ i v, Pv i v → ∃ t, v = .str (xs.getD i Str.empty) t) : Grows P w B a n Pv [I] (HasW P w a xs) where
  keep := fun {i h h'} R k => R.at fun o e => k a o (fun z => hSI (List.mem_singleton.mp z)) e
  add := fun {i v s E Q} hi pv R k => by
    obtain ⟨t, rfl⟩ := hv i v pv
    have hx : xs[i]? = some (xs.getD i Str.empty) := by
      have : i < xs.length := by omega
      simp [List.getD, this]
    generalize xs.getD i Str.empty = x at hx ⊢
    unfold setAdd
    refine wpAny_holding (wpAny_bind ((strKind P w).pyHash (k := x) (strKind_is _ _ _ _) ?_))
    refine tx_add (s := { s with toks := s.toks + 1 }) R (by unfold scanBound; omega) fun b h' sb R' => ?_
    exact k b h' _ (Nat.le_succ _) sb (R'.congr (any_next hx))
theorem tx_fresh {P : Program} {w : World} {h : Heap} {led : Bool} (hl : w.params.followText "set-order" = true ∨ led = true) : TxSet P w (h.push (newSet0 led)) h.objs.size (fun _ => false) 0 :=
  ⟨_, #[], 0, _, Heap.get?_push_size _ rfl, ⟨rfl, rfl, rfl⟩, rfl, fun e he => by simp at he, List.nodup_nil, fun k => by simp, Nat.le_refl _, by unfold scanBound; omega, rfl, List.Pairwise.nil, hl⟩
def tSortSetT (K : PySem.W.Frag) (ta : TE) : TE := fun σ H Q => ta σ H fun x H1 => ∃ (l : Addr) (xs : List Str), x = .ref l ∧ SqL K H1 l (xs.map V.str) ∧ xs.length < 64 ∧ ∀ (ks : List Str) p, sortedS ks = true → ks.Nodup → (∀ k, k ∈ ks ↔ k ∈ xs) → H1 p = none → Q (.ref p) (upd H1 p (.lst (ks.map V.str)))
theorem pe_sortSetT {X : Cx} {a : Expr} {ta : TE} {p p2 q pos : Pos} (hg : Gl X "sorted") (hm : X.mg "sorted" = none) (hg2 : Gl X "set") (hm2 : X.mg "set" = none) (ha : PE X a ta) (hc : X.calm = true := by rfl)
    (na : starEach [a] X.env = (false, eval a X.env) :: starEach [] X.env := by rfl) : PE X (.Call (.Name "sorted" p) [.Call (.Name "set" p2) [a] [] q] [] pos) (tSortSetT X.K ta) := by
  constructor
  intro pins s σ H Q I h
  refine Call_ (ld_blt I hg hm boot_sorted (callWith_builtin1 (args_cons ?_ rfl) rfl rfl))
  refine Call_ (ld_blt I hg2 hm2 boot_set (callWith_type1 (args_cons (thn (ha.run pins s σ H _ I h) fun v z ⟨x, H1, I1, r1, q1⟩ => args_nil ?_) na) na rfl))
  obtain ⟨l, xs, rfl, hq, hl, q1⟩ := q1
  cases r1
  obtain ⟨its, r, pl, _⟩ := I1.list hq
  have sa := Vals.strs r
  have hlen : its.toArray.size = xs.length := by rw [List.size_toArray, ← r.length, List.length_map]
  have hv : ∀ (i : Nat) (v : Value), its.toArray[i]? = some v → ∃ t, v = .str (xs.getD i Str.empty) t := fun i v e => SS.strs_at sa i v (by simpa using e)
  refine set_of (J := HasW X.prog X.w z.heap.objs.size xs) (I1.ok.hd hc) pl.isList (fun led hled => (tx_fresh hled).congr fun k => rfl) (grows_tx (by omega) (by omega) (Nat.ne_of_lt (Nat.lt_succ_self _)) hv) fun h' tk R kp => ?_
  refine args_nil ?_
  have R1 : TxSet X.prog X.w h' z.heap.objs.size (fun k => (xs.take its.toArray.size).any (· == k)) its.toArray.size := R
  rw [hlen, List.take_length] at R1
  have I2 : Inv X pins σ H1 { z with heap := h', toks := tk } := I1.kept fun b o e => kp b o (Heap.lt_size e) e
  refine tx_sorted (s := { z with heap := h', toks := tk }) R1 (I1.ok.hd hc) hl fun z2 p2 out c ks k1 g1 o1 hp2 hobj hks srt nd mem len => ?_
  have free : H1 p2 = none := I2.hok.fresh hp2
  have J : Inv X pins σ (upd H1 p2 (.lst (ks.map V.str))) { z with heap := z2.heap, gens := z2.gens, drawn := z2.drawn, toks := z2.toks } :=
    Inv.call (s := { z with heap := h', toks := tk }) I2 (ch := []) (Un.laid k1 hp2 free) (I2.hok.laid k1 hp2 ⟨by rw [List.length_map, sizeLine_eq]; omega, out.toList, c, vals_of_strs hks, hobj⟩) (by rw [g1]; exact I2.bare) (fun _ y => nomatch y)
  have ez : z2 = { z with heap := z2.heap, gens := z2.gens, drawn := z2.drawn, toks := z2.toks } := by
    obtain ⟨_, _, _, _, _⟩ := z2
    cases o1
    rfl
  rw [ez]
  refine ⟨.ref p2, _, J, rfl, q1 ks p2 srt nd (fun k => (mem k).trans ?_) free⟩
  rw [List.any_eq_true]
  constructor
  · rintro ⟨x, hx, e⟩
    rw [← eq_of_beq e]; exact hx
  · intro hx
    exact ⟨k, hx, beq_self_eq_true k⟩
end Sets
namespace Rd
open PySem PySem.Spec L2
theorem sortSetT {K : PySem.W.Frag} {ta : TE} {σ : St} {H : Hp} {Q : VK} (h : ta σ H fun x H1 => ∃ (l : Addr) (xs : List Str), x = .ref l ∧ SqL K H1 l (xs.map V.str) ∧ xs.length < 64 ∧ ∀ (ks : List Str) p, PyProof.Rows.sortedS ks = true → ks.Nodup → (∀ k, k ∈ ks ↔ k ∈ xs) → H1 p = none → Q (.ref p) (upd H1 p (.lst (ks.map V.str)))) : Sets.tSortSetT K ta σ H Q := h
end Rd

set_option Elab.async false
set_option linter.all false
set_option maxRecDepth 100000
set_option maxHeartbeats 4000000
/-! len(o), o of an own class with __len__ -/
namespace Fw
open PySem PySem.Spec PyProof.Rows L2
section
variable {X : Cx} {pins : List (Addr × Obj)} {σ : L2.St} {H : Hp} {s : Shared} {n : Nat} {a f C : Addr} {fd : FuncData} {sp : Sp}
/-- a method without arguments, called by a built-in -/
theorem own_run {A1 : Around} {Q : VK} {ps : List Str} (sb : Sub X n A1) (F : FnOk X.prog X.w X.K X.mg X.base CX0 n f fd ps sp) (b : Binds X.K fd ps []) (I : Inv X pins σ H s) (h : sp [.ref a] H Q E0) :
    wpAny (model X.prog X.w) A1 (call (.ref f) [.ref a]) (EP X pins σ Q) X.xe s := by
  have e := I.env0
  have e1 : Env0 X.prog X.w X.K X.mg X.base A1 X.stack s H := ⟨by rw [sb.fr]; exact e.frames, e.mod, e.bs, e.bsz, e.funs, e.frf, e.hok, e.bare⟩
  have hl := F.len _ _ _ _ h
  have bd := b s [.ref a] I.kIn (by rw [List.append_nil]; exact hl)
  rw [List.append_nil] at bd
  refine wpAny_call (codeAny_mono (F.run A1 X.stack s H ⟨[.ref a], []⟩ [.ref a] [.ref a] Q E0 sb.room e1 bd (.cons rfl .nil) h) fun r z hq => ?_)
  match r, hq with
  | .error e, hq => exact pass0 pins σ H s e z I hq
  | .ok (.ret u), hq => exact I.after hq
  | .ok .next, hq => exact hq.elim
  | .ok .brk, hq => exact hq.elim
  | .ok .cont, hq => exact hq.elim
/-- len(o) -/
def rLenO (K : PySem.W.Frag) (C : Addr) (sp : Sp) : List V → Hp → VK → Prop := fun xs H Q => ∃ (a dx : Addr) (fs : List (Str × V)), xs = [.ref a] ∧ H a = some (.ins C dx fs) ∧ sp [.ref a] H (fun v H' => ∃ i : Nat, v = .int i ∧ i < 1000000 ∧ Q (.int i) H') E0
theorem call_lenO {ps : List Str} (hs : PySem.W.findIn X.K (.ref C) "__len__" = some (some (.ref f))) (hf : PySem.W.isFn X.K (.ref f) = true) (F : FnOk X.prog X.w X.K X.mg X.base CX0 n f fd ps sp) (b : Binds X.K fd ps []) (hr : Room (n + 1) X.A) : CallR X (.builtin "len") (rLenO X.K C sp) := by
  intro pins s σ H xs us Q I r h
  obtain ⟨a, dx, fs, rfl, ha, h⟩ := h
  rw [Vals.ref1 r]
  obtain ⟨mA, J, _⟩ := ins_get I.hok ha
  obtain ⟨od, J, _⟩ := J.look
  obtain ⟨m0, hF⟩ := I.fr
  have sb : Sub X n X.A.in1 := ⟨hr.in1, rfl⟩
  refine Calls.call_function_entry kind_len plain_len entry_len (args_len1 _) ?_
  unfold Builtin.«len»
  refine wpAny_bind (m := oneArg "len" _) (wpAny_pure ?_)
  refine wpAny_bind (m := callSpecial? (.ref a) (PySem.Str.ofString "__len__")) ?_
  simp only [callSpecial?]
  refine wpAny_bind (wpAny_bind (J.type.here ((PySem.W.looks_findIn I.kIn hs).here ?_)))
  refine wpAny_holding (wpAny_bind ((PySem.W.bind_fn I.kIn _ (beq_iff_eq.mp hf)).here ?_))
  refine wpAny_bind (wpAny_mono (own_run sb F b I h) (fun u z hz => ?_) fun _ _ y => y)
  obtain ⟨v, H', I', rv, i, rfl, hi, q⟩ := hz
  obtain ⟨tk, rfl⟩ := rv
  refine wpAny_pure ?_
  refine wpAny_bind (wpAny_holding (wpAny_pure ?_))
  refine wpAny_bind (wpAny_letGo ?_)
  show wpAny _ _ (if ((i : Nat) : Int) < 0 then _ else _) _ _ _
  rw [if_neg (by omega)]
  show wpAny _ _ (if ((i : Nat) : Int) ≥ 2 ^ 63 then _ else _) _ _ _
  rw [if_neg (by omega)]
  exact wpAny_bind (wpAny_mkInt (wpAny_pure ⟨_, rfl, ⟨.int i, H', I'.tok _, ⟨_, rfl⟩, q⟩⟩))
end
end Fw

set_option Elab.async false
set_option linter.all false
set_option maxRecDepth 100000
set_option maxHeartbeats 4000000
/-! iter(tuple); for x in o, o of an own class whose __iter__ gives such an iterator -/
namespace Fw
open PySem PySem.Spec PyProof.Rows L2
/-- at it an iterator over the tuple at l, not yet asked -/
def TitO (l it : Addr) : HO := .ext fun h => h.IsTupleIter it l 0
theorem titO_ok {P : Program} {w : World} {H : Hp} {h : Heap} {l it : Addr} (e : h.IsTupleIter it l 0) : ObjOk P w H h it (TitO l it) := by
  obtain ⟨o, e1, e2, e3⟩ := e
  exact ⟨⟨o, e1, e2, e3⟩, ⟨o, e1⟩, fun h1 h2 ⟨u, a, b, c⟩ k => ⟨u, k u a, b, c⟩⟩
def rIterT (K : PySem.W.Frag) (n : Nat) : List V → Hp → VK → Prop := fun xs H Q => ∃ (l : Addr) (zs : List V), xs = [.ref l] ∧ SqT K H l zs ∧ ∀ it, H it = none → n ≤ it → Q (.ref it) (upd H it (TitO l it))
section
variable {X : Cx}
theorem call_iterT : CallR X (.builtin "iter") (rIterT X.K X.s_0.heap.objs.size) := by
  intro pins s σ H xs us Q I r h
  obtain ⟨l, zs, rfl, hq, q⟩ := h
  rw [Vals.ref1 r]
  obtain ⟨its, rv, pl, hz⟩ := I.tuple hq
  refine Calls.call_function_entry (by decide +kernel) (by decide +kernel) PySem.W.kdk_entry_iter (PySem.W.kdk_args_iter _) ?_
  unfold Builtin.«iter»
  refine wpAny_bind (m := someArgs "iter" 1 2 _) (wpAny_of_eq (a := [Value.ref l]) (by first | rfl | kernel_rfl!) ?_)
  refine wpAny_bind (m := pyIter (.ref l)) (wpAny_pyIter_tuple (show s.heap.IsTuple l its.toArray from pl) ?_)
  have new : (s.heap.push { cls := .type "tuple_iterator", data := .fields #[.ref l, .int 0 0] }).IsTupleIter s.heap.objs.size l 0 := ⟨_, Heap.get?_push_size _ rfl, rfl, rfl⟩
  exact wpAny_pure ⟨_, rfl, .ref s.heap.objs.size, _, I.laid (t' := s.toks) (fun b u e => Heap.get?_push_of_some _ e) (Nat.le_refl _) (titO_ok new), rfl, q _ (I.hok.fresh (Nat.le_refl _)) I.sz⟩
variable {n : Nat} {f C : Addr} {fd : FuncData} {sp : Sp}
theorem own_runE {pins : List (Addr × Obj)} {σ : L2.St} {H : Hp} {s : Shared} {a : Addr} {A1 : Around} {Q : VK} {ps : List Str} (sb : Sub X n A1) (F : FnOk X.prog X.w X.K X.mg X.base CX0 n f fd ps sp) (b : Binds X.K fd ps []) (I : Inv X pins σ H s) (h : sp [.ref a] H Q E0) :
    wpAny (model X.prog X.w) A1 (call (.ref f) [.ref a]) (CE X.stack X.prog X.w H s Q) X.xe s := by
  have e := I.env0
  have e1 : Env0 X.prog X.w X.K X.mg X.base A1 X.stack s H := ⟨by rw [sb.fr]; exact e.frames, e.mod, e.bs, e.bsz, e.funs, e.frf, e.hok, e.bare⟩
  have hl := F.len _ _ _ _ h
  have bd := b s [.ref a] I.kIn (by rw [List.append_nil]; exact hl)
  rw [List.append_nil] at bd
  refine wpAny_call (codeAny_mono (F.run A1 X.stack s H ⟨[.ref a], []⟩ [.ref a] [.ref a] Q E0 sb.room e1 bd (.cons rfl .nil) h) fun r z hq => ?_)
  match r, hq with
  | .error e, hq => exact pass0 pins σ H s e z I hq
  | .ok (.ret u), hq => exact hq
  | .ok .next, hq => exact hq.elim
  | .ok .brk, hq => exact hq.elim
  | .ok .cont, hq => exact hq.elim
end
end Fw

set_option Elab.async false
set_option linter.all false
set_option maxRecDepth 100000
set_option maxHeartbeats 4000000
/-! a def's contract that may speak of the state at its start; for x in o by an own __iter__ -/
namespace Fw
open PySem PySem.Spec PyProof.Rows L2
abbrev SpY := Shared → List V → Hp → VK → Prop
structure FnY (P : Program) (w : World) (K : PySem.W.Frag) (mg : Str → Option Value) (base : Heap) (k : Nat) (f : Addr) (fd : FuncData) (ps : List Str) (sp : SpY) : Prop where
  len : ∀ s vs H Q, sp s vs H Q → vs.length = ps.length
  run : ∀ (A : Around) (outer : List Env) (s : Shared) (H : Hp) (args : Args) (us : List Value) (vs : List V) (Q : VK), Room k A → Env0 P w K mg base A outer s H → BindsTo s fd args (ps.zip us) → Vals vs us → sp s vs H Q →
    codeAny (model P w) A (.call (.ref f) args) (CR CX0 outer P w H s Q E0) s
theorem Fun.okY {P : Program} {w : World} {K : PySem.W.Frag} {mg : Str → Option Value} {base : Heap} {x qual : Str} {st : Stmt} {f : Addr} {fd : FuncData} {N ps : List Str} {k : Nat} {sp : SpY} (F : Fun K x qual st f fd) (S : FnScope N ps (defScope st)) (len : ∀ s vs H Q, sp s vs H Q → vs.length = ps.length)
    (hb : ∀ (cdv : Value) (A : Around) (outer : List Env) (s : Shared) (H : Hp) (vs : List V) (Q : VK), Room k (A.deeper (envOfC qual (defScope st) s.heap.objs.size f cdv)) → sp s vs H Q →
      ∃ t, PSs (cxOf CX0 P w K mg base N qual (defScope st) f cdv A outer s H E0).nox (defBody st) t ∧ t { nx := fun _ H' => Q .non H', rt := Q } (start N vs) H) : FnY P w K mg base (k + 1) f fd ps sp := by
  obtain ⟨_, _, _, _, _, _, cdv, _, _, rfl, lk, hcd⟩ := F.ex
  constructor
  · exact len
  intro A outer s H args us vs Q hr e0 bnd r h
  have In1 : K.In s.heap := e0.mod.kin.keeps fun b o e => (e0.bs b o e).1
  have kinds : ∀ y ∈ ps.zip us, (defScope st).names.lookup y.1 = some .local ∨ ((defScope st).names.lookup y.1 = some .cell ∧ ((cellsFrom (s.heap.objs.size + 1) (defScope st).names []).lookup y.1).isSome = true) := by
    rintro ⟨n, v⟩ hy
    exact (S.par n (List.of_mem_zip hy).1).imp id fun q => ⟨q, PySem.W.cellsFrom_some _ _ _ (.inl q)⟩
  refine codeAny_call_function hr.depth (In1 _ _ lk) rfl S.co S.gen rfl (PySem.W.codeRec_of In1 hcd) (bnd _ _ _ _ (wpAny_newFunctionEnv_cells S.kind kinds fun env he s1 y => ?_))
  subst he
  obtain ⟨t, ht, q⟩ := hb cdv A outer s H vs Q (hr.deeper _) h
  have nolim : s.heap.NoLimit := e0.mod.nolimit.keeps fun b o e => (e0.bs b o e).1
  have J : Inv (cxOf CX0 P w K mg base N qual (defScope st) f cdv A outer s H E0) [] (start N vs) H s1 := inv_start S hr.hd e0 (len _ _ _ _ h) r y
  have out : ∀ {σ : L2.St} {H' : Hp} {v : V} {u : Value} {z : Shared}, Inv (cxOf CX0 P w K mg base N qual (defScope st) f cdv A outer s H E0) [] σ H' z → RelV v u → Q v H' → CE outer P w H s Q u z := fun I rv q => ⟨_, _, I.os, I.bare, I.base, I.hok, rv, q⟩
  refine ⟨nolim.keeps y.toInCall.keep, codeAny_func (wpAny_mono (ht.nox.run [] s1 (start N vs) H _ J q) (fun fl z hz => ?_) fun e z hz => hz)⟩
  match fl, hz with
  | .ret u, ⟨_, _, _, I, rv, q⟩ => exact out I rv q
  | .next, ⟨_, _, I, q⟩ => exact out (v := V.non) (u := Value.none) I rfl q
  | .brk, ⟨_, _, _, q⟩ => exact q.elim
  | .cont, ⟨_, _, _, q⟩ => exact q.elim
section
variable {X : Cx} {n : Nat} {f C : Addr} {fd : FuncData}
/-- what such an __iter__ gives: a new iterator over the tuple at l -/
def spIterT (L : Hp → Addr → Addr → Prop) : SpY := fun s vs H Q => ∃ a l, vs = [.ref a] ∧ L H a l ∧ ∀ it, H it = none → s.heap.objs.size ≤ it → Q (.ref it) (upd H it (TitO l it))
/-- for x in o -/
def iOwn (C : Addr) (L : Hp → Addr → Addr → Prop) (K : PySem.W.Frag) (te : TE) : TI := fun σ H R => te σ H fun x H1 => ∃ (a dx : Addr) (fs : List (Str × V)) (l : Addr), x = .ref a ∧ H1 a = some (.ins C dx fs) ∧ L H1 a l ∧ R (Itt K l) H1
theorem pi_own {L : Hp → Addr → Addr → Prop} {tg o : Expr} {te : TE} {ps : List Str} (he : PE X o te) (hs : PySem.W.findIn X.K (.ref C) "__iter__" = some (some (.ref f))) (hf : PySem.W.isFn X.K (.ref f) = true) (F : FnY X.prog X.w X.K X.mg X.base n f fd ps (spIterT L)) (b : Binds X.K fd ps []) (hr : Room n X.A) :
    PI X tg o (iOwn C L X.K te) := by
  refine ⟨fun pins s σ H R I h => ?_⟩
  refine thn (he.run pins s σ H _ I h) fun v s1 ⟨x, H1, I1, r1, a, dx, fs, l, ex, ha, hL, q⟩ => ?_
  subst ex
  cases r1
  obtain ⟨mA, J, _⟩ := ins_get I1.hok ha
  obtain ⟨od, J, _⟩ := J.look
  obtain ⟨m0, hF⟩ := I1.fr
  refine PySem.W.owit_iter hF I1.ok.mod.kin J hs hf ?_
  have e := I1.env0
  let QQ : VK := fun v H2 => ∃ it, v = .ref it ∧ H1 it = none ∧ s1.heap.objs.size ≤ it ∧ H2 = upd H1 it (TitO l it)
  have hsp : spIterT L s1 [.ref a] H1 QQ := ⟨a, l, rfl, hL, fun it hn hy => ⟨it, rfl, hn, hy, rfl⟩⟩
  have hl := F.len _ _ _ _ hsp
  have bd := b s1 [.ref a] I1.kIn (by rw [List.append_nil]; exact hl)
  rw [List.append_nil] at bd
  refine wpAny_call (codeAny_mono (F.run X.A X.stack s1 H1 ⟨[.ref a], []⟩ [.ref a] [.ref a] QQ hr e bd (.cons rfl .nil) hsp) fun r z hq => ?_)
  match r, hq with
  | .error e, hq => exact pass0 pins σ H1 s1 e z I1 hq
  | .ok .next, hq => exact hq.elim
  | .ok .brk, hq => exact hq.elim
  | .ok .cont, hq => exact hq.elim
  | .ok (.ret u), hq =>
    obtain ⟨v2, H2, I2, rv, it, rfl, hn, hy, rfl⟩ := I1.after hq
    cases rv
    have hit : z.heap.IsTupleIter it l 0 := (show ObjOk X.prog X.w _ z.heap it (TitO l it) from I2.hok it _ upd_same).1
    obtain ⟨oi, g1, g2, _⟩ := id hit
    have I3 := ItX.inv_drop I2 (show (upd H1 it (TitO l it)) it = some (.ext _) from upd_same)
    rw [ItX.dropH_upd hn] at I3
    refine wpAny_specialOf (T := "tuple_iterator") ⟨oi, g1, g2⟩ PySem.F.slot_tuple_iterator_next.lookup ?_
    exact ⟨it, [it], _, Itt X.K l, _, rfl, I3, turn_tuple l it, hit, fun b hb => by rw [List.mem_singleton.mp hb]; exact I1.fpOk hy hn, q⟩
end
end Fw

set_option Elab.async false
set_option linter.all false
set_option maxRecDepth 100000
set_option maxHeartbeats 4000000
/-! several clauses 'except C as n'; calls of classes and methods in a try -/
namespace Fw
open PySem PySem.Spec PyProof.Rows L2
abbrev Cl := Value × (Addr → Value → Option Addr → TS)
/-- what the clauses wish of an error of the body -/
def wAsN (K : PySem.W.Frag) (i : Nat) (Wout : WX) (D : Ends) : List Cl → WX
  | [] => Wout
  | q :: r => wAs K q.1 i q.2 (wAsN K i Wout D r) D
inductive ClsOk (X : Cx) (n : Str) : List ExceptHandler → List Cl → Prop
  | nil : ClsOk X n [] []
  | cons {x : Str} {c : Value} {ts : Addr → Value → Option Addr → TS} {b : Stmt} {bs : List Stmt} {p p' : Pos} {hds : List ExceptHandler} {l : List Cl} (hc : Names X x c)
      (k : ∀ (a : Addr) (oe : Obj) (cls : Value) (d : Option Addr) (pn : List (Addr × Obj)), Zc cls d oe → (∃ vs, oe.data = .fields vs) → PSs (X.suite a ((a, oe) :: pn)) (b :: bs) (ts a cls d)) (r : ClsOk X n hds l) :
      ClsOk X n (.ExceptHandler (some (.Name x p)) (some n) (b :: bs) p' :: hds) ((c, ts) :: l)
section
variable {X : Cx} {n : Str} {i : Nat} {body : List Stmt} {h₀ : ExceptHandler} {hds : List ExceptHandler} {l : List Cl} {pos : Pos} {tb : WX → TS} {Wout : WX}
theorem ps_try_asN (hs : X.stack = X.env :: X.outer) (hf : X.env.frame = some X.env.locals) (hN : X.N.Nodup) (hi : X.N[i]? = some n) (hln : X.env.kindOf n = some .local) (tk : Takes X Wout)
    (hb : ∀ (W : WX) (pn : List (Addr × Obj)) (xe : Value → Shared → Prop), Takes (X.tr pn xe) W → PassesOwn (model X.prog X.w) X.A X.env xe → PSs (X.tr pn xe) body (tb W)) (hh : ClsOk X n (h₀ :: hds) l) :
    PS X (.Try body (h₀ :: hds) [] [] pos) (fun D σ H => tb (wAsN X.K i Wout D l) D σ H) := by
  constructor
  intro pins s σ H D I h
  have q_ok := I.ok
  have q_fr : X.A.frames = some (X.env :: X.outer) := hs ▸ q_ok.frames
  refine wpAny_Try_except (wpAny_mono ((hb (wAsN X.K i Wout D l) (X.pn ++ pins) (fun e z => wpAny (model X.prog X.w) X.A (noteFrame e X.env) (fun _ z => wpAny (model X.prog X.w) X.A (setFlight e none)
    (fun _ z => wpAny (model X.prog X.w) X.A (handleBy e X.env (h₀ :: hds)) (SP X pins D) X.xe z) X.xe z) X.xe z) (fun u z xx => ?_) PassesOwn.looking).run [] s σ H D (I.toTry _) h) (fun f z hsp => ?_) fun e z he => he)
  · obtain ⟨a, B, sI, pins', σ', H', cls, d, rfl, J', nb, up, sky, na, os, ag, wish⟩ := xx
    have J : Inv X pins σ' H' sI := J'.ofTry q_ok
    rw [hs] at sky
    refine Sky.land (M := model X.prog X.w) Zc.steady q_fr hf sky fun h3 fl3 up3 => ?_
    have J3 : Inv X pins σ' H' { z with heap := h3 } := J.landed nb fl3.1 (up.trans up3) os ag
    obtain ⟨o3, v3, at3, zc3, da3⟩ := fl3.there
    have away : a ∉ frs (X.env :: X.outer) := fun m => by
      obtain ⟨_, o', e', no⟩ := fl3.2.2.1.mem m
      rw [at3] at e'; cases e'
      exact no _ da3
    have nL : a ≠ X.env.locals := fun e => away (List.mem_filterMap.mpr ⟨X.env, List.mem_cons.mpr (.inl rfl), by rw [hf, e]⟩)
    have nF : a ∉ X.fs := fun m => let ⟨e, he, q⟩ := List.mem_filterMap.mp m; away (List.mem_filterMap.mpr ⟨e, List.mem_cons.mpr (.inr he), q⟩)
    have S3 := J3.suite at3 da3 na nL nF
    have all : ∀ {hds' : List ExceptHandler} {l' : List Cl}, ClsOk X n hds' l' → wAsN X.K i Wout D l' cls d σ' H' → wpAny (model X.prog X.w) X.A (handleBy (.ref a) X.env hds') (SP X pins D) X.xe { z with heap := h3 } := by
      intro hds' l' ok
      induction ok with
      | nil =>
        intro wish
        obtain ⟨_, _, _, oe, vs, T, oT, ts', at_, _, da, f1, _⟩ := id fl3
        have go : wpAny (model X.prog X.w) X.A (setFlight (.ref a) X.env.frame) (fun _ z => wpAny (model X.prog X.w) X.A (throw (.ref a) : Sem Flow) (SP X pins D) X.xe z) X.xe { z with heap := h3 } := by
          rw [hf]
          exact HandSPX.setFlight_upZ fl3 fun h4 fl4 up4 => wpAny_throw (tk _ _ ⟨a, B, sI, pins, σ', H', cls, d, rfl, J, nb, (up.trans up3).trans up4, .inr (.inr (hs ▸ fl4)), na, os, ag, wish⟩)
        refine wpAny_handleBy_nil ?_
        unfold PySem.passOn
        refine wpAny_bind (wpAny_field at_ da f1 ?_)
        rw [if_neg (by simp)]
        first | exact wpAny_bind go | exact wpAny_bind (wpAny_pure (wpAny_bind go))
      | @cons x c ts b bs p p' hds2 l2 hc k r ih =>
        rintro ⟨yes, te, w1, w2⟩
        have LM := PySem.W.exm_one (M := model X.prog X.w) J3.kIn (fun A Q E s k q => wpAny_typeOf_ref (k _ _ at3) (by rw [zc3.1]; exact q)) te
        have named : ∀ {Q : Value → Shared → Prop} {E : Value → Shared → Prop}, Q c { z with heap := h3 } → wpAny (model X.prog X.w) (X.A.mark (some (.ref a))) (eval (.Name x p) X.env) Q E { z with heap := h3 } := by
          intro Q E q
          rcases hc with ⟨g, db, m | ⟨m, v, nn⟩⟩
          · exact ld_glob (X := X.suite a ((a, o3) :: (X.pn ++ pins))) S3 g m q db
          · exact ld_blt (X := X.suite a ((a, o3) :: (X.pn ++ pins))) S3 g m v q nn db
        refine wpAny_handleBy_cons (codeAny_handlers_test (named (LM.here ?_))) (fun e => by cases e)
        match yes, w1, w2 with
        | false, _, w2 => exact ih (w2 rfl)
        | true, w1, _ =>
          refine codeAny_handlers_suite_as (HandSPX.lands_againZ fl3 fun h4 fl4 up4 => ?_)
          have J4 : Inv X pins σ' H' { z with heap := h4 } := J.landed nb fl4.1 ((up.trans up3).trans up4) os ag
          obtain ⟨o4, v4, at4, zc4, da4⟩ := fl4.there
          refine store_ok (X := X.suite a ((a, o4) :: (X.pn ++ pins))) (v := .ref a) (J4.suite at4 da4 na nL nF) hN hi (.inl hln) rfl (fun s5 S5 => ?_) (.inr hln)
          refine wpAny_mono ((k a o4 cls d (X.pn ++ pins) zc4 ⟨_, da4⟩).run [] s5 _ H' _ S5 (w1 rfl a na)) (fun f s6 hsp => ?_) fun _ _ e => e.elim
          have close : ∀ {σ6 : L2.St} {H6 : Hp} {Q : Shared → Prop}, Inv (X.suite a ((a, o4) :: (X.pn ++ pins))) [] σ6 H6 s6 → (∀ s7, Inv X pins (σ6.set i none) H6 s7 → Q s7) →
              wpAny (model X.prog X.w) X.A (do bindName X.env n .none; unbindBehindTheSuite X.env n p') (fun _ s7 => Q s7) X.xe s6 := fun S6 q => gone_ok (S6.unsuite q_ok) hN hi hln q
          match f, hsp with
          | .next, ⟨_, _, S6, q6⟩ => exact close S6 fun _ J7 => ⟨_, _, J7, q6⟩
          | .brk, ⟨_, _, S6, q6⟩ => exact close S6 fun _ J7 => ⟨_, _, J7, q6⟩
          | .cont, ⟨_, _, S6, q6⟩ => exact close S6 fun _ J7 => ⟨_, _, J7, q6⟩
          | .ret u, ⟨_, _, _, S6, r6, q6⟩ => exact close S6 fun _ J7 => ⟨_, _, _, J7, r6, q6⟩
    exact all hh wish
  · match f, hsp with
    | .next, ⟨_, _, J', q⟩ => exact wpAny_execs_nil ⟨_, _, J'.ofTry q_ok, q⟩
    | .brk, ⟨_, _, J', q⟩ => exact ⟨_, _, J'.ofTry q_ok, q⟩
    | .cont, ⟨_, _, J', q⟩ => exact ⟨_, _, J'.ofTry q_ok, q⟩
    | .ret u, ⟨_, _, _, J', r, q⟩ => exact ⟨_, _, _, J'.ofTry q_ok, r, q⟩
end
end Fw

set_option Elab.async false
set_option linter.all false
set_option maxRecDepth 100000
set_option maxHeartbeats 4000000
/-! C(..) and o.m(..) in a try's body -/
namespace Fw
open PySem PySem.Spec PyProof.Rows L2
section
variable {X : Cx} {CX : CXT} {k : Nat} {f C : Addr} {fd : FuncData} {ps : List Str} {sp : Sp} {E : L2.St → XK} {x m : Str} {p pos apos : Pos} {e o : Expr} {es : List Expr} {ta : TE} {t : TA}
theorem run_makeS {pins : List (Addr × Obj)} {σ : L2.St} {H : Hp} {s : Shared} {Q : VK} {us : List Value} {vs : List V} (M : Mk X.K C f) (F : FnOk X.prog X.w X.K X.mg X.base CX k f fd ps sp) (hr : Room (k + 1) X.A) (hb : Binds X.K fd ps []) (hx : PassesAt CX X σ (E σ)) (I : Inv X pins σ H s) (r : Vals vs us)
    (h : ∀ x dx, H x = none → H dx = none → dx ≠ x → sp (.ref x :: vs) (upd (upd H dx (.own x)) x (.ins C dx [])) (fun v H2 => v = .non ∧ Q (.ref x) H2) (E σ)) : wpAny (model X.prog X.w) X.A (call (.ref C) us) (EP X pins σ Q) X.xe s := by
  have q := h (s.heap.objs.size + 1) s.heap.objs.size (I.hok.fresh (Nat.le_succ _)) (I.hok.fresh (Nat.le_refl _)) (Nat.ne_of_lt (Nat.lt_succ_self _))
  have J := Inv.made (C := C) I
  have rr : Vals (V.ref (s.heap.objs.size + 1) :: vs) (Value.ref (s.heap.objs.size + 1) :: us) := .cons rfl r
  have len : (Value.ref (s.heap.objs.size + 1) :: us).length = ps.length := rr.length.symm.trans (F.len _ _ _ _ q)
  have bnd := hb _ (Value.ref (s.heap.objs.size + 1) :: us) J.kIn (by rw [List.append_nil]; exact len)
  rw [List.append_nil] at bnd
  refine wpAny_call (make_map (f := f) I.kIn M.makes M.init (beq_iff_eq.mp M.fn) (codeAny_mono (F.run _ X.stack _ _ ⟨_, []⟩ _ _ _ (E σ) (hr.make C us []) (J.env0.make C us []) bnd rr q) fun r z hq => ?_))
  match r, hq with
  | .error e, hq => exact hx pins _ _ e z J hq
  | .ok (.ret u), hq =>
    obtain ⟨v, G, I3, rv, ev, q3⟩ := J.after hq
    cases ev
    exact ⟨rv, V.ref _, G, I3, rfl, q3⟩
  | .ok .next, hq => exact hq.elim
  | .ok .brk, hq => exact hq.elim
  | .ok .cont, hq => exact hq.elim
def tMakeT (C : Addr) (sp : Sp) (E : L2.St → XK) (t : TA) : TE := fun σ H Q => t σ H fun vs H1 => MkGo C (fun us => sp us) vs H1 Q (E σ)
theorem pe_makeT (M : Mk X.K C f) (F : FnOk X.prog X.w X.K X.mg X.base CX k f fd ps sp) (hr : Room (k + 1) X.A) (hg : Gl X x) (hm : X.mg x = some (.ref C)) (hb : Binds X.K fd ps []) (hx : ∀ σ, PassesAt CX X σ (E σ))
    (ha : PA X (e :: es) t) (hdb : (x == ("__debug__" : Str)) = false := by decide) (he : starEach (e :: es) X.env = (false, eval e X.env) :: starEach es X.env := by rfl) (hpl : (backTo pos (starEach es X.env)).any (·.1) = false := by rfl) :
    PE X (.Call (.Name x p) (e :: es) [] pos) (tMakeT C sp E t) := by
  constructor
  intro pins s σ H Q I h
  refine wpAny_Call_Name_kw (ld_glob I hg hm (PySem.W.callWith_K (h₀ := X.base) I.ok.mod.kin M.kp (thn (ha.run pos pins s σ H _ I h) fun us s1 ⟨vs, H1, I1, r, q⟩ => ⟨I1.kIn, ?_⟩) he hpl) hdb)
  refine run_makeS M F hr hb (hx σ) I1 r fun x dx a b c => ?_
  have z := q x dx a b c
  rw [List.append_nil] at z
  exact z
def tMethT (C : Addr) (m : Str) (sp : Sp) (E : L2.St → XK) (ta : TE) (t : TA) : TE := fun σ H Q => ta σ H fun x H1 => ∃ a dx fs, x = .ref a ∧ H1 a = some (.ins C dx fs) ∧ fs.lookup m = none ∧ t σ H1 fun vs H2 => sp (x :: vs) H2 Q (E σ)
theorem pe_methT {pl : Sem Bool} (he : PE X o ta) (c : Cls X.K C) (hm : Meth X.K C m f) (F : FnOk X.prog X.w X.K X.mg X.base CX k f fd ps sp) (hr : Room k X.A) (hb : Binds X.K fd ps []) (hx : ∀ σ, PassesAt CX X σ (E σ)) (ha : PA X (e :: es) t)
    (hst : starEach (e :: es) X.env = (false, eval e X.env) :: starEach es X.env := by rfl) (hpl : (backTo pos (starEach es X.env)).any (·.1) = false := by rfl)
    (ht : eval (.Call (.Attribute o m apos) (e :: es) [] pos) X.env = (do let ov ← eval o X.env; standAt apos.atName; let (f, first) ← holding [ov] (getMethod ov m pl); callWith pos f first (backTo pos (starEach (e :: es) X.env)) (backToKw pos (keywordEach [] X.env))) := by rfl) :
    PE X (.Call (.Attribute o m apos) (e :: es) [] pos) (tMethT C m sp E ta t) := by
  constructor
  intro pins s σ H Q I h
  refine PySem.W.methodCall_KW (pl := pl) (thn (he.run pins s σ H _ I h) fun u s1 ⟨x, H1, I1, rx, a, dx, fs, ex, ea, l, q⟩ => ?_) ht
  subst ex
  cases rx
  refine getmeth_ok I1 ea c hm l (PySem.W.callWith_K (first := [.ref a]) (h₀ := X.base) I.ok.mod.kin hm.kp (thn (ha.run pos pins s1 σ H1 _ I1 q) fun us s2 ⟨vs, H2, I2, r, q2⟩ => ⟨I2.kIn, ?_⟩) hst hpl)
  exact run_fnS (us := .ref a :: us) (vs := .ref a :: vs) F hr hb (hx σ) I2 (.cons rfl r) q2
/-- K-explicit: C(..) in a try's body -/
theorem pe_mkT {P : Program} {w : World} {K : PySem.W.Frag} {mg : Str → Option Value} {base : Heap} {qual : Str} {st : Stmt} {W : WX} (d : Mf K "__init__" qual st ps) (M : Mk K C d.f) (hm : mg x = some (.ref C)) (F : FnOk P w K mg base (L2.CX P w) k d.f d.fd ps sp) (hr : Room (k + 1) X.A) (tk : Takes X W) (ha : PA X (e :: es) t)
    (h1 : X.prog = P := by rfl) (h2 : X.w = w := by rfl) (h3 : X.K = K := by rfl) (h4 : X.mg = mg := by rfl) (h5 : X.base = base := by rfl) (hg : Gl X x := by rfl)
    (hdb : (x == ("__debug__" : Str)) = false := by decide) (he : starEach (e :: es) X.env = (false, eval e X.env) :: starEach es X.env := by rfl) (hpl : (backTo pos (starEach es X.env)).any (·.1) = false := by rfl) :
    PE X (.Call (.Name x p) (e :: es) [] pos) (tMakeT C sp (WE W) t) := by
  subst h1 h2 h3 h4 h5
  exact pe_makeT M F hr hg hm d.b (fun σ => passAt tk σ) ha hdb he hpl
/-- o.m(..) in a try's body -/
theorem pe_mT {pl : Sem Bool} {P : Program} {w : World} {K : PySem.W.Frag} {mg : Str → Option Value} {base : Heap} {nm qual : Str} {st : Stmt} {W : WX} (he : PE X o ta) (c : Cls K C) (d : Mf K nm qual st ps) (hm : Meth K C m d.f) (F : FnOk P w K mg base (L2.CX P w) k d.f d.fd ps sp) (hr : Room k X.A) (tk : Takes X W) (ha : PA X (e :: es) t)
    (h1 : X.prog = P := by rfl) (h2 : X.w = w := by rfl) (h3 : X.K = K := by rfl) (h4 : X.mg = mg := by rfl) (h5 : X.base = base := by rfl)
    (hst : starEach (e :: es) X.env = (false, eval e X.env) :: starEach es X.env := by rfl) (hpl : (backTo pos (starEach es X.env)).any (·.1) = false := by rfl)
    (ht : eval (.Call (.Attribute o m apos) (e :: es) [] pos) X.env = (do let ov ← eval o X.env; standAt apos.atName; let (f, first) ← holding [ov] (getMethod ov m pl); callWith pos f first (backTo pos (starEach (e :: es) X.env)) (backToKw pos (keywordEach [] X.env))) := by rfl) :
    PE X (.Call (.Attribute o m apos) (e :: es) [] pos) (tMethT C m sp (WE W) ta t) := by
  subst h1 h2 h3 h4 h5
  exact pe_methT (pl := pl) he c hm F hr d.b (fun σ => passAt tk σ) ha hst hpl ht
/-- o.m(..), the errors passing on -/
theorem pe_mA {pl : Sem Bool} {P : Program} {w : World} {K : PySem.W.Frag} {mg : Str → Option Value} {base : Heap} {nm qual : Str} {st : Stmt} {E : XK} (he : PE X o ta) (c : Cls K C) (d : Mf K nm qual st ps) (hm : Meth K C m d.f) (F : FnOk P w K mg base CX k d.f d.fd ps sp) (hr : Room k X.A) (hx : Passes CX X E) (ha : PA X (e :: es) t)
    (h1 : X.prog = P := by rfl) (h2 : X.w = w := by rfl) (h3 : X.K = K := by rfl) (h4 : X.mg = mg := by rfl) (h5 : X.base = base := by rfl)
    (hst : starEach (e :: es) X.env = (false, eval e X.env) :: starEach es X.env := by rfl) (hpl : (backTo pos (starEach es X.env)).any (·.1) = false := by rfl)
    (ht : eval (.Call (.Attribute o m apos) (e :: es) [] pos) X.env = (do let ov ← eval o X.env; standAt apos.atName; let (f, first) ← holding [ov] (getMethod ov m pl); callWith pos f first (backTo pos (starEach (e :: es) X.env)) (backToKw pos (keywordEach [] X.env))) := by rfl) :
    PE X (.Call (.Attribute o m apos) (e :: es) [] pos) (tMeth C m sp [] E ta t) := by
  subst h1 h2 h3 h4 h5
  exact pe_meth (pl := pl) he c hm F hr d.b .nil hx ha hst hpl ht
/-- try: .. except C as n: .. except C2 as n: .. -/
def tTryAsN (K : PySem.W.Frag) (i : Nat) (tb : WX → TS) (l : List Cl) : TS := fun D σ H => tb (wAsN K i (fun _ _ _ _ => False) D l) D σ H
theorem ktry_asN (K : PySem.W.Frag) (i : Nat) {n : Str} {body : List Stmt} {h₀ : ExceptHandler} {hds : List ExceptHandler} {l : List Cl} {tb : WX → TS} (hN : X.N.Nodup)
    (hb : ∀ (W : WX) (pn : List (Addr × Obj)) (xe : Value → Shared → Prop), Takes (X.tr pn xe) W → PassesOwn (model X.prog X.w) X.A X.env xe → PSs (X.tr pn xe) body (tb W)) (hh : ClsOk X n (h₀ :: hds) l)
    (hK : X.K = K := by rfl) (hs : X.stack = X.env :: X.outer := by rfl) (hf : X.env.frame = some X.env.locals := by rfl) (hi : X.N[i]? = some n := by rfl) (hln : X.env.kindOf n = some .local := by rfl) :
    PS X (.Try body (h₀ :: hds) [] [] pos) (tTryAsN K i tb l) := by
  subst hK
  exact ps_try_asN hs hf hN hi hln takes0 hb hh
end
namespace Rd
variable {K : PySem.W.Frag} {σ : L2.St} {H : Hp} {Q : VK} {N : L2.St → Hp → Prop} {r : VK} {bk ct : L2.St → Hp → Prop}
theorem tryAsN {i : Nat} {tb : WX → TS} {l : List Cl} (h : tb (wAsN K i (fun _ _ _ _ => False) (Ends.mk N r bk ct) l) (Ends.mk N r bk ct) σ H) : tTryAsN K i tb l (Ends.mk N r bk ct) σ H := h
theorem makeT {C : Addr} {sp : Sp} {E : L2.St → XK} {t : TA} (h : t σ H fun vs H1 => MkGo C sp vs H1 Q (E σ)) : tMakeT C sp E t σ H Q := h
theorem methT {C : Addr} {m : Str} {sp : Sp} {E : L2.St → XK} {ta : TE} {t : TA} (h : ta σ H fun x H1 => ∃ a dx fs, x = .ref a ∧ H1 a = some (.ins C dx fs) ∧ fs.lookup m = none ∧ t σ H1 fun vs H2 => sp (x :: vs) H2 Q (E σ)) : tMethT C m sp E ta t σ H Q := h
/-- the next clause is asked -/
theorem wAs_no {c cls : Value} {d : Option Addr} {i : Nat} {ts : Addr → Value → Option Addr → TS} {Wo : WX} {D : Ends} (te : PySem.W.exmOne K cls c = some false) (h : WE Wo σ cls d H) : WE (wAs K c i ts Wo D) σ cls d H := ⟨false, te, fun q => (nomatch q), fun _ => h⟩
end Rd
end Fw

set_option Elab.async false
set_option linter.all false
set_option maxRecDepth 100000
set_option maxHeartbeats 4000000
/-! [e for x in xs for y in f(x) if t], what the inner for walks depending on x -/
namespace Fw
open PySem PySem.Spec L2
namespace Rd
variable {σ : St} {H : Hp} {Q : VK} {te : TE} {tt1 : TT} {wi1 : TI} {J : It} {n : Nat} {G : Hp → Prop} {Itm : Nat → V → Prop}
theorem lc2D {s s1 M : Nat} (w : Walk J n G (Flat Itm)) (J1 : Nat → It) (m : Nat → Nat) (G1 : Nat → Hp → Prop) (Itm1 : Nat → Nat → V → Prop) (w1 : ∀ i, i < n → Walk (J1 i) (m i) (G1 i) (Flat (Itm1 i))) (hm : ∀ i, i < n → m i ≤ M) (hss : s ≠ s1) (hn : n * M < sizeLine)
    (Jv : Nat → Nat → List V → Hp → Prop) (h0 : Jv 0 0 [] H) (hst : ∀ D, H D = none → ∀ i j acc zs H', (∀ o, H' D = some o → ∃ ys, o = .lst ys) → Jv i j acc H' → Jv i j acc (upd H' D (.lst zs)))
    (hG : ∀ i acc H', i ≤ n → Jv i 0 acc H' → G H') (hG1 : ∀ i j acc H', i < n → j ≤ m i → Jv i j acc H' → G1 i H')
    (hin : ∀ i x acc H', i < n → Itm i x → Jv i 0 acc H' → ∀ R : It → Hp → Prop, R (J1 i) H' → wi1 (((σ.set s1 none).set s none).set s (some x)) H' R)
    (hend : ∀ i acc H', i < n → Jv i (m i) acc H' → Jv (i + 1) 0 acc H')
    (step : ∀ D, H D = none → ∀ i j x y acc H', i < n → j < m i → Itm i x → Itm1 i j y → H' D = some (.lst acc) → Jv i j acc H' → ∀ (Kt : V → Hp → Prop) (Kf : Hp → Prop), (∀ z H4, H4 D = some (.lst acc) → Jv i (j + 1) (acc ++ [z]) H4 → Kt z H4) → (∀ H3, H3 D = some (.lst acc) → Jv i (j + 1) acc H3 → Kf H3) →
      tt1 ((((σ.set s1 none).set s none).set s (some x)).set s1 (some y)) H' fun c H3 => if c = true then te ((((σ.set s1 none).set s none).set s (some x)).set s1 (some y)) H3 Kt else Kf H3)
    (fin : ∀ D acc H', H D = none → H' D = some (.lst acc) → acc.length ≤ n * M → Jv n 0 acc H' → Q (.ref D) H') :
    Lc2Go J (gName s) tYes wi1 (gName s1) tt1 te [s, s1] [s1] σ H Q := by
  intro D hD
  refine ⟨fun i k H' => k = n - i ∧ i ≤ n ∧ ∃ acc, H' D = some (.lst acc) ∧ acc.length ≤ i * M ∧ Jv i 0 acc H', ⟨_, rfl, Nat.zero_le _, [], upd_same, Nat.zero_le _, hst D hD _ _ _ _ _ (fun o e => by rw [hD] at e; cases e) h0⟩, ?_⟩
  rintro i k H' ⟨rfl, hi, acc, a1, a2, a3⟩
  rcases Nat.lt_or_ge i n with lt | ge
  · refine .inr ⟨w.goes i H' lt (hG _ _ _ hi a3), fun H'' => i + 1 ≤ n ∧ ∃ acc, H'' D = some (.lst acc) ∧ acc.length ≤ (i + 1) * M ∧ Jv (i + 1) 0 acc H'', fun H'' q => ⟨n - (i + 1), by omega, rfl, q.1, q.2⟩, ?_⟩
    intro x H2 yl
    obtain ⟨rfl, hx⟩ := w.yields i _ x H2 lt (hG _ _ _ hi a3) yl
    have w0 : wipe σ [s, s1] = (σ.set s1 none).set s none := rfl
    rw [w0]
    refine ⟨?_, ?_⟩
    · show ((((σ.set s1 none).set s none).set s (some x)).set s1 none).set s none = (σ.set s1 none).set s none
      rw [List.set_set, List.set_comm (some x) none hss, List.set_set, List.set_set]
    · refine hin i x acc _ lt hx a3 _ ?_
      refine ⟨fun j k H'' => k = m i - j ∧ j ≤ m i ∧ ∃ acc, H'' D = some (.lst acc) ∧ acc.length ≤ i * M + j ∧ Jv i j acc H'', ⟨_, rfl, Nat.zero_le _, acc, a1, a2, a3⟩, ?_⟩
      rintro j k H'' ⟨rfl, hj, acc, b1, b2, b3⟩
      have hmi := hm i lt
      rcases Nat.lt_or_ge j (m i) with lt1 | ge1
      · refine .inr ⟨(w1 i lt).goes j H'' lt1 (hG1 _ _ _ _ lt hj b3), fun H3 => j + 1 ≤ m i ∧ ∃ acc, H3 D = some (.lst acc) ∧ acc.length ≤ i * M + (j + 1) ∧ Jv i (j + 1) acc H3, fun H3 q => ⟨m i - (j + 1), by omega, rfl, q.1, q.2⟩, ?_⟩
        intro y H3 yl1
        obtain ⟨rfl, hy⟩ := (w1 i lt).yields j _ y H3 lt1 (hG1 _ _ _ _ lt hj b3) yl1
        have w2 : wipe (((σ.set s1 none).set s none).set s (some x)) [s1] = ((σ.set s1 none).set s none).set s (some x) := by
          show (((σ.set s1 none).set s none).set s (some x)).set s1 none = _
          rw [List.set_set, List.set_comm (some x) none hss, List.set_set]
        rw [w2]
        refine ⟨?_, ?_⟩
        · show ((((σ.set s1 none).set s none).set s (some x)).set s1 (some y)).set s1 none = _
          rw [List.set_set]
          exact w2
        · have lt2 : i * M + j < n * M := Nat.lt_of_lt_of_le (show i * M + j < (i + 1) * M by rw [Nat.succ_mul]; omega) (Nat.mul_le_mul_right _ lt)
          exact step D hD i j x y acc _ lt lt1 hx hy b1 b3 _ _ (fun z H4 c1 c2 => ⟨acc, c1, by omega, lt1, acc ++ [z], upd_same, by rw [List.length_append, List.length_singleton]; omega, hst D hD _ _ _ _ _ (fun o e => by rw [c1] at e; cases e; exact ⟨_, rfl⟩) c2⟩) fun H3 c1 c2 => ⟨lt1, acc, c1, by omega, c2⟩
      · have ej : j = m i := by omega
        subst ej
        exact .inl ⟨(w1 i lt).stops _ (hG1 _ _ _ _ lt (Nat.le_refl _) b3), lt, acc, b1, by rw [Nat.succ_mul]; omega, hend i acc _ lt b3⟩
  · have ei : i = n := by omega
    subst ei
    exact .inl ⟨w.stops _ (hG _ _ _ (Nat.le_refl _) a3), fin D acc _ hD a1 a2 a3⟩
end Rd
end Fw

set_option Elab.async false
set_option linter.all false
set_option maxRecDepth 100000
set_option maxHeartbeats 4000000
/-! more readings: list.insert, list.clear, comprehensions that name their own list, rising lists -/
namespace Fw
open PySem PySem.Spec L2
def rInsert : V → List V → Hp → VK → Prop := fun x vs H Q => ∃ (l : Addr) (xs : List V) (i : Int) (y : V), x = .ref l ∧ vs = [.int i, y] ∧ H l = some (.lst xs) ∧ xs.length < sizeLine ∧ 0 ≤ i ∧ i < 2 ^ 63 ∧
    Q .non (upd H l (.lst (xs.take i.toNat ++ [y] ++ xs.drop i.toNat)))
theorem kins {X : Cx} (K : PySem.W.Frag) {o e e2 : Expr} {to : TE} {t : TA} {apos cpos : Pos} (ho : PE X o to) (ha : PA X [e, e2] t) (h : X.K = K := by rfl)
    (hbase : attributeBase o "insert" X.env (eval o X.env) = eval o X.env := by rfl)
    (hfew : ((backTo cpos (starEach [e, e2] X.env)).all (fun x => !x.1) && (backToKw cpos (keywordEach [] X.env)).all (fun x => x.1.isSome)
      && decide (([e, e2] : List Expr).length + ([] : List Keyword).length + (if ([] : List Keyword).isEmpty then 0 else 1) < 30)) = true := by rfl)
    (hline : (apos.endLine == cpos.line) = true := by rfl) (hs : starEach [e, e2] X.env = (false, eval e X.env) :: starEach [e2] X.env := by rfl) (hplain : (backTo cpos (starEach [e2] X.env)).any (·.1) = false := by rfl) :
    PE X (.Call (.Attribute o "insert" apos) [e, e2] [] cpos) (tBM K "list" rInsert to t) := by
  subst h
  exact pe_bm PySem.F.plainAttrs_list PySem.F.slot_list_insert PySem.F.type_list_insert mt_insert ho ha hbase hfew hline hs hplain
theorem kclear {X : Cx} (K : PySem.W.Frag) {o : Expr} {to : TE} {apos cpos : Pos} (ho : PE X o to) (h : X.K = K := by rfl) (hbase : attributeBase o "clear" X.env (eval o X.env) = eval o X.env := by rfl) (hline : (apos.endLine == cpos.line) = true := by rfl) :
    PE X (.Call (.Attribute o "clear" apos) [] [] cpos) (tBM0 K "list" rClear to) := by
  subst h
  exact pe_bm0 PySem.F.plainAttrs_list PySem.F.slot_list_clear PySem.F.type_list_clear mt_clear ho hbase hline
namespace Rd
variable {K : PySem.W.Frag} {σ : St} {H : Hp} {Q : VK} {te : TE} {tt : TT} {J : It} {n : Nat} {G : Hp → Prop} {Itm : Nat → V → Prop}
theorem insert {p : Addr} {xs : List V} {i : Nat} {y : V} (h : H p = some (.lst xs)) (hl : xs.length < sizeLine) (hi : i < 100000) (q : Q .non (upd H p (.lst (xs.take i ++ [y] ++ xs.drop i)))) : rInsert (.ref p) [.int (i : Nat), y] H Q :=
  ⟨p, xs, (i : Nat), y, rfl, rfl, h, hl, by omega, by omega, by rw [Int.toNat_natCast]; exact q⟩
theorem clear {p : Addr} {xs : List V} (h : H p = some (.lst xs)) (q : Q .non (upd H p (.lst []))) : rClear (.ref p) [] H Q := ⟨p, xs, rfl, rfl, h, q⟩
theorem bm0 {T : String} {r : V → List V → Hp → VK → Prop} {to : TE} (h : to σ H fun x H1 => tyV K T x H1 ∧ r x [] H1 Q) : tBM0 K T r to σ H Q := h
theorem lcO {C : Addr} {L : Hp → Addr → Addr → Prop} {tl : TE} {g : TG} {vs : List Nat} (h : tl σ H fun x H1 => ∃ (a dx : Addr) (fs : List (Str × V)) (l : Addr), x = .ref a ∧ H1 a = some (.ins C dx fs) ∧ L H1 a l ∧ LcGo (Itt K l) g tt te vs σ H1 Q) : tLc (iOwn C L K tl) g tt te vs σ H Q := h
theorem foO {C : Addr} {L : Hp → Addr → Addr → Prop} {tl : TE} {g : TG} {tb : TS} {D : Ends} (h : tl σ H fun x H1 => ∃ (a dx : Addr) (fs : List (Str × V)) (l : Addr), x = .ref a ∧ H1 a = some (.ins C dx fs) ∧ L H1 a l ∧ FoGo (Itt K l) g tb D σ H1) : tFor (iOwn C L K tl) g tb D σ H := h
/-- an assertion between two statements -/
theorem mid {t : TS} {N : St → Hp → Prop} {r : VK} {bk ct : St → Hp → Prop} (Mid : St → Hp → Prop) (hN : ∀ σ H, Mid σ H → N σ H) (h : ∀ N', (∀ σ H, Mid σ H → N' σ H) → t (Ends.mk N' r bk ct) σ H) : t (Ends.mk N r bk ct) σ H := h N hN
/-- while: W by measure, slots and heap -/
theorem whW {c : TT} {tb : TS} {N : St → Hp → Prop} {r : VK} {bk ct : St → Hp → Prop} (W : Nat → St → Hp → Prop) (m : Nat) (h0 : W m σ H)
    (step : ∀ m σ H, W m σ H → c σ H fun b H1 => if b = true then ∃ N' : St → Hp → Prop, (∀ σ' H', N' σ' H' → ∃ m', m' < m ∧ W m' σ' H') ∧ tb (Ends.mk N' r N N') σ H1 else N σ H1) : tWhile c tb (Ends.mk N r bk ct) σ H :=
  ⟨W, ⟨m, h0⟩, step⟩
theorem whGo {m : Nat} {W : Nat → St → Hp → Prop} {P : (St → Hp → Prop) → Prop} (h : P fun σ' H' => ∃ m', m' < m ∧ W m' σ' H') : ∃ N' : St → Hp → Prop, (∀ σ' H', N' σ' H' → ∃ m', m' < m ∧ W m' σ' H') ∧ P N' := ⟨_, fun _ _ h => h, h⟩
/-- a comprehension whose word knows its own list, at D -/
theorem lcZ {s : Nat} (w : Walk J n G (Flat Itm)) (hn : n < sizeLine) (Jv : Addr → Nat → List V → Hp → Prop) (h0 : ∀ D, H D = none → Jv D 0 [] (upd H D (.lst []))) (hG : ∀ D i acc H', i ≤ n → Jv D i acc H' → G H')
    (step : ∀ D, H D = none → ∀ i x acc H', i < n → Itm i x → H' D = some (.lst acc) → acc.length ≤ i → Jv D i acc H' → ∀ (Kt : V → Hp → Prop) (Kf : Hp → Prop), (∀ y H4, H4 D = some (.lst acc) → Jv D (i + 1) (acc ++ [y]) (upd H4 D (.lst (acc ++ [y]))) → Kt y H4) → (∀ H3, H3 D = some (.lst acc) → Jv D (i + 1) acc H3 → Kf H3) →
      tt ((σ.set s none).set s (some x)) H' fun b H3 => if b = true then te ((σ.set s none).set s (some x)) H3 Kt else Kf H3)
    (fin : ∀ D acc H', H D = none → H' D = some (.lst acc) → acc.length ≤ n → Jv D n acc H' → Q (.ref D) H') : LcGo J (gName s) tt te [s] σ H Q := by
  intro D hD
  refine lc_it w (fun i H' => ∃ acc, H' D = some (.lst acc) ∧ acc.length ≤ i ∧ Jv D i acc H') ⟨[], upd_same, Nat.le_refl _, h0 D hD⟩ (fun i H' hi ⟨acc, _, _, j⟩ => hG D i acc H' hi j) ?_ (fun H' ⟨acc, a1, a2, a3⟩ => fin D acc H' hD a1 a2 a3)
  rintro i x H' H2 hi ⟨acc, a1, a2, a3⟩ ⟨rfl, hx⟩
  refine ⟨?_, ?_⟩
  · show ((σ.set s none).set s (some x)).set s none = σ.set s none
    rw [List.set_set, List.set_set]
  · exact step D hD i x acc _ hi hx a1 a2 a3 _ _
      (fun y H4 b1 b2 => ⟨acc, b1, Nat.lt_of_le_of_lt a2 (Nat.lt_trans hi hn), acc ++ [y], upd_same, by rw [List.length_append, List.length_singleton]; omega, b2⟩)
      (fun H3 b1 b2 => ⟨acc, b1, Nat.le_succ_of_le a2, b2⟩)
end Rd
/-! ### data of any depth under growing heaps -/
mutual
theorem Dp.mono {K : PySem.W.Frag} {H H' : Hp} (e : Same H H') : ∀ (d : PyData) {v : V}, Dp K H v d → Dp K H' v d
  | .none, _, h => by cases h; exact .non
  | .bool _, _, h => by cases h; exact .bl _
  | .int _, _, h => by cases h; exact .int _
  | .str _, _, h => by cases h; exact .str _
  | .list ds, _, h => by
    cases h with
    | lst h1 h2 => exact .lst (e.seq h1) (DpAll.mono e ds h2)
  | .tuple ds, _, h => by
    cases h with
    | tup h1 h2 => exact .tup (Fw.Same.sqt e h1) (DpAll.mono e ds h2)
  | .dict _, _, h => nomatch h
theorem DpAll.mono {K : PySem.W.Frag} {H H' : Hp} (e : Same H H') : ∀ (ds : List PyData) {vs : List V}, DpAll K H vs ds → DpAll K H' vs ds
  | [], _, h => by cases h; exact .nil
  | d :: ds, _, h => by
    cases h with
    | cons h1 h2 => exact .cons (Dp.mono e d h1) (DpAll.mono e ds h2)
end
/-! ### strictly rising lists -/
section
variable {α : Type} {lt : α → α → Prop}
theorem rise_ext (irr : ∀ x, ¬ lt x x) (tr : ∀ x y z, lt x y → lt y z → lt x z) : ∀ {xs ys : List α}, xs.Pairwise lt → ys.Pairwise lt → (∀ x, x ∈ xs ↔ x ∈ ys) → xs = ys
  | [], [], _, _, _ => rfl
  | [], y :: ys, _, _, h => absurd ((h y).mpr List.mem_cons_self) List.not_mem_nil
  | x :: xs, [], _, _, h => absurd ((h x).mp List.mem_cons_self) List.not_mem_nil
  | x :: xs, y :: ys, hx, hy, h => by
    rw [List.pairwise_cons] at hx hy
    have e : x = y := by
      rcases List.mem_cons.mp ((h x).mp List.mem_cons_self) with e | e
      · exact e
      · rcases List.mem_cons.mp ((h y).mpr List.mem_cons_self) with e' | e'
        · exact e'.symm
        · exact absurd (tr _ _ _ (hy.1 _ e) (hx.1 _ e')) (irr _)
    subst e
    rw [rise_ext irr tr hx.2 hy.2 fun z => ⟨fun hz => ?_, fun hz => ?_⟩]
    · rcases List.mem_cons.mp ((h z).mp (List.mem_cons_of_mem _ hz)) with e | e
      · rw [e] at hz; exact absurd (hx.1 _ hz) (irr _)
      · exact e
    · rcases List.mem_cons.mp ((h z).mpr (List.mem_cons_of_mem _ hz)) with e | e
      · rw [e] at hz; exact absurd (hy.1 _ hz) (irr _)
      · exact e
end
end Fw

namespace Toy
open PySem L2 Fw
local macro_rules | `(tactic| walk_at "sz") => `(tactic| first | assumption | omega | decide | (have q_sz : sizeLine = 16777216 := sizeLine_eq; simp only [List.length_append, List.length_cons, List.length_nil]; omega) | (have q_sz : sizeLine = 16777216 := sizeLine_eq; simp only [List.length_cons, List.length_nil] at *; omega) | (have q_sz : sizeLine = 16777216 := sizeLine_eq; omega))
local macro_rules | `(tactic| walk_at "hp") => `(tactic| first | assumption | exact upd_same)
local macro_rules | `(tactic| walk_at "sq") => `(tactic| first | assumption | exact SqL.of (by walk_at "hp") | exact SqT.of (by walk_at "hp"))
local macro_rules | `(tactic| walk_at "sl") => `(tactic| first | assumption | omega | (simp only [List.length_append, List.length_take, List.length_drop, List.length_singleton, List.length_cons, List.length_nil, List.length_map, rep_len, Int.reduceToNat]; omega))
local macro_rules | `(tactic| walk_at "rd1") => `(tactic| first
  | ((with_reducible refine' Rd.var ?k1 ?_); (case k1 => rfl))
  | (with_reducible refine Rd.con ?_)
  | (with_reducible refine Rd.op ?_)
  | (with_reducible refine Rd.seq ?_)
  | ((with_reducible refine Rd.asg ?_); dsimp only [List.set])
  | (with_reducible refine Rd.drop ?_)
  | (with_reducible refine Rd.asgSub ?_)
  | ((with_reducible refine' Rd.setL ?k1 ?k2 ?_); (case k1 => walk_at "hp"); (case k2 => first | assumption | rfl); try dsimp only [List.set])
  | (with_reducible refine Rd.ret ?_)
  | (with_reducible refine Rd.retN ?_)
  | (with_reducible refine Rd.next ?_)
  | (with_reducible refine Rd.ifS ?_)
  | (with_reducible refine Rd.cons ?_)
  | (with_reducible refine Rd.nil ?_)
  | (with_reducible refine Rd.call ?_)
  | (with_reducible refine Rd.cb ?_)
  | (with_reducible refine Rd.test ?_)
  | (with_reducible refine Rd.tbv ?_)
  | (with_reducible refine Rd.exbl ?_)
  | (with_reducible refine Rd.exint ?_)
  | (with_reducible refine Rd.yes ?_)
  | (with_reducible refine Rd.andT ?_)
  | (with_reducible refine Rd.orT ?_)
  | (with_reducible refine Rd.notT ?_)
  | (with_reducible refine Rd.andV ?_)
  | (with_reducible refine Rd.orV ?_)
  | (with_reducible refine Rd.notV ?_)
  | (with_reducible refine Rd.chain ?_)
  | (with_reducible refine Rd.sl ?_)
  | (with_reducible refine Rd.lcL ?_)
  | (with_reducible refine Rd.lcT ?_)
  | (with_reducible refine Rd.lcR ?_)
  | (with_reducible refine Rd.lcS ?_)
  | (with_reducible refine Rd.foL ?_)
  | (with_reducible refine Rd.foT ?_)
  | (with_reducible refine Rd.foR ?_)
  | ((with_reducible refine' Rd.exrange ?k1 ?k2 ?_); (case k1 => first | decide | omega); (case k2 => first | decide | omega))
  | (with_reducible refine Rd.exstr ?_)
  | ((with_reducible refine' Rd.exlist ?k1 ?_); (case k1 => walk_at "sq"))
  | ((with_reducible refine' Rd.extup ?k1 ?_); (case k1 => walk_at "sq"))
  | (with_reducible refine Rd.noPart ?_)
  | (with_reducible refine Rd.part ?_)
  | (with_reducible refine Rd.addI ?_)
  | (with_reducible refine Rd.subI ?_)
  | (with_reducible refine Rd.gtI ?_)
  | (with_reducible refine Rd.geI ?_)
  | (with_reducible refine Rd.ltI ?_)
  | (with_reducible refine Rd.leI ?_)
  | (with_reducible refine Rd.eqI ?_)
  | (with_reducible refine Rd.neI ?_)
  | (with_reducible refine RS.eq ?_)
  | (with_reducible refine RS.ne ?_)
  | (with_reducible refine Rd.eqS ?_)
  | (with_reducible refine Rd.neS ?_)
  | (with_reducible refine Rd.leC ?_)
  | (with_reducible refine Rd.ltS ?_)
  | (with_reducible refine Rd.leS ?_)
  | (with_reducible refine Rd.int1 ?_)
  | ((with_reducible refine' Rd.modI ?k1 ?_); (case k1 => first | decide | omega | assumption))
  | ((with_reducible refine' Rd.divI ?k1 ?_); (case k1 => exact ⟨by omega, by omega⟩))
  | ((with_reducible refine' Rd.mulI ?k1 ?_); (case k1 => first | exact .inl ⟨by decide, by decide⟩ | exact .inr ⟨by decide, by decide⟩ | exact .inl ⟨by omega, by omega⟩ | exact .inr ⟨by omega, by omega⟩))
  | ((with_reducible refine' RS.mul ?k1 ?k2 ?k3 ?k4 ?_); (case k1 => decide); (case k2 => decide); (case k3 => walk_at "sl"); (case k4 => walk_at "sl"))
  | ((with_reducible refine' Rd.mulS ?k1 ?k2 ?k3 ?_); (case k1 => first | decide | omega); (case k2 => first | decide | omega); (case k3 => walk_at "sz"))
  | ((with_reducible refine' Rd.powI ?k1 ?_); (case k1 => exact ⟨by decide, by decide, by decide⟩))
  | ((with_reducible refine' Rd.lenL ?k1 ?_); (case k1 => walk_at "sq"))
  | ((with_reducible refine' Rd.lenT ?k1 ?_); (case k1 => walk_at "sq"))
  | ((with_reducible refine' RS.len ?k1 ?_); (case k1 => walk_at "sl"))
  | ((with_reducible refine' Rd.lenS ?k1 ?_); (case k1 => walk_at "sz"))
  | ((with_reducible refine' Rd.sumL ?k1 ?_); (case k1 => walk_at "sq"))
  | ((with_reducible refine' RS.ix ?k1 ?k2 ?_); (case k1 => walk_at "sl"); (case k2 => assumption))
  | ((with_reducible refine' Rd.ixL ?k1 ?k2 ?_); (case k1 => walk_at "sq"); (case k2 => first | assumption | rfl))
  | ((with_reducible refine' Rd.ixT ?k1 ?k2 ?_); (case k1 => walk_at "sq"); (case k2 => first | assumption | rfl))
  | ((with_reducible refine' RS.slTo ?k1 ?k2 ?_); (case k1 => omega); (case k2 => walk_at "sl"))
  | ((with_reducible refine' RS.slFrom ?k1 ?k2 ?_); (case k1 => omega); (case k2 => walk_at "sl"))
  | ((with_reducible refine' RS.slFT ?k1 ?k2 ?k3 ?_); (case k1 => omega); (case k2 => omega); (case k3 => walk_at "sl"))
  | ((with_reducible refine' Rd.slS ?k1 ?_); (case k1 => walk_at "sz"))
  | ((with_reducible refine' RS.add ?k1 ?_); (case k1 => walk_at "sl"))
  | ((with_reducible refine' Rd.addS ?k1 ?_); (case k1 => walk_at "sz"))
  | (with_reducible refine Rd.tup ?_)
  | (with_reducible refine Rd.lst ?_)
  | (with_reducible refine Rd.m0 ?_)
  | (with_reducible refine Rd.m1 ?_)
  | (with_reducible refine Rd.isStr ?_)
  | ((with_reducible refine' RS.upper ?k1 ?k2 ?_); (case k1 => assumption); (case k2 => walk_at "sl"))
  | ((with_reducible refine' Rd.upper ?k1 ?_); (case k1 => walk_at "sz"))
  | (with_reducible refine Rd.bm ?_)
  | ((with_reducible refine' Rd.tyL ?k1 ?_); (case k1 => walk_at "hp"))
  | ((with_reducible refine' Rd.append ?k1 ?k2 ?_); (case k1 => walk_at "hp"); (case k2 => walk_at "sz"))
  | (with_reducible refine Rd.make ?_)
  | (with_reducible refine Rd.meth ?_)
  | (with_reducible refine Rd.sfld ?_)
  | (with_reducible refine Rd.con_ ?_)
  | (with_reducible refine Rd.fld ?_)
  | (with_reducible refine Rd.tryAs ?_)
  | (with_reducible refine Rd.tryAsN ?_)
  | (with_reducible refine Rd.lenSetT ?_)
  | (with_reducible refine Rd.makeT ?_)
  | (with_reducible refine Rd.methT ?_)
  | (with_reducible refine Rd.callS ?_)
  | (with_reducible refine Rd.xf ?_)
  | (with_reducible refine Rd.mko ?_)
  | (with_reducible refine Rd.ost ?_)
  | (with_reducible refine Rd.iteNF ?_)
  | (with_reducible refine Rd.iteNT ?_)
  | (with_reducible refine Rd.iteT ?_)
  | (with_reducible refine Rd.iteF ?_)
  | ((with_reducible refine' Rd.iteDT ?k1 ?_); (case k1 => decide))
  | ((with_reducible refine' Rd.iteDF ?k1 ?_); (case k1 => decide))
  | ((with_reducible refine' Rd.iteNDT ?k1 ?_); (case k1 => decide))
  | ((with_reducible refine' Rd.iteNDF ?k1 ?_); (case k1 => decide))
  | ((with_reducible refine' Rd.iteBT ?k1 ?_); (case k1 => rfl))
  | ((with_reducible refine' Rd.iteBF ?k1 ?_); (case k1 => rfl)))
local macro_rules | `(tactic| walk_at "rd") => `(tactic| repeat walk_at "rd1")
def top (i : Nat) : Stmt := PySem.Challenge.pw_redopages_k03_catalogs_and_their_groups.main.body.getD i (.Pass ⟨0, 0, 0, 0⟩)
section
variable {P : Program} {w : World} {K : PySem.W.Frag} {mg : Str → Option Value} {base : Heap} {tk : Tok}
/-! ### the draws -/
def PoolAt (H : Hp) (p : Addr) : Prop := ∃ d s c : Int, H p = some (.lst [.int d, .int s, .int c])
def spDraw : Sp := fun vs H Q _ => ∃ (p : Addr) (m : Int), vs = [.ref p, .int m] ∧ 0 < m ∧ m < 1073741824 ∧ PoolAt H p ∧
  ∀ (r : Int) (H' : Hp), 0 ≤ r → r < m → (∀ a, a ≠ p → H' a = H a) → PoolAt H' p → Q (.int r) H'
abbrev s_law_draw : Stmt := top 23
theorem sc_law_draw : FnScope ["_law_pool_here", "_law_many", "_law_digit"] ["_law_pool_here", "_law_many"] (defScope s_law_draw) := ⟨rfl, rfl, rfl, by decide +kernel, rfl, by decide +kernel, by decide +kernel⟩
theorem ok_draw {f : Addr} {fd : FuncData} (F : Fun K "_law_draw" "_law_draw" s_law_draw f fd) (T : Bt mg) : FnOk P w K mg base CX0 1 f fd ["_law_pool_here", "_law_many"] spDraw := by
  refine F.ok sc_law_draw (fun vs H Q E h => ?_) (fun cdv A outer s H vs Q E hr h => ?_)
  · obtain ⟨p, m, rfl, _⟩ := h
    rfl
  · obtain ⟨p, m, rfl, hm, hm2, ⟨d, sd, c, hp⟩, k⟩ := h
    refine ⟨_, (pss_cons (ps_if (PW.pt (pw_and (pt_cmpR op_gtI (pe_ix (kix K) (pv 0) pe_int (fun _ _ => rfl)) pe_int (nomark _)) (pw_and1 (pt_cmpR op_gtI (pe_ix (kix K) (pv 0) pe_int (fun _ _ => rfl)) pe_int (nomark _))))) (pss_cons (ps_set (i := 2) sc_law_draw.nd rfl (Or.inl rfl) (pe_op op_modI (pe_callTy call_intA (by rfl) T.int (by decide +kernel) (pa_cons (pe_ix (kix K) (pv 0) pe_int (fun _ _ => rfl)) pa_nil)) (pv 1)))
  (pss_cons (ps_asg (pe_op op_divI (pe_ix (kix K) (pv 0) pe_int (fun _ _ => rfl)) (pv 1)) (pg_sub (pv 0) pe_int set_list))
  (pss_cons (ps_asg (pe_op op_subI (pe_ix (kix K) (pv 0) pe_int (fun _ _ => rfl)) pe_int) (pg_sub (pv 0) pe_int set_list))
  (pss_one (ps_ret (pv 2))))))
  pss_nil)
  (pss_cons (ps_asg (pe_op op_modI (pe_callTy call_intA (by rfl) T.int (by decide +kernel) (pa_cons (pe_op op_addA (pe_op op_mulA (pe_ix (kix K) (pv 0) pe_int (fun _ _ => rfl)) pe_int) pe_int) pa_nil)) pe_int) (pg_sub (pv 0) pe_int set_list))
  (pss_one (ps_ret (pe_op op_modI (pe_callTy call_intA (by rfl) T.int (by decide +kernel) (pa_cons (pe_ix (kix K) (pv 0) pe_int (fun _ _ => rfl)) pa_nil)) (pv 1)))))), ?_⟩
    refine Rd.start_ (σ' := [some (.ref p), some (.int m), none]) rfl ?_
    have fin : ∀ (H' : Hp) (x : Int) (d' s' c' : Int), H' = upd (upd H p (.lst [.int d', .int sd, .int c])) p (.lst [.int d', .int s', .int c']) → Q (.int (x % m)) H' := fun H' x d' s' c' e => by
      subst e
      exact k _ _ (Int.emod_nonneg _ (by omega)) (Int.emod_lt_of_pos _ hm) (fun a ha => by rw [upd_ne ha, upd_ne ha]) ⟨_, _, _, upd_same⟩
    have fin1 : ∀ (x : Int) (d' s' c' : Int), Q (.int (x % m)) (upd H p (.lst [.int d', .int s', .int c'])) := fun x d' s' c' =>
      k _ _ (Int.emod_nonneg _ (by omega)) (Int.emod_lt_of_pos _ hm) (fun a ha => by rw [upd_ne ha]) ⟨_, _, _, upd_same⟩
    walk_at "rd"
    refine Rd.iteD (fun h1 => ?_) (fun h1 => ?_)
    · walk_at "rd"
      refine Rd.iteD (fun h2 => ?_) (fun h2 => ?_)
      · walk_at "rd"
        exact fin _ _ _ _ _ rfl
      · walk_at "rd"
        exact fin1 _ _ _ _
    · walk_at "rd"
      exact fin1 _ _ _ _

def spPool (K : PySem.W.Frag) : Sp := fun vs H Q _ => ∃ (a : Addr) (ns : List Int) (k : Int), vs = [.ref a, .int k] ∧ SqL K H a (ns.map V.int) ∧ ns.length ≤ 63 ∧ 0 ≤ k ∧ k < 100 ∧
  ∀ (p : Addr) (H' : Hp), H p = none → Same H H' → PoolAt H' p → Q (.ref p) H'
abbrev s_law_pool : Stmt := top 26
theorem sc_law_pool : FnScope ["_law_script", "_law_k", "_law_seed", "_law_digits"] ["_law_script", "_law_k"] (defScope s_law_pool) := ⟨rfl, rfl, rfl, by decide +kernel, rfl, by decide +kernel, by decide +kernel⟩
theorem ok_pool {f : Addr} {fd : FuncData} (F : Fun K "_law_pool" "_law_pool" s_law_pool f fd) (T : Bt mg) : FnOk P w K mg base CX0 1 f fd ["_law_script", "_law_k"] (spPool K) := by
  refine F.ok sc_law_pool (fun vs H Q E h => ?_) (fun cdv A outer s H vs Q E hr h => ?_)
  · obtain ⟨p, ns, m, rfl, _⟩ := h
    rfl
  · obtain ⟨a, ns, m, rfl, hS, hl, hm, hm2, k⟩ := h
    have hu := hr.units
    refine ⟨_, (pss_cons (ps_set (i := 2) sc_law_pool.nd rfl (Or.inl rfl) (pe_op op_addA (pe_op op_addA (pe_op op_mulA pe_int (pv 1)) pe_int) (pe_op op_mulA pe_int (pe_callB (ksum K) (by rfl) T.sum (by decide +kernel) (pa_cons (pv 0) pa_nil)))))
  (pss_cons (ps_set (i := 3) sc_law_pool.nd rfl (Or.inl rfl) pe_int)
  (pss_cons (ps_if (pt_cmpR op_ltA (pv 1) (pe_callB (klen K) (by rfl) T.len (by decide +kernel) (pa_cons (pv 0) pa_nil)) (nomark _)) (pss_cons (ps_set (i := 2) sc_law_pool.nd rfl (Or.inl rfl) (pe_op op_addA (pv 2) (pe_ix (kix K) (pv 0) (pv 1) (fun _ _ => rfl))))
  (pss_one (ps_if (pt_cmpR op_geI (pe_ix (kix K) (pv 0) (pv 1) (fun _ _ => rfl)) (pe_op op_powI pe_int pe_int) (nomark _)) (pss_one (ps_set (i := 3) sc_law_pool.nd rfl (Or.inl rfl) (pe_ix (kix K) (pv 0) (pv 1) (fun _ _ => rfl))))
  pss_nil)))
  pss_nil)
  (pss_one (ps_ret (pe_lst (pa_cons (pv 3) (pa_cons (pe_op op_modI (pe_callTy call_intA (by rfl) T.int (by decide +kernel) (pa_cons (pv 2) pa_nil)) pe_int) (pa_cons pe_int pa_nil))))))))), ?_⟩
    refine Rd.start_ (σ' := [some (.ref a), some (.int m), none, none]) rfl ?_
    have fin : ∀ x y z : Int, ∀ p, H p = none → Q (.ref p) (upd H p (.lst [.int x, .int y, .int z])) := fun x y z p hp => k p _ hp (same_new hp) ⟨_, _, _, upd_same⟩
    walk_at "rd"
    refine Rd.iteD (fun h1 => ?_) (fun h1 => ?_)
    · rw [List.length_map] at h1
      obtain ⟨z, hat⟩ : ∃ z, atI (ns.map V.int) m = some (V.int z) := by
        have hlt : m.toNat < ns.length := by omega
        have e : m = ((m.toNat : Nat) : Int) := by omega
        exact ⟨ns[m.toNat], (congrArg (atI (ns.map V.int)) e).trans (atI_nat (by simp [hlt]))⟩
      walk_at "rd"
      refine Rd.iteD (fun h2 => ?_) (fun h2 => ?_)
      · walk_at "rd"
        exact ⟨by show 3 ≤ sizeLine; decide, fin _ _ _⟩
      · walk_at "rd"
        exact ⟨by show 3 ≤ sizeLine; decide, fin _ _ _⟩
    · walk_at "rd"
      exact ⟨by show 3 ≤ sizeLine; decide, fin _ _ _⟩

/-! ### words of drawn letters -/
theorem letters_at : ∀ k, k < 26 → ([97, 98, 99, 100, 101, 102, 103, 104, 105, 106, 107, 108, 109, 110, 111, 112, 113, 114, 115, 116, 117, 118, 119, 120, 121, 122] : List Nat)[k]? = some (97 + k) := by decide +kernel
theorem letter_at (n : Int) : atI ([97, 98, 99, 100, 101, 102, 103, 104, 105, 106, 107, 108, 109, 110, 111, 112, 113, 114, 115, 116, 117, 118, 119, 120, 121, 122] : List Nat) (n % 26) = some (97 + (n % 26).toNat) := by
  have h0 : 0 ≤ n % 26 := Int.emod_nonneg _ (by decide)
  have h1 : n % 26 < 26 := Int.emod_lt_of_pos _ (by decide)
  have e : n % 26 = (((n % 26).toNat : Nat) : Int) := by omega
  rw [e]
  exact atI_nat (letters_at _ (by omega))
def wordL (ns : List Int) : List Nat := ns.map fun n => 97 + (n % 26).toNat
theorem join_chars : ∀ l : List Nat, TL.joinL [] (l.map fun c => [c]) = l
  | [] => rfl
  | [c] => rfl
  | c :: d :: l => by
    show [c] ++ ([] ++ TL.joinL [] ((d :: l).map fun c => [c])) = c :: d :: l
    rw [join_chars (d :: l)]
    rfl
theorem join_word (l : List Nat) : Txt.join (S []) (l.map fun c => (⟨#[c]⟩ : Str)) = S l := by
  have e := SX.join_S [] (l.map fun c => [c])
  rw [join_chars, List.map_map] at e
  exact e
theorem sum_ones (l : List Nat) : ((l.map fun c => (⟨#[c]⟩ : Str)).map (·.length)).sum = l.length := by
  induction l with
  | nil => rfl
  | cons c l ih =>
    rw [List.map_cons, List.map_cons, List.sum_cons, ih, List.length_cons]
    show 1 + l.length = l.length + 1
    omega
def spWord (K : PySem.W.Frag) : Sp := fun vs H Q _ => ∃ (a : Addr) (ns : List Int), vs = [.ref a] ∧ SqL K H a (ns.map V.int) ∧ ns.length ≤ 100 ∧
  ∀ (H' : Hp), Same H H' → Q (.str (S (wordL ns))) H'
abbrev s_law_word : Stmt := top 24
theorem sc_law_word : FnScope ["_law_numbers", "_law_letters", "_law_number"] ["_law_numbers"] (defScope s_law_word) := ⟨rfl, rfl, rfl, by decide +kernel, rfl, by decide +kernel, by decide +kernel⟩
theorem ok_word {f : Addr} {fd : FuncData} (F : Fun K "_law_word" "_law_word" s_law_word f fd) (T : Bt mg) : FnOk P w K mg base CX0 1 f fd ["_law_numbers"] (spWord K) := by
  refine F.ok sc_law_word (fun vs H Q E h => ?_) (fun cdv A outer s H vs Q E hr h => ?_)
  · obtain ⟨p, ns, rfl, _⟩ := h
    rfl
  · obtain ⟨a, ns, rfl, hS, hl, k⟩ := h
    refine ⟨_, (pss_cons (ps_set (i := 1) sc_law_word.nd rfl (Or.inr rfl) (pe_lit [97, 98, 99, 100, 101, 102, 103, 104, 105, 106, 107, 108, 109, 110, 111, 112, 113, 114, 115, 116, 117, 118, 119, 120, 121, 122] (by decide +kernel)))
  (pss_one (ps_ret (kjoin K (pe_lit [] (by decide +kernel)) (pe_lc (own := [("_law_number", 2)]) (g := gName 2) (tt := tYes) rfl sc_law_word.nd (kpl K (pv 0)) (blkOk_by (N := ["_law_numbers", "_law_letters", "_law_number"]) (sc := defScope s_law_word) (by decide +kernel)) (fun _ _ _ _ _ => (pg_name (i := 2) sc_law_word.nd rfl (Or.inl rfl))) (fun _ _ _ _ _ => pts_nil) (fun _ _ _ _ _ => (pe_ix (kix K) (pv 1) (pe_op op_modI (pe_callTy call_intA (by rfl) T.int (by decide +kernel) (pa_cons (pv 2) pa_nil)) pe_int) (fun _ _ => rfl)))))))), ?_⟩
    refine Rd.start_ (σ' := [some (.ref a), none, none]) rfl ?_
    walk_at "rd"
    refine Rd.lcW Rd.wList (by rw [List.length_map]; walk_at "sz") (fun i acc H' => Same H H' ∧ acc = (wordL (ns.take i)).map fun c => V.str ⟨#[c]⟩) ⟨Same.refl _, rfl⟩
      (fun D hD i acc ys H' j => ⟨same_upd j.1 hD, j.2⟩) (fun i acc H' hi j => j.1.seq hS) ?_ ?_
    · intro D hD i x acc H' hi hx hacc hlen ⟨j1, j2⟩ Kt Kf hT hF
      dsimp only [List.set]
      rw [List.getElem?_map] at hx
      obtain ⟨z, hz, rfl⟩ := Option.map_eq_some_iff.mp hx
      walk_at "rd"
      refine RS.ix (by decide) (letter_at z) ?_
      refine hT _ _ hacc ⟨j1, ?_⟩
      rw [j2]
      unfold wordL
      rw [List.take_add_one, hz]
      simp
    · intro D acc H' hD hacc hlen ⟨j1, j2⟩
      rw [List.length_map] at j2
      rw [List.take_length] at j2
      have e : acc = (((wordL ns).map fun c => (⟨#[c]⟩ : Str)).map V.str) := by rw [j2, List.map_map]; rfl
      rw [e] at hacc
      refine Rd.join (SqL.of hacc) ?_ ?_
      · rw [sum_ones]
        show _ + _ * 0 ≤ _
        unfold wordL
        rw [List.length_map]
        omega
      · rw [join_word]
        exact k H' j1

end
section
variable {P : Program} {w : World} {K : PySem.W.Frag} {mg : Str → Option Value} {base : Heap} {tk : Tok}
/-! ### names -/
/-- a name: 1 to 8 letters -/
def Nm (l : List Nat) : Prop := 1 ≤ l.length ∧ l.length ≤ 8 ∧ ∀ c ∈ l, 97 ≤ c ∧ c ≤ 122
def letterL (z : Int) : List Nat := [97 + (z % 26).toNat]
/-- the k-th name, as drawn -/
def nameL (style shift stride place size : Int) (word : List Nat) (k : Nat) : List Nat :=
  if style = 2 then letterL (shift + stride * k) ++ (word.drop k).take ((k + (place + 3 * k) % 8).toNat - k)
  else if style = 1 then word.take (1 + (k + place) % 8).toNat
  else word.take (place % size).toNat ++ letterL (shift + stride * k) ++ (word.drop (place % size + 1).toNat).take (size.toNat - (place % size + 1).toNat)
structure Drawn (style shift stride place size : Int) (word : List Nat) : Prop where
  sh : 0 ≤ shift ∧ shift < 26
  st : ∃ d : Int, 0 ≤ d ∧ d < 6 ∧ stride = 1 + 2 * d
  pl : 0 ≤ place ∧ place < 8
  sz : 1 ≤ size ∧ size ≤ 8
  wl : word.length = 8
  wc : ∀ c ∈ word, 97 ≤ c ∧ c ≤ 122
theorem letter_ok {z : Int} : ∀ c ∈ letterL z, 97 ≤ c ∧ c ≤ 122 := by
  intro c hc
  have h1 : z % 26 < 26 := Int.emod_lt_of_pos _ (by decide)
  have e : c = 97 + (z % 26).toNat := List.mem_singleton.mp hc
  omega
section
variable {style shift stride place size : Int} {word : List Nat}
theorem at_lt (D : Drawn style shift stride place size word) : 0 ≤ place % size ∧ place % size < size := ⟨Int.emod_nonneg _ (by have := D.sz; omega), Int.emod_lt_of_pos _ (by have := D.sz; omega)⟩
theorem name_ok (D : Drawn style shift stride place size word) {k : Nat} (hk : k < 8) : Nm (nameL style shift stride place size word k) := by
  obtain ⟨⟨s1, s2⟩, _, ⟨p1, p2⟩, ⟨z1, z2⟩, wl, wc⟩ := id D
  obtain ⟨a1, a2⟩ := at_lt D
  unfold nameL Nm
  by_cases h2 : style = 2
  · rw [if_pos h2]
    refine ⟨?_, ?_, ?_⟩
    · simp [letterL]
    · simp only [letterL, List.length_append, List.length_singleton, List.length_take, List.length_drop, wl]; omega
    · intro c hc
      rcases List.mem_append.mp hc with hc | hc
      · exact letter_ok c hc
      · exact wc c (List.mem_of_mem_drop (List.mem_of_mem_take hc))
  · rw [if_neg h2]
    by_cases h1 : style = 1
    · rw [if_pos h1]
      refine ⟨?_, ?_, fun c hc => wc c (List.mem_of_mem_take hc)⟩
      · rw [List.length_take, wl]; omega
      · rw [List.length_take, wl]; omega
    · rw [if_neg h1]
      refine ⟨?_, ?_, ?_⟩
      · simp only [letterL, List.length_append, List.length_singleton]; omega
      · simp only [letterL, List.length_append, List.length_singleton, List.length_take, List.length_drop, wl]; omega
      · intro c hc
        rcases List.mem_append.mp hc with hc | hc
        · rcases List.mem_append.mp hc with hc | hc
          · exact wc c (List.mem_of_mem_take hc)
          · exact letter_ok c hc
        · exact wc c (List.mem_of_mem_drop (List.mem_of_mem_take hc))
theorem letter_inj (D : Drawn style shift stride place size word) {j k : Nat} (hj : j < 8) (hk : k < 8) (e : 97 + ((shift + stride * j) % 26).toNat = 97 + ((shift + stride * k) % 26).toNat) : j = k := by
  obtain ⟨d, d0, d6, rfl⟩ := D.st
  have hd : d = 0 ∨ d = 1 ∨ d = 2 ∨ d = 3 ∨ d = 4 ∨ d = 5 := by omega
  rcases hd with rfl | rfl | rfl | rfl | rfl | rfl <;> omega
theorem name_inj (D : Drawn style shift stride place size word) {j k : Nat} (hj : j < 8) (hk : k < 8) (e : nameL style shift stride place size word j = nameL style shift stride place size word k) : j = k := by
  obtain ⟨⟨s1, s2⟩, _, ⟨p1, p2⟩, ⟨z1, z2⟩, wl, wc⟩ := id D
  obtain ⟨a1, a2⟩ := at_lt D
  unfold nameL at e
  by_cases h2 : style = 2
  · rw [if_pos h2, if_pos h2] at e
    exact letter_inj D hj hk (List.cons.inj e).1
  · rw [if_neg h2, if_neg h2] at e
    by_cases h1 : style = 1
    · rw [if_pos h1, if_pos h1] at e
      have q := congrArg List.length e
      rw [List.length_take, List.length_take, wl] at q
      omega
    · rw [if_neg h1, if_neg h1, List.append_assoc, List.append_assoc] at e
      exact letter_inj D hj hk (List.cons.inj (List.append_cancel_left e)).1
theorem names_nodup (D : Drawn style shift stride place size word) : ((List.range 8).map (nameL style shift stride place size word)).Nodup := by
  refine List.pairwise_map.mpr (List.Pairwise.imp_of_mem (fun {a b} ha hb hab e => ?_) (List.nodup_range (n := 8)))
  exact hab (name_inj D (List.mem_range.mp ha) (List.mem_range.mp hb) e)
end
/-- all but p as it was -/
def SameB (p : Addr) (H H' : Hp) : Prop := ∀ a o, a ≠ p → H a = some o → H' a = some o
theorem SameB.refl (p : Addr) (H : Hp) : SameB p H H := fun _ _ _ h => h
theorem SameB.trans {p : Addr} {H H1 H2 : Hp} (a : SameB p H H1) (b : SameB p H1 H2) : SameB p H H2 := fun c o n h => b c o n (a c o n h)
theorem SameB.of {p : Addr} {H H' : Hp} (a : Same H H') : SameB p H H' := fun c o _ h => a c o h
theorem SameB.drawn {p : Addr} {H H' : Hp} (a : ∀ b, b ≠ p → H' b = H b) : SameB p H H' := fun c o n h => by rw [a c n]; exact h
theorem SameB.upd {p D : Addr} {o : HO} {H0 H : Hp} (e : SameB p H0 H) (h : H0 D = none) : SameB p H0 (upd H D o) := fun a u n ha => by
  rw [upd_ne (ne_of_none ha h)]; exact e a u n ha
theorem fresh_of {H G : Hp} {a p : Addr} (h : G a = none) (s : SameB p H G) (n : p ≠ a) : H a = none := by
  cases e : H a with
  | none => rfl
  | some o => rw [s a o (Ne.symm n) e] at h; cases h
/-- a list of names at q -/
def NamesAt (H : Hp) (q : Addr) (ns : List (List Nat)) : Prop := H q = some (.lst (ns.map fun l => V.str (S l)))
def spNames : Sp := fun vs H Q _ => ∃ (p : Addr), vs = [.ref p] ∧ PoolAt H p ∧
  ∀ (ns : List (List Nat)) (q : Addr) (H' : Hp), ns.length = 8 → (∀ l ∈ ns, Nm l) → ns.Nodup → H q = none → SameB p H H' → PoolAt H' p → NamesAt H' q ns → Q (.ref q) H'

theorem pool_of {H H' : Hp} {p : Addr} (h : PoolAt H p) (e : Same H H') : PoolAt H' p := by
  obtain ⟨d, s, c, q⟩ := h
  exact ⟨d, s, c, e _ _ q⟩
theorem PoolAt.upd {H : Hp} {p D : Addr} {o : HO} (h : PoolAt H p) (n : p ≠ D) : PoolAt (upd H D o) p := by
  obtain ⟨d, s, c, q⟩ := h
  exact ⟨d, s, c, by rw [upd_ne n]; exact q⟩
theorem pool_ne {H : Hp} {p D : Addr} (h : PoolAt H p) (n : H D = none) : p ≠ D := by
  obtain ⟨d, s, c, q⟩ := h
  exact ne_of_none q n
theorem nameL0 {style shift stride place size : Int} {word : List Nat} {k : Nat} (h1 : ¬ style = 1) (h2 : ¬ style = 2) : nameL style shift stride place size word k = word.take (place % size).toNat ++ letterL (shift + stride * k) ++ (word.drop (place % size + 1).toNat).take (size.toNat - (place % size + 1).toNat) := by
  unfold nameL; rw [if_neg h2, if_neg h1]
theorem nameL1 {style shift stride place size : Int} {word : List Nat} {k : Nat} (h1 : style = 1) : nameL style shift stride place size word k = word.take (1 + (k + place) % 8).toNat := by
  unfold nameL; rw [if_neg (by omega), if_pos h1]
theorem nameL2 {style shift stride place size : Int} {word : List Nat} {k : Nat} (h2 : style = 2) : nameL style shift stride place size word k = letterL (shift + stride * k) ++ (word.drop k).take ((k + (place + 3 * k) % 8).toNat - k) := by
  unfold nameL; rw [if_pos h2]
abbrev s_law_names : Stmt := top 25
theorem sc_law_names : FnScope ["_law_pool_here", "_law_style", "_law_shift", "_law_stride", "_law_place", "_law_size", "_law_word_here", "_law_names_here", "_law_k", "_law_letter", "_law_at", "_law_name"] ["_law_pool_here"] (defScope s_law_names) := ⟨rfl, rfl, rfl, by decide +kernel, rfl, by decide +kernel, by decide +kernel⟩
theorem ok_names {f : Addr} {fd : FuncData} (F : Fun K "_law_names" "_law_names" s_law_names f fd) (T : Bt mg) (dD : Df K mg "_law_draw" "_law_draw" s_law_draw ["_law_pool_here", "_law_many"]) (dW : Df K mg "_law_word" "_law_word" s_law_word ["_law_numbers"]) :
    FnOk P w K mg base CX0 2 f fd ["_law_pool_here"] spNames := by
  have GD : FnOk P w K mg base CX0 1 dD.f dD.fd _ spDraw := ok_draw dD.F T
  have GW : FnOk P w K mg base CX0 1 dW.f dW.fd _ (spWord K) := ok_word dW.F T
  refine F.ok sc_law_names (fun vs H Q E h => ?_) (fun cdv A outer s H vs Q E hr h => ?_)
  · obtain ⟨p, rfl, _⟩ := h
    rfl
  · obtain ⟨p, rfl, hp, k⟩ := h
    have hu := hr.units
    refine ⟨_, (pss_cons (ps_set (i := 1) sc_law_names.nd rfl (Or.inl rfl) (pe_cf dD GD hr pass0 (pa_cons (pv 0) (pa_cons pe_int pa_nil))))
  (pss_cons (ps_set (i := 2) sc_law_names.nd rfl (Or.inl rfl) (pe_cf dD GD hr pass0 (pa_cons (pv 0) (pa_cons pe_int pa_nil))))
  (pss_cons (ps_set (i := 3) sc_law_names.nd rfl (Or.inl rfl) (pe_op op_addA pe_int (pe_op op_mulA pe_int (pe_cf dD GD hr pass0 (pa_cons (pv 0) (pa_cons pe_int pa_nil))))))
  (pss_cons (ps_set (i := 4) sc_law_names.nd rfl (Or.inl rfl) (pe_cf dD GD hr pass0 (pa_cons (pv 0) (pa_cons pe_int pa_nil))))
  (pss_cons (ps_set (i := 5) sc_law_names.nd rfl (Or.inl rfl) (pe_op op_addA pe_int (pe_cf dD GD hr pass0 (pa_cons (pv 0) (pa_cons pe_int pa_nil)))))
  (pss_cons (ps_set (i := 6) sc_law_names.nd rfl (Or.inl rfl) (pe_cf dW GW hr pass0 (pa_cons (pe_lc (own := [("_law_k", 8)]) (g := gName 8) (tt := tYes) rfl sc_law_names.nd (pi_range1 rfl T.range (pa_cons pe_int pa_nil)) (blkOk_by (N := ["_law_pool_here", "_law_style", "_law_shift", "_law_stride", "_law_place", "_law_size", "_law_word_here", "_law_names_here", "_law_k", "_law_letter", "_law_at", "_law_name"]) (sc := defScope s_law_names) (by decide +kernel)) (fun _ _ _ _ _ => (pg_name (i := 8) sc_law_names.nd rfl (Or.inl rfl))) (fun _ _ _ _ _ => pts_nil) (fun _ _ _ _ _ => (pe_cf dD GD hr pass0 (pa_cons (pv 0) (pa_cons pe_int pa_nil))))) pa_nil)))
  (pss_cons (ps_set (i := 7) sc_law_names.nd rfl (Or.inl rfl) (pe_lst pa_nil))
  (pss_cons (ps_for PassesOwn.never rfl (pi_range1 rfl T.range (pa_cons pe_int pa_nil)) (pg_name (i := 8) sc_law_names.nd rfl (Or.inl rfl))
  (pss_cons (ps_set (i := 9) sc_law_names.nd rfl (Or.inl rfl) (pe_cf dW GW hr pass0 (pa_cons (pe_lst (pa_cons (pe_op op_addA (pv 2) (pe_op op_mulA (pv 3) (pv 8))) pa_nil)) pa_nil)))
  (pss_cons (ps_set (i := 10) sc_law_names.nd rfl (Or.inl rfl) (pe_op op_modI (pe_callTy call_intA (by rfl) T.int (by decide +kernel) (pa_cons (pv 4) pa_nil)) (pv 5)))
  (pss_cons (ps_set (i := 11) sc_law_names.nd rfl (Or.inl rfl) (pe_op op_addA (pe_op op_addA (pe_slice (ksl K) (pv 6) po_none (po_some (pv 10))) (pv 9)) (pe_slice (ksl K) (pv 6) (po_some (pe_op op_addA (pv 10) pe_int)) (po_some (pv 5)))))
  (pss_cons (ps_if (pt_cmpR (keq K hu) (pv 1) pe_int (nomark _)) (pss_one (ps_set (i := 11) sc_law_names.nd rfl (Or.inl rfl) (pe_slice (ksl K) (pv 6) po_none (po_some (pe_op op_addA pe_int (pe_op op_modI (pe_callTy call_intA (by rfl) T.int (by decide +kernel) (pa_cons (pe_op op_addA (pv 8) (pv 4)) pa_nil)) pe_int))))))
  pss_nil)
  (pss_cons (ps_if (pt_cmpR (keq K hu) (pv 1) pe_int (nomark _)) (pss_one (ps_set (i := 11) sc_law_names.nd rfl (Or.inl rfl) (pe_op op_addA (pv 9) (pe_slice (ksl K) (pv 6) (po_some (pv 8)) (po_some (pe_op op_addA (pv 8) (pe_op op_modI (pe_callTy call_intA (by rfl) T.int (by decide +kernel) (pa_cons (pe_op op_addA (pv 4) (pe_op op_mulA pe_int (pv 8))) pa_nil)) pe_int)))))))
  pss_nil)
  (pss_one (ps_expr (kapp K (pv 7) (pa_cons (pv 11) pa_nil))))))))))
  (pss_one (ps_ret (pv 7))))))))))), ?_⟩
    refine Rd.start_ (σ' := [some (.ref p), none, none, none, none, none, none, none, none, none, none, none]) rfl ?_
    walk_at "rd"
    refine ⟨_, _, rfl, by decide, by decide, hp, fun style H1 a1 b1 e1 p1 => ?_⟩
    walk_at "rd"
    refine ⟨_, _, rfl, by decide, by decide, p1, fun shift H2 a2 b2 e2 p2 => ?_⟩
    walk_at "rd"
    refine ⟨_, _, rfl, by decide, by decide, p2, fun d H3 a3 b3 e3 p3 => ?_⟩
    walk_at "rd"
    refine ⟨_, _, rfl, by decide, by decide, p3, fun place H4 a4 b4 e4 p4 => ?_⟩
    walk_at "rd"
    refine ⟨_, _, rfl, by decide, by decide, p4, fun sz H5 a5 b5 e5 p5 => ?_⟩
    have s5 : SameB p H H5 := fun a o n h => by rw [e5 a n, e4 a n, e3 a n, e2 a n, e1 a n]; exact h
    walk_at "rd"
    refine Rd.lcW Rd.wRange (by decide) (fun i acc H' => SameB p H5 H' ∧ PoolAt H' p ∧ ∃ ns : List Int, ns.length = i ∧ acc = ns.map V.int) ⟨SameB.refl _ _, p5, [], rfl, rfl⟩
      (fun D hD i acc ys H' ⟨j1, j2, j3⟩ => ⟨j1.upd hD, PoolAt.upd j2 (pool_ne p5 hD), j3⟩) (fun _ _ _ _ _ => trivial) ?_ ?_
    · intro D hD i x acc H' hi hx hacc hlen ⟨j1, j2, ns, j3, j4⟩ Kt Kf hT hF
      dsimp only [List.set]
      walk_at "rd"
      refine ⟨_, _, rfl, by decide, by decide, j2, fun r H6 r0 r1 e6 p6 => ?_⟩
      refine hT _ _ ?_ ⟨j1.trans (SameB.drawn e6), p6, ns ++ [r], by rw [List.length_append, j3]; rfl, by rw [j4, List.map_append]; rfl⟩
      rw [e6 D (Ne.symm (pool_ne p5 hD))]
      exact hacc
    intro D acc H6 hD hacc hlen ⟨j1, j2, ns, j3, j4⟩
    rw [j4] at hacc
    walk_at "rd"
    refine ⟨_, ns, rfl, SqL.of hacc, by rw [j3]; decide, fun H7 s7 => ?_⟩
    have wl : (wordL ns).length = 8 := by unfold wordL; rw [List.length_map]; exact j3
    have wc : ∀ c ∈ wordL ns, 97 ≤ c ∧ c ≤ 122 := by
      intro c hc
      obtain ⟨z, _, rfl⟩ := List.mem_map.mp hc
      have := Int.emod_lt_of_pos z (show (0 : Int) < 26 by decide)
      omega
    generalize wordL ns = word at wl wc ⊢
    have D8 : Drawn style shift (1 + 2 * d) place (1 + sz) word := ⟨⟨a2, b2⟩, ⟨d, a3, b3, rfl⟩, ⟨a4, b4⟩, ⟨by omega, by omega⟩, wl, wc⟩
    have s7' : SameB p H H7 := (s5.trans j1).trans (SameB.of s7)
    have p7 : PoolAt H7 p := pool_of j2 s7
    walk_at "rd"
    refine ⟨Nat.zero_le _, fun q hq => ?_⟩
    have hq0 : H q = none := by
      cases e : H q with
      | none => rfl
      | some o => rw [s7' q o (Ne.symm (pool_ne p7 hq)) e] at hq; cases hq
    have npq := pool_ne p7 hq
    walk_at "rd"
    refine Rd.foW Rd.wRange (fun i σ H' => ∃ a b c d' : Option V, σ = [some (.ref p), some (.int style), some (.int shift), some (.int (1 + 2 * d)), some (.int place), some (.int (1 + sz)), some (.str (S word)), some (.ref q), a, b, c, d'] ∧
      SameB p H H' ∧ PoolAt H' p ∧ NamesAt H' q ((List.range i).map (nameL style shift (1 + 2 * d) place (1 + sz) word)))
      ⟨none, none, none, none, rfl, s7'.upd hq0, p7.upd npq, upd_same⟩ (fun _ _ _ _ _ => trivial) ?_ ?_
    · rintro i x σ H8 hi hx ⟨a, b, c, d', rfl, t1, t2, t3⟩
      rw [Int.zero_add] at hx
      subst hx
      have hi8 : i < 8 := hi
      dsimp only [List.set]
      have fin : ∀ (z : List Nat) (σ' : St), (∃ a b c d' : Option V, σ' = [some (.ref p), some (.int style), some (.int shift), some (.int (1 + 2 * d)), some (.int place), some (.int (1 + sz)), some (.str (S word)), some (.ref q), a, b, c, d']) → ∀ H9, SameB p H H9 → PoolAt H9 p → H9 q = some (.lst (((List.range i).map (nameL style shift (1 + 2 * d) place (1 + sz) word)).map (fun l => V.str (S l)) ++ [.str (S z)])) → z = nameL style shift (1 + 2 * d) place (1 + sz) word i →
          ∃ a b c d' : Option V, σ' = [some (.ref p), some (.int style), some (.int shift), some (.int (1 + 2 * d)), some (.int place), some (.int (1 + sz)), some (.str (S word)), some (.ref q), a, b, c, d'] ∧
      SameB p H H9 ∧ PoolAt H9 p ∧ NamesAt H9 q ((List.range (i + 1)).map (nameL style shift (1 + 2 * d) place (1 + sz) word)) := by
        rintro z σ' ⟨a, b, c, d', e⟩ H9 q1 q2 q3 rfl
        refine ⟨a, b, c, d', e, q1, q2, ?_⟩
        unfold NamesAt
        rw [List.range_succ, List.map_append, List.map_append]
        exact q3
      walk_at "rd"
      refine ⟨by show 1 ≤ sizeLine; decide, fun l hl => ?_⟩
      walk_at "rd"
      refine ⟨_, [shift + (1 + 2 * d) * i], rfl, SqL.of upd_same, (by show 1 ≤ 100; decide), fun H9 s9 => ?_⟩
      have t1' : SameB p H H9 := (t1.trans (SameB.of (same_new hl))).trans (SameB.of s9)
      have t2' : PoolAt H9 p := pool_of (pool_of t2 (same_new hl)) s9
      have t3' : H9 q = some (.lst (((List.range i).map (nameL style shift (1 + 2 * d) place (1 + sz) word)).map (fun l => V.str (S l)))) := s9 _ _ (same_new hl _ _ t3)
      have g0 : 0 ≤ place % (1 + sz) := Int.emod_nonneg _ (by omega)
      have g1 : place % (1 + sz) < 1 + sz := Int.emod_lt_of_pos _ (by omega)
      have wl1 : word.length ≤ 900 := by omega
      have ll : (wordL [shift + (1 + 2 * d) * ↑i]).length = 1 := rfl
      have hq9 : (((List.range i).map (nameL style shift (1 + 2 * d) place (1 + sz) word)).map (fun l => V.str (S l))).length < sizeLine := by
        rw [List.length_map, List.length_map, List.length_range]
        exact Nat.lt_trans hi8 (by decide)
      have en : ∀ z : List Nat, SameB p H (upd H9 q (.lst (((List.range i).map (nameL style shift (1 + 2 * d) place (1 + sz) word)).map (fun l => V.str (S l)) ++ [.str (S z)]))) ∧ PoolAt (upd H9 q (.lst (((List.range i).map (nameL style shift (1 + 2 * d) place (1 + sz) word)).map (fun l => V.str (S l)) ++ [.str (S z)]))) p :=
        fun z => ⟨t1'.upd hq0, t2'.upd npq⟩
      walk_at "rd"
      refine Rd.iteD (fun c1 => ?_) (fun c1 => ?_)
      · walk_at "rd"
        refine Rd.iteD (fun c2 => absurd c2 (by omega)) (fun c2 => ?_)
        walk_at "rd"
        exact fin _ _ ⟨_, _, _, _, rfl⟩ _ (en _).1 (en _).2 upd_same (nameL1 c1).symm
      · walk_at "rd"
        refine Rd.iteD (fun c2 => ?_) (fun c2 => ?_)
        · walk_at "rd"
          exact fin _ _ ⟨_, _, _, _, rfl⟩ _ (en _).1 (en _).2 upd_same (nameL2 c2).symm
        · walk_at "rd"
          exact fin _ _ ⟨_, _, _, _, rfl⟩ _ (en _).1 (en _).2 upd_same (nameL0 c1 c2).symm
    · rintro σ H8 ⟨a, b, c, d', rfl, t1, t2, t3⟩
      walk_at "rd"
      exact k _ q H8 (by rw [List.length_map, List.length_range]) (fun l hl => by
        obtain ⟨j, hj, rfl⟩ := List.mem_map.mp hl
        exact name_ok D8 (List.mem_range.mp hj)) (names_nodup D8) hq0 t1 t2 t3

end
section
variable {P : Program} {w : World} {K : PySem.W.Frag} {mg : Str → Option Value} {base : Heap} {tk : Tok}
/-! ### the error BadName, require_name -/
abbrev s_BadName___init : Stmt := inClass (top 3) 0
theorem sc_BadName___init : FnScope ["self", "name"] ["self", "name"] (defScope s_BadName___init) := ⟨rfl, rfl, rfl, by decide +kernel, rfl, by decide +kernel, by decide +kernel⟩
abbrev ErN (K : PySem.W.Frag) (mg : Str → Option Value) := Er K mg "BadName" "BadName.__init__" "name" s_BadName___init
theorem ok_bni (r : ErN K mg) : FnOk P w K mg base CX0 1 r.f r.fd ["self", "name"] (spErI r.C "name") := by
  refine r.F.ok sc_BadName___init (fun vs H Q E h => ?_) (fun cdv A outer s H vs Q E hr h => ?_)
  · obtain ⟨a, v, rfl, _⟩ := h
    rfl
  · obtain ⟨a, v, rfl, ha, k⟩ := h
    refine ⟨_, (pss_one (kost K (pv 0) (pv 1))), ?_⟩
    refine Rd.start_ (σ' := [some (.ref a), some v]) rfl ?_
    walk_at "rd"
    exact ⟨a, r.C, rfl, r.T, r.no, .inl ⟨ha, k⟩⟩
/-- an error of the class at C with one field -/
def Raised (E : XK) (C : Addr) (fld : Str) (v : V) (H : Hp) : Prop := ∀ d H', Same H H' → H' d = some (.xd [(fld, v)]) → E (.ref C) (some d) H'
def spReq (C : Addr) : Sp := fun vs H Q E => ∃ l : List Nat, vs = [.str (S l)] ∧ l.length ≤ 100 ∧ (Nm l → ∀ H', Same H H' → Q .non H') ∧ (¬ Nm l → Raised E C "name" (.str (S l)) H)
def lett (l : List Nat) : List Nat := l.filter fun c => decide (97 ≤ c ∧ c ≤ 122)
theorem lett_all {l : List Nat} : (lett l).length < l.length ↔ ¬ ∀ c ∈ l, 97 ≤ c ∧ c ≤ 122 := by
  unfold lett
  constructor
  · intro h z
    rw [List.filter_eq_self.mpr (fun c hc => decide_eq_true (z c hc))] at h
    omega
  · intro h
    refine Nat.lt_of_le_of_ne (List.length_filter_le _ _) fun e => h fun c hc => ?_
    exact of_decide_eq_true (List.length_filter_eq_length_iff.mp e c hc)
abbrev s_require_name : Stmt := top 9
theorem sc_require_name : FnScope ["text", "letters", "sign"] ["text"] (defScope s_require_name) := ⟨rfl, rfl, rfl, by decide +kernel, rfl, by decide +kernel, by decide +kernel⟩
theorem ok_req {f : Addr} {fd : FuncData} (F : Fun K "require_name" "require_name" s_require_name f fd) (T : Bt mg) (eN : ErN K mg) (gL : mg "LONGEST_NAME" = some (.int 8 tk)) : FnOk P w K mg base (L2.CX P w) 3 f fd ["text"] (spReq eN.C) := by
  have GN : FnOk P w K mg base CX0 1 eN.f eN.fd _ (spErI eN.C "name") := ok_bni eN
  refine F.okX sc_require_name (fun vs H Q E h => ?_) (fun cdv A outer s H vs Q E hr h => ?_)
  · obtain ⟨l, rfl, _⟩ := h
    rfl
  · obtain ⟨l, rfl, hl, k1, k2⟩ := h
    have hu := hr.units
    refine ⟨_, (pss_cons (ps_setLc (i := 1) (own := [("sign", 2)]) (g := gName 2) rfl sc_require_name.nd rfl rfl (sw_true rfl rfl rfl (by decide +kernel)) (pi_str (pv 0)) (blkOk_by (N := ["text", "letters", "sign"]) (sc := defScope s_require_name) (by decide +kernel)) (fun _ _ _ _ _ => (pg_name (i := 2) sc_require_name.nd rfl (Or.inl rfl))) (fun _ _ _ _ _ => (pts_one (pt_chain op_leA op_leA (pe_lit [97] (by decide +kernel)) (pv 2) (pe_lit [122] (by decide +kernel))))) (fun _ _ _ _ _ => (pv 2)))
  (pss_one (ps_if (PW.pt (pw_or (pt_not (pt_chain op_leA op_leA pe_int (pe_callB (klen K) (by rfl) T.len (by decide +kernel) (pa_cons (pv 0) pa_nil)) (pe_glob (v := .int 8) rfl gL ⟨_, rfl⟩))) (pw_or1 (pt_cmpR op_ltA (pe_callB (klen K) (by rfl) T.len (by decide +kernel) (pa_cons (pv 1) pa_nil)) (pe_callB (klen K) (by rfl) T.len (by decide +kernel) (pa_cons (pv 0) pa_nil)) (nomark _))))) (pss_one (ps_raise rfl (takes_of rfl rfl rfl rfl) (pmk_er eN GN hr (pa_cons (pv 0) pa_nil))))
  pss_nil))), ?_⟩
    refine Rd.start_ (σ' := [some (.str (S l)), none, none]) rfl ?_
    walk_at "rd"
    refine Rd.lcW Rd.wStr (by show l.toArray.size < _; rw [List.size_toArray]; walk_at "sz") (fun i acc H' => Same H H' ∧ acc = (lett (l.take i)).map fun c => V.str (S [c])) ⟨Same.refl _, rfl⟩
      (fun D hD i acc ys H' j => ⟨same_upd j.1 hD, j.2⟩) (fun _ _ _ _ _ => trivial) ?_ ?_
    · rintro D hD i x acc H' hi ⟨c, hc, rfl⟩ hacc hlen ⟨j1, j2⟩ Kt Kf hT hF
      dsimp only [List.set]
      have hc' : l[i]? = some c := by
        rw [List.getElem?_toArray] at hc; exact hc
      have e1 : ∀ b : Bool, decide (97 ≤ c ∧ c ≤ 122) = b → lett (l.take (i + 1)) = lett (l.take i) ++ (if b then [c] else []) := by
        intro b hb
        unfold lett
        rw [List.take_add_one, hc', List.filter_append]
        congr 1
        cases b with
        | true => simp [of_decide_eq_true hb]
        | false =>
          have := of_decide_eq_false hb
          simp only [Option.toList, List.filter_cons, hb]
          rfl
      walk_at "rd"
      refine Rd.iteD (fun c1 => ?_) (fun c1 => ?_)
      · walk_at "rd"
        refine Rd.iteD (fun c2 => ?_) (fun c2 => ?_)
        · walk_at "rd"
          refine hT _ _ hacc ⟨j1, ?_⟩
          rw [j2, e1 true (decide_eq_true ⟨c1, c2⟩), List.map_append]
          rfl
        · refine hF _ hacc ⟨j1, ?_⟩
          rw [j2, e1 false (decide_eq_false fun z => c2 z.2), List.map_append]
          simp
      · walk_at "rd"
        refine hF _ hacc ⟨j1, ?_⟩
        rw [j2, e1 false (decide_eq_false fun z => c1 z.1), List.map_append]
        simp
    · intro D acc H' hD hacc hlen ⟨j1, j2⟩
      have e0 : l.take (S l).cps.size = l := by
        show l.take l.toArray.size = l
        rw [List.size_toArray, List.take_length]
      rw [e0] at j2
      have hal : acc.length = (lett l).length := by rw [j2, List.length_map]
      have good : Nm l → Q .non H' := fun n => k1 n H' j1
      have badE : ¬ Nm l → ∀ d, H' d = none → E (.ref eN.C) (some d) (upd H' d (.xd [("name", .str (S l))])) := fun n d hd => k2 n d _ (Same.trans j1 (same_new hd)) upd_same
      walk_at "rd"
      refine Rd.iteD (fun c1 => ?_) (fun c1 => ?_)
      · walk_at "rd"
        refine Rd.iteN (fun c2 => ?_) (fun c2 => ?_)
        · walk_at "rd"
          exact Rd.erGo (badE fun n => c2 (by have := n.2.1; omega))
        · walk_at "rd"
          refine Rd.iteD (fun c3 => ?_) (fun c3 => ?_)
          · walk_at "rd"
            rw [hal] at c3
            exact Rd.erGo (badE fun n => lett_all.mp (by omega) n.2.2)
          · walk_at "rd"
            rw [hal] at c3
            refine good ⟨by omega, by omega, ?_⟩
            exact Classical.byContradiction fun z => c3 (by have := lett_all.mpr z; omega)
      · walk_at "rd"
        exact Rd.erGo (badE fun n => c1 (by have := n.1; omega))

end
section
variable {P : Program} {w : World} {K : PySem.W.Frag} {mg : Str → Option Value} {base : Heap} {tk : Tok}
/-! ### roles -/
/-- a class of roles -/
structure Rc (K : PySem.W.Frag) (mg : Str → Option Value) (mI : Addr) (nm : Str) (mk : List Nat) where
  C : Addr
  g : mg nm = some (.ref C)
  cl : Cls K C
  M : Mk K C mI
  nN : NoAttr K C "name"
  nG : NoAttr K C "group"
  u : Value
  mark : Con K C "MARK" (.str (S mk)) u
  ha : PySem.W.findIn K (.ref C) "__class__" = some (some (.builtin "object.__class__"))
  hn : PySem.W.specialIn K (.builtin "object.__class__") "__get__" = some (some (.builtin "getset_descriptor.__get__"))
  htk : PySem.W.takesIn K (.builtin "object.__class__") = some true
  hm : PySem.W.mroIn K C (.type "object") = some true
def flds (n g : List Nat) : List (Str × V) := [("name", .str (S n)), ("group", .str (S g))]
theorem ng_ne : ¬ (("name" : Str) = "group") := by decide +kernel
theorem flds_put (v : V) (n g : List Nat) : putF "group" (.str (S g)) (putF "name" (.str (S n)) []) = flds n g := by
  show (if ("name" : Str) = "group" then [(("name" : Str), V.str (S g))] else (("name" : Str), V.str (S n)) :: putF "group" (V.str (S g)) []) = flds n g
  rw [if_neg ng_ne]
  rfl
theorem flds_name (n g : List Nat) : (flds n g).lookup ("name" : Str) = some (.str (S n)) := by
  unfold flds; simp [List.lookup]
theorem flds_group (n g : List Nat) : (flds n g).lookup ("group" : Str) = some (.str (S g)) := by
  have e : (("group" : Str) == "name") = false := by decide +kernel
  unfold flds; simp [List.lookup, e]
theorem flds_no (n g : List Nat) {m : Str} (h1 : (m == ("name" : Str)) = false) (h2 : (m == ("group" : Str)) = false) : (flds n g).lookup m = none := by
  unfold flds; simp [List.lookup, h1, h2]
/-- a role of the class at C stands at x -/
def RoleAt (C : Addr) (H : Hp) (x : Addr) (n g : List Nat) : Prop := ∃ dx, H x = some (.ins C dx (flds n g))
theorem RoleAt.mono {C : Addr} {H H' : Hp} {x : Addr} {n g : List Nat} (h : RoleAt C H x n g) (e : Same H H') : RoleAt C H' x n g := by
  obtain ⟨dx, h⟩ := h
  exact ⟨dx, e _ _ h⟩
def spInit (K : PySem.W.Frag) (eC : Addr) : Sp := fun vs H Q E => ∃ (p C dx : Addr) (n g : List Nat), vs = [.ref p, .str (S n), .str (S g)] ∧ n.length ≤ 100 ∧ g.length ≤ 100 ∧ Cls K C ∧ NoAttr K C "name" ∧ NoAttr K C "group" ∧ H p = some (.ins C dx []) ∧
  (Nm n → Nm g → ∀ H', SameB p H H' → H' p = some (.ins C dx (flds n g)) → Q .non H') ∧ (¬ Nm n → Raised E eC "name" (.str (S n)) H) ∧ (Nm n → ¬ Nm g → Raised E eC "name" (.str (S g)) H)
abbrev s_Role___init : Stmt := inClass (top 11) 1
theorem sc_Role___init : FnScope ["self", "name", "group"] ["self", "name", "group"] (defScope s_Role___init) := ⟨rfl, rfl, rfl, by decide +kernel, rfl, by decide +kernel, by decide +kernel⟩
theorem Raised.mono {E : XK} {C : Addr} {fld : Str} {v : V} {H H' : Hp} (h : Raised E C fld v H) (e : Same H H') : Raised E C fld v H' := fun d G s q => h d G (e.trans s) q
abbrev DReq (K : PySem.W.Frag) (mg : Str → Option Value) := Df K mg "require_name" "require_name" s_require_name ["text"]
abbrev MInit (K : PySem.W.Frag) := Mf K "__init__" "Role.__init__" s_Role___init ["self", "name", "group"]
theorem ok_init (m : MInit K) (T : Bt mg) (dR : DReq K mg) (eN : ErN K mg) (gL : mg "LONGEST_NAME" = some (.int 8 tk)) : FnOk P w K mg base (L2.CX P w) 4 m.f m.fd ["self", "name", "group"] (spInit K eN.C) := by
  have GR : FnOk P w K mg base (L2.CX P w) 3 dR.f dR.fd _ (spReq eN.C) := ok_req dR.F T eN gL
  refine m.F.okX sc_Role___init (fun vs H Q E h => ?_) (fun cdv A outer s H vs Q E hr h => ?_)
  · obtain ⟨p, C, dx, n, g, rfl, _⟩ := h
    rfl
  · obtain ⟨p, C, dx, n, g, rfl, hn, hg, cl, nN, nG, hp, k1, k2, k3⟩ := h
    refine ⟨_, (pss_cons (ps_expr (pe_cf dR GR hr (passes_call (takes_of rfl rfl rfl rfl) (fun _ _ _ _ h => h)) (pa_cons (pv 1) pa_nil)))
  (pss_cons (ps_expr (pe_cf dR GR hr (passes_call (takes_of rfl rfl rfl rfl) (fun _ _ _ _ h => h)) (pa_cons (pv 2) pa_nil)))
  (pss_cons (kset (pv 0) (pv 1))
  (pss_one (kset (pv 0) (pv 2)))))), ?_⟩
    refine Rd.start_ (σ' := [some (.ref p), some (.str (S n)), some (.str (S g))]) rfl ?_
    walk_at "rd"
    refine ⟨n, rfl, hn, fun a1 H1 s1 => ?_, fun a1 => k2 a1⟩
    walk_at "rd"
    refine ⟨g, rfl, hg, fun a2 H2 s2 => ?_, fun a2 => (k3 a1 a2).mono s1⟩
    walk_at "rd"
    have hp2 := s2 _ _ (s1 _ _ hp)
    refine ⟨p, C, dx, [], rfl, hp2, cl, nN, by decide, ?_⟩
    walk_at "rd"
    refine ⟨p, C, dx, _, rfl, upd_same, cl, nG, by show 1 < 1000; decide, ?_⟩
    refine k1 a1 a2 _ (fun a o na ha => ?_) ?_
    · rw [upd_ne na, upd_ne na]
      exact s2 _ _ (s1 _ _ ha)
    · rw [upd_same, flds_put .non]
/-- C(name, group), C a class of roles -/
theorem mk_go {mI : Addr} {nm : Str} {mk : List Nat} (c : Rc K mg mI nm mk) {eC : Addr} {n g : List Nat} {H : Hp} {Q : VK} {E : XK} (hn : n.length ≤ 100) (hg : g.length ≤ 100)
    (k1 : Nm n → Nm g → ∀ x H', H x = none → Same H H' → RoleAt c.C H' x n g → Q (.ref x) H') (k2 : ¬ Nm n → Raised E eC "name" (.str (S n)) H) (k3 : Nm n → ¬ Nm g → Raised E eC "name" (.str (S g)) H) :
    MkGo c.C (spInit K eC) [.str (S n), .str (S g)] H Q E := by
  intro x dx hx hd ne
  have s0 : Same H (upd (upd H dx (.own x)) x (.ins c.C dx [])) := fun b o e => by
    rw [upd_ne (ne_of_none e hx), upd_ne (ne_of_none e hd)]; exact e
  refine ⟨x, c.C, dx, n, g, rfl, hn, hg, c.cl, c.nN, c.nG, upd_same, fun a1 a2 H' s1 h1 => ⟨rfl, ?_⟩, fun a1 => (k2 a1).mono s0, fun a1 a2 => (k3 a1 a2).mono s0⟩
  exact k1 a1 a2 x H' hx (fun b o e => s1 b o (ne_of_none e hx) (s0 b o e)) ⟨dx, h1⟩
/-! ### their methods -/
def spTells (v : V) : Sp := fun vs H Q _ => ∃ p : Addr, vs = [.ref p] ∧ Q v H
theorem ok_tells {nm qual : Str} {st : Stmt} {pos pos' : Pos} {j : Nat} {b : Bool} (m : Mf K nm qual st ["self"]) (S0 : FnScope ["self"] ["self"] (defScope st)) (hb : defBody st = [.Return (some (.Constant (.bool b) j pos)) pos']) : FnOk P w K mg base CX0 1 m.f m.fd ["self"] (spTells (.bl b)) := by
  refine m.F.ok S0 (fun vs H Q E h => ?_) (fun cdv A outer s H vs Q E hr h => ?_)
  · obtain ⟨p, rfl, _⟩ := h
    rfl
  · obtain ⟨p, rfl, k⟩ := h
    rw [hb]
    exact ⟨_, pss_one (ps_ret pe_bl), k⟩
abbrev s_Role_reads : Stmt := inClass (top 11) 2
theorem sc_Role_reads : FnScope ["self"] ["self"] (defScope s_Role_reads) := ⟨rfl, rfl, rfl, by decide +kernel, rfl, by decide +kernel, by decide +kernel⟩
abbrev s_Role_makes : Stmt := inClass (top 11) 3
theorem sc_Role_makes : FnScope ["self"] ["self"] (defScope s_Role_makes) := ⟨rfl, rfl, rfl, by decide +kernel, rfl, by decide +kernel, by decide +kernel⟩
abbrev s_Read_reads : Stmt := inClass (top 12) 1
theorem sc_Read_reads : FnScope ["self"] ["self"] (defScope s_Read_reads) := ⟨rfl, rfl, rfl, by decide +kernel, rfl, by decide +kernel, by decide +kernel⟩
abbrev s_Fresh_makes : Stmt := inClass (top 13) 1
theorem sc_Fresh_makes : FnScope ["self"] ["self"] (defScope s_Fresh_makes) := ⟨rfl, rfl, rfl, by decide +kernel, rfl, by decide +kernel, by decide +kernel⟩
abbrev s_Made_makes : Stmt := inClass (top 15) 1
theorem sc_Made_makes : FnScope ["self"] ["self"] (defScope s_Made_makes) := ⟨rfl, rfl, rfl, by decide +kernel, rfl, by decide +kernel, by decide +kernel⟩
abbrev MRr (K : PySem.W.Frag) := Mf K "reads" "Role.reads" s_Role_reads ["self"]
theorem ok_Rr (m : MRr K) : FnOk P w K mg base CX0 1 m.f m.fd ["self"] (spTells (.bl false)) := ok_tells m sc_Role_reads rfl
abbrev MRm (K : PySem.W.Frag) := Mf K "makes" "Role.makes" s_Role_makes ["self"]
theorem ok_Rm (m : MRm K) : FnOk P w K mg base CX0 1 m.f m.fd ["self"] (spTells (.bl false)) := ok_tells m sc_Role_makes rfl
abbrev MEr (K : PySem.W.Frag) := Mf K "reads" "Read.reads" s_Read_reads ["self"]
theorem ok_Er (m : MEr K) : FnOk P w K mg base CX0 1 m.f m.fd ["self"] (spTells (.bl true)) := ok_tells m sc_Read_reads rfl
abbrev MFm (K : PySem.W.Frag) := Mf K "makes" "Fresh.makes" s_Fresh_makes ["self"]
theorem ok_Fm (m : MFm K) : FnOk P w K mg base CX0 1 m.f m.fd ["self"] (spTells (.bl true)) := ok_tells m sc_Fresh_makes rfl
abbrev MMm (K : PySem.W.Frag) := Mf K "makes" "Made.makes" s_Made_makes ["self"]
theorem ok_Mm (m : MMm K) : FnOk P w K mg base CX0 1 m.f m.fd ["self"] (spTells (.bl true)) := ok_tells m sc_Made_makes rfl

end
section
variable {P : Program} {w : World} {K : PySem.W.Frag} {mg : Str → Option Value} {base : Heap} {tk : Tok}
/-! ### the law's helpers -/
structure Six (K : PySem.W.Frag) (mg : Str → Option Value) (mI : Addr) where
  r : Rc K mg mI "Role" []
  e : Rc K mg mI "Read" [114]
  m : Rc K mg mI "Made" [109]
  f : Rc K mg mI "Fresh" [102]
  b : Rc K mg mI "Both" [114, 109]
  w : Rc K mg mI "Renewed" [114, 102]
section
variable {mI : Addr}
/-- the class of the mode m -/
def Six.C (c : Six K mg mI) : Nat → Addr
  | 0 => c.e.C
  | 1 => c.m.C
  | 2 => c.f.C
  | 3 => c.b.C
  | 4 => c.w.C
  | _ => c.r.C
theorem Six.cl (c : Six K mg mI) (m : Nat) : Cls K (c.C m) := match m with
  | 0 => c.e.cl
  | 1 => c.m.cl
  | 2 => c.f.cl
  | 3 => c.b.cl
  | 4 => c.w.cl
  | _ + 5 => c.r.cl
theorem Six.nN (c : Six K mg mI) (m : Nat) : NoAttr K (c.C m) "name" := match m with
  | 0 => c.e.nN
  | 1 => c.m.nN
  | 2 => c.f.nN
  | 3 => c.b.nN
  | 4 => c.w.nN
  | _ + 5 => c.r.nN
theorem Six.nG (c : Six K mg mI) (m : Nat) : NoAttr K (c.C m) "group" := match m with
  | 0 => c.e.nG
  | 1 => c.m.nG
  | 2 => c.f.nG
  | 3 => c.b.nG
  | 4 => c.w.nG
  | _ + 5 => c.r.nG
theorem Six.ty (c : Six K mg mI) (m : Nat) {H : Hp} {p dx : Addr} {fs : List (Str × V)} (h : H p = some (.ins (c.C m) dx fs)) : TyX K H (.ref p) (.ref (c.C m)) := match m, h with
  | 0, h => .base (.ins h c.e.cl c.e.ha c.e.hn c.e.htk c.e.hm)
  | 1, h => .base (.ins h c.m.cl c.m.ha c.m.hn c.m.htk c.m.hm)
  | 2, h => .base (.ins h c.f.cl c.f.ha c.f.hn c.f.htk c.f.hm)
  | 3, h => .base (.ins h c.b.cl c.b.ha c.b.hn c.b.htk c.b.hm)
  | 4, h => .base (.ins h c.w.cl c.w.ha c.w.hn c.w.htk c.w.hm)
  | _ + 5, h => .base (.ins h c.r.cl c.r.ha c.r.hn c.r.htk c.r.hm)
end
/-- a new role of the mode m, or BadName -/
def spRole (eC : Addr) (C : Nat → Addr) (lim : Nat) : Sp := fun vs H Q E => ∃ (n g : List Nat) (m : Nat), vs = [.str (S n), .str (S g), .int (m : Nat)] ∧ m < lim ∧ n.length ≤ 100 ∧ g.length ≤ 100 ∧
  (Nm n → Nm g → ∀ x H', H x = none → Same H H' → RoleAt (C m) H' x n g → Q (.ref x) H') ∧ (¬ Nm n → Raised E eC "name" (.str (S n)) H) ∧ (Nm n → ¬ Nm g → Raised E eC "name" (.str (S g)) H)
abbrev s_law_role : Stmt := top 27
theorem sc_law_role : FnScope ["_law_name", "_law_group", "_law_mode"] ["_law_name", "_law_group", "_law_mode"] (defScope s_law_role) := ⟨rfl, rfl, rfl, by decide +kernel, rfl, by decide +kernel, by decide +kernel⟩
abbrev DRo (K : PySem.W.Frag) (mg : Str → Option Value) := Df K mg "_law_role" "_law_role" s_law_role ["_law_name", "_law_group", "_law_mode"]
theorem ok_role (d : DRo K mg) (mI : MInit K) (c : Six K mg mI.f) (T : Bt mg) (dR : DReq K mg) (eN : ErN K mg) (gL : mg "LONGEST_NAME" = some (.int 8 tk)) : FnOk P w K mg base (L2.CX P w) 6 d.f d.fd ["_law_name", "_law_group", "_law_mode"] (spRole eN.C c.C 5) := by
  have GI : FnOk P w K mg base (L2.CX P w) 4 mI.f mI.fd _ (spInit K eN.C) := ok_init mI T dR eN gL
  refine d.F.okX sc_law_role (fun vs H Q E h => ?_) (fun cdv A outer s H vs Q E hr h => ?_)
  · obtain ⟨n, g, m, rfl, _⟩ := h
    rfl
  · obtain ⟨n, g, m, rfl, hm, hn, hg, k1, k2, k3⟩ := h
    have hu := hr.units
    refine ⟨_, (pss_cons (ps_if (pt_cmpR (keq K hu) (pv 2) pe_int (nomark _)) (pss_one (ps_ret (pe_mk mI c.e.M c.e.g GI hr (passes_call (takes_of rfl rfl rfl rfl) (fun _ _ _ _ h => h)) (pa_cons (pv 0) (pa_cons (pv 1) pa_nil)))))
  pss_nil)
  (pss_cons (ps_if (pt_cmpR (keq K hu) (pv 2) pe_int (nomark _)) (pss_one (ps_ret (pe_mk mI c.m.M c.m.g GI hr (passes_call (takes_of rfl rfl rfl rfl) (fun _ _ _ _ h => h)) (pa_cons (pv 0) (pa_cons (pv 1) pa_nil)))))
  pss_nil)
  (pss_cons (ps_if (pt_cmpR (keq K hu) (pv 2) pe_int (nomark _)) (pss_one (ps_ret (pe_mk mI c.f.M c.f.g GI hr (passes_call (takes_of rfl rfl rfl rfl) (fun _ _ _ _ h => h)) (pa_cons (pv 0) (pa_cons (pv 1) pa_nil)))))
  pss_nil)
  (pss_cons (ps_if (pt_cmpR (keq K hu) (pv 2) pe_int (nomark _)) (pss_one (ps_ret (pe_mk mI c.b.M c.b.g GI hr (passes_call (takes_of rfl rfl rfl rfl) (fun _ _ _ _ h => h)) (pa_cons (pv 0) (pa_cons (pv 1) pa_nil)))))
  pss_nil)
  (pss_one (ps_ret (pe_mk mI c.w.M c.w.g GI hr (passes_call (takes_of rfl rfl rfl rfl) (fun _ _ _ _ h => h)) (pa_cons (pv 0) (pa_cons (pv 1) pa_nil))))))))), ?_⟩
    refine Rd.start_ (σ' := [some (.str (S n)), some (.str (S g)), some (.int m)]) rfl ?_
    have hm' : m = 0 ∨ m = 1 ∨ m = 2 ∨ m = 3 ∨ m = 4 := by omega
    rcases hm' with rfl | rfl | rfl | rfl | rfl <;>
    · walk_at "rd"
      repeat (first | exact mk_go _ hn hg k1 k2 k3 | (refine Rd.iteD (fun h => ?_) (fun h => ?_)) | (exfalso; revert h; decide) | walk_at "rd1")
/-! whether a role of the mode m reads, makes, is derived -/
def rdB (m : Nat) : Bool := decide (m = 0 ∨ m = 3 ∨ m = 4)
def mkB (m : Nat) : Bool := decide (1 ≤ m ∧ m ≤ 4)
def dvB (m : Nat) : Bool := decide (m = 1 ∨ m = 3)

end
section
variable {P : Program} {w : World} {K : PySem.W.Frag} {mg : Str → Option Value} {base : Heap} {tk : Tok}
/-! ### names that stand twice -/
theorem none_same {H H' : Hp} {t : Addr} (e : Same H H') (h : H' t = none) : H t = none := by
  cases q : H t with
  | none => rfl
  | some o => rw [e _ _ q] at h; cases h
theorem inV_strs (x : List Nat) (ns : List (List Nat)) : inV (.str (S x)) (ns.map fun l => V.str (S l)) = decide (x ∈ ns) := by
  unfold inV
  induction ns with
  | nil => rfl
  | cons y ns ih =>
    rw [List.map_cons, List.any_cons, ih]
    have e : eqV (V.str (S y)) (V.str (S x)) = decide (x = y) := by
      have e0 : eqV (V.str (S y)) (V.str (S x)) = decide (S y = S x) := rfl
      rw [e0, dec_S]
      exact decide_eq_decide.mpr ⟨Eq.symm, Eq.symm⟩
    rw [e]
    by_cases h : x = y
    · subst h; simp
    · simp [h]
theorem flat_strs (ns : List (List Nat)) : (ns.map fun l => V.str (S l)).all flatV = true := by
  induction ns with
  | nil => rfl
  | cons y ns ih => rw [List.map_cons, List.all_cons, ih]; rfl
theorem nodup_take {ns : List (List Nat)} {i : Nat} {x : List Nat} (h : ns[i]? = some x) (a : (ns.take i).Nodup) (b : x ∉ ns.take i) : (ns.take (i + 1)).Nodup := by
  rw [List.take_add_one, h]
  exact List.nodup_append.mpr ⟨a, by simp, fun y hy z hz e => b (by rw [List.mem_singleton.mp (show z ∈ [x] from hz)] at e; rw [← e]; exact hy)⟩
theorem not_nodup {ns : List (List Nat)} {i : Nat} {x : List Nat} (h : ns[i]? = some x) (b : x ∈ ns.take i) : ¬ ns.Nodup := fun q => by
  have q1 : (ns.take (i + 1)).Nodup := List.Sublist.nodup (List.take_sublist _ _) q
  rw [List.take_add_one, h] at q1
  exact (List.nodup_append.mp q1).2.2 x b x (List.mem_singleton.mpr rfl) rfl
theorem cutV_to (xs : List V) (i : Nat) : cutV xs none (some (i : Int)) = xs.take i := by
  unfold cutV
  rw [sIx_ge (by omega)]
  show (xs.drop 0).take (min (i : Int).toNat xs.length - 0) = xs.take i
  rw [List.drop_zero, Nat.sub_zero, Int.toNat_natCast]
  by_cases h : i ≤ xs.length
  · rw [Nat.min_eq_left h]
  · rw [Nat.min_eq_right (by omega), List.take_length, List.take_of_length_le (by omega)]
/-- the first name that stands earlier -/
def Frep (ns : List (List Nat)) (i : Nat) (x : List Nat) : Prop := ns[i]? = some x ∧ x ∈ ns.take i ∧ (ns.take i).Nodup
def spRep (K : PySem.W.Frag) : Sp := fun vs H Q _ => ∃ (a : Addr) (ns : List (List Nat)), vs = [.ref a] ∧ SqL K H a (ns.map fun l => V.str (S l)) ∧ ns.length ≤ 100 ∧ ∀ H', Same H H' → (ns.Nodup → Q .non H') ∧ (∀ i x, Frep ns i x → Q (.str (S x)) H')
abbrev s_first_repeated : Stmt := top 10
theorem sc_first_repeated : FnScope ["names", "at", "name"] ["names"] (defScope s_first_repeated) := ⟨rfl, rfl, rfl, by decide +kernel, rfl, by decide +kernel, by decide +kernel⟩
theorem ok_rep {f : Addr} {fd : FuncData} (F : Fun K "first_repeated" "first_repeated" s_first_repeated f fd) (T : Bt mg) (hEn : mg "enumerate" = none) : FnOk P w K mg base CX0 1 f fd ["names"] (spRep K) := by
  refine F.ok sc_first_repeated (fun vs H Q E h => ?_) (fun cdv A outer s H vs Q E hr h => ?_)
  · obtain ⟨a, ns, rfl, _⟩ := h
    rfl
  · obtain ⟨a, ns, rfl, hS, hl, k⟩ := h
    have hu := hr.units
    refine ⟨_, (pss_cons (ps_for PassesOwn.never rfl (kenum K hEn (pa_cons (pv 0) pa_nil)) (kgt2 K (pg_name (i := 1) sc_first_repeated.nd rfl (Or.inl rfl)) (pg_name (i := 2) sc_first_repeated.nd rfl (Or.inl rfl)))
  (pss_one (ps_if (pt_cmpR (kin K) (pv 2) (pe_slice (ksl K) (pv 0) po_none (po_some (pv 1))) rfl) (pss_one (ps_ret (pv 2)))
  pss_nil)))
  (pss_one (ps_ret pe_non))), ?_⟩
    refine Rd.start_ (σ' := [some (.ref a), none, none]) rfl ?_
    walk_at "rd"
    refine Rd.foE ?_
    walk_at "rd"
    refine Rd.exlist1 hS ?_
    refine Rd.foP (fun i σ H' => ∃ o1 o2, σ = [some (.ref a), o1, o2] ∧ Same H H' ∧ (ns.take i).Nodup) ⟨_, _, rfl, Same.refl _, List.nodup_nil⟩ (fun i σ H' hi ⟨_, _, _, j, _⟩ => j.seq hS) ?_ ?_
    · rintro i x σ H' t hi hx ⟨o1, o2, rfl, j1, j2⟩ ht
      rw [List.getElem?_map] at hx
      obtain ⟨z, hz, rfl⟩ := Option.map_eq_some_iff.mp hx
      dsimp only [List.set]
      have s1 := same_upd (o := .tup [.int (i : Nat), .str (S z)]) j1 (none_same j1 ht)
      walk_at "rd"
      refine Rd.slL (s1.seq hS) fun q hq => ?_
      rw [cutV_to, ← List.map_take]
      have s2 := same_upd (o := .lst ((ns.take i).map fun l => V.str (S l))) s1 (none_same s1 hq)
      refine ⟨q, _, rfl, .inl (SqL.of upd_same), rfl, flat_strs _, ?_⟩
      show ∃ k, V.bl (inV _ _) = .bl k ∧ _
      rw [inV_strs]
      walk_at "rd"
      refine Rd.iteD (fun c => ?_) (fun c => ?_)
      · walk_at "rd"
        exact (k _ s2).2 i z ⟨hz, c, j2⟩
      · walk_at "rd"
        exact ⟨_, _, rfl, s2, nodup_take hz j2 c⟩
    · rintro σ H' ⟨o1, o2, rfl, j1, j2⟩
      rw [List.length_map, List.take_length] at j2
      walk_at "rd"
      exact (k _ j1).1 j2

end
section
variable {P : Program} {w : World} {K : PySem.W.Frag} {mg : Str → Option Value} {base : Heap} {tk : Tok}
/-! ### roles in a list; the error BadKind; a new kind -/
/-- Tells as in the helper of a class's method without arguments -/
def Tells (P : Program) (w : World) (K : PySem.W.Frag) (mg : Str → Option Value) (base : Heap) (C : Addr) (m : Str) (v : V) : Prop := ∃ (nm q : Str) (st : Stmt) (d : Mf K nm q st ["self"]), Meth K C m d.f ∧ FnOk P w K mg base CX0 1 d.f d.fd ["self"] (spTells v)
structure Ro where
  a : Addr
  n : List Nat
  g : List Nat
  m : Nat
def RoOk (C : Nat → Addr) (H : Hp) (r : Ro) : Prop := r.m < 5 ∧ RoleAt (C r.m) H r.a r.n r.g
def RosOk (C : Nat → Addr) (H : Hp) (rs : List Ro) : Prop := ∀ r ∈ rs, RoOk C H r
theorem RosOk.mono {C : Nat → Addr} {H H' : Hp} {rs : List Ro} (h : RosOk C H rs) (e : Same H H') : RosOk C H' rs := fun r hr => ⟨(h r hr).1, (h r hr).2.mono e⟩
abbrev refs (rs : List Ro) : List V := rs.map fun r => V.ref r.a
theorem ref_at {rs : List Ro} {i : Nat} {x : V} (h : (refs rs)[i]? = some x) : ∃ r, rs[i]? = some r ∧ x = .ref r.a := by
  rw [List.getElem?_map] at h
  obtain ⟨r, h1, h2⟩ := Option.map_eq_some_iff.mp h
  exact ⟨r, h1, h2.symm⟩
abbrev s_BadKind___init : Stmt := inClass (top 4) 0
theorem sc_BadKind___init : FnScope ["self", "name"] ["self", "name"] (defScope s_BadKind___init) := ⟨rfl, rfl, rfl, by decide +kernel, rfl, by decide +kernel, by decide +kernel⟩
abbrev ErK (K : PySem.W.Frag) (mg : Str → Option Value) := Er K mg "BadKind" "BadKind.__init__" "name" s_BadKind___init
theorem ok_bki (r : ErK K mg) : FnOk P w K mg base CX0 1 r.f r.fd ["self", "name"] (spErI r.C "name") := by
  refine r.F.ok sc_BadKind___init (fun vs H Q E h => ?_) (fun cdv A outer s H vs Q E hr h => ?_)
  · obtain ⟨a, v, rfl, _⟩ := h
    rfl
  · obtain ⟨a, v, rfl, ha, k⟩ := h
    refine ⟨_, (pss_one (kost K (pv 0) (pv 1))), ?_⟩
    refine Rd.start_ (σ' := [some (.ref a), some v]) rfl ?_
    walk_at "rd"
    exact ⟨a, r.C, rfl, r.T, r.no, .inl ⟨ha, k⟩⟩
abbrev s_NoKind___init : Stmt := inClass (top 5) 0
theorem sc_NoKind___init : FnScope ["self", "name"] ["self", "name"] (defScope s_NoKind___init) := ⟨rfl, rfl, rfl, by decide +kernel, rfl, by decide +kernel, by decide +kernel⟩
abbrev ErR (K : PySem.W.Frag) (mg : Str → Option Value) := Er K mg "NoKind" "NoKind.__init__" "name" s_NoKind___init
theorem ok_nri (r : ErR K mg) : FnOk P w K mg base CX0 1 r.f r.fd ["self", "name"] (spErI r.C "name") := by
  refine r.F.ok sc_NoKind___init (fun vs H Q E h => ?_) (fun cdv A outer s H vs Q E hr h => ?_)
  · obtain ⟨a, v, rfl, _⟩ := h
    rfl
  · obtain ⟨a, v, rfl, ha, k⟩ := h
    refine ⟨_, (pss_one (kost K (pv 0) (pv 1))), ?_⟩
    refine Rd.start_ (σ' := [some (.ref a), some v]) rfl ?_
    walk_at "rd"
    exact ⟨a, r.C, rfl, r.T, r.no, .inl ⟨ha, k⟩⟩
def KindOk (rs : List Ro) : Prop := 1 ≤ rs.length ∧ rs.length ≤ 6 ∧ (rs.map (·.n)).Nodup ∧ ∃ r ∈ rs, mkB r.m = true
def kflds (n : List Nat) (t : Addr) : List (Str × V) := [("name", .str (S n)), ("roles", .ref t)]
def spKInit (K : PySem.W.Frag) (C : Nat → Addr) (eN eK : Addr) : Sp := fun vs H Q E => ∃ (p D dx a : Addr) (n : List Nat) (rs : List Ro), vs = [.ref p, .str (S n), .ref a] ∧ n.length ≤ 100 ∧ Cls K D ∧ NoAttr K D "name" ∧ NoAttr K D "roles" ∧ H p = some (.ins D dx []) ∧
  H a = some (.lst (refs rs)) ∧ RosOk C H rs ∧ rs.length ≤ 8 ∧
  (Nm n → KindOk rs → ∀ H' t, SameB p H H' → H' p = some (.ins D dx (kflds n t)) → H' t = some (.tup (refs rs)) → t ≠ p → Q .non H') ∧ (¬ Nm n → Raised E eN "name" (.str (S n)) H) ∧ (Nm n → ¬ KindOk rs → Raised E eK "name" (.str (S n)) H)
abbrev s_Kind___init : Stmt := inClass (top 17) 0
theorem sc_Kind___init : FnScope ["self", "name", "roles", "names", "role"] ["self", "name", "roles"] (defScope s_Kind___init) := ⟨rfl, rfl, rfl, by decide +kernel, rfl, by decide +kernel, by decide +kernel⟩
abbrev MKi (K : PySem.W.Frag) := Mf K "__init__" "Kind.__init__" s_Kind___init ["self", "name", "roles"]
abbrev DRep (K : PySem.W.Frag) (mg : Str → Option Value) := Df K mg "first_repeated" "first_repeated" s_first_repeated ["names"]
theorem any_mk {rs : List Ro} : (rs.map fun r => mkB r.m).any id = true ↔ ∃ r ∈ rs, mkB r.m = true := by
  rw [List.any_map, List.any_eq_true]
  rfl
theorem nr_ne : ¬ (("name" : Str) = "roles") := by decide +kernel
theorem kflds_put (n : List Nat) (t : Addr) : putF "roles" (.ref t) (putF "name" (.str (S n)) []) = kflds n t := by
  show (if ("name" : Str) = "roles" then [(("name" : Str), V.ref t)] else (("name" : Str), V.str (S n)) :: putF "roles" (V.ref t) []) = kflds n t
  rw [if_neg nr_ne]
  rfl
theorem ok_kinit {mI : Addr} (m : MKi K) (T : Bt mg) (hEn : mg "enumerate" = none) (dR : DReq K mg) (dF : DRep K mg) (c : Six K mg mI) (eN : ErN K mg) (eK : ErK K mg) (gL : mg "LONGEST_NAME" = some (.int 8 tk)) {tk2 : Tok} (gM : mg "MOST_ROLES" = some (.int 6 tk2))
    (t2 : ∀ m, m < 5 → Tells P w K mg base (c.C m) "makes" (.bl (mkB m))) : FnOk P w K mg base (L2.CX P w) 4 m.f m.fd ["self", "name", "roles"] (spKInit K c.C eN.C eK.C) := by
  have GR : FnOk P w K mg base (L2.CX P w) 3 dR.f dR.fd _ (spReq eN.C) := ok_req dR.F T eN gL
  have GF : FnOk P w K mg base CX0 1 dF.f dF.fd _ (spRep K) := ok_rep dF.F T hEn
  have GK : FnOk P w K mg base CX0 1 eK.f eK.fd _ (spErI eK.C "name") := ok_bki eK
  refine m.F.okX sc_Kind___init (fun vs H Q E h => ?_) (fun cdv A outer s H vs Q E hr h => ?_)
  · obtain ⟨p, D, dx, a, n, rs, rfl, _⟩ := h
    rfl
  · obtain ⟨p, D, dx, a, n, rs, rfl, hn, cl, nN, nR, hp, hS, hro, hl, k1, k2, k3⟩ := h
    have hu := hr.units
    have hr1 : Room 1 _ := hr.mono (by decide)
    have hr2 : Room 2 _ := hr.mono (by decide)
    refine ⟨_, (pss_cons (ps_expr (pe_cf dR GR hr (passes_call (takes_of rfl rfl rfl rfl) (fun _ _ _ _ h => h)) (pa_cons (pv 1) pa_nil)))
  (pss_cons (ps_setLc (i := 3) (own := [("role", 4)]) (g := gName 4) (tt := tYes) rfl sc_Kind___init.nd rfl rfl (sw_true rfl rfl rfl (by decide +kernel)) (kpl K (pv 2)) (blkOk_by (N := ["self", "name", "roles", "names", "role"]) (sc := defScope s_Kind___init) (by decide +kernel)) (fun _ _ _ _ _ => (pg_name (i := 4) sc_Kind___init.nd rfl (Or.inl rfl))) (fun _ _ _ _ _ => pts_nil) (fun _ _ _ _ _ => (kfld K (pv 4))))
  (pss_cons (ps_if (PW.pt (pw_or (pt_not (pt_chain op_leA op_leA pe_int (pe_callB (klen K) (by rfl) T.len (by decide +kernel) (pa_cons (pv 2) pa_nil)) (pe_glob (v := .int 6) rfl gM ⟨_, rfl⟩))) (pw_or1 (pt_cmpR op_notN (pe_cf dF GF hr1 pass0 (pa_cons (pv 3) pa_nil)) pe_non (nomark _))))) (pss_one (ps_raise rfl (takes_of rfl rfl rfl rfl) (pmk_er eK GK hr2 (pa_cons (pv 1) pa_nil))))
  pss_nil)
  (pss_cons (ps_if (pt_not (pt_val (pe_callB (kany K) (by rfl) T.any (by decide +kernel) (pa_cons (pe_lc (own := [("role", 4)]) (g := gName 4) (tt := tYes) rfl sc_Kind___init.nd (kpl K (pv 2)) (blkOk_by (N := ["self", "name", "roles", "names", "role"]) (sc := defScope s_Kind___init) (by decide +kernel)) (fun _ _ _ _ _ => (pg_name (i := 4) sc_Kind___init.nd rfl (Or.inl rfl))) (fun _ _ _ _ _ => pts_nil) (fun _ _ _ _ _ => (pe_altN (n := 5) (t := fun m => tMeth (c.C m) "makes" (spTells (.bl (mkB m))) [] E0 (tVar 4) tNil) fun m hm => by obtain ⟨_, _, _, dd, mm, GG⟩ := t2 m hm; exact pe_m0g (pv 4) (c.cl m) mm GG hr1 pass0 dd.b))) pa_nil)))) (pss_one (ps_raise rfl (takes_of rfl rfl rfl rfl) (pmk_er eK GK hr2 (pa_cons (pv 1) pa_nil))))
  pss_nil)
  (pss_cons (kset (pv 0) (pv 1))
  (pss_one (kset (pv 0) (pe_callTy (ktuple K) (by rfl) T.tuple (by decide +kernel) (pa_cons (pv 2) pa_nil))))))))), ?_⟩
    refine Rd.start_ (σ' := [some (.ref p), some (.str (S n)), some (.ref a), none, none]) rfl ?_
    walk_at "rd"
    refine ⟨n, rfl, hn, fun a1 H1 s1 => ?_, fun a1 => k2 a1⟩
    have hS0 : SqL K H a (refs rs) := SqL.of hS
    have hS1 := s1.seq hS0
    have hro1 := hro.mono s1
    walk_at "rd"
    refine Rd.lcW Rd.wList (by rw [List.length_map]; walk_at "sz") (fun i acc H' => Same H1 H' ∧ acc = (rs.take i).map fun r => V.str (S r.n)) ⟨Same.refl _, rfl⟩
      (fun D hD i acc ys H' j => ⟨same_upd j.1 hD, j.2⟩) (fun i acc H' hi j => j.1.seq hS1) ?_ ?_
    · intro D2 hD i x acc H' hi hx hacc hlen ⟨j1, j2⟩ Kt Kf hT hF
      dsimp only [List.set]
      obtain ⟨r, hr', rfl⟩ := ref_at hx
      have hro' := hro1.mono j1
      obtain ⟨_, dr, hat⟩ := hro' r (List.mem_of_getElem? hr')
      walk_at "rd"
      refine ⟨r.a, _, dr, _, _, rfl, hat, c.cl r.m, c.nN r.m, flds_name _ _, ?_⟩
      refine hT _ _ hacc ⟨j1, ?_⟩
      rw [j2, List.take_add_one, hr', List.map_append]
      rfl
    · intro D2 acc H2 hD hacc hlen ⟨s2, j2⟩
      rw [List.length_map, List.take_length] at j2
      subst j2
      have e1 : (rs.map fun r => V.str (S r.n)) = (rs.map (·.n)).map fun l => V.str (S l) := by rw [List.map_map]; rfl
      rw [e1] at hacc
      have hS2 := s2.seq hS1
      have s12 := s1.trans s2
      have bad : ∀ G, Same H G → ¬ KindOk rs → Raised E eK.C "name" (.str (S n)) G := fun G sg nk => (k3 a1 nk).mono sg
      have go : ∀ G, Same H G → ¬ KindOk rs → ∀ d, G d = none → E (.ref eK.C) (some d) (upd G d (.xd [("name", .str (S n))])) := fun G sg nk d hd => bad G sg nk d _ (same_new hd) upd_same
      walk_at "rd"
      have hlr : (refs rs).length = rs.length := List.length_map ..
      rw [hlr]
      refine Rd.iteD (fun c1 => ?_) (fun c1 => ?_)
      · walk_at "rd"
        refine Rd.iteN (fun c2 => ?_) (fun c2 => ?_)
        · walk_at "rd"
          exact Rd.erGo (go _ s12 fun z => c2 (by have := z.2.1; omega))
        · walk_at "rd"
          refine ⟨D2, rs.map (·.n), rfl, SqL.of hacc, by rw [List.length_map]; omega, fun H3 s3 => ⟨fun nd => ?_, fun ix x fr => ?_⟩⟩
          · walk_at "rd"
            refine ⟨rfl, ?_⟩
            walk_at "rd"
            have s13 := s12.trans s3
            have hS3 := s13.seq hS0
            have hro3 := hro.mono s13
            refine Rd.exlist hS3 ?_
            refine Rd.lcW Rd.wList (by rw [List.length_map]; walk_at "sz") (fun i acc H' => Same H3 H' ∧ acc = (rs.take i).map fun r => V.bl (mkB r.m)) ⟨Same.refl _, rfl⟩
              (fun D hD i acc ys H' j => ⟨same_upd j.1 hD, j.2⟩) (fun i acc H' hi j => j.1.seq hS3) ?_ ?_
            · intro D4 hD4 i x acc H' hi hx hacc hlen ⟨j1, j2⟩ Kt Kf hT hF
              dsimp only [List.set]
              obtain ⟨r, hr', rfl⟩ := ref_at hx
              obtain ⟨rm, dr, hat⟩ := hro3.mono j1 r (List.mem_of_getElem? hr')
              walk_at "rd"
              refine Rd.alt rm ?_
              walk_at "rd"
              refine ⟨r.a, dr, _, rfl, hat, flds_no _ _ (by decide +kernel) (by decide +kernel), ?_⟩
              walk_at "rd"
              refine ⟨r.a, rfl, hT _ _ hacc ⟨j1, ?_⟩⟩
              rw [j2, List.take_add_one, hr', List.map_append]
              rfl
            · intro D4 acc H4 hD4 hacc hlen ⟨s4, j2⟩
              rw [List.length_map, List.take_length] at j2
              subst j2
              have e2 : (rs.map fun r => V.bl (mkB r.m)) = (rs.map fun r => mkB r.m).map V.bl := by rw [List.map_map]; rfl
              rw [e2] at hacc
              have s14 := s13.trans s4
              walk_at "rd"
              refine ⟨D4, _, rfl, SqL.of hacc, ?_⟩
              walk_at "rd"
              have p4 := s14 _ _ hp
              have hany := any_mk (rs := rs)
              cases hb : (rs.map fun r => mkB r.m).any id with
              | false =>
                rw [hb] at hany
                walk_at "rd"
                exact Rd.erGo (go _ s14 fun z => Bool.false_ne_true (hany.mpr z.2.2.2))
              | true =>
                rw [hb] at hany
                walk_at "rd"
                refine ⟨p, D, dx, [], rfl, p4, cl, nN, by decide, ?_⟩
                walk_at "rd"
                have hne : a ≠ p := fun z => by rw [z, hp] at hS; cases hS
                have ha5 : upd H4 p (.ins D dx (putF "name" (.str (S n)) [])) a = some (.lst (refs rs)) := by rw [upd_ne hne]; exact s14 _ _ hS
                refine Rd.tupL (SqL.of ha5) fun t ht => ?_
                have htp : t ≠ p := fun z => by rw [z, upd_same] at ht; cases ht
                walk_at "rd"
                refine ⟨p, D, dx, _, rfl, by rw [upd_ne (Ne.symm htp)]; exact upd_same, cl, nR, by show 1 < 1000; decide, ?_⟩
                refine k1 a1 ⟨by omega, by omega, nd, hany.mp rfl⟩ _ t (fun b o nb hb' => ?_) ?_ ?_ htp
                · rw [upd_ne nb]
                  by_cases hbt : b = t
                  · rw [hbt] at hb' nb
                    rw [upd_ne nb, s14 _ _ hb'] at ht
                    cases ht
                  · rw [upd_ne hbt, upd_ne nb]
                    exact s14 _ _ hb'
                · rw [upd_same, kflds_put]
                · rw [upd_ne htp, upd_same]
          · walk_at "rd"
            refine ⟨rfl, ?_⟩
            walk_at "rd"
            exact Rd.erGo (go _ (s12.trans s3) fun z => not_nodup fr.1 fr.2.1 z.2.2.1)
      · walk_at "rd"
        exact Rd.erGo (go _ s12 fun z => c1 (by have := z.1; omega))

end
section
variable {P : Program} {w : World} {K : PySem.W.Frag} {mg : Str → Option Value} {base : Heap} {tk : Tok}
/-! ### a catalog's __iter__, __len__ -/
def cflds (t : Addr) : List (Str × V) := [("kinds", .ref t)]
theorem cflds_kinds (t : Addr) : (cflds t).lookup ("kinds" : Str) = some (.ref t) := by
  unfold cflds; simp [List.lookup]
structure Cc (K : PySem.W.Frag) (mg : Str → Option Value) (mC : Addr) where
  C : Addr
  g : mg "Catalog" = some (.ref C)
  cl : Cls K C
  M : Mk K C mC
  nK : NoAttr K C "kinds"
theorem kiter {X : Cx} (K : PySem.W.Frag) (h : X.K = K := by rfl) : CallR X (.builtin "iter") (rIterT K X.s_0.heap.objs.size) := by subst h; exact call_iterT
abbrev s_Catalog___iter : Stmt := inClass (top 18) 2
theorem sc_Catalog___iter : FnScope ["self"] ["self"] (defScope s_Catalog___iter) := ⟨rfl, rfl, rfl, by decide +kernel, rfl, by decide +kernel, by decide +kernel⟩
/-- the tuple of the catalog's kinds stands at l -/
def KindsAt (K : PySem.W.Frag) (C : Addr) (H : Hp) (a l : Addr) : Prop := ∃ dx zs, H a = some (.ins C dx (cflds l)) ∧ H l = some (.tup zs)
theorem ok_citer {mC : Addr} (m : Mf K "__iter__" "Catalog.__iter__" s_Catalog___iter ["self"]) (cc : Cc K mg mC) (hIt : mg "iter" = none) : FnY P w K mg base 1 m.f m.fd ["self"] (spIterT (KindsAt K cc.C)) := by
  refine Fun.okY m.F sc_Catalog___iter (fun s vs H Q h => ?_) (fun cdv A outer s H vs Q hr h => ?_)
  · obtain ⟨a, l, rfl, _⟩ := h
    rfl
  · obtain ⟨a, l, rfl, ⟨dx, zs, ha, hl⟩, k⟩ := h
    refine ⟨_, (pss_one (ps_ret (pe_callB (kiter K) (by rfl) hIt (by decide +kernel) (pa_cons (kfld K (pv 0)) pa_nil)))), ?_⟩
    refine Rd.start_ (σ' := [some (.ref a)]) rfl ?_
    walk_at "rd"
    refine ⟨a, cc.C, dx, _, _, rfl, ha, cc.cl, cc.nK, cflds_kinds _, ?_⟩
    walk_at "rd"
    refine ⟨l, zs, rfl, SqT.of hl, fun it hn hy => ?_⟩
    exact k it hn hy

end
section
variable {P : Program} {w : World} {K : PySem.W.Frag} {mg : Str → Option Value} {base : Heap} {tk : Tok}
/-! ### a new catalog; its kinds by name -/
structure Kd where
  a : Addr
  t : Addr
  n : List Nat
  rs : List Ro
def KdsOk (D : Addr) (C : Nat → Addr) (H : Hp) (ks : List Kd) : Prop := ∀ k ∈ ks, (∃ dx, H k.a = some (.ins D dx (kflds k.n k.t))) ∧ H k.t = some (.tup (refs k.rs)) ∧ RosOk C H k.rs
theorem KdsOk.mono {D : Addr} {C : Nat → Addr} {H H' : Hp} {ks : List Kd} (h : KdsOk D C H ks) (e : Same H H') : KdsOk D C H' ks := fun k hk => by
  obtain ⟨⟨dx, h1⟩, h2, h3⟩ := h k hk
  exact ⟨⟨dx, e _ _ h1⟩, e _ _ h2, h3.mono e⟩
abbrev krefs (ks : List Kd) : List V := ks.map fun k => V.ref k.a
theorem kref_at {ks : List Kd} {i : Nat} {x : V} (h : (krefs ks)[i]? = some x) : ∃ k, ks[i]? = some k ∧ x = .ref k.a := by
  rw [List.getElem?_map] at h
  obtain ⟨r, h1, h2⟩ := Option.map_eq_some_iff.mp h
  exact ⟨r, h1, h2.symm⟩
theorem kflds_name (n : List Nat) (t : Addr) : (kflds n t).lookup ("name" : Str) = some (.str (S n)) := by
  unfold kflds; simp [List.lookup]
structure Kc (K : PySem.W.Frag) (mg : Str → Option Value) (mK : Addr) where
  C : Addr
  g : mg "Kind" = some (.ref C)
  cl : Cls K C
  M : Mk K C mK
  nN : NoAttr K C "name"
  nR : NoAttr K C "roles"
def spNamed (CC D : Addr) (C : Nat → Addr) (eR : Addr) : Sp := fun vs H Q E => ∃ (p t dx : Addr) (x : List Nat) (ks : List Kd), vs = [.ref p, .str (S x)] ∧ H p = some (.ins CC dx (cflds t)) ∧ H t = some (.tup (krefs ks)) ∧ KdsOk D C H ks ∧
  (∀ k ∈ ks, k.n = x → Q (.ref k.a) H) ∧ ((∀ k ∈ ks, k.n ≠ x) → Raised E eR "name" (.str (S x)) H)
abbrev s_Catalog_named : Stmt := inClass (top 18) 3
theorem sc_Catalog_named : FnScope ["self", "name", "kind"] ["self", "name"] (defScope s_Catalog_named) := ⟨rfl, rfl, rfl, by decide +kernel, rfl, by decide +kernel, by decide +kernel⟩
theorem ok_named {mI mK mC : Addr} (m : Mf K "named" "Catalog.named" s_Catalog_named ["self", "name"]) (T : Bt mg) (c : Six K mg mI) (kc : Kc K mg mK) (cc : Cc K mg mC) (eR : ErR K mg) : FnOk P w K mg base (L2.CX P w) 3 m.f m.fd ["self", "name"] (spNamed cc.C kc.C c.C eR.C) := by
  have GR : FnOk P w K mg base CX0 1 eR.f eR.fd _ (spErI eR.C "name") := ok_nri eR
  refine m.F.okX sc_Catalog_named (fun vs H Q E h => ?_) (fun cdv A outer s H vs Q E hr h => ?_)
  · obtain ⟨p, t, dx, x, ks, rfl, _⟩ := h
    rfl
  · obtain ⟨p, t, dx, x, ks, rfl, hp, ht, hks, k1, k2⟩ := h
    have hu := hr.units
    refine ⟨_, (pss_cons (ps_for (passes_of rfl) rfl (kpt K (kfld K (pv 0))) (pg_name (i := 2) sc_Catalog_named.nd rfl (Or.inl rfl))
  (pss_one (ps_if (pt_cmpR (keq K hu) (kfld K (pv 2)) (pv 1) (nomark _)) (pss_one (ps_ret (pv 2)))
  pss_nil)))
  (pss_one (ps_raise rfl (takes_of rfl rfl rfl rfl) (pmk_er eR GR hr (pa_cons (pv 1) pa_nil))))), ?_⟩
    refine Rd.start_ (σ' := [some (.ref p), some (.str (S x)), none]) rfl ?_
    walk_at "rd"
    refine ⟨p, cc.C, dx, _, _, rfl, hp, cc.cl, cc.nK, cflds_kinds _, ?_⟩
    refine Rd.extup (SqT.of ht) ?_
    refine Rd.foW Rd.wTup (fun i σ H' => ∃ o, σ = [some (.ref p), some (.str (S x)), o] ∧ H' = H ∧ ∀ k ∈ ks.take i, k.n ≠ x) ⟨none, rfl, rfl, fun r hr => absurd hr (List.not_mem_nil)⟩ (fun i σ H' hi ⟨_, _, e, _⟩ => by subst e; exact SqT.of ht) ?_ ?_
    · rintro i y σ H' hi hy ⟨o, rfl, rfl, j2⟩
      obtain ⟨k, hk', rfl⟩ := kref_at hy
      have hmem := List.mem_of_getElem? hk'
      obtain ⟨⟨dk, hat⟩, _, _⟩ := hks k hmem
      dsimp only [List.set]
      walk_at "rd"
      refine ⟨k.a, _, dk, _, _, rfl, hat, kc.cl, kc.nN, kflds_name _ _, ?_⟩
      walk_at "rd"
      refine Rd.iteD (fun c1 => ?_) (fun c1 => ?_)
      · walk_at "rd"
        exact k1 k hmem c1
      · walk_at "rd"
        refine ⟨_, rfl, rfl, fun r2 h2 => ?_⟩
        rw [List.take_add_one, hk'] at h2
        rcases List.mem_append.mp h2 with h2 | h2
        · exact j2 r2 h2
        · rw [List.mem_singleton.mp h2]; exact c1
    · rintro σ H' ⟨o, rfl, rfl, j2⟩
      have e1 : ks.take (krefs ks).length = ks := by rw [List.length_map, List.take_length]
      rw [e1] at j2
      walk_at "rd"
      exact Rd.erGo fun d hd => k2 j2 d _ (same_new hd) upd_same
def spCInit (CC D : Addr) (C : Nat → Addr) (eK : Addr) : Sp := fun vs H Q E => ∃ (p dx a : Addr) (ks : List Kd), vs = [.ref p, .ref a] ∧ H p = some (.ins CC dx []) ∧ H a = some (.lst (krefs ks)) ∧ KdsOk D C H ks ∧ ks.length ≤ 50 ∧
  ((ks.map (·.n)).Nodup → ∀ H' t, SameB p H H' → H' p = some (.ins CC dx (cflds t)) → H' t = some (.tup (krefs ks)) → t ≠ p → Q .non H') ∧ (∀ i x, Frep (ks.map (·.n)) i x → ∀ H', Same H H' → Raised E eK "name" (.str (S x)) H')
abbrev s_Catalog___init : Stmt := inClass (top 18) 0
theorem sc_Catalog___init : FnScope ["self", "kinds", "repeated", "kind"] ["self", "kinds"] (defScope s_Catalog___init) := ⟨rfl, rfl, rfl, by decide +kernel, rfl, by decide +kernel, by decide +kernel⟩
abbrev DRep' (K : PySem.W.Frag) (mg : Str → Option Value) := Df K mg "first_repeated" "first_repeated" s_first_repeated ["names"]
theorem ok_cinit {mI mK mC : Addr} (m : Mf K "__init__" "Catalog.__init__" s_Catalog___init ["self", "kinds"]) (T : Bt mg) (hEn : mg "enumerate" = none) (dF : DRep' K mg) (c : Six K mg mI) (kc : Kc K mg mK) (cc : Cc K mg mC) (eK : ErK K mg) :
    FnOk P w K mg base (L2.CX P w) 3 m.f m.fd ["self", "kinds"] (spCInit cc.C kc.C c.C eK.C) := by
  have GF : FnOk P w K mg base CX0 1 dF.f dF.fd _ (spRep K) := ok_rep dF.F T hEn
  have GK : FnOk P w K mg base CX0 1 eK.f eK.fd _ (spErI eK.C "name") := ok_bki eK
  refine m.F.okX sc_Catalog___init (fun vs H Q E h => ?_) (fun cdv A outer s H vs Q E hr h => ?_)
  · obtain ⟨p, dx, a, ks, rfl, _⟩ := h
    rfl
  · obtain ⟨p, dx, a, ks, rfl, hp, ha, hks, hl, k1, k2⟩ := h
    have hu := hr.units
    have hr1 : Room 1 _ := hr.mono (by decide)
    have hr2 : Room 2 _ := hr.mono (by decide)
    refine ⟨_, (pss_cons (ps_set (i := 2) sc_Catalog___init.nd rfl (Or.inl rfl) (pe_cf dF GF hr1 pass0 (pa_cons (pe_lc (own := [("kind", 3)]) (g := gName 3) (tt := tYes) rfl sc_Catalog___init.nd (kpl K (pv 1)) (blkOk_by (N := ["self", "kinds", "repeated", "kind"]) (sc := defScope s_Catalog___init) (by decide +kernel)) (fun _ _ _ _ _ => (pg_name (i := 3) sc_Catalog___init.nd rfl (Or.inl rfl))) (fun _ _ _ _ _ => pts_nil) (fun _ _ _ _ _ => (kfld K (pv 3)))) pa_nil)))
  (pss_cons (ps_if (pt_cmpR op_notN (pv 2) pe_non (nomark _)) (pss_one (ps_raise rfl (takes_of rfl rfl rfl rfl) (pmk_er eK GK hr2 (pa_cons (pv 2) pa_nil))))
  pss_nil)
  (pss_one (kset (pv 0) (pe_callTy (ktuple K) (by rfl) T.tuple (by decide +kernel) (pa_cons (pv 1) pa_nil)))))), ?_⟩
    refine Rd.start_ (σ' := [some (.ref p), some (.ref a), none, none]) rfl ?_
    walk_at "rd"
    refine Rd.lcW Rd.wList (by rw [List.length_map]; walk_at "sz") (fun i acc H' => Same H H' ∧ acc = (ks.take i).map fun r => V.str (S r.n)) ⟨Same.refl _, rfl⟩
      (fun D hD i acc ys H' j => ⟨same_upd j.1 hD, j.2⟩) (fun i acc H' hi j => SqL.of (j.1 _ _ ha)) ?_ ?_
    · intro D2 hD i x acc H' hi hx hacc hlen ⟨j1, j2⟩ Kt Kf hT hF
      dsimp only [List.set]
      obtain ⟨k, hk', rfl⟩ := kref_at hx
      obtain ⟨⟨dk, hat⟩, _, _⟩ := hks.mono j1 k (List.mem_of_getElem? hk')
      walk_at "rd"
      refine ⟨k.a, _, dk, _, _, rfl, hat, kc.cl, kc.nN, kflds_name _ _, ?_⟩
      refine hT _ _ hacc ⟨j1, ?_⟩
      rw [j2, List.take_add_one, hk', List.map_append]
      rfl
    · intro D2 acc H2 hD hacc hlen ⟨s2, j2⟩
      rw [List.length_map, List.take_length] at j2
      have e1 : acc = (ks.map (·.n)).map fun l => V.str (S l) := by rw [j2, List.map_map]; rfl
      rw [e1] at hacc
      walk_at "rd"
      refine ⟨D2, ks.map (·.n), rfl, SqL.of hacc, by rw [List.length_map]; omega, fun H3 s3 => ⟨fun nd => ?_, fun ix x fr => ?_⟩⟩
      · walk_at "rd"
        refine ⟨rfl, ?_⟩
        walk_at "rd"
        have s13 := s2.trans s3
        have ha3 := s13 _ _ ha
        have hne : a ≠ p := fun z => by rw [z, hp] at ha; cases ha
        refine Rd.tupL (SqL.of ha3) fun t ht => ?_
        have htp : p ≠ t := ne_of_none (s13 _ _ hp) ht
        walk_at "rd"
        refine ⟨p, cc.C, dx, [], rfl, by rw [upd_ne htp]; exact s13 _ _ hp, cc.cl, cc.nK, by decide, ?_⟩
        refine k1 nd _ t (fun b o nb hb' => ?_) upd_same ?_ (Ne.symm htp)
        · rw [upd_ne nb, upd_ne (ne_of_none (s13 _ _ hb') ht)]
          exact s13 _ _ hb'
        · rw [upd_ne (Ne.symm htp), upd_same]
      · walk_at "rd"
        refine ⟨rfl, ?_⟩
        walk_at "rd"
        exact Rd.erGo fun d hd => k2 ix x fr _ (s2.trans s3) d _ (same_new hd) upd_same

end
section
variable {P : Program} {w : World} {K : PySem.W.Frag} {mg : Str → Option Value} {base : Heap} {tk : Tok}
/-! ### the groups of a catalog -/
theorem ksortset {X : Cx} (K : PySem.W.Frag) {a : Expr} {ta : TE} {p p2 q pos : Pos} (T : Bt mg) (ha : PE X a ta) (hmg : X.mg = mg := by rfl) (hg : Gl X "sorted" := by rfl) (hg2 : Gl X "set" := by rfl) (hc : X.calm = true := by rfl) (hK : X.K = K := by rfl)
    (na : starEach [a] X.env = (false, eval a X.env) :: starEach [] X.env := by rfl) : PE X (.Call (.Name "sorted" p) [.Call (.Name "set" p2) [a] [] q] [] pos) (Sets.tSortSetT K ta) := by
  subst hmg hK
  exact Sets.pe_sortSetT hg T.sorted hg2 T.set ha hc na
theorem lc2T {K : PySem.W.Frag} {σ : St} {H : Hp} {Q : VK} {te tl : TE} {tt tt1 : TT} {g g1 : TG} {wi1 : TI} {vs vs1 : List Nat} (h : tl σ H fun x H1 => ∃ a, x = .ref a ∧ (∃ xs, SqT K H1 a xs) ∧ Lc2Go (Itt K a) g tt wi1 g1 tt1 te vs vs1 σ H1 Q) : tLc2 (iTup K tl) g tt wi1 g1 tt1 te vs vs1 σ H Q := h
theorem kflds_roles (n : List Nat) (t : Addr) : (kflds n t).lookup ("roles" : Str) = some (.ref t) := by
  have e : (("roles" : Str) == "name") = false := by decide +kernel
  unfold kflds; simp [List.lookup, e]
def grps (ks : List Kd) : List (List Nat) := ks.flatMap fun k => k.rs.map (·.g)
/-- a strictly rising list of the texts of gs -/
def Rises (gs : List (List Nat)) (ss : List Str) : Prop := PyProof.Rows.sortedS ss = true ∧ ss.Nodup ∧ ∀ s, s ∈ ss ↔ s ∈ gs.map S
def kd0 : Kd := ⟨0, 0, [], []⟩
theorem getD_at {ks : List Kd} {i : Nat} {k : Kd} (h : ks[i]? = some k) : ks.getD i kd0 = k := by rw [List.getD_eq_getElem?_getD, h]; rfl
theorem grps_len {ks : List Kd} (h6 : ∀ k ∈ ks, k.rs.length ≤ 6) : (grps ks).length ≤ ks.length * 6 := by
  induction ks with
  | nil => exact Nat.zero_le _
  | cons k ks ih =>
    have h1 := h6 k List.mem_cons_self
    have h2 := ih fun k hk => h6 k (List.mem_cons_of_mem _ hk)
    unfold grps at h2 ⊢
    rw [List.flatMap_cons, List.length_append, List.length_map, List.length_cons]
    omega
def spGroups (CC D : Addr) (C : Nat → Addr) (gr : List Kd → List (List Nat)) : Sp := fun vs H Q _ => ∃ (p t dx : Addr) (ks : List Kd), vs = [.ref p] ∧ H p = some (.ins CC dx (cflds t)) ∧ H t = some (.tup (krefs ks)) ∧ KdsOk D C H ks ∧ ks.length ≤ 8 ∧ (∀ k ∈ ks, k.rs.length ≤ 6) ∧
  ∀ l ss H', H l = none → Same H H' → H' l = some (.lst (ss.map V.str)) → Rises (gr ks) ss → Q (.ref l) H'
abbrev s_Catalog_groups : Stmt := inClass (top 18) 4
theorem sc_Catalog_groups : FnScope ["self", "kind", "role"] ["self"] (defScope s_Catalog_groups) := ⟨rfl, rfl, rfl, by decide +kernel, rfl, by decide +kernel, by decide +kernel⟩
theorem ok_groups {mI mK mC : Addr} (m : Mf K "groups" "Catalog.groups" s_Catalog_groups ["self"]) (T : Bt mg) (c : Six K mg mI) (kc : Kc K mg mK) (cc : Cc K mg mC) : FnOk P w K mg base CX0 1 m.f m.fd ["self"] (spGroups cc.C kc.C c.C grps) := by
  refine m.F.ok sc_Catalog_groups (fun vs H Q E h => ?_) (fun cdv A outer s H vs Q E hr h => ?_)
  · obtain ⟨p, t, dx, ks, rfl, _⟩ := h
    rfl
  · obtain ⟨p, t, dx, ks, rfl, hp, ht, hks, hl, hl6, k⟩ := h
    have hu := hr.units
    refine ⟨_, (pss_one (ps_ret (ksortset K T (pe_lc2 (own := [("kind", 1), ("role", 2)]) (vs1 := [2]) (g := gName 1) (g1 := gName 2) (tt := tYes) (tt1 := tYes) rfl sc_Catalog_groups.nd (kpt K (kfld K (pv 0))) (blkOk_by (N := ["self", "kind", "role"]) (sc := defScope s_Catalog_groups) (by decide +kernel)) (by decide) (fun _ _ _ _ _ => (pg_name (i := 1) sc_Catalog_groups.nd rfl (Or.inl rfl))) (fun _ _ _ _ _ => pts_nil) (fun _ _ _ _ _ => (kpt K (kfld K (pv 1)))) (fun _ _ _ _ _ => (pg_name (i := 2) sc_Catalog_groups.nd rfl (Or.inl rfl))) (fun _ _ _ _ _ => pts_nil) (fun _ _ _ _ _ => (kfld K (pv 2))))))), ?_⟩
    refine Rd.start_ (σ' := [some (.ref p), none, none]) rfl ?_
    walk_at "rd"
    refine Rd.sortSetT ?_
    refine lc2T ?_
    walk_at "rd"
    refine ⟨p, cc.C, dx, _, _, rfl, hp, cc.cl, cc.nK, cflds_kinds _, ?_⟩
    refine Rd.extup (SqT.of ht) ?_
    have lk : (krefs ks).length = ks.length := List.length_map ..
    refine Rd.lc2D (s := 1) (s1 := 2) (M := 6) Rd.wTup (fun i => Itt K (ks.getD i kd0).t) (fun i => (ks.getD i kd0).rs.length) (fun i H' => SqT K H' (ks.getD i kd0).t (refs (ks.getD i kd0).rs)) (fun i j y => (refs (ks.getD i kd0).rs)[j]? = some y)
      (fun i _ => by have w := Rd.wTup (K := K) (a := (ks.getD i kd0).t) (xs := refs (ks.getD i kd0).rs); rw [List.length_map] at w; exact w) ?_ (by decide) (by rw [lk]; walk_at "sz")
      (fun i j acc H' => Same H H' ∧ acc = (grps (ks.take i) ++ ((ks.getD i kd0).rs.take j).map (·.g)).map fun l => V.str (S l)) ⟨Same.refl _, rfl⟩ (fun D hD i j acc zs H' _ q => ⟨same_upd q.1 hD, q.2⟩) (fun i acc H' _ q => SqT.of (q.1 _ _ ht)) ?_ ?_ ?_ ?_ ?_
    · intro i hi
      rw [lk] at hi
      rw [getD_at (List.getElem?_eq_getElem hi)]
      exact hl6 _ (List.getElem_mem hi)
    · intro i j acc H' hi hj q
      rw [lk] at hi
      have e := getD_at (List.getElem?_eq_getElem hi)
      show SqT K H' (ks.getD i kd0).t (refs (ks.getD i kd0).rs)
      rw [e]
      exact SqT.of (q.1 _ _ (hks _ (List.getElem_mem hi)).2.1)
    · intro i x acc H' hi hx q R hR
      obtain ⟨kk, hk', rfl⟩ := kref_at hx
      obtain ⟨⟨dk, hat⟩, hkt, _⟩ := hks.mono q.1 kk (List.mem_of_getElem? hk')
      have e := getD_at hk'
      rw [e] at hR
      dsimp only [List.set]
      unfold iTup
      walk_at "rd"
      refine ⟨kk.a, _, dk, _, _, rfl, hat, kc.cl, kc.nR, kflds_roles _ _, kk.t, rfl, ⟨_, SqT.of hkt⟩, hR⟩
    · rintro i acc H' hi ⟨q1, q2⟩
      rw [lk] at hi
      have hat := List.getElem?_eq_getElem hi
      refine ⟨q1, ?_⟩
      rw [q2, List.take_length, getD_at hat]
      have e3 : grps (ks.take (i + 1)) = grps (ks.take i) ++ ks[i].rs.map (·.g) := by
        unfold grps
        rw [List.take_add_one, hat]
        show (ks.take i ++ [ks[i]]).flatMap _ = _
        rw [List.flatMap_append]
        show _ ++ (ks[i].rs.map (·.g) ++ []) = _
        rw [List.append_nil]
      rw [e3]
      show _ = List.map _ (_ ++ List.map _ (List.take 0 _))
      rw [List.take_zero, List.map_nil, List.append_nil]
    · rintro D hD i j x y acc H' hi hj hx hy hacc ⟨q1, q2⟩ Kt Kf hT hF
      obtain ⟨kk, hk', rfl⟩ := kref_at hx
      have e := getD_at hk'
      rw [e] at hy q2
      obtain ⟨r, hr', rfl⟩ := ref_at hy
      obtain ⟨_, _, hro⟩ := hks.mono q1 kk (List.mem_of_getElem? hk')
      obtain ⟨rm, dr, hat⟩ := hro r (List.mem_of_getElem? hr')
      dsimp only [List.set]
      walk_at "rd"
      refine ⟨r.a, _, dr, _, _, rfl, hat, c.cl r.m, c.nG r.m, flds_group _ _, ?_⟩
      refine hT _ _ hacc ⟨q1, ?_⟩
      rw [q2, e, List.take_add_one, hr', List.map_append, List.map_append, List.map_append, List.map_append, List.append_assoc]
      rfl
    · rintro D acc H' hD hacc hlen ⟨q1, q2⟩
      rw [lk, List.take_length] at q2
      have e5 : acc = ((grps ks).map S).map V.str := by
        rw [q2, List.map_map]
        show List.map _ (grps ks ++ List.map _ (List.take 0 _)) = _
        rw [List.take_zero, List.map_nil, List.append_nil]
        rfl
      rw [e5] at hacc
      refine ⟨D, (grps ks).map S, rfl, SqL.of hacc, ?_, fun ss l r1 r2 r3 hl0 => ?_⟩
      · have := grps_len hl6
        rw [List.length_map]
        omega
      · exact k l ss _ (none_same q1 hl0) (q1.trans (same_new hl0)) upd_same ⟨r1, r2, r3⟩

end
section
variable {P : Program} {w : World} {K : PySem.W.Frag} {mg : Str → Option Value} {base : Heap} {tk : Tok}
/-! ### the groups that are made -/
theorem filt_take' {α : Type} {p : α → Bool} {l : List α} {i : Nat} {x : α} (h : l[i]? = some x) : (l.take (i + 1)).filter p = (l.take i).filter p ++ (if p x then [x] else []) := by
  rw [List.take_add_one, h, List.filter_append]
  congr 1
  cases hp : p x <;> simp [hp]
def mgrps (ks : List Kd) : List (List Nat) := ks.flatMap fun k => (k.rs.filter fun r => mkB r.m).map (·.g)
theorem mgrps_len {ks : List Kd} (h6 : ∀ k ∈ ks, k.rs.length ≤ 6) : (mgrps ks).length ≤ ks.length * 6 := by
  induction ks with
  | nil => exact Nat.zero_le _
  | cons k ks ih =>
    have h1 := h6 k List.mem_cons_self
    have h2 := ih fun k hk => h6 k (List.mem_cons_of_mem _ hk)
    have h3 := List.length_filter_le (fun r : Ro => mkB r.m) k.rs
    unfold mgrps at h2 ⊢
    rw [List.flatMap_cons, List.length_append, List.length_map, List.length_cons]
    omega
abbrev s_Catalog_made_groups : Stmt := inClass (top 18) 5
theorem sc_Catalog_made_groups : FnScope ["self", "kind", "role"] ["self"] (defScope s_Catalog_made_groups) := ⟨rfl, rfl, rfl, by decide +kernel, rfl, by decide +kernel, by decide +kernel⟩
theorem ok_mgroups {mI mK mC : Addr} (m : Mf K "made_groups" "Catalog.made_groups" s_Catalog_made_groups ["self"]) (T : Bt mg) (c : Six K mg mI) (kc : Kc K mg mK) (cc : Cc K mg mC) (t2 : ∀ m, m < 5 → Tells P w K mg base (c.C m) "makes" (.bl (mkB m))) : FnOk P w K mg base CX0 2 m.f m.fd ["self"] (spGroups cc.C kc.C c.C mgrps) := by
  refine m.F.ok sc_Catalog_made_groups (fun vs H Q E h => ?_) (fun cdv A outer s H vs Q E hr h => ?_)
  · obtain ⟨p, t, dx, ks, rfl, _⟩ := h
    rfl
  · obtain ⟨p, t, dx, ks, rfl, hp, ht, hks, hl, hl6, k⟩ := h
    have hu := hr.units
    have hr1 : Room 1 _ := hr.mono (by decide)
    refine ⟨_, (pss_one (ps_ret (ksortset K T (pe_lc2 (own := [("kind", 1), ("role", 2)]) (vs1 := [2]) (g := gName 1) (g1 := gName 2) (tt := tYes) rfl sc_Catalog_made_groups.nd (kpt K (kfld K (pv 0))) (blkOk_by (N := ["self", "kind", "role"]) (sc := defScope s_Catalog_made_groups) (by decide +kernel)) (by decide) (fun _ _ _ _ _ => (pg_name (i := 1) sc_Catalog_made_groups.nd rfl (Or.inl rfl))) (fun _ _ _ _ _ => pts_nil) (fun _ _ _ _ _ => (kpt K (kfld K (pv 1)))) (fun _ _ _ _ _ => (pg_name (i := 2) sc_Catalog_made_groups.nd rfl (Or.inl rfl))) (fun _ _ _ _ _ => (pts_one (pt_val (pe_altN (n := 5) (t := fun m => tMeth (c.C m) "makes" (spTells (.bl (mkB m))) [] E0 (tVar 2) tNil) fun m hm => by obtain ⟨_, _, _, dd, mm, GG⟩ := t2 m hm; exact pe_m0g (pv 2) (c.cl m) mm GG hr1 pass0 dd.b)))) (fun _ _ _ _ _ => (kfld K (pv 2))))))), ?_⟩
    refine Rd.start_ (σ' := [some (.ref p), none, none]) rfl ?_
    walk_at "rd"
    refine Rd.sortSetT ?_
    refine lc2T ?_
    walk_at "rd"
    refine ⟨p, cc.C, dx, _, _, rfl, hp, cc.cl, cc.nK, cflds_kinds _, ?_⟩
    refine Rd.extup (SqT.of ht) ?_
    have lk : (krefs ks).length = ks.length := List.length_map ..
    refine Rd.lc2D (s := 1) (s1 := 2) (M := 6) Rd.wTup (fun i => Itt K (ks.getD i kd0).t) (fun i => (ks.getD i kd0).rs.length) (fun i H' => SqT K H' (ks.getD i kd0).t (refs (ks.getD i kd0).rs)) (fun i j y => (refs (ks.getD i kd0).rs)[j]? = some y)
      (fun i _ => by have w := Rd.wTup (K := K) (a := (ks.getD i kd0).t) (xs := refs (ks.getD i kd0).rs); rw [List.length_map] at w; exact w) ?_ (by decide) (by rw [lk]; walk_at "sz")
      (fun i j acc H' => Same H H' ∧ acc = (mgrps (ks.take i) ++ (((ks.getD i kd0).rs.take j).filter fun r => mkB r.m).map (·.g)).map fun l => V.str (S l)) ⟨Same.refl _, rfl⟩ (fun D hD i j acc zs H' _ q => ⟨same_upd q.1 hD, q.2⟩) (fun i acc H' _ q => SqT.of (q.1 _ _ ht)) ?_ ?_ ?_ ?_ ?_
    · intro i hi
      rw [lk] at hi
      rw [getD_at (List.getElem?_eq_getElem hi)]
      exact hl6 _ (List.getElem_mem hi)
    · intro i j acc H' hi hj q
      rw [lk] at hi
      have e := getD_at (List.getElem?_eq_getElem hi)
      show SqT K H' (ks.getD i kd0).t (refs (ks.getD i kd0).rs)
      rw [e]
      exact SqT.of (q.1 _ _ (hks _ (List.getElem_mem hi)).2.1)
    · intro i x acc H' hi hx q R hR
      obtain ⟨kk, hk', rfl⟩ := kref_at hx
      obtain ⟨⟨dk, hat⟩, hkt, _⟩ := hks.mono q.1 kk (List.mem_of_getElem? hk')
      have e := getD_at hk'
      rw [e] at hR
      dsimp only [List.set]
      unfold iTup
      walk_at "rd"
      refine ⟨kk.a, _, dk, _, _, rfl, hat, kc.cl, kc.nR, kflds_roles _ _, kk.t, rfl, ⟨_, SqT.of hkt⟩, hR⟩
    · rintro i acc H' hi ⟨q1, q2⟩
      rw [lk] at hi
      have hat := List.getElem?_eq_getElem hi
      refine ⟨q1, ?_⟩
      rw [q2, List.take_length, getD_at hat]
      have e3 : mgrps (ks.take (i + 1)) = mgrps (ks.take i) ++ (ks[i].rs.filter fun r => mkB r.m).map (·.g) := by
        unfold mgrps
        rw [List.take_add_one, hat]
        show (ks.take i ++ [ks[i]]).flatMap _ = _
        rw [List.flatMap_append]
        show _ ++ ((ks[i].rs.filter fun r => mkB r.m).map (·.g) ++ []) = _
        rw [List.append_nil]
      rw [e3]
      show _ = List.map _ (_ ++ List.map _ (List.filter _ (List.take 0 _)))
      rw [List.take_zero, List.filter_nil, List.map_nil, List.append_nil]
    · rintro D hD i j x y acc H' hi hj hx hy hacc ⟨q1, q2⟩ Kt Kf hT hF
      obtain ⟨kk, hk', rfl⟩ := kref_at hx
      have e := getD_at hk'
      rw [e] at hy q2
      obtain ⟨r, hr', rfl⟩ := ref_at hy
      obtain ⟨_, _, hro⟩ := hks.mono q1 kk (List.mem_of_getElem? hk')
      obtain ⟨rm, dr, hat⟩ := hro r (List.mem_of_getElem? hr')
      dsimp only [List.set]
      have e1 := filt_take' (p := fun r : Ro => mkB r.m) hr'
      walk_at "rd"
      refine Rd.alt rm ?_
      walk_at "rd"
      refine ⟨r.a, dr, _, rfl, hat, flds_no _ _ (by decide +kernel) (by decide +kernel), ?_⟩
      walk_at "rd"
      refine ⟨r.a, rfl, ?_⟩
      walk_at "rd"
      cases hb : mkB r.m with
      | true =>
        rw [hb, if_pos rfl] at e1
        walk_at "rd"
        refine ⟨r.a, _, dr, _, _, rfl, hat, c.cl r.m, c.nG r.m, flds_group _ _, ?_⟩
        refine hT _ _ hacc ⟨q1, ?_⟩
        rw [q2, e, e1, List.map_append, List.map_append, List.map_append, List.map_append, List.append_assoc]
        rfl
      | false =>
        rw [hb, if_neg Bool.false_ne_true, List.append_nil] at e1
        walk_at "rd"
        refine hF _ hacc ⟨q1, ?_⟩
        rw [q2, e, e1]
    · rintro D acc H' hD hacc hlen ⟨q1, q2⟩
      rw [lk, List.take_length] at q2
      have e5 : acc = ((mgrps ks).map S).map V.str := by
        rw [q2, List.map_map]
        show List.map _ (mgrps ks ++ List.map _ (List.filter _ (List.take 0 _))) = _
        rw [List.take_zero, List.filter_nil, List.map_nil, List.append_nil]
        rfl
      rw [e5] at hacc
      refine ⟨D, (mgrps ks).map S, rfl, SqL.of hacc, ?_, fun ss l r1 r2 r3 hl0 => ?_⟩
      · have := mgrps_len hl6
        rw [List.length_map]
        omega
      · exact k l ss _ (none_same q1 hl0) (q1.trans (same_new hl0)) upd_same ⟨r1, r2, r3⟩

end
section
variable {P : Program} {w : World} {K : PySem.W.Frag} {mg : Str → Option Value} {base : Heap} {tk : Tok}
/-! ### the length of a catalog; the law's own sorting -/
def spCLen (CC : Addr) : Sp := fun vs H Q _ => ∃ (p t dx : Addr) (zs : List V), vs = [.ref p] ∧ H p = some (.ins CC dx (cflds t)) ∧ H t = some (.tup zs) ∧ Q (.int (zs.length : Nat)) H
abbrev s_Catalog___len : Stmt := inClass (top 18) 1
theorem sc_Catalog___len : FnScope ["self"] ["self"] (defScope s_Catalog___len) := ⟨rfl, rfl, rfl, by decide +kernel, rfl, by decide +kernel, by decide +kernel⟩
abbrev MCl (K : PySem.W.Frag) := Mf K "__len__" "Catalog.__len__" s_Catalog___len ["self"]
theorem ok_clen {mC : Addr} (m : MCl K) (T : Bt mg) (cc : Cc K mg mC) : FnOk P w K mg base CX0 1 m.f m.fd ["self"] (spCLen cc.C) := by
  refine m.F.ok sc_Catalog___len (fun vs H Q E h => ?_) (fun cdv A outer s H vs Q E hr h => ?_)
  · obtain ⟨p, t, dx, zs, rfl, _⟩ := h
    rfl
  · obtain ⟨p, t, dx, zs, rfl, hp, ht, k⟩ := h
    refine ⟨_, (pss_one (ps_ret (pe_callB (klen K) (by rfl) T.len (by decide +kernel) (pa_cons (kfld K (pv 0)) pa_nil)))), ?_⟩
    refine Rd.start_ (σ' := [some (.ref p)]) rfl ?_
    walk_at "rd"
    refine ⟨p, cc.C, dx, _, _, rfl, hp, cc.cl, cc.nK, cflds_kinds _, ?_⟩
    walk_at "rd"
    exact k
/-- a law's own sorting: R what an item is, lt its order; the list's items with their values -/
structure Ord (K : PySem.W.Frag) (α : Type) where
  R : Hp → α → V → Prop
  lt : α → α → Bool
  ne : α → α → Bool
  rL : R2
  rN : R2
  mono : ∀ {H H' : Hp} {x : α} {v : V}, Same H H' → R H x v → R H' x v
  upd : ∀ {H : Hp} {D : Addr} {zs ys : List V} {x : α} {v : V}, H D = some (.lst zs) → R H x v → R (upd H D (.lst ys)) x v
  rl : ∀ {H : Hp} {x y : α} {v u : V} {Q : VK}, R H x v → R H y u → Q (.bl (lt x y)) H → rL v u H Q
  rn : ∀ {H : Hp} {x y : α} {v u : V} {Q : VK}, R H x v → R H y u → Q (.bl (ne x y)) H → rN v u H Q
  en : ∀ x y, ne x y = false ↔ x = y
  irr : ∀ x, lt x x = false
  tr : ∀ x y z, lt x y = true → lt y z = true → lt x z = true
  tot : ∀ x y, lt x y = false → x ≠ y → lt y x = true
abbrev itV {α : Type} (L : List (V × α)) : List V := L.map (·.1)
def spSort {α : Type} (o : Ord K α) : Sp := fun vs H Q _ => ∃ (a : Addr) (L : List (V × α)), vs = [.ref a] ∧ H a = some (.lst (itV L)) ∧ (∀ p ∈ L, o.R H p.2 p.1) ∧ L.length ≤ 5000 ∧
  ∀ t H' (M : List (V × α)), H t = none → Same H H' → H' t = some (.lst (itV M)) → (∀ p ∈ M, p ∈ L) → (∀ p ∈ L, ∃ q ∈ M, q.2 = p.2) → M.Pairwise (fun p q => o.lt p.2 q.2 = true) → Q (.ref t) H'
abbrev s_law_sorted : Stmt := top 20
theorem sc_law_sorted : FnScope ["_law_rows", "_law_found", "_law_row", "_law_at"] ["_law_rows"] (defScope s_law_sorted) := ⟨rfl, rfl, rfl, by decide +kernel, rfl, by decide +kernel, by decide +kernel⟩
abbrev DSo (K : PySem.W.Frag) (mg : Str → Option Value) := Df K mg "_law_sorted" "_law_sorted" s_law_sorted ["_law_rows"]
theorem itV_at {α : Type} {L : List (V × α)} {i : Nat} {v : V} (h : (itV L)[i]? = some v) : ∃ p, L[i]? = some p ∧ v = p.1 := by
  rw [List.getElem?_map] at h
  obtain ⟨r, h1, h2⟩ := Option.map_eq_some_iff.mp h
  exact ⟨r, h1, h2.symm⟩
theorem itV_at' {α : Type} {L : List (V × α)} {k : Nat} {p : V × α} (h : L[k]? = some p) : atI (itV L) (k : Nat) = some p.1 := atI_nat (by rw [List.getElem?_map, h]; rfl)
theorem ins_len {α : Type} {l : List α} {k : Nat} {y : α} : (l.take k ++ [y] ++ l.drop k).length = l.length + 1 := by
  rw [List.length_append, List.length_append, List.length_take, List.length_drop, List.length_singleton]
  omega
theorem ins_pw {α : Type} {r : α → α → Prop} {l : List α} {k : Nat} {y : α} (h : l.Pairwise r) (h1 : ∀ x ∈ l.take k, r x y) (h2 : ∀ x ∈ l.drop k, r y x) : (l.take k ++ [y] ++ l.drop k).Pairwise r := by
  have e := List.take_append_drop k l
  rw [← e, List.pairwise_append] at h
  rw [List.append_assoc, List.pairwise_append]
  refine ⟨h.1, ?_, fun a ha b hb => ?_⟩
  · show ((y :: l.drop k)).Pairwise r
    rw [List.pairwise_cons]
    exact ⟨h2, h.2.1⟩
  · rcases List.mem_cons.mp (show b ∈ y :: l.drop k from hb) with e | e
    · rw [e]; exact h1 a ha
    · exact h.2.2 a ha b e
theorem ok_sorted {α : Type} (o : Ord K α) (hLt : ∀ X : Cx, X.K = K → X.A.units + 64 < cLine → OpR X (compareOp .Lt) o.rL) (hNe : ∀ X : Cx, X.K = K → X.A.units + 64 < cLine → OpR X (compareOp .NotEq) o.rN) (d : DSo K mg) (T : Bt mg) :
    FnOk P w K mg base CX0 1 d.f d.fd ["_law_rows"] (spSort o) := by
  refine d.F.ok sc_law_sorted (fun vs H Q E h => ?_) (fun cdv A outer s H vs Q E hr h => ?_)
  · obtain ⟨a, L, rfl, _⟩ := h
    rfl
  · obtain ⟨a, L, rfl, ha, hR, hl, k⟩ := h
    have hu := hr.units
    refine ⟨_, (pss_cons (ps_set (i := 1) sc_law_sorted.nd rfl (Or.inl rfl) (pe_lst pa_nil))
  (pss_cons (ps_for PassesOwn.never rfl (kpl K (pv 0)) (pg_name (i := 2) sc_law_sorted.nd rfl (Or.inl rfl))
  (pss_cons (ps_set (i := 3) sc_law_sorted.nd rfl (Or.inl rfl) pe_int)
  (pss_cons (ps_while PassesOwn.never (PW.pt (pw_and (pt_cmpR op_ltA (pv 3) (pe_callB (klen K) (by rfl) T.len (by decide +kernel) (pa_cons (pv 1) pa_nil)) (nomark _)) (pw_and1 (pt_cmpR (hLt _ rfl hu) (pe_ix (kix K) (pv 1) (pv 3) (fun _ _ => rfl)) (pv 2) (nomark _))))) (pss_one (ps_set (i := 3) sc_law_sorted.nd rfl (Or.inl rfl) (pe_op op_addA (pv 3) pe_int))))
  (pss_one (ps_if (PW.pt (pw_or (pt_cmpR (keq K hu) (pv 3) (pe_callB (klen K) (by rfl) T.len (by decide +kernel) (pa_cons (pv 1) pa_nil)) (nomark _)) (pw_or1 (pt_cmpR (hNe _ rfl hu) (pe_ix (kix K) (pv 1) (pv 3) (fun _ _ => rfl)) (pv 2) (nomark _))))) (pss_one (ps_expr (kins K (pv 1) (pa_cons (pv 3) (pa_cons (pv 2) pa_nil)))))
  pss_nil)))))
  (pss_one (ps_ret (pv 1))))), ?_⟩
    refine Rd.start_ (σ' := [some (.ref a), none, none, none]) rfl ?_
    walk_at "rd"
    refine ⟨by show 0 ≤ sizeLine; decide, fun D hD => ?_⟩
    have lL : (itV L).length = L.length := List.length_map ..
    have s0 := same_new (o := .lst []) hD
    walk_at "rd"
    refine Rd.exlist (SqL.of (s0 _ _ ha)) ?_
    refine Rd.foW Rd.wList (fun i σ H' => ∃ (o1 o2 : Option V) (M : List (V × α)), σ = [some (.ref a), some (.ref D), o1, o2] ∧ Same H H' ∧ H' D = some (.lst (itV M)) ∧ M.length ≤ i ∧ (∀ p ∈ M, p ∈ L) ∧ (∀ p ∈ L.take i, ∃ q ∈ M, q.2 = p.2) ∧ M.Pairwise (fun p q => o.lt p.2 q.2 = true))
      ⟨_, _, [], rfl, s0, upd_same, Nat.le_refl _, fun p hp => absurd hp List.not_mem_nil, fun p hp => absurd hp List.not_mem_nil, List.Pairwise.nil⟩ (fun i σ H' hi ⟨_, _, _, _, j, _⟩ => SqL.of (j _ _ ha)) ?_ ?_
    · rintro i y σ H' hi hy ⟨o1, o2, M, rfl, s1, hM, lM, m1, m2, m3⟩
      obtain ⟨x, hx, rfl⟩ := itV_at hy
      have hxm := List.mem_of_getElem? hx
      dsimp only [List.set]
      walk_at "rd"
      have lM2 : (itV M).length = M.length := List.length_map ..
      have rx := o.mono s1 (hR x hxm)
      refine Rd.mid (fun σ H2 => H2 = H' ∧ ∃ kk : Nat, kk ≤ M.length ∧ σ = [some (.ref a), some (.ref D), some x.1, some (.int (kk : Nat))] ∧ (∀ p ∈ M.take kk, o.lt p.2 x.2 = true) ∧ ∀ z, M[kk]? = some z → o.lt z.2 x.2 = false) ?_ ?_
      · rintro σ H2 ⟨rfl, kk, hk, rfl, hlt, hge⟩
        have next : ∀ (M' : List (V × α)) (G : Hp), (∀ p ∈ M', p ∈ M ∨ p = x) → (∀ p ∈ M, p ∈ M') → (∃ q ∈ M', q.2 = x.2) → M'.length ≤ M.length + 1 → M'.Pairwise (fun p q => o.lt p.2 q.2 = true) → Same H G → G D = some (.lst (itV M')) →
            ∃ (o1 o2 : Option V) (M : List (V × α)), [some (.ref a), some (.ref D), some x.1, some (.int (kk : Nat))] = [some (.ref a), some (.ref D), o1, o2] ∧ Same H G ∧ G D = some (.lst (itV M)) ∧ M.length ≤ i + 1 ∧ (∀ p ∈ M, p ∈ L) ∧ (∀ p ∈ L.take (i + 1), ∃ q ∈ M, q.2 = p.2) ∧ M.Pairwise (fun p q => o.lt p.2 q.2 = true) := by
          intro M' G n1 n2 n3 n4 n5 n6 n7
          refine ⟨_, _, M', rfl, n6, n7, by omega, fun p hp => ?_, fun p hp => ?_, n5⟩
          · rcases n1 p hp with q | q
            · exact m1 p q
            · rw [q]; exact hxm
          · rw [List.take_add_one, hx] at hp
            rcases List.mem_append.mp hp with q | q
            · obtain ⟨z, z1, z2⟩ := m2 p q
              exact ⟨z, n2 z z1, z2⟩
            · rw [List.mem_singleton.mp q]; exact n3
        have ins : ((∀ z, M[kk]? = some z → o.lt x.2 z.2 = true)) → ∃ (o1 o2 : Option V) (M_1 : List (V × α)), [some (.ref a), some (.ref D), some x.1, some (.int (kk : Nat))] = [some (.ref a), some (.ref D), o1, o2] ∧ Same H (L2.upd H2 D (.lst ((itV M).take kk ++ [x.1] ++ (itV M).drop kk))) ∧ L2.upd H2 D (.lst ((itV M).take kk ++ [x.1] ++ (itV M).drop kk)) D = some (.lst (itV M_1)) ∧ M_1.length ≤ i + 1 ∧ (∀ p ∈ M_1, p ∈ L) ∧ (∀ p ∈ L.take (i + 1), ∃ q ∈ M_1, q.2 = p.2) ∧ M_1.Pairwise (fun p q => o.lt p.2 q.2 = true) := fun hxz => by
          have e0 : (itV M).take kk ++ [x.1] ++ (itV M).drop kk = itV (M.take kk ++ [x] ++ M.drop kk) := by
            unfold itV
            rw [List.map_append, List.map_append, List.map_take, List.map_drop]
            rfl
          rw [e0]
          refine next (M.take kk ++ [x] ++ M.drop kk) _ (fun p hp => ?_) (fun p hp => ?_) ⟨x, by simp, rfl⟩ (by rw [ins_len]; exact Nat.le_refl _) (ins_pw m3 hlt fun p hp => ?_) (same_upd s1 hD) upd_same
          · rcases List.mem_append.mp hp with q | q
            · rcases List.mem_append.mp q with q | q
              · exact .inl (List.mem_of_mem_take q)
              · exact .inr (List.mem_singleton.mp q)
            · exact .inl (List.mem_of_mem_drop q)
          · rw [← List.take_append_drop kk M] at hp
            rcases List.mem_append.mp hp with q | q
            · exact List.mem_append.mpr (.inl (List.mem_append.mpr (.inl q)))
            · exact List.mem_append.mpr (.inr q)
          · rcases Nat.lt_or_ge kk M.length with lt | ge
            · have hz : M[kk]? = some M[kk] := List.getElem?_eq_getElem lt
              rw [List.drop_eq_getElem_cons lt] at hp
              rcases List.mem_cons.mp hp with q | q
              · rw [q]; exact hxz _ hz
              · rw [← List.take_append_drop kk M, List.pairwise_append, List.drop_eq_getElem_cons lt, List.pairwise_cons] at m3
                exact o.tr _ _ _ (hxz _ hz) (m3.2.1.1 p q)
            · rw [List.drop_of_length_le ge] at hp
              exact absurd hp List.not_mem_nil
        walk_at "rd"
        rw [lM2]
        refine Rd.iteD (fun c1 => ?_) (fun c1 => ?_)
        · walk_at "rd"
          refine Rd.insert hM (by rw [lM2]; walk_at "sz") (by omega) ?_
          have ce : kk = M.length := by omega
          exact ins fun z hz => by rw [ce, List.getElem?_eq_none (Nat.le_refl _)] at hz; cases hz
        · have c1' : kk < M.length := by omega
          have hz : M[kk]? = some M[kk] := List.getElem?_eq_getElem c1'
          have az := itV_at' hz
          have rz := o.mono s1 (hR _ (m1 _ (List.getElem_mem c1')))
          walk_at "rd"
          refine o.rn rz rx ?_
          walk_at "rd"
          cases hb : o.ne M[kk].2 x.2 with
          | true =>
            walk_at "rd"
            refine Rd.insert hM (by rw [lM2]; walk_at "sz") (by omega) ?_
            refine ins fun z hz' => ?_
            rw [hz] at hz'
            cases hz'
            exact o.tot _ _ (hge _ hz) fun e => by rw [(o.en _ _).mpr e] at hb; cases hb
          | false =>
            walk_at "rd"
            exact next M _ (fun p hp => .inl hp) (fun p hp => hp) ⟨_, List.getElem_mem c1', (o.en _ _).mp hb⟩ (Nat.le_succ _) m3 s1 hM
      · intro N' hN'
        refine Rd.whW (fun m σ H2 => ∃ kk : Nat, m = M.length - kk ∧ kk ≤ M.length ∧ H2 = H' ∧ σ = [some (.ref a), some (.ref D), some x.1, some (.int (kk : Nat))] ∧ ∀ p ∈ M.take kk, o.lt p.2 x.2 = true) M.length ⟨0, rfl, Nat.zero_le _, rfl, rfl, fun p hp => absurd hp List.not_mem_nil⟩ ?_
        rintro m σ H2 ⟨kk, rfl, hk, rfl, rfl, hlt⟩
        walk_at "rd"
        rw [lM2]
        refine Rd.iteD (fun c1 => ?_) (fun c1 => ?_)
        · have c1' : kk < M.length := by omega
          have hz : M[kk]? = some M[kk] := List.getElem?_eq_getElem c1'
          have az := itV_at' hz
          have rz := o.mono s1 (hR _ (m1 _ (List.getElem_mem c1')))
          walk_at "rd"
          refine o.rl rz rx ?_
          walk_at "rd"
          cases hb : o.lt M[kk].2 x.2 with
          | true =>
            walk_at "rd"
            refine Rd.whGo ?_
            walk_at "rd"
            refine ⟨M.length - (kk + 1), by omega, kk + 1, rfl, by omega, rfl, rfl, fun p hp => ?_⟩
            rw [List.take_add_one, hz] at hp
            rcases List.mem_append.mp hp with q | q
            · exact hlt p q
            · rw [List.mem_singleton.mp q]; exact hb
          | false =>
            walk_at "rd"
            exact hN' _ _ ⟨rfl, kk, hk, rfl, hlt, fun z hz' => by rw [hz] at hz'; cases hz'; exact hb⟩
        · walk_at "rd"
          exact hN' _ _ ⟨rfl, kk, hk, rfl, hlt, fun z hz' => absurd (List.getElem?_eq_some_iff.mp hz').1 (by omega)⟩
    · rintro σ H' ⟨o1, o2, M, rfl, s1, hM, lM, m1, m2, m3⟩
      rw [lL, List.take_length] at m2
      walk_at "rd"
      exact k D H' M hD s1 hM m1 m2 m3

end
section
variable {P : Program} {w : World} {K : PySem.W.Frag} {mg : Str → Option Value} {base : Heap} {tk : Tok}
/-! ### lists of tuples of flat things, compared -/
inductive TlAt (H : Hp) : List V → List (List V) → Prop
  | nil : TlAt H [] []
  | cons {a : Addr} {xs : List V} {vs : List V} {xss : List (List V)} : H a = some (.tup xs) → TlAt H vs xss → TlAt H (.ref a :: vs) (xs :: xss)
theorem TlAt.mono {H H' : Hp} {vs : List V} {xss : List (List V)} (h : TlAt H vs xss) (e : Same H H') : TlAt H' vs xss := by
  induction h with
  | nil => exact .nil
  | cons h _ ih => exact .cons (e _ _ h) ih
theorem TlAt.app {H : Hp} {vs us : List V} {ps qs : List (List V)} (h : TlAt H vs ps) (k : TlAt H us qs) : TlAt H (vs ++ us) (ps ++ qs) := by
  induction h with
  | nil => exact k
  | cons h _ ih => exact .cons h ih
theorem TlAt.one {H : Hp} {a : Addr} {xs : List V} {vs : List V} {ps : List (List V)} (h : TlAt H vs ps) (k : H a = some (.tup xs)) : TlAt H (vs ++ [.ref a]) (ps ++ [xs]) := h.app (.cons k .nil)
theorem TlAt.upd {H : Hp} {D : Addr} {zs : List V} {vs : List V} {ps : List (List V)} (h : TlAt H vs ps) (hD : ∀ o, H D = some (.tup o) → False) : TlAt (upd H D (.lst zs)) vs ps := by
  induction h with
  | nil => exact .nil
  | @cons a xs vs xss h _ ih => exact .cons (by rw [upd_ne (fun z => hD _ (by rw [← z]; exact h))]; exact h) ih
theorem TlAt.len {H : Hp} {vs : List V} {ps : List (List V)} (h : TlAt H vs ps) : vs.length = ps.length := by
  induction h with
  | nil => rfl
  | cons _ _ ih => rw [List.length_cons, List.length_cons, ih]
theorem TlAt.get {H : Hp} {vs : List V} {ps : List (List V)} (h : TlAt H vs ps) : ∀ {i : Nat} {v : V}, vs[i]? = some v → ∃ a xs, v = .ref a ∧ ps[i]? = some xs ∧ H a = some (.tup xs) := by
  induction h with
  | nil => intro i v h; simp at h
  | @cons a xs vs xss h _ ih =>
    intro i v e
    cases i with
    | zero => exact ⟨a, xs, (Option.some.inj e).symm, rfl, h⟩
    | succ i => exact ih e
abbrev datL (xss : List (List V)) : List PyData := xss.map fun xs => PyData.tuple (xs.map dOf)
theorem TlAt.dp {H : Hp} {vs : List V} {xss : List (List V)} (h : TlAt H vs xss) (k : xss.all (fun xs => xs.all okV) = true) : DpAll K H vs (datL xss) := by
  induction h with
  | nil => exact .nil
  | cons h _ ih =>
    rw [List.all_cons, Bool.and_eq_true] at k
    exact .cons (.tup (SqT.of h) (dp_all k.1)) (ih k.2)
theorem can_datL : ∀ {xss : List (List V)}, xss.all (fun xs => xs.all okV) = true → PyData.canLayAll0 (datL xss) = true
  | [], _ => rfl
  | xs :: xss, k => by
    rw [List.all_cons, Bool.and_eq_true] at k
    show (PyData.canLay0 (.tuple (xs.map dOf)) && PyData.canLayAll0 (datL xss)) = true
    rw [can_datL k.2, Bool.and_true]
    exact can_all k.1
theorem depth_datL : ∀ xss : List (List V), PyData.depthAll (datL xss) ≤ 1
  | [] => Nat.zero_le _
  | xs :: xss => by
    show max (PyData.depth (.tuple (xs.map dOf))) (PyData.depthAll (datL xss)) ≤ 1
    refine Nat.max_le.mpr ⟨?_, depth_datL xss⟩
    show PyData.depthAll (xs.map dOf) + 1 ≤ 1
    rw [depth_all]
    exact Nat.le_refl _
theorem sh_datL {xss : List (List V)} (k : xss.all (fun xs => xs.all okV) = true) : SeqAt.shaped (.list (datL xss)) = true := by
  show (PyData.canLayAll0 (datL xss) && decide (PyData.depthAll (datL xss) + 1 ≤ 64)) = true
  have := depth_datL xss
  rw [can_datL k, Bool.true_and]
  exact decide_eq_true (by omega)
theorem refl_datL {xss : List (List V)} (k : xss.all (fun xs => xs.all okV) = true) : PyData.eqv (.list (datL xss)) (.list (datL xss)) = true := SeqAt.eqv_refl _ (can_datL k)
theorem eqTl {H : Hp} {Q : VK} {a b : Addr} {vs us : List V} {xss : List (List V)} (h1 : H a = some (.lst vs)) (h2 : H b = some (.lst us)) (t1 : TlAt H vs xss) (t2 : TlAt H us xss) (k : xss.all (fun xs => xs.all okV) = true) (q : Q (.bl true) H) : rEqA K (.ref a) (.ref b) H Q :=
  Rd.eqD (.lst (SqL.of h1) (t1.dp k)) (.lst (SqL.of h2) (t2.dp k)) (sh_datL k) (sh_datL k) (by rw [refl_datL k]; exact q)
theorem neTl {H : Hp} {Q : VK} {a b : Addr} {vs us : List V} {xss : List (List V)} (h1 : H a = some (.lst vs)) (h2 : H b = some (.lst us)) (t1 : TlAt H vs xss) (t2 : TlAt H us xss) (k : xss.all (fun xs => xs.all okV) = true) (q : Q (.bl false) H) : rNeA K (.ref a) (.ref b) H Q :=
  Rd.neD (.lst (SqL.of h1) (t1.dp k)) (.lst (SqL.of h2) (t2.dp k)) (sh_datL k) (sh_datL k) (by rw [refl_datL k]; exact q)
theorem ok_S {l : List Nat} (h : Nm l) : okV (.str (S l)) = true := by
  show l.toArray.all (· < 0x110000) = true
  rw [List.all_toArray]
  exact List.all_eq_true.mpr fun c hc => decide_eq_true (by have := h.2.2 c hc; omega)
/-! ### the law's helpers about one kind -/
def markOf : Nat → List Nat
  | 0 => [114]
  | 1 => [109]
  | 2 => [102]
  | 3 => [114, 109]
  | 4 => [114, 102]
  | _ => []
theorem Six.mark {mI : Addr} (c : Six K mg mI) (m : Nat) : ∃ u, Con K (c.C m) "MARK" (.str (S (markOf m))) u := match m with
  | 0 => ⟨_, c.e.mark⟩
  | 1 => ⟨_, c.m.mark⟩
  | 2 => ⟨_, c.f.mark⟩
  | 3 => ⟨_, c.b.mark⟩
  | 4 => ⟨_, c.w.mark⟩
  | _ + 5 => ⟨_, c.r.mark⟩
def mrk (n g : List Nat) (m : Nat) : List V := [.str (S n), .str (S g), .str (S (markOf m))]
def spMark (C : Nat → Addr) : Sp := fun vs H Q _ => ∃ (a : Addr) (n g : List Nat) (m : Nat), vs = [.ref a] ∧ RoleAt (C m) H a n g ∧ ∀ t, H t = none → Q (.ref t) (upd H t (.tup (mrk n g m)))
abbrev Tri := List Nat × List Nat × Nat
def tri (ts : List Tri) : List (List V) := ts.map fun r => [V.str (S r.1), V.str (S r.2.1), V.int (r.2.2 : Nat)]
theorem tri_at {H : Hp} {vs : List V} {ts : List Tri} (h : TlAt H vs (tri ts)) {i : Nat} {v : V} (e : vs[i]? = some v) : ∃ a r, v = .ref a ∧ ts[i]? = some r ∧ H a = some (.tup [V.str (S r.1), V.str (S r.2.1), V.int (r.2.2 : Nat)]) := by
  obtain ⟨a, xs, rfl, h2, h3⟩ := h.get e
  unfold tri at h2
  rw [List.getElem?_map] at h2
  obtain ⟨r, h4, rfl⟩ := Option.map_eq_some_iff.mp h2
  exact ⟨a, r, rfl, h4, h3⟩
theorem tri_len {H : Hp} {vs : List V} {ts : List Tri} (h : TlAt H vs (tri ts)) : vs.length = ts.length := by
  rw [h.len]; unfold tri; rw [List.length_map]
theorem tri_ok {ts : List Tri} (h : ∀ r ∈ ts, Nm r.1 ∧ Nm r.2.1) : (tri ts).all (fun xs => xs.all okV) = true := by
  rw [List.all_eq_true]
  intro xs hx
  obtain ⟨r, hr, rfl⟩ := List.mem_map.mp hx
  rw [List.all_cons, List.all_cons, List.all_cons, ok_S (h r hr).1, ok_S (h r hr).2]
  rfl

end
section
variable {P : Program} {w : World} {K : PySem.W.Frag} {mg : Str → Option Value} {base : Heap} {tk : Tok}
/-! ### the law's groups -/
/-- texts -/
def ordS (K : PySem.W.Frag) : Ord K (List Nat) where
  R := fun _ x v => v = .str (S x)
  lt := fun x y => decide (x < y)
  ne := fun x y => !decide (x = y)
  rL := rLtA
  rN := rNeA K
  mono := fun _ h => h
  upd := fun _ h => h
  rl := fun {H x y v u Q} h1 h2 q => by subst h1 h2; exact Rd.ltS q
  rn := fun {H x y v u Q} h1 h2 q => by subst h1 h2; exact RS.ne q
  en := fun x y => by
    rw [Bool.not_eq_false', decide_eq_true_iff]
  irr := fun x => decide_eq_false (List.lt_irrefl x)
  tr := fun x y z h1 h2 => decide_eq_true (List.lt_trans (of_decide_eq_true h1) (of_decide_eq_true h2))
  tot := fun x y h1 h2 => decide_eq_true (Classical.byContradiction fun z => h2 (List.le_antisymm z (of_decide_eq_false h1)))
abbrev txts (ls : List (List Nat)) : List V := ls.map fun l => V.str (S l)
abbrev Rise (ls : List (List Nat)) : Prop := ls.Pairwise (· < ·)
/-- _law_sorted of texts -/
theorem sort_texts {a : Addr} {ls : List (List Nat)} {H : Hp} {Q : VK} {E : XK} (ha : H a = some (.lst (txts ls))) (hl : ls.length ≤ 5000) (k : ∀ t H' rs, H t = none → Same H H' → H' t = some (.lst (txts rs)) → Rise rs → (∀ x, x ∈ rs ↔ x ∈ ls) → Q (.ref t) H') : spSort (ordS K) [.ref a] H Q E := by
  have e0 : itV (ls.map fun l => (V.str (S l), l)) = txts ls := by unfold itV txts; rw [List.map_map]; rfl
  refine ⟨a, ls.map fun l => (V.str (S l), l), rfl, by rw [e0]; exact ha, fun p hp => ?_, by rw [List.length_map]; exact hl, fun t H' M hn s h1 h2 h3 h4 => ?_⟩
  · obtain ⟨l, _, rfl⟩ := List.mem_map.mp hp
    rfl
  · have hM : ∀ p ∈ M, p.1 = V.str (S p.2) ∧ p.2 ∈ ls := fun p hp => by
      obtain ⟨l, hl, e⟩ := List.mem_map.mp (h2 p hp)
      rw [← e]
      exact ⟨rfl, hl⟩
    have e1 : itV M = txts (M.map (·.2)) := by
      unfold itV txts
      rw [List.map_map]
      exact List.map_congr_left fun p hp => (hM p hp).1
    refine k t H' (M.map (·.2)) hn s (by rw [← e1]; exact h1) (List.pairwise_map.mpr (h4.imp fun h => of_decide_eq_true h)) fun x => ⟨fun hx => ?_, fun hx => ?_⟩
    · obtain ⟨p, hp, rfl⟩ := List.mem_map.mp hx
      exact (hM p hp).2
    · obtain ⟨q, hq, e⟩ := h3 _ (List.mem_map.mpr ⟨x, hx, rfl⟩)
      exact List.mem_map.mpr ⟨q, hq, e⟩
structure Kp where
  a : Addr
  n : List Nat
  l : Addr
  us : List V
  ts : List Tri
def KpOk (H : Hp) (k : Kp) : Prop := H k.a = some (.tup [.str (S k.n), .ref k.l]) ∧ H k.l = some (.lst k.us) ∧ TlAt H k.us (tri k.ts)
def KpsOk (H : Hp) (ps : List Kp) : Prop := ∀ k ∈ ps, KpOk H k
theorem KpOk.mono {H H' : Hp} {k : Kp} (h : KpOk H k) (e : Same H H') : KpOk H' k := ⟨e _ _ h.1, e _ _ h.2.1, h.2.2.mono e⟩
theorem KpsOk.mono {H H' : Hp} {ps : List Kp} (h : KpsOk H ps) (e : Same H H') : KpsOk H' ps := fun k hk => (h k hk).mono e
abbrev prefs (ps : List Kp) : List V := ps.map fun k => V.ref k.a
theorem pref_at {ps : List Kp} {i : Nat} {x : V} (h : (prefs ps)[i]? = some x) : ∃ k, ps[i]? = some k ∧ x = .ref k.a := by
  rw [List.getElem?_map] at h
  obtain ⟨r, h1, h2⟩ := Option.map_eq_some_iff.mp h
  exact ⟨r, h1, h2.symm⟩
def pgrps (ps : List Kp) : List (List Nat) := ps.flatMap fun k => k.ts.map (·.2.1)
def pmgrps (ps : List Kp) : List (List Nat) := ps.flatMap fun k => (k.ts.filter fun r => decide (0 < r.2.2)).map (·.2.1)
theorem fm_take {α β : Type} {f : α → List β} {l : List α} {i : Nat} {x : α} (h : l[i]? = some x) : (l.take (i + 1)).flatMap f = (l.take i).flatMap f ++ f x := by
  rw [List.take_add_one, h, List.flatMap_append]
  show _ ++ (f x ++ []) = _
  rw [List.append_nil]
theorem fm_len {α β : Type} {f : α → List β} {m : Nat} : ∀ {l : List α}, (∀ x ∈ l, (f x).length ≤ m) → (l.flatMap f).length ≤ l.length * m
  | [], _ => Nat.zero_le _
  | x :: l, h => by
    have h1 := h x List.mem_cons_self
    have h2 := fm_len (f := f) (l := l) fun y hy => h y (List.mem_cons_of_mem _ hy)
    rw [List.flatMap_cons, List.length_append, List.length_cons, Nat.succ_mul]
    omega
theorem tri_key {ts : List Tri} {r : Tri} {i : Nat} (h : ts[i]? = some r) (f : Tri → List Nat) : (ts.take (i + 1)).map f = (ts.take i).map f ++ [f r] := by
  rw [List.take_add_one, h, List.map_append]
  rfl
theorem pgrps_le {ps : List Kp} (h8 : ps.length ≤ 8) (h6 : ∀ k ∈ ps, k.ts.length ≤ 6) (i : Nat) : (pgrps (ps.take i)).length ≤ 48 := by
  have h := fm_len (f := fun k : Kp => k.ts.map (·.2.1)) (m := 6) (l := ps.take i) fun k hk => by rw [List.length_map]; exact h6 k (List.mem_of_mem_take hk)
  have h2 : (ps.take i).length ≤ 8 := by rw [List.length_take]; omega
  have h3 : (ps.take i).length * 6 ≤ 8 * 6 := Nat.mul_le_mul_right _ h2
  unfold pgrps
  omega
def spLGroups (gr : List Kp → List (List Nat)) : Sp := fun vs H Q _ => ∃ (a : Addr) (ps : List Kp), vs = [.ref a] ∧ H a = some (.lst (prefs ps)) ∧ KpsOk H ps ∧ ps.length ≤ 8 ∧ (∀ k ∈ ps, k.ts.length ≤ 6) ∧
  ∀ t H' rs, H t = none → Same H H' → H' t = some (.lst (txts rs)) → Rise rs → (∀ x, x ∈ rs ↔ x ∈ gr ps) → Q (.ref t) H'
abbrev s_law_groups : Stmt := top 21
theorem sc_law_groups : FnScope ["_law_kinds", "_law_groups_here", "_law_kind_here", "_law_role_here"] ["_law_kinds"] (defScope s_law_groups) := ⟨rfl, rfl, rfl, by decide +kernel, rfl, by decide +kernel, by decide +kernel⟩
abbrev DLg (K : PySem.W.Frag) (mg : Str → Option Value) := Df K mg "_law_groups" "_law_groups" s_law_groups ["_law_kinds"]
theorem ok_lgroups (d : DLg K mg) (T : Bt mg) (dSo : DSo K mg) : FnOk P w K mg base CX0 2 d.f d.fd ["_law_kinds"] (spLGroups pgrps) := by
  have GSo : FnOk P w K mg base CX0 1 dSo.f dSo.fd _ (spSort (ordS K)) := ok_sorted (ordS K) (fun X _ _ => op_ltA) (fun X h hu => kne K hu h) dSo T
  refine d.F.ok sc_law_groups (fun vs H Q E h => ?_) (fun cdv A outer s H vs Q E hr h => ?_)
  · obtain ⟨a, ps, rfl, _⟩ := h
    rfl
  · obtain ⟨a, ps, rfl, ha, hps, h8, h6, k⟩ := h
    have hu := hr.units
    have hr1 : Room 1 _ := hr.mono (by decide)
    have lP : (prefs ps).length = ps.length := List.length_map ..
    refine ⟨_, (pss_cons (ps_set (i := 1) sc_law_groups.nd rfl (Or.inl rfl) (pe_lst pa_nil))
  (pss_cons (ps_for PassesOwn.never rfl (kpl K (pv 0)) (pg_name (i := 2) sc_law_groups.nd rfl (Or.inl rfl))
  (pss_one (ps_for PassesOwn.never rfl (kpl K (pe_ix (kix K) (pv 2) pe_int (fun _ _ => rfl))) (pg_name (i := 3) sc_law_groups.nd rfl (Or.inl rfl))
  (pss_one (ps_expr (kapp K (pv 1) (pa_cons (pe_ix (kix K) (pv 3) pe_int (fun _ _ => rfl)) pa_nil)))))))
  (pss_one (ps_ret (pe_cf dSo GSo hr1 pass0 (pa_cons (pv 1) pa_nil)))))), ?_⟩
    refine Rd.start_ (σ' := [some (.ref a), none, none, none]) rfl ?_
    walk_at "rd"
    refine ⟨by show 0 ≤ sizeLine; decide, fun D hD => ?_⟩
    have s0 := same_new (o := .lst []) hD
    walk_at "rd"
    refine Rd.exlist (SqL.of (s0 _ _ ha)) ?_
    refine Rd.foW Rd.wList (fun i σ H' => ∃ (o1 o2 : Option V), σ = [some (.ref a), some (.ref D), o1, o2] ∧ Same H H' ∧ H' D = some (.lst (txts (pgrps (ps.take i))))) ⟨_, _, rfl, s0, upd_same⟩ (fun i σ H' hi ⟨_, _, _, j, _⟩ => SqL.of (j _ _ ha)) ?_ ?_
    · rintro i y σ H' hi hy ⟨o1, o2, rfl, s1, hM⟩
      obtain ⟨kk, hx, rfl⟩ := pref_at hy
      obtain ⟨k1, k2, k3⟩ := (hps.mono s1) kk (List.mem_of_getElem? hx)
      have hT := (hps kk (List.mem_of_getElem? hx)).2.2
      dsimp only [List.set]
      walk_at "rd"
      refine Rd.foW Rd.wList (fun j σ H2 => ∃ o2, σ = [some (.ref a), some (.ref D), some (.ref kk.a), o2] ∧ Same H H2 ∧ H2 D = some (.lst (txts (pgrps (ps.take i) ++ (kk.ts.take j).map (·.2.1))))) ⟨_, rfl, s1, by rw [List.take_zero, List.map_nil, List.append_nil]; exact hM⟩
        (fun j σ H2 hj ⟨_, _, q, _⟩ => SqL.of (q _ _ (hps kk (List.mem_of_getElem? hx)).2.1)) ?_ ?_
      · rintro j y σ H2 hj hy2 ⟨o2, rfl, s2, hM2⟩
        obtain ⟨ta, r, rfl, hr', hat⟩ := tri_at (hT.mono s2) hy2
        dsimp only [List.set]
        walk_at "rd"
        refine Rd.append hM2 ?_ ?_
        · have e1 := pgrps_le h8 h6 i
          have e2 := h6 kk (List.mem_of_getElem? hx)
          have e3 : ((kk.ts.take j).map fun r => r.2.1).length ≤ 6 := by rw [List.length_map, List.length_take]; omega
          rw [List.length_map, List.length_append]
          walk_at "sz"
        · walk_at "rd"
          refine ⟨_, rfl, same_upd s2 hD, ?_⟩
          rw [upd_same, tri_key hr' fun r => r.2.1, ← List.append_assoc]
          simp only [txts, List.map_append, List.map_cons, List.map_nil]
      · rintro σ H2 ⟨o2, rfl, s2, hM2⟩
        walk_at "rd"
        refine ⟨_, _, rfl, s2, ?_⟩
        rw [hM2, tri_len hT, List.take_length]
        unfold pgrps
        rw [fm_take hx]
    · rintro σ H' ⟨o1, o2, rfl, s1, hM⟩
      rw [lP, List.take_length] at hM
      walk_at "rd"
      have hle := pgrps_le h8 h6 ps.length
      rw [List.take_length] at hle
      exact sort_texts hM (by omega) fun t H2 rs hn s2 ht h1 h2 => k t H2 rs (none_same s1 hn) (s1.trans s2) ht h1 h2
abbrev s_law_made_groups : Stmt := top 22
theorem sc_law_made_groups : FnScope ["_law_kinds", "_law_groups_here", "_law_kind_here", "_law_role_here"] ["_law_kinds"] (defScope s_law_made_groups) := ⟨rfl, rfl, rfl, by decide +kernel, rfl, by decide +kernel, by decide +kernel⟩
abbrev DLm (K : PySem.W.Frag) (mg : Str → Option Value) := Df K mg "_law_made_groups" "_law_made_groups" s_law_made_groups ["_law_kinds"]
theorem filt_take {α : Type} {p : α → Bool} {l : List α} {i : Nat} {x : α} (h : l[i]? = some x) : (l.take (i + 1)).filter p = (l.take i).filter p ++ (if p x then [x] else []) := filt_take' h
theorem pmgrps_le {ps : List Kp} (h8 : ps.length ≤ 8) (h6 : ∀ k ∈ ps, k.ts.length ≤ 6) (i : Nat) : (pmgrps (ps.take i)).length ≤ 48 := by
  have h := fm_len (f := fun k : Kp => (k.ts.filter fun r => decide (0 < r.2.2)).map (·.2.1)) (m := 6) (l := ps.take i) fun k hk => by
    rw [List.length_map]; exact Nat.le_trans (List.length_filter_le _ _) (h6 k (List.mem_of_mem_take hk))
  have h2 : (ps.take i).length ≤ 8 := by rw [List.length_take]; omega
  have h3 : (ps.take i).length * 6 ≤ 8 * 6 := Nat.mul_le_mul_right _ h2
  unfold pmgrps
  omega
theorem ok_lmgroups (d : DLm K mg) (T : Bt mg) (dSo : DSo K mg) : FnOk P w K mg base CX0 2 d.f d.fd ["_law_kinds"] (spLGroups pmgrps) := by
  have GSo : FnOk P w K mg base CX0 1 dSo.f dSo.fd _ (spSort (ordS K)) := ok_sorted (ordS K) (fun X _ _ => op_ltA) (fun X h hu => kne K hu h) dSo T
  refine d.F.ok sc_law_made_groups (fun vs H Q E h => ?_) (fun cdv A outer s H vs Q E hr h => ?_)
  · obtain ⟨a, ps, rfl, _⟩ := h
    rfl
  · obtain ⟨a, ps, rfl, ha, hps, h8, h6, k⟩ := h
    have hu := hr.units
    have hr1 : Room 1 _ := hr.mono (by decide)
    have lP : (prefs ps).length = ps.length := List.length_map ..
    refine ⟨_, (pss_cons (ps_set (i := 1) sc_law_made_groups.nd rfl (Or.inl rfl) (pe_lst pa_nil))
  (pss_cons (ps_for PassesOwn.never rfl (kpl K (pv 0)) (pg_name (i := 2) sc_law_made_groups.nd rfl (Or.inl rfl))
  (pss_one (ps_for PassesOwn.never rfl (kpl K (pe_ix (kix K) (pv 2) pe_int (fun _ _ => rfl))) (pg_name (i := 3) sc_law_made_groups.nd rfl (Or.inl rfl))
  (pss_one (ps_if (pt_cmpR op_gtI (pe_ix (kix K) (pv 3) pe_int (fun _ _ => rfl)) pe_int (nomark _)) (pss_one (ps_expr (kapp K (pv 1) (pa_cons (pe_ix (kix K) (pv 3) pe_int (fun _ _ => rfl)) pa_nil))))
  pss_nil)))))
  (pss_one (ps_ret (pe_cf dSo GSo hr1 pass0 (pa_cons (pv 1) pa_nil)))))), ?_⟩
    refine Rd.start_ (σ' := [some (.ref a), none, none, none]) rfl ?_
    walk_at "rd"
    refine ⟨by show 0 ≤ sizeLine; decide, fun D hD => ?_⟩
    have s0 := same_new (o := .lst []) hD
    walk_at "rd"
    refine Rd.exlist (SqL.of (s0 _ _ ha)) ?_
    refine Rd.foW Rd.wList (fun i σ H' => ∃ (o1 o2 : Option V), σ = [some (.ref a), some (.ref D), o1, o2] ∧ Same H H' ∧ H' D = some (.lst (txts (pmgrps (ps.take i))))) ⟨_, _, rfl, s0, upd_same⟩ (fun i σ H' hi ⟨_, _, _, j, _⟩ => SqL.of (j _ _ ha)) ?_ ?_
    · rintro i y σ H' hi hy ⟨o1, o2, rfl, s1, hM⟩
      obtain ⟨kk, hx, rfl⟩ := pref_at hy
      obtain ⟨k1, k2, k3⟩ := (hps.mono s1) kk (List.mem_of_getElem? hx)
      have hT := (hps kk (List.mem_of_getElem? hx)).2.2
      dsimp only [List.set]
      walk_at "rd"
      refine Rd.foW Rd.wList (fun j σ H2 => ∃ o2, σ = [some (.ref a), some (.ref D), some (.ref kk.a), o2] ∧ Same H H2 ∧ H2 D = some (.lst (txts (pmgrps (ps.take i) ++ ((kk.ts.take j).filter fun r => decide (0 < r.2.2)).map (·.2.1))))) ⟨_, rfl, s1, by rw [List.take_zero, List.filter_nil, List.map_nil, List.append_nil]; exact hM⟩
        (fun j σ H2 hj ⟨_, _, q, _⟩ => SqL.of (q _ _ (hps kk (List.mem_of_getElem? hx)).2.1)) ?_ ?_
      · rintro j y σ H2 hj hy2 ⟨o2, rfl, s2, hM2⟩
        obtain ⟨ta, r, rfl, hr', hat⟩ := tri_at (hT.mono s2) hy2
        dsimp only [List.set]
        have e0 := filt_take (p := fun r : Tri => decide (0 < r.2.2)) hr'
        walk_at "rd"
        refine Rd.iteD (fun c1 => ?_) (fun c1 => ?_)
        · rw [if_pos (decide_eq_true (by omega))] at e0
          walk_at "rd"
          refine Rd.append hM2 ?_ ?_
          · have e1 := pmgrps_le h8 h6 i
            have e2 := h6 kk (List.mem_of_getElem? hx)
            have e3 : (((kk.ts.take j).filter fun r => decide (0 < r.2.2)).map fun r => r.2.1).length ≤ 6 := by
              rw [List.length_map]
              refine Nat.le_trans (List.length_filter_le _ _) ?_
              rw [List.length_take]; omega
            rw [List.length_map, List.length_append]
            walk_at "sz"
          · walk_at "rd"
            refine ⟨_, rfl, same_upd s2 hD, ?_⟩
            rw [upd_same, e0, List.map_append, ← List.append_assoc]
            simp only [txts, List.map_append, List.map_cons, List.map_nil]
        · rw [if_neg (by rw [decide_eq_false (by omega)]; decide), List.append_nil] at e0
          walk_at "rd"
          exact ⟨_, rfl, s2, by rw [e0]; exact hM2⟩
      · rintro σ H2 ⟨o2, rfl, s2, hM2⟩
        walk_at "rd"
        refine ⟨_, _, rfl, s2, ?_⟩
        rw [hM2, tri_len hT, List.take_length]
        unfold pmgrps
        rw [fm_take hx]
    · rintro σ H' ⟨o1, o2, rfl, s1, hM⟩
      rw [lP, List.take_length] at hM
      walk_at "rd"
      have hle := pmgrps_le h8 h6 ps.length
      rw [List.take_length] at hle
      exact sort_texts hM (by omega) fun t H2 rs hn s2 ht h1 h2 => k t H2 rs (none_same s1 hn) (s1.trans s2) ht h1 h2

end
section
variable {P : Program} {w : World} {K : PySem.W.Frag} {mg : Str → Option Value} {base : Heap} {tk : Tok}
/-! ### marks, rows, pools -/
def trs (rs : List Ro) : List Tri := rs.map fun r => (r.n, r.g, r.m)
theorem mark_nm {m : Nat} (h : m < 5) : Nm (markOf m) := by
  have h' : m = 0 ∨ m = 1 ∨ m = 2 ∨ m = 3 ∨ m = 4 := by omega
  rcases h' with rfl | rfl | rfl | rfl | rfl <;> (unfold Nm markOf; decide)
def marksV : List V := [.str (S [114]), .str (S [109]), .str (S [102]), .str (S [114, 109]), .str (S [114, 102])]
theorem marks_at {m : Nat} (h : m < 5) : atI marksV (m : Nat) = some (.str (S (markOf m))) := by
  have h' : m = 0 ∨ m = 1 ∨ m = 2 ∨ m = 3 ∨ m = 4 := by omega
  rcases h' with rfl | rfl | rfl | rfl | rfl <;> rfl
theorem pool_tup {H : Hp} {p : Addr} (h : PoolAt H p) : ∀ o, H p = some (.tup o) → False := fun o e => by
  obtain ⟨_, _, _, h⟩ := h
  rw [h] at e; cases e
theorem at_names {ns : List (List Nat)} {r : Int} (h0 : 0 ≤ r) (h1 : r < ns.length) : ∃ l ∈ ns, atI (ns.map fun l => V.str (S l)) r = some (.str (S l)) := by
  have hlt : r.toNat < ns.length := by omega
  have e : r = ((r.toNat : Nat) : Int) := by omega
  exact ⟨ns[r.toNat], List.getElem_mem hlt, (congrArg (atI _) e).trans (atI_nat (by simp [hlt]))⟩
theorem RosOk.updL {C : Nat → Addr} {H : Hp} {rs : List Ro} {D : Addr} {ys : List V} (h : RosOk C H rs) (hD : ∀ o, H D = some o → ∃ zs, o = .lst zs) : RosOk C (upd H D (.lst ys)) rs := by
  intro r hr
  obtain ⟨rm, dx, ha⟩ := h r hr
  refine ⟨rm, dx, ?_⟩
  rw [upd_ne (fun z => ?_)]
  · exact ha
  · rw [z] at ha
    obtain ⟨zs, e⟩ := hD _ ha
    cases e
theorem eqv_tnil (ds : List PyData) : PyData.eqv (.tuple ds) (.tuple []) = ds.isEmpty := by
  cases ds with
  | nil => rfl
  | cons d ds => rfl
theorem neTnil {H : Hp} {Q : VK} {a b : Addr} {ys : List V} (h1 : H a = some (.tup ys)) (h2 : H b = some (.tup [])) (k : ys.all okV = true) (q : Q (.bl (!ys.isEmpty)) H) : rNeA K (.ref a) (.ref b) H Q :=
  Rd.neD (.tup (SqT.of h1) (dp_all k)) (.tup (SqT.of h2) .nil) (shT k) rfl (by
    rw [eqv_tnil]
    cases ys <;> exact q)
theorem SameB.ofNone {p : Addr} {H H1 H2 : Hp} (s : Same H H1) (hp : H p = none) (t : SameB p H1 H2) : Same H H2 := fun b o e => t b o (ne_of_none e hp) (s b o e)
theorem TlAt.sameB {p : Addr} {H H' : Hp} {vs : List V} {xss : List (List V)} (h : TlAt H vs xss) (e : SameB p H H') (hp : ∀ o, H p = some (.tup o) → False) : TlAt H' vs xss := by
  induction h with
  | nil => exact .nil
  | @cons a xs vs xss h _ ih => exact .cons (e _ _ (fun z => hp _ (by rw [← z]; exact h)) h) ih
theorem inj_ix {α : Type} {l : List α} (h : l.Nodup) {i j : Nat} (hi : i < l.length) (e : l[i]? = l[j]?) : i = j := by
  have hj : j < l.length := by
    rw [List.getElem?_eq_getElem hi] at e
    exact (List.getElem?_eq_some_iff.mp e.symm).1
  rw [List.getElem?_eq_getElem hi, List.getElem?_eq_getElem hj] at e
  rcases Nat.lt_trichotomy i j with lt | eq | gt
  · exact absurd (Option.some.inj e) (List.pairwise_iff_getElem.mp h i j hi hj lt)
  · exact eq
  · exact absurd (Option.some.inj e).symm (List.pairwise_iff_getElem.mp h j i hj hi gt)

end
section
variable {P : Program} {w : World} {K : PySem.W.Frag} {mg : Str → Option Value} {base : Heap} {tk : Tok}
/-! ### the law's helpers about kinds -/
def KpGood (k : Kp) : Prop := Nm k.n ∧ 1 ≤ k.ts.length ∧ k.ts.length ≤ 6 ∧ (k.ts.map (·.1)).Nodup ∧ (∀ r ∈ k.ts, Nm r.1 ∧ Nm r.2.1 ∧ r.2.2 < 5) ∧ ∃ r ∈ k.ts, 0 < r.2.2
theorem good_kind {C : Nat → Addr} {H : Hp} {k : Kp} {rs : List Ro} (g : KpGood k) (e : trs rs = k.ts) (h : RosOk C H rs) : KindOk rs := by
  obtain ⟨_, h1, h2, h3, h4, r, hr, h0⟩ := g
  rw [← e] at h1 h2 h3 hr
  have e1 : (trs rs).length = rs.length := List.length_map ..
  have e2 : (trs rs).map (·.1) = rs.map (·.n) := by unfold trs; rw [List.map_map]; rfl
  rw [e1] at h1 h2
  rw [e2] at h3
  obtain ⟨r', hr', rfl⟩ := List.mem_map.mp hr
  exact ⟨h1, h2, h3, r', hr', decide_eq_true ⟨h0, by have := (h r' hr').1; omega⟩⟩
def KdOk (D : Addr) (C : Nat → Addr) (H : Hp) (k : Kd) : Prop := (∃ dx, H k.a = some (.ins D dx (kflds k.n k.t))) ∧ H k.t = some (.tup (refs k.rs)) ∧ RosOk C H k.rs
theorem KdOk.mono {D : Addr} {C : Nat → Addr} {H H' : Hp} {k : Kd} (h : KdOk D C H k) (e : Same H H') : KdOk D C H' k := by
  obtain ⟨⟨dx, h1⟩, h2, h3⟩ := h
  exact ⟨⟨dx, e _ _ h1⟩, e _ _ h2, h3.mono e⟩
theorem KdOk.updL {D : Addr} {C : Nat → Addr} {H : Hp} {k : Kd} {L : Addr} {ys : List V} (h : KdOk D C H k) (hD : ∀ o, H L = some o → ∃ zs, o = .lst zs) : KdOk D C (upd H L (.lst ys)) k := by
  obtain ⟨⟨dx, h1⟩, h2, h3⟩ := h
  refine ⟨⟨dx, ?_⟩, ?_, h3.updL hD⟩
  · rw [upd_ne (fun z => ?_)]
    · exact h1
    · rw [z] at h1; obtain ⟨zs, e⟩ := hD _ h1; cases e
  · rw [upd_ne (fun z => ?_)]
    · exact h2
    · rw [z] at h2; obtain ⟨zs, e⟩ := hD _ h2; cases e
theorem kmk_go {mK : Addr} (kc : Kc K mg mK) {C : Nat → Addr} {eN eK a : Addr} {n : List Nat} {rs : List Ro} {H : Hp} {Q : VK} {E : XK} (hn : n.length ≤ 100) (ha : H a = some (.lst (refs rs))) (hro : RosOk C H rs) (hl : rs.length ≤ 8)
    (k1 : Nm n → KindOk rs → ∀ k H', H k.a = none → Same H H' → KdOk kc.C C H' k → k.n = n → k.rs = rs → Q (.ref k.a) H') (k2 : ¬ Nm n → Raised E eN "name" (.str (S n)) H) (k3 : Nm n → ¬ KindOk rs → Raised E eK "name" (.str (S n)) H) :
    MkGo kc.C (spKInit K C eN eK) [.str (S n), .ref a] H Q E := by
  intro x dx hx hd ne
  have s0 : Same H (upd (upd H dx (.own x)) x (.ins kc.C dx [])) := fun b o e => by
    rw [upd_ne (ne_of_none e hx), upd_ne (ne_of_none e hd)]; exact e
  refine ⟨x, kc.C, dx, a, n, rs, rfl, hn, kc.cl, kc.nN, kc.nR, upd_same, s0 _ _ ha, hro.mono s0, hl, fun a1 a2 H' t s1 h1 h2 _ => ⟨rfl, ?_⟩, fun a1 => (k2 a1).mono s0, fun a1 a2 => (k3 a1 a2).mono s0⟩
  have s2 : Same H H' := fun b o e => s1 b o (ne_of_none e hx) (s0 b o e)
  exact k1 a1 a2 ⟨x, t, n, rs⟩ H' hx s2 ⟨⟨dx, h1⟩, h2, hro.mono s2⟩ rfl rfl
def spLKind (D : Addr) (C : Nat → Addr) : Sp := fun vs H Q _ => ∃ (p : Kp), vs = [.ref p.a] ∧ KpOk H p ∧ KpGood p ∧ ∀ k H', H k.a = none → Same H H' → KdOk D C H' k → k.n = p.n → trs k.rs = p.ts → Q (.ref k.a) H'
abbrev s_law_kind : Stmt := top 28
theorem sc_law_kind : FnScope ["_law_kind_here", "_law_role_here"] ["_law_kind_here"] (defScope s_law_kind) := ⟨rfl, rfl, rfl, by decide +kernel, rfl, by decide +kernel, by decide +kernel⟩
abbrev DKi (K : PySem.W.Frag) (mg : Str → Option Value) := Df K mg "_law_kind" "_law_kind" s_law_kind ["_law_kind_here"]
theorem ok_lkind {mI : Addr} {eN eK : Addr} (d : DKi K mg) (T : Bt mg) (c : Six K mg mI) (mK : MKi K) (kc : Kc K mg mK.f) (dRo : DRo K mg) (GRo : FnOk P w K mg base (L2.CX P w) 6 dRo.f dRo.fd ["_law_name", "_law_group", "_law_mode"] (spRole eN c.C 5))
    (GK : FnOk P w K mg base (L2.CX P w) 4 mK.f mK.fd ["self", "name", "roles"] (spKInit K c.C eN eK)) : FnOk P w K mg base CX0 7 d.f d.fd ["_law_kind_here"] (spLKind kc.C c.C) := by
  refine d.F.ok sc_law_kind (fun vs H Q E h => ?_) (fun cdv A outer s H vs Q E hr h => ?_)
  · obtain ⟨p, rfl, _⟩ := h
    rfl
  · obtain ⟨p, rfl, hp, hg, k⟩ := h
    obtain ⟨hpa, hpl, hT⟩ := id hp
    have hu := hr.units
    have hr5 : Room 5 _ := hr.mono (by decide)
    refine ⟨_, (pss_one (ps_ret (pe_mk mK kc.M kc.g GK hr5 passL (pa_cons (pe_ix (kix K) (pv 0) pe_int (fun _ _ => rfl)) (pa_cons (pe_lc (own := [("_law_role_here", 1)]) (g := gName 1) (tt := tYes) rfl sc_law_kind.nd (kpl K (pe_ix (kix K) (pv 0) pe_int (fun _ _ => rfl))) (blkOk_by (N := ["_law_kind_here", "_law_role_here"]) (sc := defScope s_law_kind) (by decide +kernel)) (fun _ _ _ _ _ => (pg_name (i := 1) sc_law_kind.nd rfl (Or.inl rfl))) (fun _ _ _ _ _ => pts_nil) (fun _ _ _ _ _ => (pe_cf dRo GRo hr passL (pa_cons (pe_ix (kix K) (pv 1) pe_int (fun _ _ => rfl)) (pa_cons (pe_ix (kix K) (pv 1) pe_int (fun _ _ => rfl)) (pa_cons (pe_ix (kix K) (pv 1) pe_int (fun _ _ => rfl)) pa_nil)))))) pa_nil))))), ?_⟩
    refine Rd.start_ (σ' := [some (.ref p.a), none]) rfl ?_
    have h6 := hg.2.2.1
    have lus : p.us.length ≤ 6 := by rw [tri_len hT]; exact h6
    walk_at "rd"
    refine Rd.lcZ Rd.wList (by walk_at "sz") (fun D i acc H' => Same H H' ∧ ∃ rs, acc = refs rs ∧ trs rs = p.ts.take i ∧ RosOk c.C H' rs) (fun D hD => ⟨same_new hD, [], rfl, rfl, fun r hr => absurd hr List.not_mem_nil⟩) (fun D i acc H' hi j => SqL.of (j.1 _ _ hpl)) ?_ ?_
    · rintro D hD i x acc H' hi hx hacc hlen2 ⟨j1, rs, rfl, j3, j4⟩ Kt Kf hT' hF
      dsimp only [List.set]
      obtain ⟨ta, r, rfl, hr', hat⟩ := tri_at (hT.mono j1) hx
      have k1 := hg.2.2.2.2.1 r (List.mem_of_getElem? hr')
      walk_at "rd"
      refine ⟨r.1, r.2.1, r.2.2, rfl, k1.2.2, by have := k1.1.2.1; omega, by have := k1.2.1.2.1; omega, fun _ _ x H2 hx0 sx ra => ?_, fun q => absurd k1.1 q, fun _ q => absurd k1.2.1 q⟩
      have hacc2 := sx _ _ hacc
      refine hT' _ _ hacc2 ⟨same_upd (j1.trans sx) hD, rs ++ [⟨x, r.1, r.2.1, r.2.2⟩], ?_, ?_, ?_⟩
      · unfold refs; rw [List.map_append]; rfl
      · rw [List.take_add_one, hr', ← j3]
        unfold trs
        rw [List.map_append]
        rfl
      · refine RosOk.updL (fun r2 hr2 => ?_) fun o e => by rw [hacc2] at e; cases e; exact ⟨_, rfl⟩
        rcases List.mem_append.mp hr2 with hr2 | hr2
        · exact (j4.mono sx) r2 hr2
        · rw [List.mem_singleton.mp hr2]
          exact ⟨k1.2.2, ra⟩
    · rintro G acc H2 hG hacc hlen2 ⟨s2, rs, rfl, j3, hro⟩
      rw [tri_len hT, List.take_length] at j3
      have lrs : rs.length = p.ts.length := by rw [← j3]; exact (List.length_map ..).symm
      walk_at "rd"
      refine kmk_go kc (by have := hg.1.2.1; omega) hacc hro (by omega) (fun _ _ kk H3 hk s3 hkd e1 e2 => ?_) (fun q => absurd hg.1 q) (fun _ q => absurd (good_kind hg j3 hro) q)
      exact k kk H3 (none_same s2 hk) (s2.trans s3) hkd e1 (by rw [e2]; exact j3)
/-! ### a catalog's making, refused -/
def CatAt (CC : Addr) (H : Hp) (p t : Addr) (ks : List Kd) : Prop := (∃ dx, H p = some (.ins CC dx (cflds t))) ∧ H t = some (.tup (krefs ks))
theorem CatAt.mono {CC : Addr} {H H' : Hp} {p t : Addr} {ks : List Kd} (h : CatAt CC H p t ks) (e : Same H H') : CatAt CC H' p t ks := by
  obtain ⟨⟨dx, h1⟩, h2⟩ := h
  exact ⟨⟨dx, e _ _ h1⟩, e _ _ h2⟩
theorem cmk_go {mC : Addr} (cc : Cc K mg mC) {D : Addr} {C : Nat → Addr} {eK a : Addr} {ks : List Kd} {H : Hp} {Q : VK} {E : XK} (ha : H a = some (.lst (krefs ks))) (hks : KdsOk D C H ks) (hl : ks.length ≤ 50)
    (k1 : (ks.map (·.n)).Nodup → ∀ p t H', H p = none → Same H H' → CatAt cc.C H' p t ks → Q (.ref p) H') (k2 : ∀ i x, Frep (ks.map (·.n)) i x → Raised E eK "name" (.str (S x)) H) : MkGo cc.C (spCInit cc.C D C eK) [.ref a] H Q E := by
  intro x dx hx hd ne
  have s0 : Same H (upd (upd H dx (.own x)) x (.ins cc.C dx [])) := fun b o e => by
    rw [upd_ne (ne_of_none e hx), upd_ne (ne_of_none e hd)]; exact e
  refine ⟨x, dx, a, ks, rfl, upd_same, s0 _ _ ha, hks.mono s0, hl, fun nd H' t s1 h1 h2 _ => ⟨rfl, ?_⟩, fun i y fr H' s1 => (k2 i y fr).mono (s0.trans s1)⟩
  exact k1 nd x t H' hx (fun b o e => s1 b o (ne_of_none e hx) (s0 b o e)) ⟨⟨dx, h1⟩, h2⟩
/-- the tuple of a refusal -/
def Refusal (ns : List (List Nat)) (xs : List V) : Prop := (ns.Nodup → xs = []) ∧ ∀ i x, Frep ns i x → xs = [.str (S x), .bl true]
def spRefusal (D : Addr) (C : Nat → Addr) : Sp := fun vs H Q _ => ∃ (a : Addr) (ks : List Kd), vs = [.ref a] ∧ H a = some (.lst (krefs ks)) ∧ KdsOk D C H ks ∧ ks.length ≤ 50 ∧
  ∀ (t : Addr) (H' : Hp) (xs : List V), Same H H' → H' t = some (.tup xs) → Refusal (ks.map (·.n)) xs → Q (.ref t) H'
theorem frep_uniq {ns : List (List Nat)} {i j : Nat} {x y : List Nat} (h : Frep ns i x) (k : Frep ns j y) : x = y := by
  obtain ⟨h1, h2, h3⟩ := h
  obtain ⟨k1, k2, k3⟩ := k
  have low : ∀ {i j : Nat} {x : List Nat}, ns[i]? = some x → x ∈ ns.take i → (ns.take j).Nodup → i < j → False := fun {i j x} a b c lt => by
    have e : (ns.take j)[i]? = some x := by rw [List.getElem?_take, if_pos lt]; exact a
    obtain ⟨m, hm, he⟩ := List.mem_take_iff_getElem.mp b
    have hm1 : m < i := by omega
    have e2 : (ns.take j)[m]? = some x := by rw [List.getElem?_take, if_pos (by omega), List.getElem?_eq_getElem (by omega), he]
    have := inj_ix c (i := m) (j := i) (by rw [List.length_take]; omega) (by rw [e2, e])
    omega
  rcases Nat.lt_trichotomy i j with lt | eq | gt
  · exact (low h1 h2 k3 lt).elim
  · subst eq; exact Option.some.inj (h1.symm.trans k1)
  · exact (low k1 k2 h3 gt).elim
abbrev s_law_refusal : Stmt := top 29
theorem sc_law_refusal : FnScope ["_law_given", "e"] ["_law_given"] (defScope s_law_refusal) := ⟨rfl, rfl, rfl, by decide +kernel, rfl, by decide +kernel, by decide +kernel⟩
abbrev DRef (K : PySem.W.Frag) (mg : Str → Option Value) := Df K mg "_law_refusal" "_law_refusal" s_law_refusal ["_law_given"]
abbrev MCi (K : PySem.W.Frag) := Mf K "__init__" "Catalog.__init__" s_Catalog___init ["self", "kinds"]
theorem ok_refusal {D : Addr} {C : Nat → Addr} (d : DRef K mg) (T : Bt mg) (mC : MCi K) (cc : Cc K mg mC.f) (eK : ErK K mg) (GC : FnOk P w K mg base (L2.CX P w) 3 mC.f mC.fd ["self", "kinds"] (spCInit cc.C D C eK.C))
    {cRE cNK : Addr} (gRE : mg "RedoError" = some (.ref cRE)) (gNK : mg "NoKind" = some (.ref cNK)) (q1 : PySem.W.kitOne K (.ref eK.C) (.ref cRE) = some true) (q2 : PySem.W.kitOne K (.ref eK.C) (.ref cNK) = some false) : FnOk P w K mg base CX0 6 d.f d.fd ["_law_given"] (spRefusal D C) := by
  refine d.F.ok sc_law_refusal (fun vs H Q E h => ?_) (fun cdv A outer s H vs Q E hr h => ?_)
  · obtain ⟨a, ks, rfl, _⟩ := h
    rfl
  · obtain ⟨a, ks, rfl, ha, hks, hl, k⟩ := h
    have hu := hr.units
    have hr4 : Room 4 _ := hr.mono (by decide)
    refine ⟨_, (pss_cons (ktry_as K 1 sc_law_refusal.nd ⟨rfl, by decide, Or.inl eK.g⟩ (fun W pn xe tk _ => (pss_one (ps_expr (pe_mkT mC cc.M cc.g GC hr4 tk (pa_cons (pv 0) pa_nil))))) (fun a oe cls d pn hz hf => (pss_one (ps_ret (pe_tup (pa_cons (kxf eK.xf eK.no hz hf (pv 1)) (pa_cons (pe_and (pe_callB (call_isX eK.xc hz hf) (by rfl) T.isinstance (by decide +kernel) (pa_cons (pv 1) (pa_cons (pe_glob (v := .ref cRE) rfl gRE rfl) pa_nil))) (pe_one (pe_not (pe_callB (call_isX eK.xc hz hf) (by rfl) T.isinstance (by decide +kernel) (pa_cons (pv 1) (pa_cons (pe_glob (v := .ref cNK) rfl gNK rfl) pa_nil)))))) pa_nil)))))))
  (pss_one (ps_ret (pe_tup pa_nil)))), ?_⟩
    refine Rd.start_ (σ' := [some (.ref a), none]) rfl ?_
    walk_at "rd"
    refine cmk_go cc ha hks hl (fun nd p t H1 _ s1 _ => ?_) (fun i x fr dd H1 s1 hd => Rd.wAs_yes eK.te fun ae hae => ?_)
    · walk_at "rd"
      refine ⟨by show 0 ≤ sizeLine; decide, fun t ht => ?_⟩
      exact k t _ [] (s1.trans (same_new ht)) upd_same ⟨fun _ => rfl, fun i x fr => absurd nd (not_nodup fr.1 fr.2.1)⟩
    · dsimp only [List.set]
      walk_at "rd"
      refine ⟨rfl, rfl, dd, _, _, rfl, hd, by simp [List.lookup]; rfl, ?_⟩
      walk_at "rd"
      refine Rd.isX (fun u h => h) rfl rfl hd q1 ?_
      walk_at "rd"
      refine Rd.isX (fun u h => h) rfl rfl hd q2 ?_
      walk_at "rd"
      refine ⟨by show 2 ≤ sizeLine; decide, fun t ht => ?_⟩
      exact k t _ _ (s1.trans (same_new ht)) upd_same ⟨fun nd => absurd nd (not_nodup fr.1 fr.2.1), fun j y fr2 => by rw [frep_uniq fr2 fr]; rfl⟩
/-- the error of a name that no kind has -/
def spUnknown (CC D : Addr) (C : Nat → Addr) : Sp := fun vs H Q _ => ∃ (p t : Addr) (x : List Nat) (ks : List Kd), vs = [.ref p, .str (S x)] ∧ CatAt CC H p t ks ∧ KdsOk D C H ks ∧ (∀ k ∈ ks, k.n ≠ x) ∧
  ∀ (t : Addr) (H' : Hp), Same H H' → H' t = some (.tup [.str (S x), .bl true]) → Q (.ref t) H'
theorem cflds_no (t : Addr) {m : Str} (h1 : (m == ("kinds" : Str)) = false) : (cflds t).lookup m = none := by
  unfold cflds; simp [List.lookup, h1]
abbrev s_law_unknown : Stmt := top 30
theorem sc_law_unknown : FnScope ["_law_catalog", "_law_name", "e"] ["_law_catalog", "_law_name"] (defScope s_law_unknown) := ⟨rfl, rfl, rfl, by decide +kernel, rfl, by decide +kernel, by decide +kernel⟩
abbrev DUn (K : PySem.W.Frag) (mg : Str → Option Value) := Df K mg "_law_unknown" "_law_unknown" s_law_unknown ["_law_catalog", "_law_name"]
abbrev MCn (K : PySem.W.Frag) := Mf K "named" "Catalog.named" s_Catalog_named ["self", "name"]
theorem ok_unknown {mC : Addr} {D : Addr} {C : Nat → Addr} (d : DUn K mg) (mN : MCn K) (cc : Cc K mg mC) (hN : Meth K cc.C "named" mN.f) (T : Bt mg) (eR : ErR K mg) (GN : FnOk P w K mg base (L2.CX P w) 4 mN.f mN.fd ["self", "name"] (spNamed cc.C D C eR.C))
    {cRE cBK : Addr} (gRE : mg "RedoError" = some (.ref cRE)) (gBK : mg "BadKind" = some (.ref cBK)) (q1 : PySem.W.kitOne K (.ref eR.C) (.ref cRE) = some true) (q2 : PySem.W.kitOne K (.ref eR.C) (.ref cBK) = some false) :
    FnOk P w K mg base CX0 5 d.f d.fd ["_law_catalog", "_law_name"] (spUnknown cc.C D C) := by
  refine d.F.ok sc_law_unknown (fun vs H Q E h => ?_) (fun cdv A outer s H vs Q E hr h => ?_)
  · obtain ⟨p, t, x, ks, rfl, _⟩ := h
    rfl
  · obtain ⟨p, t, x, ks, rfl, hk, hks, hx, k⟩ := h
    have hu := hr.units
    refine ⟨_, (pss_cons (ktry_as K 2 sc_law_unknown.nd ⟨rfl, by decide, Or.inl eR.g⟩ (fun W pn xe tk _ => (pss_one (ps_expr (pe_mT (pv 0) cc.cl mN hN GN hr tk (pa_cons (pv 1) pa_nil))))) (fun a oe cls d pn hz hf => (pss_one (ps_ret (pe_tup (pa_cons (kxf eR.xf eR.no hz hf (pv 2)) (pa_cons (pe_and (pe_callB (call_isX eR.xc hz hf) (by rfl) T.isinstance (by decide +kernel) (pa_cons (pv 2) (pa_cons (pe_glob (v := .ref cRE) rfl gRE rfl) pa_nil))) (pe_one (pe_not (pe_callB (call_isX eR.xc hz hf) (by rfl) T.isinstance (by decide +kernel) (pa_cons (pv 2) (pa_cons (pe_glob (v := .ref cBK) rfl gBK rfl) pa_nil)))))) pa_nil)))))))
  (pss_one (ps_ret (pe_tup pa_nil)))), ?_⟩
    refine Rd.start_ (σ' := [some (.ref p), some (.str (S x)), none]) rfl ?_
    obtain ⟨⟨dx, hp⟩, ht⟩ := id hk
    walk_at "rd"
    refine ⟨p, dx, _, rfl, hp, cflds_no _ (by decide +kernel), ?_⟩
    walk_at "rd"
    refine ⟨p, t, dx, x, ks, rfl, hp, ht, hks, fun r hr' e => absurd e (hx r hr'), fun _ dd H1 s1 hd => Rd.wAs_yes eR.te fun ae hae => ?_⟩
    dsimp only [List.set]
    walk_at "rd"
    refine ⟨rfl, rfl, dd, _, _, rfl, hd, by simp [List.lookup]; rfl, ?_⟩
    walk_at "rd"
    refine Rd.isX (fun u h => h) rfl rfl hd q1 ?_
    walk_at "rd"
    refine Rd.isX (fun u h => h) rfl rfl hd q2 ?_
    walk_at "rd"
    refine ⟨by show 2 ≤ sizeLine; decide, fun t ht => ?_⟩
    exact k t _ (s1.trans (same_new ht)) upd_same
/-- what the law expects -/
def spDue : Sp := fun vs H Q _ => ∃ (a : Addr) (ps : List Kp), vs = [.ref a] ∧ H a = some (.lst (prefs ps)) ∧ KpsOk H ps ∧ ps.length ≤ 50 ∧
  ∀ (t : Addr) (H' : Hp) (xs : List V), Same H H' → H' t = some (.tup xs) → Refusal (ps.map (·.n)) xs → Q (.ref t) H'
abbrev s_law_due : Stmt := top 32
theorem sc_law_due : FnScope ["_law_kinds", "_law_names_here", "_law_kind_here"] ["_law_kinds"] (defScope s_law_due) := ⟨rfl, rfl, rfl, by decide +kernel, rfl, by decide +kernel, by decide +kernel⟩
abbrev DDu (K : PySem.W.Frag) (mg : Str → Option Value) := Df K mg "_law_due" "_law_due" s_law_due ["_law_kinds"]
theorem ok_due (d : DDu K mg) (T : Bt mg) : FnOk P w K mg base CX0 1 d.f d.fd ["_law_kinds"] spDue := by
  refine d.F.ok sc_law_due (fun vs H Q E h => ?_) (fun cdv A outer s H vs Q E hr h => ?_)
  · obtain ⟨a, ps, rfl, _⟩ := h
    rfl
  · obtain ⟨a, ps, rfl, ha, hps, hl, k⟩ := h
    have hu := hr.units
    have lP : (prefs ps).length = ps.length := List.length_map ..
    refine ⟨_, (pss_cons (ps_set (i := 1) sc_law_due.nd rfl (Or.inl rfl) (pe_lst pa_nil))
  (pss_cons (ps_for PassesOwn.never rfl (kpl K (pv 0)) (pg_name (i := 2) sc_law_due.nd rfl (Or.inl rfl))
  (pss_cons (ps_if (pt_cmpR (kin K) (pe_ix (kix K) (pv 2) pe_int (fun _ _ => rfl)) (pv 1) rfl) (pss_one (ps_ret (pe_tup (pa_cons (pe_ix (kix K) (pv 2) pe_int (fun _ _ => rfl)) (pa_cons pe_bl pa_nil)))))
  pss_nil)
  (pss_one (ps_expr (kapp K (pv 1) (pa_cons (pe_ix (kix K) (pv 2) pe_int (fun _ _ => rfl)) pa_nil))))))
  (pss_one (ps_ret (pe_tup pa_nil))))), ?_⟩
    refine Rd.start_ (σ' := [some (.ref a), none, none]) rfl ?_
    walk_at "rd"
    refine ⟨by show 0 ≤ sizeLine; decide, fun D hD => ?_⟩
    have s0 := same_new (o := .lst []) hD
    walk_at "rd"
    refine Rd.exlist (SqL.of (s0 _ _ ha)) ?_
    refine Rd.foW Rd.wList (fun i σ H' => ∃ (o1 : Option V), σ = [some (.ref a), some (.ref D), o1] ∧ Same H H' ∧ H' D = some (.lst (txts ((ps.take i).map (·.n)))) ∧ ((ps.map (·.n)).take i).Nodup) ⟨_, rfl, s0, upd_same, List.nodup_nil⟩ (fun i σ H' hi ⟨_, _, j, _⟩ => SqL.of (j _ _ ha)) ?_ ?_
    · rintro i y σ H' hi hy ⟨o1, rfl, s1, hM, nd⟩
      obtain ⟨kk, hx, rfl⟩ := pref_at hy
      obtain ⟨k1, k2, k3⟩ := (hps.mono s1) kk (List.mem_of_getElem? hx)
      have hn : (ps.map (·.n))[i]? = some kk.n := by rw [List.getElem?_map, hx]; rfl
      have et : (ps.take i).map (·.n) = (ps.map (·.n)).take i := by rw [List.map_take]
      rw [et] at hM
      dsimp only [List.set]
      walk_at "rd"
      refine ⟨D, _, rfl, .inl (SqL.of hM), rfl, flat_strs _, ?_⟩
      show ∃ k, V.bl (inV _ _) = .bl k ∧ _
      rw [inV_strs]
      walk_at "rd"
      refine Rd.iteD (fun c => ?_) (fun c => ?_)
      · walk_at "rd"
        refine ⟨by show 2 ≤ sizeLine; decide, fun t ht => ?_⟩
        exact k t _ _ (s1.trans (same_new ht)) upd_same ⟨fun q => absurd q (not_nodup hn c), fun j y fr => by rw [frep_uniq fr ⟨hn, c, nd⟩]⟩
      · walk_at "rd"
        refine Rd.append hM (by rw [List.length_map, List.length_take]; walk_at "sz") ?_
        walk_at "rd"
        refine ⟨_, rfl, same_upd s1 hD, ?_, nodup_take hn nd c⟩
        rw [upd_same, List.map_take, List.take_add_one, hn]
        simp only [txts, List.map_append, Option.toList, List.map_cons, List.map_nil]
    · rintro σ H' ⟨o1, rfl, s1, hM, nd⟩
      have e2 : (prefs ps).length = (ps.map (·.n)).length := by rw [List.length_map, List.length_map]
      rw [e2, List.take_length] at nd
      walk_at "rd"
      refine ⟨by show 0 ≤ sizeLine; decide, fun t ht => ?_⟩
      exact k t _ _ (s1.trans (same_new ht)) upd_same ⟨fun _ => rfl, fun i x fr => absurd nd (not_nodup fr.1 fr.2.1)⟩

end
section
variable {P : Program} {w : World} {K : PySem.W.Frag} {mg : Str → Option Value} {base : Heap} {tk : Tok}
/-! ### a kind as told, as expected -/
abbrev NT := List Nat × List Tri
def tms (ts : List Tri) : List (List V) := ts.map fun r => mrk r.1 r.2.1 r.2.2
theorem tms_at {H : Hp} {vs : List V} {ts : List Tri} (h : TlAt H vs (tms ts)) {i : Nat} {v : V} (e : vs[i]? = some v) : ∃ a r, v = .ref a ∧ ts[i]? = some r ∧ H a = some (.tup (mrk r.1 r.2.1 r.2.2)) := by
  obtain ⟨a, xs, rfl, h2, h3⟩ := h.get e
  unfold tms at h2
  rw [List.getElem?_map] at h2
  obtain ⟨r, h4, rfl⟩ := Option.map_eq_some_iff.mp h2
  exact ⟨a, r, rfl, h4, h3⟩
structure Kt where
  t : Addr
  l : Addr
  vs : List V
  z : NT
def KtOk (H : Hp) (k : Kt) : Prop := H k.t = some (.tup [.str (S k.z.1), .ref k.l]) ∧ H k.l = some (.lst k.vs) ∧ TlAt H k.vs (tms k.z.2)
theorem KtOk.mono {H H' : Hp} {k : Kt} (h : KtOk H k) (e : Same H H') : KtOk H' k := ⟨e _ _ h.1, e _ _ h.2.1, h.2.2.mono e⟩
theorem KtOk.updL {H : Hp} {k : Kt} {D : Addr} {zs ys : List V} (h : KtOk H k) (hD : H D = some (.lst zs)) (hl : k.l ≠ D) : KtOk (upd H D (.lst ys)) k := by
  refine ⟨?_, ?_, h.2.2.upd fun o e => by rw [hD] at e; cases e⟩
  · rw [upd_ne (fun z => by have := h.1; rw [z, hD] at this; cases this)]
    exact h.1
  · rw [upd_ne hl]; exact h.2.1
def NtOk (z : NT) : Prop := Nm z.1 ∧ ∀ r ∈ z.2, Nm r.1 ∧ Nm r.2.1 ∧ r.2.2 < 5
def datK (z : NT) : PyData := .tuple [.str (S z.1), .list (datL (tms z.2))]
theorem mrk_ok {n g : List Nat} {m : Nat} (hn : Nm n) (hg : Nm g) (hm : m < 5) : (mrk n g m).all okV = true := by
  unfold mrk
  rw [List.all_cons, List.all_cons, List.all_cons, ok_S hn, ok_S hg, ok_S (mark_nm hm)]
  rfl
theorem tms_ok {ts : List Tri} (h : ∀ r ∈ ts, Nm r.1 ∧ Nm r.2.1 ∧ r.2.2 < 5) : (tms ts).all (fun xs => xs.all okV) = true := by
  rw [List.all_eq_true]
  intro xs hx
  obtain ⟨r, hr, rfl⟩ := List.mem_map.mp hx
  exact mrk_ok (h r hr).1 (h r hr).2.1 (h r hr).2.2
theorem KtOk.dp {H : Hp} {k : Kt} (h : KtOk H k) (g : NtOk k.z) : Dp K H (.ref k.t) (datK k.z) :=
  .tup (SqT.of h.1) (.cons (.str _) (.cons (.lst (SqL.of h.2.1) (h.2.2.dp (tms_ok g.2))) .nil))
abbrev trefs (L : List Kt) : List V := L.map fun k => V.ref k.t
theorem kts_dp {H : Hp} : ∀ {L : List Kt}, (∀ k ∈ L, KtOk H k ∧ NtOk k.z) → DpAll K H (trefs L) (L.map fun k => datK k.z)
  | [], _ => .nil
  | k :: L, h => .cons ((h k List.mem_cons_self).1.dp (h k List.mem_cons_self).2) (kts_dp fun x hx => h x (List.mem_cons_of_mem _ hx))
theorem can_datK {z : NT} (g : NtOk z) : PyData.canLay0 (datK z) = true := by
  show (PyData.canLay0 (.str (S z.1)) && (PyData.canLay0 (.list (datL (tms z.2))) && true)) = true
  have e1 : PyData.canLay0 (.str (S z.1)) = true := ok_S g.1
  have e2 : PyData.canLay0 (.list (datL (tms z.2))) = true := can_datL (tms_ok g.2)
  rw [e1, e2]; rfl
theorem can_datKs : ∀ {L : List NT}, (∀ z ∈ L, NtOk z) → PyData.canLayAll0 (L.map datK) = true
  | [], _ => rfl
  | z :: L, h => by
    show (PyData.canLay0 (datK z) && PyData.canLayAll0 (L.map datK)) = true
    rw [can_datK (h z List.mem_cons_self), can_datKs fun x hx => h x (List.mem_cons_of_mem _ hx)]; rfl
theorem depth_datK (z : NT) : PyData.depth (datK z) ≤ 3 := by
  show PyData.depthAll [.str (S z.1), .list (datL (tms z.2))] + 1 ≤ 3
  show max 0 (max (PyData.depthAll (datL (tms z.2)) + 1) 0) + 1 ≤ 3
  have := depth_datL (tms z.2)
  omega
theorem depth_datKs : ∀ L : List NT, PyData.depthAll (L.map datK) ≤ 3
  | [] => Nat.zero_le _
  | z :: L => by
    show max (PyData.depth (datK z)) (PyData.depthAll (L.map datK)) ≤ 3
    exact Nat.max_le.mpr ⟨depth_datK z, depth_datKs L⟩
theorem sh_datKs {L : List NT} (h : ∀ z ∈ L, NtOk z) : SeqAt.shaped (.list (L.map datK)) = true := by
  show (PyData.canLayAll0 (L.map datK) && decide (PyData.depthAll (L.map datK) + 1 ≤ 64)) = true
  have := depth_datKs L
  rw [can_datKs h, Bool.true_and]
  exact decide_eq_true (by omega)
theorem sh_datK {z : NT} (h : NtOk z) : SeqAt.shaped (datK z) = true := by
  show (PyData.canLay0 (datK z) && decide (PyData.depth (datK z) ≤ 64)) = true
  have := depth_datK z
  rw [can_datK h, Bool.true_and]
  exact decide_eq_true (by omega)
theorem neKts {H : Hp} {Q : VK} {a b : Addr} {L M : List Kt} (h1 : H a = some (.lst (trefs L))) (h2 : H b = some (.lst (trefs M))) (t1 : ∀ k ∈ L, KtOk H k) (t2 : ∀ k ∈ M, KtOk H k) (e : L.map (·.z) = M.map (·.z)) (g : ∀ k ∈ M, NtOk k.z) (q : Q (.bl false) H) : rNeA K (.ref a) (.ref b) H Q := by
  have g' : ∀ z ∈ M.map (·.z), NtOk z := fun z hz => by
    obtain ⟨k, hk, rfl⟩ := List.mem_map.mp hz
    exact g k hk
  have gL : ∀ k ∈ L, NtOk k.z := fun k hk => g' _ (by rw [← e]; exact List.mem_map.mpr ⟨k, hk, rfl⟩)
  have d1 := kts_dp (K := K) fun k hk => ⟨t1 k hk, gL k hk⟩
  have d2 := kts_dp (K := K) fun k hk => ⟨t2 k hk, g k hk⟩
  have e1 : (L.map fun k => datK k.z) = (M.map (·.z)).map datK := by rw [← e, List.map_map]; rfl
  have e2 : (M.map fun k => datK k.z) = (M.map (·.z)).map datK := by rw [List.map_map]; rfl
  rw [e1] at d1
  rw [e2] at d2
  exact Rd.neD (.lst (SqL.of h1) d1) (.lst (SqL.of h2) d2) (sh_datKs g') (sh_datKs g') (by rw [SeqAt.eqv_refl (.list ((M.map (·.z)).map datK)) (can_datKs g')]; exact q)
theorem neKt {H : Hp} {Q : VK} {k m : Kt} (t1 : KtOk H k) (t2 : KtOk H m) (e : k.z = m.z) (g : NtOk m.z) (q : Q (.bl false) H) : rNeA K (.ref k.t) (.ref m.t) H Q := by
  have d1 := t1.dp (K := K) (by rw [e]; exact g)
  rw [e] at d1
  exact Rd.neD d1 (t2.dp g) (sh_datK g) (sh_datK g) (by rw [SeqAt.eqv_refl _ (can_datK g)]; exact q)
def ntOf (k : Kd) : NT := (k.n, trs k.rs)
def ntP (k : Kp) : NT := (k.n, k.ts)
def spTold (D : Addr) (C : Nat → Addr) : Sp := fun vs H Q _ => ∃ (k : Kd), vs = [.ref k.a] ∧ KdOk D C H k ∧ k.rs.length ≤ 6 ∧ ∀ z H', H z.l = none → Same H H' → KtOk H' z → z.z = ntOf k → Q (.ref z.t) H'
abbrev s_law_told : Stmt := top 31
theorem sc_law_told : FnScope ["_law_kind_here", "_law_role_here"] ["_law_kind_here"] (defScope s_law_told) := ⟨rfl, rfl, rfl, by decide +kernel, rfl, by decide +kernel, by decide +kernel⟩
abbrev DTo (K : PySem.W.Frag) (mg : Str → Option Value) := Df K mg "_law_told" "_law_told" s_law_told ["_law_kind_here"]
theorem ok_told {mI mK : Addr} (d : DTo K mg) (T : Bt mg) (c : Six K mg mI) (kc : Kc K mg mK) : FnOk P w K mg base CX0 1 d.f d.fd ["_law_kind_here"] (spTold kc.C c.C) := by
  refine d.F.ok sc_law_told (fun vs H Q E h => ?_) (fun cdv A outer s H vs Q E hr h => ?_)
  · obtain ⟨k, rfl, _⟩ := h
    rfl
  · obtain ⟨k, rfl, hk, h6, kq⟩ := h
    obtain ⟨⟨dx, hka⟩, hkt, hro⟩ := id hk
    have hu := hr.units
    have lr : (refs k.rs).length = k.rs.length := List.length_map ..
    refine ⟨_, (pss_one (ps_ret (pe_tup (pa_cons (kfld K (pv 0)) (pa_cons (pe_lc (own := [("_law_role_here", 1)]) (g := gName 1) (tt := tYes) rfl sc_law_told.nd (kpt K (kfld K (pv 0))) (blkOk_by (N := ["_law_kind_here", "_law_role_here"]) (sc := defScope s_law_told) (by decide +kernel)) (fun _ _ _ _ _ => (pg_name (i := 1) sc_law_told.nd rfl (Or.inl rfl))) (fun _ _ _ _ _ => pts_nil) (fun _ _ _ _ _ => (pe_tup (pa_cons (kfld K (pv 1)) (pa_cons (kfld K (pv 1)) (pa_cons (kcon K (pv 1)) pa_nil)))))) pa_nil))))), ?_⟩
    refine Rd.start_ (σ' := [some (.ref k.a), none]) rfl ?_
    walk_at "rd"
    refine ⟨k.a, kc.C, dx, _, _, rfl, hka, kc.cl, kc.nN, kflds_name _ _, ?_⟩
    walk_at "rd"
    refine ⟨k.a, kc.C, dx, _, _, rfl, hka, kc.cl, kc.nR, kflds_roles _ _, ?_⟩
    refine Rd.extup (SqT.of hkt) ?_
    refine Rd.lcZ Rd.wTup (by rw [lr]; walk_at "sz") (fun D i acc H' => Same H H' ∧ TlAt H' acc (tms (trs (k.rs.take i)))) (fun D hD => ⟨same_new hD, .nil⟩) (fun D i acc H' hi j => SqT.of (j.1 _ _ hkt)) ?_ ?_
    · rintro D hD i x acc H' hi hx hacc hlen2 ⟨j1, j2⟩ Kt Kf hT' hF
      obtain ⟨r, hr', rfl⟩ := ref_at hx
      obtain ⟨rm, dr, hat⟩ := (hro.mono j1) r (List.mem_of_getElem? hr')
      obtain ⟨u, hm⟩ := c.mark r.m
      dsimp only [List.set]
      walk_at "rd"
      refine ⟨r.a, _, dr, _, _, rfl, hat, c.cl r.m, c.nN r.m, flds_name _ _, ?_⟩
      walk_at "rd"
      refine ⟨r.a, _, dr, _, _, rfl, hat, c.cl r.m, c.nG r.m, flds_group _ _, ?_⟩
      walk_at "rd"
      refine ⟨r.a, _, dr, _, _, u, rfl, hat, c.cl r.m, hm, flds_no _ _ (by decide +kernel) (by decide +kernel), ?_⟩
      walk_at "rd"
      refine ⟨by show 3 ≤ sizeLine; decide, fun t ht => ?_⟩
      have s3 := same_new (o := .tup (mrk r.n r.g r.m)) ht
      have hacc3 := s3 _ _ hacc
      refine hT' _ _ hacc3 ⟨same_upd (j1.trans s3) hD, ?_⟩
      rw [List.take_add_one, hr']
      unfold tms trs
      rw [List.map_append, List.map_append]
      exact ((j2.mono s3).one upd_same).upd fun o e => by rw [hacc3] at e; cases e
    · rintro D acc H' hD hacc hlen2 ⟨j1, j2⟩
      rw [lr, List.take_length] at j2
      walk_at "rd"
      refine ⟨by show 2 ≤ sizeLine; decide, fun t ht => ?_⟩
      have s3 := same_new (o := .tup [.str (S k.n), .ref D]) ht
      exact kq ⟨t, D, acc, ntOf k⟩ _ hD (j1.trans s3) ⟨upd_same, s3 _ _ hacc, j2.mono s3⟩ rfl
def spPlain : Sp := fun vs H Q _ => ∃ (k : Kp), vs = [.ref k.a] ∧ KpOk H k ∧ k.ts.length ≤ 6 ∧ (∀ r ∈ k.ts, r.2.2 < 5) ∧ ∀ z H', H z.l = none → Same H H' → KtOk H' z → z.z = ntP k → Q (.ref z.t) H'
abbrev s_law_plain : Stmt := top 33
theorem sc_law_plain : FnScope ["_law_kind_here", "_law_marks", "_law_role_here"] ["_law_kind_here"] (defScope s_law_plain) := ⟨rfl, rfl, rfl, by decide +kernel, rfl, by decide +kernel, by decide +kernel⟩
abbrev DPl (K : PySem.W.Frag) (mg : Str → Option Value) := Df K mg "_law_plain" "_law_plain" s_law_plain ["_law_kind_here"]
theorem ok_plain (d : DPl K mg) (T : Bt mg) : FnOk P w K mg base CX0 1 d.f d.fd ["_law_kind_here"] spPlain := by
  refine d.F.ok sc_law_plain (fun vs H Q E h => ?_) (fun cdv A outer s H vs Q E hr h => ?_)
  · obtain ⟨k, rfl, _⟩ := h
    rfl
  · obtain ⟨k, rfl, hk, h6, h5, kq⟩ := h
    obtain ⟨hka, hkl, hT⟩ := id hk
    have hu := hr.units
    have lus : k.us.length = k.ts.length := tri_len hT
    refine ⟨_, (pss_cons (ps_set (i := 1) sc_law_plain.nd rfl (Or.inr rfl) (pe_lst (pa_cons (pe_lit [114] (by decide +kernel)) (pa_cons (pe_lit [109] (by decide +kernel)) (pa_cons (pe_lit [102] (by decide +kernel)) (pa_cons (pe_lit [114, 109] (by decide +kernel)) (pa_cons (pe_lit [114, 102] (by decide +kernel)) pa_nil)))))))
  (pss_one (ps_ret (pe_tup (pa_cons (pe_ix (kix K) (pv 0) pe_int (fun _ _ => rfl)) (pa_cons (pe_lc (own := [("_law_role_here", 2)]) (g := gName 2) (tt := tYes) rfl sc_law_plain.nd (kpl K (pe_ix (kix K) (pv 0) pe_int (fun _ _ => rfl))) (blkOk_by (N := ["_law_kind_here", "_law_marks", "_law_role_here"]) (sc := defScope s_law_plain) (by decide +kernel)) (fun _ _ _ _ _ => (pg_name (i := 2) sc_law_plain.nd rfl (Or.inl rfl))) (fun _ _ _ _ _ => pts_nil) (fun _ _ _ _ _ => (pe_tup (pa_cons (pe_ix (kix K) (pv 2) pe_int (fun _ _ => rfl)) (pa_cons (pe_ix (kix K) (pv 2) pe_int (fun _ _ => rfl)) (pa_cons (pe_ix (kix K) (pv 1) (pe_ix (kix K) (pv 2) pe_int (fun _ _ => rfl)) (fun _ _ => rfl)) pa_nil)))))) pa_nil)))))), ?_⟩
    refine Rd.start_ (σ' := [some (.ref k.a), none, none]) rfl ?_
    walk_at "rd"
    refine ⟨by show 5 ≤ sizeLine; decide, fun M hM => ?_⟩
    have s0 := same_new (o := .lst marksV) hM
    have hka0 := s0 _ _ hka
    have hkl0 := s0 _ _ hkl
    have hT0 := hT.mono s0
    have hM0 : upd H M (.lst marksV) M = some (.lst marksV) := upd_same
    show tRet _ _ _ (upd H M (.lst marksV))
    generalize upd H M (.lst marksV) = H0 at s0 hka0 hkl0 hT0 hM0
    walk_at "rd"
    refine Rd.lcZ Rd.wList (by rw [lus]; walk_at "sz") (fun D i acc H' => Same H0 H' ∧ TlAt H' acc (tms (k.ts.take i))) (fun D hD => ⟨same_new hD, .nil⟩) (fun D i acc H' hi j => SqL.of (j.1 _ _ hkl0)) ?_ ?_
    · rintro D hD i x acc H' hi hx hacc hlen2 ⟨j1, j2⟩ Kt Kf hT' hF
      obtain ⟨ta, r, rfl, hr', hat⟩ := tri_at (hT0.mono j1) hx
      have hM1 := j1 _ _ hM0
      dsimp only [List.set]
      walk_at "rd"
      refine Rd.ixL (SqL.of hM1) (marks_at (h5 r (List.mem_of_getElem? hr'))) ?_
      walk_at "rd"
      refine ⟨by show 3 ≤ sizeLine; decide, fun t ht => ?_⟩
      have s3 := same_new (o := .tup (mrk r.1 r.2.1 r.2.2)) ht
      have hacc3 := s3 _ _ hacc
      refine hT' _ _ hacc3 ⟨same_upd (j1.trans s3) hD, ?_⟩
      rw [List.take_add_one, hr']
      unfold tms
      rw [List.map_append]
      exact ((j2.mono s3).one upd_same).upd fun o e => by rw [hacc3] at e; cases e
    · rintro D acc H' hD hacc hlen2 ⟨j1, j2⟩
      rw [lus, List.take_length] at j2
      walk_at "rd"
      refine ⟨by show 2 ≤ sizeLine; decide, fun t ht => ?_⟩
      have s3 := same_new (o := .tup [.str (S k.n), .ref D]) ht
      exact kq ⟨t, D, acc, ntP k⟩ _ (none_same s0 hD) ((s0.trans j1).trans s3) ⟨upd_same, s3 _ _ hacc, j2.mono s3⟩ rfl
/-! ### groups told, groups expected -/
theorem rises_lt {ss : List Str} (h : PyProof.Rows.sortedS ss = true) (nd : ss.Nodup) : ss.Pairwise fun a b => a.cps.toList < b.cps.toList := by
  have key : ∀ (ss : List Str) (p : Str), PyProof.Rows.risingS p ss = true → ∀ x ∈ ss, ¬ x.cps.toList < p.cps.toList := by
    intro ss
    induction ss with
    | nil => intro p _ x hx; exact absurd hx List.not_mem_nil
    | cons y r ih =>
      intro p h x hx
      unfold PyProof.Rows.risingS at h
      rw [Bool.and_eq_true, PyProof.Rows.ltCps_eq, Bool.not_eq_true', decide_eq_false_iff_not] at h
      rcases List.mem_cons.mp hx with e | e
      · rw [e]; exact h.1
      · have h2 := ih y h.2 x e
        exact fun z => h.1 (Classical.byContradiction fun q => by
          rcases Classical.em (x.cps.toList = y.cps.toList) with e2 | e2
          · rw [e2] at z; exact q z
          · exact q (List.lt_of_le_of_lt (show y.cps.toList ≤ x.cps.toList from h2) z))
  induction ss with
  | nil => exact .nil
  | cons x r ih =>
    rw [List.nodup_cons] at nd
    have hr : PyProof.Rows.sortedS r = true := by
      cases r with
      | nil => rfl
      | cons y r => unfold PyProof.Rows.sortedS PyProof.Rows.risingS at h; rw [Bool.and_eq_true] at h; exact h.2
    rw [List.pairwise_cons]
    refine ⟨fun y hy => ?_, ih hr nd.2⟩
    have h1 := key r x h y hy
    refine Classical.byContradiction fun q => nd.1 ?_
    have e : x.cps.toList = y.cps.toList := List.le_antisymm h1 q
    have e2 : x = y := by
      cases x; cases y
      congr 1
      exact Array.toList_inj.mp e
    rw [e2]; exact hy
theorem rises_eq {gs rs : List (List Nat)} {ss : List Str} (h : Rises gs ss) (h2 : Rise rs) (e : ∀ x, x ∈ rs ↔ x ∈ gs) : ss = rs.map S := by
  obtain ⟨h1, nd, hm⟩ := h
  have p1 := rises_lt h1 nd
  have e1 : ss.map (fun s => s.cps.toList) = rs := by
    refine rise_ext (lt := fun a b : List Nat => a < b) (fun x => List.lt_irrefl x) (fun x y z a b => List.lt_trans a b) (List.pairwise_map.mpr p1) h2 fun x => ?_
    rw [e x]
    constructor
    · intro hx
      obtain ⟨s, hs, rfl⟩ := List.mem_map.mp hx
      obtain ⟨g, hg, rfl⟩ := List.mem_map.mp ((hm s).mp hs)
      exact hg
    · intro hx
      exact List.mem_map.mpr ⟨S x, (hm _).mpr (List.mem_map.mpr ⟨x, hx, rfl⟩), rfl⟩
  rw [← e1, List.map_map]
  refine (List.map_id ss).symm.trans (List.map_congr_left fun s _ => ?_)
  show s = S s.cps.toList
  cases s
  rfl

end
section
variable {P : Program} {w : World} {K : PySem.W.Frag} {mg : Str → Option Value} {base : Heap} {tk : Tok}
/-! ### what the law says of a catalog -/
theorem kown {X : Cx} (K : PySem.W.Frag) {n : Nat} {f C : Addr} {fd : FuncData} {L : Hp → Addr → Addr → Prop} {tg o : Expr} {te : TE} {ps : List Str} (he : PE X o te) (hs : PySem.W.findIn K (.ref C) "__iter__" = some (some (.ref f))) (hf : PySem.W.isFn K (.ref f) = true) (F : FnY X.prog X.w K X.mg X.base n f fd ps (spIterT L)) (b : Binds K fd ps []) (hr : Room n X.A) (h : X.K = K := by rfl) :
    PI X tg o (iOwn C L K te) := by subst h; exact pi_own he hs hf F b hr
theorem klenO {X : Cx} (K : PySem.W.Frag) {n : Nat} {f C : Addr} {fd : FuncData} {sp : Sp} {ps : List Str} (hs : PySem.W.findIn K (.ref C) "__len__" = some (some (.ref f))) (hf : PySem.W.isFn K (.ref f) = true) (F : FnOk X.prog X.w K X.mg X.base CX0 n f fd ps sp) (b : Binds K fd ps []) (hr : Room (n + 1) X.A) (h : X.K = K := by rfl) : CallR X (.builtin "len") (rLenO K C sp) := by
  subst h; exact call_lenO hs hf F b hr
theorem lc_kts {J : It} {n : Nat} {G : Hp → Prop} {Itm : Nat → V → Prop} {s : Nat} {σ : L2.St} {H : Hp} {Q : VK} {te : TE} (w : Walk J n G (Flat Itm)) (hn : n < sizeLine) (f : List NT) (hf : f.length = n) (hG : ∀ H', Same H H' → G H')
    (step : ∀ i x H', i < n → Itm i x → Same H H' → ∀ Kt : V → Hp → Prop, (∀ z H2, H' z.l = none → Same H' H2 → KtOk H2 z → f[i]? = some z.z → Kt (.ref z.t) H2) → te ((σ.set s none).set s (some x)) H' Kt)
    (fin : ∀ D zs H', H D = none → Same H H' → H' D = some (.lst (trefs zs)) → (∀ z ∈ zs, KtOk H' z) → zs.map (·.z) = f → Q (.ref D) H') : LcGo J (gName s) tYes te [s] σ H Q := by
  refine Rd.lcZ w hn (fun D i acc H' => Same H H' ∧ ∃ zs, acc = trefs zs ∧ zs.map (·.z) = f.take i ∧ ∀ z ∈ zs, KtOk H' z ∧ z.l ≠ D) (fun D hD => ⟨same_new hD, [], rfl, rfl, fun z hz => absurd hz List.not_mem_nil⟩) (fun D i acc H' hi j => hG _ j.1) ?_ ?_
  · rintro D hD i x acc H' hi hx hacc hlen2 ⟨j1, zs, rfl, j2, j3⟩ Kt Kf hT' hF
    refine Rd.yes (Rd.iteT ?_)
    refine step i x H' hi hx j1 _ fun z H2 hz s2 hk hfz => ?_
    have hacc2 := s2 _ _ hacc
    refine hT' _ _ hacc2 ⟨same_upd (j1.trans s2) hD, zs ++ [z], ?_, ?_, fun y hy => ?_⟩
    · unfold trefs; rw [List.map_append]; rfl
    · rw [List.map_append, j2, List.take_add_one, hfz]
      rfl
    · rcases List.mem_append.mp hy with hy | hy
      · exact ⟨((j3 y hy).1.mono s2).updL hacc2 (j3 y hy).2, (j3 y hy).2⟩
      · rw [List.mem_singleton.mp hy]
        have hne : z.l ≠ D := Ne.symm (ne_of_none hacc hz)
        exact ⟨hk.updL hacc2 hne, hne⟩
  · rintro D acc H' hD hacc hlen2 ⟨j1, zs, rfl, j2, j3⟩
    rw [← hf, List.take_length] at j2
    exact fin D zs H' hD j1 hacc (fun z hz => (j3 z hz).1) j2
def spIs (CC D : Addr) (C : Nat → Addr) : Sp := fun vs H Q _ => ∃ (p t a : Addr) (o : List Nat) (ks : List Kd) (ps : List Kp), vs = [.ref p, .ref a, .str (S o)] ∧ CatAt CC H p t ks ∧ KdsOk D C H ks ∧ H a = some (.lst (prefs ps)) ∧ KpsOk H ps ∧ ps.length ≤ 8 ∧ (∀ k ∈ ps, KpGood k) ∧
  ks.map ntOf = ps.map ntP ∧ (ps.map (·.n)).Nodup ∧ (∀ k ∈ ps, k.n ≠ o) ∧ okV (.str (S o)) = true ∧ ∀ H', Same H H' → Q (.bl true) H'
theorem ks_at {ks : List Kd} {ps : List Kp} (e : ks.map ntOf = ps.map ntP) {i : Nat} {k : Kd} (h : ks[i]? = some k) : ∃ p, ps[i]? = some p ∧ ntOf k = ntP p := by
  have h1 : (ks.map ntOf)[i]? = some (ntOf k) := by rw [List.getElem?_map, h]; rfl
  rw [e, List.getElem?_map] at h1
  obtain ⟨p, h2, h3⟩ := Option.map_eq_some_iff.mp h1
  exact ⟨p, h2, h3.symm⟩
theorem ks_mem {ks : List Kd} {ps : List Kp} (e : ks.map ntOf = ps.map ntP) {k : Kd} (h : k ∈ ks) : ∃ p ∈ ps, ntOf k = ntP p := by
  have h1 : ntOf k ∈ ks.map ntOf := List.mem_map.mpr ⟨k, h, rfl⟩
  rw [e] at h1
  obtain ⟨p, h2, h3⟩ := List.mem_map.mp h1
  exact ⟨p, h2, h3.symm⟩
theorem ks_names {ks : List Kd} {ps : List Kp} (e : ks.map ntOf = ps.map ntP) : ks.map (·.n) = ps.map (·.n) := by
  have h := congrArg (List.map Prod.fst) e
  rw [List.map_map, List.map_map] at h
  exact h
theorem ks_len {ks : List Kd} {ps : List Kp} (e : ks.map ntOf = ps.map ntP) : ks.length = ps.length := by
  have h := congrArg List.length e
  rw [List.length_map, List.length_map] at h
  exact h
theorem same_kname {ks : List Kd} (h : (ks.map (·.n)).Nodup) {r r2 : Kd} (h1 : r ∈ ks) (h2 : r2 ∈ ks) (e : r2.n = r.n) : r2 = r := by
  induction ks with
  | nil => exact absurd h1 List.not_mem_nil
  | cons x rs ih =>
    rw [List.map_cons, List.nodup_cons] at h
    rcases List.mem_cons.mp h1 with a | a <;> rcases List.mem_cons.mp h2 with b | b
    · rw [a, b]
    · exact absurd (List.mem_map.mpr ⟨r2, b, by rw [e, a]⟩) h.1
    · exact absurd (List.mem_map.mpr ⟨r, a, by rw [← e, b]⟩) h.1
    · exact ih h.2 a b
theorem grps_eq : ∀ {ks : List Kd} {ps : List Kp}, ks.map ntOf = ps.map ntP → grps ks = pgrps ps
  | [], [], _ => rfl
  | [], _ :: _, e => by cases e
  | _ :: _, [], e => by cases e
  | k :: ks, p :: ps, e => by
    rw [List.map_cons, List.map_cons, List.cons.injEq] at e
    have e2 : trs k.rs = p.ts := congrArg Prod.snd e.1
    show (k :: ks).flatMap _ = (p :: ps).flatMap _
    rw [List.flatMap_cons, List.flatMap_cons]
    have ih := grps_eq e.2
    unfold grps pgrps at ih
    rw [ih, ← e2]
    unfold trs
    rw [List.map_map]
    rfl
theorem mgrps_eq {C : Nat → Addr} {D : Addr} {H : Hp} : ∀ {ks : List Kd} {ps : List Kp}, KdsOk D C H ks → ks.map ntOf = ps.map ntP → mgrps ks = pmgrps ps
  | [], [], _, _ => rfl
  | [], _ :: _, _, e => by cases e
  | _ :: _, [], _, e => by cases e
  | k :: ks, p :: ps, h, e => by
    rw [List.map_cons, List.map_cons, List.cons.injEq] at e
    have e2 : trs k.rs = p.ts := congrArg Prod.snd e.1
    show (k :: ks).flatMap _ = (p :: ps).flatMap _
    rw [List.flatMap_cons, List.flatMap_cons]
    have ih := mgrps_eq (fun x hx => h x (List.mem_cons_of_mem _ hx)) e.2
    unfold mgrps pmgrps at ih
    rw [ih, ← e2]
    have ho := (h k List.mem_cons_self).2.2
    congr 1
    unfold trs
    rw [List.filter_map, List.map_map]
    have e3 : (k.rs.filter fun r => mkB r.m) = k.rs.filter ((fun r : Tri => decide (0 < r.2.2)) ∘ fun r : Ro => (r.n, r.g, r.m)) := by
      refine List.filter_congr fun r hr => ?_
      have hm := (ho r hr).1
      show decide (1 ≤ r.m ∧ r.m ≤ 4) = decide (0 < r.m)
      exact decide_eq_decide.mpr ⟨fun z => by omega, fun z => by omega⟩
    rw [e3]
    rfl
abbrev s_law_is : Stmt := top 34
theorem sc_law_is : FnScope ["_law_catalog", "_law_kinds", "_law_other", "_law_due_here", "_law_told_here", "_law_one", "_law_groups_here", "_law_made", "_law_kind_here"] ["_law_catalog", "_law_kinds", "_law_other"] (defScope s_law_is) := ⟨rfl, rfl, rfl, by decide +kernel, rfl, by decide +kernel, by decide +kernel⟩
abbrev DIs (K : PySem.W.Frag) (mg : Str → Option Value) := Df K mg "_law_is" "_law_is" s_law_is ["_law_catalog", "_law_kinds", "_law_other"]
abbrev MCit (K : PySem.W.Frag) := Mf K "__iter__" "Catalog.__iter__" s_Catalog___iter ["self"]
abbrev MCg (K : PySem.W.Frag) := Mf K "groups" "Catalog.groups" s_Catalog_groups ["self"]
abbrev MCm (K : PySem.W.Frag) := Mf K "made_groups" "Catalog.made_groups" s_Catalog_made_groups ["self"]
theorem ok_is {mI mC D : Addr} {eR : ErR K mg} (d : DIs K mg) (T : Bt mg) (c : Six K mg mI) (cc : Cc K mg mC) (mL : MCl K) (hL1 : PySem.W.findIn K (.ref cc.C) "__len__" = some (some (.ref mL.f))) (hL2 : PySem.W.isFn K (.ref mL.f) = true)
    (mIt : MCit K) (hI1 : PySem.W.findIn K (.ref cc.C) "__iter__" = some (some (.ref mIt.f))) (hI2 : PySem.W.isFn K (.ref mIt.f) = true) (hIt : mg "iter" = none)
    (mN : MCn K) (hN : Meth K cc.C "named" mN.f) (mG : MCg K) (hG : Meth K cc.C "groups" mG.f) (mM : MCm K) (hM : Meth K cc.C "made_groups" mM.f) (dPl : DPl K mg) (dTo : DTo K mg) (dUn : DUn K mg) (dLg : DLg K mg) (dLm : DLm K mg)
    (GPl : FnOk P w K mg base CX0 1 dPl.f dPl.fd ["_law_kind_here"] spPlain) (GTo : FnOk P w K mg base CX0 1 dTo.f dTo.fd ["_law_kind_here"] (spTold D c.C)) (GUn : FnOk P w K mg base CX0 5 dUn.f dUn.fd ["_law_catalog", "_law_name"] (spUnknown cc.C D c.C))
    (GLg : FnOk P w K mg base CX0 2 dLg.f dLg.fd ["_law_kinds"] (spLGroups pgrps)) (GLm : FnOk P w K mg base CX0 2 dLm.f dLm.fd ["_law_kinds"] (spLGroups pmgrps))
    (GN : FnOk P w K mg base (L2.CX P w) 4 mN.f mN.fd ["self", "name"] (spNamed cc.C D c.C eR.C)) (GG : FnOk P w K mg base CX0 1 mG.f mG.fd ["self"] (spGroups cc.C D c.C grps)) (GM : FnOk P w K mg base CX0 2 mM.f mM.fd ["self"] (spGroups cc.C D c.C mgrps)) :
    FnOk P w K mg base CX0 6 d.f d.fd ["_law_catalog", "_law_kinds", "_law_other"] (spIs cc.C D c.C) := by
  have GCl : FnOk P w K mg base CX0 1 mL.f mL.fd _ (spCLen cc.C) := ok_clen mL T cc
  have GIt : FnY P w K mg base 1 mIt.f mIt.fd _ (spIterT (KindsAt K cc.C)) := ok_citer mIt cc hIt
  refine d.F.ok sc_law_is (fun vs H Q E h => ?_) (fun cdv A outer s H vs Q E hr h => ?_)
  · obtain ⟨p, t, a, o, ks, ps, rfl, _⟩ := h
    rfl
  · obtain ⟨p, t, a, o, ks, ps, rfl, hc, hks, ha, hps, h8', hg, he, hnd, hno, oko, k⟩ := h
    have hu := hr.units
    have hr4 : Room 4 _ := hr.mono (by decide)
    have hr2 : Room 2 _ := hr.mono (by decide)
    have hr1 : Room 1 _ := hr.mono (by decide)
    refine ⟨_, (pss_cons (ps_setLc (i := 3) (own := [("_law_kind_here", 8)]) (g := gName 8) (tt := tYes) rfl sc_law_is.nd rfl rfl (sw_true rfl rfl rfl (by decide +kernel)) (kpl K (pv 1)) (blkOk_by (N := ["_law_catalog", "_law_kinds", "_law_other", "_law_due_here", "_law_told_here", "_law_one", "_law_groups_here", "_law_made", "_law_kind_here"]) (sc := defScope s_law_is) (by decide +kernel)) (fun _ _ _ _ _ => (pg_name (i := 8) sc_law_is.nd rfl (Or.inl rfl))) (fun _ _ _ _ _ => pts_nil) (fun _ _ _ _ _ => (pe_cf dPl GPl hr1 pass0 (pa_cons (pv 8) pa_nil))))
  (pss_cons (ps_if (PW.pt (pw_or (pt_cmpR (kne K hu) (pe_callB (klenO K hL1 hL2 GCl mL.b hr2) (by rfl) T.len (by decide +kernel) (pa_cons (pv 0) pa_nil)) (pe_callB (klen K) (by rfl) T.len (by decide +kernel) (pa_cons (pv 3) pa_nil)) (nomark _)) (pw_or1 (pt_cmpR (kne K hu) (pe_lc (own := [("_law_kind_here", 8)]) (g := gName 8) (tt := tYes) rfl sc_law_is.nd (kown K (pv 0) hI1 hI2 GIt mIt.b hr1) (blkOk_by (N := ["_law_catalog", "_law_kinds", "_law_other", "_law_due_here", "_law_told_here", "_law_one", "_law_groups_here", "_law_made", "_law_kind_here"]) (sc := defScope s_law_is) (by decide +kernel)) (fun _ _ _ _ _ => (pg_name (i := 8) sc_law_is.nd rfl (Or.inl rfl))) (fun _ _ _ _ _ => pts_nil) (fun _ _ _ _ _ => (pe_cf dTo GTo hr1 pass0 (pa_cons (pv 8) pa_nil)))) (pv 3) (nomark _))))) (pss_one (ps_ret pe_bl))
  pss_nil)
  (pss_cons (ps_setLc (i := 4) (own := [("_law_kind_here", 8)]) (g := gName 8) (tt := tYes) rfl sc_law_is.nd rfl rfl (sw_true rfl rfl rfl (by decide +kernel)) (kpt K (kfld K (pv 0))) (blkOk_by (N := ["_law_catalog", "_law_kinds", "_law_other", "_law_due_here", "_law_told_here", "_law_one", "_law_groups_here", "_law_made", "_law_kind_here"]) (sc := defScope s_law_is) (by decide +kernel)) (fun _ _ _ _ _ => (pg_name (i := 8) sc_law_is.nd rfl (Or.inl rfl))) (fun _ _ _ _ _ => pts_nil) (fun _ _ _ _ _ => (pe_cf dTo GTo hr1 pass0 (pa_cons (pv 8) pa_nil))))
  (pss_cons (ps_if (PW.pt (pw_or (pt_not (pt_val (pe_callB (kisi K) (by rfl) T.isinstance (by decide +kernel) (pa_cons (kfld K (pv 0)) (pa_cons (pe_bltn (v := .ty "tuple") (by rfl) T.tuple (by decide +kernel) rfl) pa_nil))))) (pw_or1 (pt_cmpR (kne K hu) (pv 4) (pv 3) (nomark _))))) (pss_one (ps_ret pe_bl))
  pss_nil)
  (pss_cons (ps_for PassesOwn.never rfl (kpl K (pv 3)) (pg_name (i := 5) sc_law_is.nd rfl (Or.inl rfl))
  (pss_one (ps_if (pt_cmpR (kne K hu) (pe_cf dTo GTo hr1 pass0 (pa_cons (pe_mA (pv 0) cc.cl mN hN GN hr4 passL (pa_cons (pe_ix (kix K) (pv 5) pe_int (fun _ _ => rfl)) pa_nil)) pa_nil)) (pv 5) (nomark _)) (pss_one (ps_ret pe_bl))
  pss_nil)))
  (pss_cons (ps_if (pt_cmpR (kne K hu) (pe_cf dUn GUn hr pass0 (pa_cons (pv 0) (pa_cons (pv 2) pa_nil))) (pe_tup (pa_cons (pv 2) (pa_cons pe_bl pa_nil))) (nomark _)) (pss_one (ps_ret pe_bl))
  pss_nil)
  (pss_cons (ps_if (pt_cmpR (kne K hu) (pe_cf dUn GUn hr pass0 (pa_cons (pv 0) (pa_cons (pe_lit [] (by decide +kernel)) pa_nil))) (pe_tup (pa_cons (pe_lit [] (by decide +kernel)) (pa_cons pe_bl pa_nil))) (nomark _)) (pss_one (ps_ret pe_bl))
  pss_nil)
  (pss_cons (ps_set (i := 6) sc_law_is.nd rfl (Or.inl rfl) (pe_m0g (pv 0) cc.cl hG GG hr1 pass0 mG.b))
  (pss_cons (ps_set (i := 7) sc_law_is.nd rfl (Or.inl rfl) (pe_m0g (pv 0) cc.cl hM GM hr2 pass0 mM.b))
  (pss_cons (ps_if (PW.pt (pw_or (pt_not (pt_val (pe_callB (kisi K) (by rfl) T.isinstance (by decide +kernel) (pa_cons (pv 6) (pa_cons (pe_bltn (v := .ty "list") (by rfl) T.list (by decide +kernel) rfl) pa_nil))))) (pw_or1 (pt_not (pt_val (pe_callB (kisi K) (by rfl) T.isinstance (by decide +kernel) (pa_cons (pv 7) (pa_cons (pe_bltn (v := .ty "list") (by rfl) T.list (by decide +kernel) rfl) pa_nil)))))))) (pss_one (ps_ret pe_bl))
  pss_nil)
  (pss_one (ps_ret (pe_and (pe_cmpR (keq K hu) (pv 6) (pe_cf dLg GLg hr2 pass0 (pa_cons (pv 1) pa_nil)) (nomark _)) (pe_one (pe_cmpR (keq K hu) (pv 7) (pe_cf dLm GLm hr2 pass0 (pa_cons (pv 1) pa_nil)) (nomark _)))))))))))))))), ?_⟩
    refine Rd.start_ (σ' := [some (.ref p), some (.ref a), some (.str (S o)), none, none, none, none, none, none]) rfl ?_
    have lP : (prefs ps).length = ps.length := List.length_map ..
    have lK : (krefs ks).length = ps.length := by rw [List.length_map]; exact ks_len he
    have lN : (ps.map ntP).length = ps.length := List.length_map ..
    have gN : ∀ z ∈ ps.map ntP, NtOk z := fun z hz => by
      obtain ⟨q, hq, rfl⟩ := List.mem_map.mp hz
      exact ⟨(hg q hq).1, (hg q hq).2.2.2.2.1⟩
    have k6 : ∀ k ∈ ks, k.rs.length ≤ 6 := fun k hk => by
      obtain ⟨q, hq, e⟩ := ks_mem he hk
      have e2 : trs k.rs = q.ts := congrArg Prod.snd e
      have h6 := (hg q hq).2.2.1
      rw [← e2] at h6
      unfold trs at h6
      rw [List.length_map] at h6
      exact h6
    have p6 : ∀ k ∈ ps, k.ts.length ≤ 6 := fun k hk => (hg k hk).2.2.1
    walk_at "rd"
    refine lc_kts Rd.wList (by rw [lP]; walk_at "sz") (ps.map ntP) (by rw [lN, lP]) (fun H' j => SqL.of (j _ _ ha)) (fun i x H' hi hx j Kt hT => ?_) fun L zs H1 hL s1 hdue hz ez => ?_
    · obtain ⟨q, hq, rfl⟩ := pref_at hx
      have hm := List.mem_of_getElem? hq
      dsimp only [List.set]
      walk_at "rd"
      refine ⟨q, rfl, (hps.mono j) q hm, p6 q hm, fun r hr' => ((hg q hm).2.2.2.2.1 r hr').2.2, fun z H2 n1 n2 n3 n4 => hT z H2 n1 n2 n3 ?_⟩
      rw [List.getElem?_map, hq, n4]; rfl
    walk_at "rd"
    have hc1 := hc.mono s1
    have hks1 := hks.mono s1
    obtain ⟨⟨dx, hp1⟩, ht1⟩ := id hc1
    have lz : (trefs zs).length = ps.length := by
      have := congrArg List.length ez
      rw [List.length_map, List.length_map] at this
      rw [List.length_map]; exact this
    refine ⟨p, dx, _, rfl, hp1, p, t, dx, _, rfl, hp1, ht1, _, rfl, by rw [lK]; omega, ?_⟩
    walk_at "rd"
    refine Rd.iteNDT (by rw [lz, lK]) ?_
    walk_at "rd"
    refine Rd.lcO ?_
    walk_at "rd"
    have mem_k : ∀ {i : Nat} {x : V}, (krefs ks)[i]? = some x → ∃ q, ks[i]? = some q ∧ x = .ref q.a ∧ q ∈ ks ∧ (ps.map ntP)[i]? = some (ntOf q) := fun {i x} hx => by
      obtain ⟨q, hq, rfl⟩ := kref_at hx
      refine ⟨q, hq, rfl, List.mem_of_getElem? hq, ?_⟩
      rw [← he, List.getElem?_map, hq]; rfl
    refine ⟨p, dx, _, t, rfl, hp1, ⟨dx, _, hp1, ht1⟩, ?_⟩
    refine lc_kts Rd.wTup (by rw [lK]; walk_at "sz") (ps.map ntP) (by rw [lN, lK]) (fun H' j => SqT.of (j _ _ ht1)) (fun i x H' hi hx j Kt hT => ?_) fun L2 zs2 H2 hL2 s2 htold hz2 ez2 => ?_
    · obtain ⟨q, hq, rfl, hm, hn⟩ := mem_k hx
      dsimp only [List.set]
      walk_at "rd"
      exact ⟨q, rfl, (hks1.mono j) q hm, k6 q hm, fun z H2 n1 n2 n3 n4 => hT z H2 n1 n2 n3 (by rw [hn, n4])⟩
    have s02 := s1.trans s2
    have hdue2 := s2 _ _ hdue
    have hzd2 : ∀ z ∈ zs, KtOk H2 z := fun z m => (hz z m).mono s2
    have gz : ∀ z ∈ zs, NtOk z.z := fun z m => gN _ (by rw [← ez]; exact List.mem_map.mpr ⟨z, m, rfl⟩)
    walk_at "rd"
    refine neKts htold hdue2 hz2 hzd2 (by rw [ez2, ez]) gz ?_
    walk_at "rd"
    have hc2 := hc.mono s02
    have hks2 := hks.mono s02
    obtain ⟨⟨dx2, hp2⟩, ht2⟩ := id hc2
    refine ⟨p, cc.C, dx2, _, _, rfl, hp2, cc.cl, cc.nK, cflds_kinds _, ?_⟩
    refine Rd.extup (SqT.of ht2) ?_
    refine lc_kts Rd.wTup (by rw [lK]; walk_at "sz") (ps.map ntP) (by rw [lN, lK]) (fun H' j => SqT.of (j _ _ ht2)) (fun i x H' hi hx j Kt hT => ?_) fun L3 zs3 H3 hL3 s3 htold3 hz3 ez3 => ?_
    · obtain ⟨q, hq, rfl, hm, hn⟩ := mem_k hx
      dsimp only [List.set]
      walk_at "rd"
      exact ⟨q, rfl, (hks2.mono j) q hm, k6 q hm, fun z H2 n1 n2 n3 n4 => hT z H2 n1 n2 n3 (by rw [hn, n4])⟩
    have s03 := s02.trans s3
    have hdue3 := s3 _ _ hdue2
    have hzd3 : ∀ z ∈ zs, KtOk H3 z := fun z m => (hzd2 z m).mono s3
    have hc3 := hc.mono s03
    have hks3 := hks.mono s03
    obtain ⟨⟨dx3, hp3⟩, ht3⟩ := id hc3
    walk_at "rd"
    refine ⟨p, cc.C, dx3, _, _, rfl, hp3, cc.cl, cc.nK, cflds_kinds _, ?_⟩
    walk_at "rd"
    refine Rd.isi (.ty _) (.base (.tup ht3)) (kit_ty (r := true) (by decide +kernel)) ?_
    walk_at "rd"
    refine neKts htold3 hdue3 hz3 hzd3 (by rw [ez3, ez]) gz ?_
    walk_at "rd"
    refine Rd.foW Rd.wList (fun i σ H' => ∃ o5, σ = [some (.ref p), some (.ref a), some (.str (S o)), some (.ref L), some (.ref L3), o5, none, none, none] ∧ Same H3 H') ⟨none, rfl, Same.refl _⟩ (fun i σ H' hi ⟨_, _, j⟩ => SqL.of (j _ _ hdue3)) ?_ ?_
    · rintro i x σ H4 hi hx ⟨o5, rfl, s4⟩
      rw [List.getElem?_map] at hx
      obtain ⟨z, hz4, rfl⟩ := Option.map_eq_some_iff.mp hx
      have zm := List.mem_of_getElem? hz4
      have kz := (hzd3 z zm).mono s4
      have hz1 := kz.1
      have s04 := s03.trans s4
      have hc4 := hc.mono s04
      have hks4 := hks.mono s04
      obtain ⟨⟨dx4, hp4⟩, ht4⟩ := id hc4
      dsimp only [List.set]
      walk_at "rd"
      refine ⟨p, dx4, _, rfl, hp4, cflds_no _ (by decide +kernel), ?_⟩
      walk_at "rd"
      have zn : z.z ∈ ks.map ntOf := by rw [he, ← ez]; exact List.mem_map.mpr ⟨z, zm, rfl⟩
      obtain ⟨q, hqm, hqz⟩ := List.mem_map.mp zn
      have hqn : q.n = z.z.1 := congrArg Prod.fst hqz
      refine ⟨p, t, dx4, z.z.1, ks, rfl, hp4, ht4, hks4, fun r hr' e => ?_, fun e => absurd hqn (e q hqm)⟩
      have er := same_kname (by rw [ks_names he]; exact hnd) hqm hr' (by rw [e, hqn])
      subst er
      walk_at "rd"
      refine ⟨r, rfl, hks4 r hr', k6 r hr', fun z2 H5 n1 n2 n3 n4 => ?_⟩
      walk_at "rd"
      refine neKt n3 (kz.mono n2) (by rw [n4, hqz]) (gz z zm) ?_
      walk_at "rd"
      exact ⟨_, rfl, s4.trans n2⟩
    · rintro σ H4 ⟨o5, rfl, s4⟩
      have s04 := s03.trans s4
      have nko : ∀ x : List Nat, (∀ q ∈ ps, q.n ≠ x) → ∀ k ∈ ks, k.n ≠ x := fun x hx k hk => by
        obtain ⟨q, hq, e⟩ := ks_mem he hk
        have e2 : k.n = q.n := congrArg Prod.fst e
        rw [e2]; exact hx q hq
      walk_at "rd"
      refine ⟨p, t, o, ks, rfl, hc.mono s04, hks.mono s04, nko o hno, fun t5 H5 s5 h5 => ?_⟩
      have s05 := s04.trans s5
      walk_at "rd"
      refine ⟨by show 2 ≤ sizeLine; decide, fun t6 h6 => ?_⟩
      have s6 := same_new (o := .tup [.str (S o), .bl true]) h6
      have s06 := s05.trans s6
      have h5' := s6 _ _ h5
      refine Rd.neTs (SqT.of h5') (SqT.of upd_same) (by rw [List.all_cons, oko]; rfl) ?_
      walk_at "rd"
      refine ⟨p, t, [], ks, rfl, hc.mono s06, hks.mono s06, nko [] (fun q hq e => by have := (hg q hq).1.1; rw [e] at this; exact absurd this (by decide)), fun t7 H7 s7 h7 => ?_⟩
      have s07 := s06.trans s7
      walk_at "rd"
      refine ⟨by show 2 ≤ sizeLine; decide, fun t8 h8 => ?_⟩
      have s8 := same_new (o := .tup [.str (S []), .bl true]) h8
      have s08 := s07.trans s8
      have h7' := s8 _ _ h7
      refine Rd.neTs (SqT.of h7') (SqT.of upd_same) (by decide +kernel) ?_
      walk_at "rd"
      have hc8 := hc.mono s08
      obtain ⟨⟨dx8, hp8⟩, ht8⟩ := id hc8
      refine ⟨p, dx8, _, rfl, hp8, cflds_no _ (by decide +kernel), ?_⟩
      walk_at "rd"
      refine ⟨p, t, dx8, ks, rfl, hp8, ht8, hks.mono s08, by rw [ks_len he]; exact h8', k6, fun l9 ss9 H9 n9 s9 h9 R9 => ?_⟩
      have s09 := s08.trans s9
      have hc9 := hc.mono s09
      obtain ⟨⟨dx9, hp9⟩, ht9⟩ := id hc9
      walk_at "rd"
      refine ⟨p, dx9, _, rfl, hp9, cflds_no _ (by decide +kernel), ?_⟩
      walk_at "rd"
      refine ⟨p, t, dx9, ks, rfl, hp9, ht9, hks.mono s09, by rw [ks_len he]; exact h8', k6, fun l10 ss10 H10 n10 s10 h10 R10 => ?_⟩
      have s010 := s09.trans s10
      have h9' := s10 _ _ h9
      walk_at "rd"
      refine Rd.isi (.ty _) (.base (.lst h9')) (kit_ty (r := true) (by decide +kernel)) ?_
      walk_at "rd"
      refine Rd.isi (.ty _) (.base (.lst h10)) (kit_ty (r := true) (by decide +kernel)) ?_
      walk_at "rd"
      refine ⟨a, ps, rfl, s010 _ _ ha, hps.mono s010, h8', p6, fun l11 rs11 H11 n11 s11 h11 q1 q2 => ?_⟩
      have e11 := rises_eq R9 q1 (fun x => by rw [q2 x, grps_eq he])
      have nmg : ∀ x ∈ pgrps ps, Nm x := fun x hx => by
        obtain ⟨q, hq, hx⟩ := List.mem_flatMap.mp hx
        obtain ⟨r, hr, rfl⟩ := List.mem_map.mp hx
        exact ((hg q hq).2.2.2.2.1 r hr).2.1
      have nmm : ∀ x ∈ pmgrps ps, Nm x := fun x hx => by
        obtain ⟨q, hq, hx⟩ := List.mem_flatMap.mp hx
        obtain ⟨r, hr, rfl⟩ := List.mem_map.mp hx
        exact ((hg q hq).2.2.2.2.1 r (List.mem_filter.mp hr).1).2.1
      have okts : ∀ {rs : List (List Nat)}, (∀ x ∈ rs, Nm x) → (txts rs).all okV = true := fun {rs} h => by
        rw [List.all_eq_true]
        intro v hv
        obtain ⟨x, hx, rfl⟩ := List.mem_map.mp hv
        exact ok_S (h x hx)
      have h9'' := s11 _ _ h9'
      rw [e11, List.map_map] at h9''
      walk_at "rd"
      refine Rd.eqLs (SqL.of h9'') (SqL.of h11) (okts fun x hx => nmg x ((q2 x).mp hx)) ?_
      walk_at "rd"
      have s011 := s010.trans s11
      refine ⟨a, ps, rfl, s011 _ _ ha, hps.mono s011, h8', p6, fun l12 rs12 H12 n12 s12 h12 q3 q4 => ?_⟩
      have e12 := rises_eq R10 q3 (fun x => by rw [q4 x, mgrps_eq hks he])
      have h10' := s12 _ _ (s11 _ _ h10)
      rw [e12, List.map_map] at h10'
      walk_at "rd"
      refine Rd.eqLs (SqL.of h10') (SqL.of h12) (okts fun x hx => nmm x ((q4 x).mp hx)) ?_
      exact k _ (s011.trans s12)

end
section
variable {P : Program} {w : World} {K : PySem.W.Frag} {mg : Str → Option Value} {base : Heap} {tk : Tok}
/-! ### the law -/
theorem KpOk.updL {H : Hp} {k : Kp} {D : Addr} {zs ys : List V} (h : KpOk H k) (hD : H D = some (.lst zs)) (hl : k.l ≠ D) : KpOk (upd H D (.lst ys)) k := by
  refine ⟨?_, ?_, h.2.2.upd fun o e => by rw [hD] at e; cases e⟩
  · rw [upd_ne (fun z => by have := h.1; rw [z, hD] at this; cases this)]
    exact h.1
  · rw [upd_ne hl]; exact h.2.1
theorem KpOk.sameB {H H' : Hp} {k : Kp} {p : Addr} (h : KpOk H k) (hp : PoolAt H p) (e : SameB p H H') (hl : k.l ≠ p) : KpOk H' k := by
  refine ⟨e _ _ (fun z => ?_) h.1, e _ _ hl h.2.1, h.2.2.sameB e (pool_tup hp)⟩
  have := h.1
  rw [z] at this
  exact pool_tup hp _ this
/-- the script, told in a way that outlives changes at p and R -/
def ScAt (K : PySem.W.Frag) (a : Addr) (zs : List V) (H : Hp) (p R : Addr) : Prop := (∀ G, SqL K G a zs) ∨ ∃ o, H a = some o ∧ (∀ G, G a = some o → SqL K G a zs) ∧ a ≠ p ∧ a ≠ R
theorem ScAt.of {a : Addr} {zs : List V} {H : Hp} {p R : Addr} (h : SqL K H a zs) (n : ∀ o, H a = some o → a ≠ p ∧ a ≠ R) : ScAt K a zs H p R := by
  rcases h with (h | ⟨o, h⟩) | h
  · exact .inr ⟨_, h, fun G e => .inl (.inl e), n _ h⟩
  · exact .inr ⟨_, h, fun G e => .inl (.inr ⟨o, e⟩), n _ h⟩
  · exact .inl fun G => .inr h
theorem ScAt.sq {a : Addr} {zs : List V} {H : Hp} {p R : Addr} (h : ScAt K a zs H p R) : SqL K H a zs := by
  rcases h with h | ⟨o, h1, h2, _⟩
  · exact h H
  · exact h2 H h1
theorem ScAt.mono {a : Addr} {zs : List V} {H H' : Hp} {p R : Addr} (h : ScAt K a zs H p R) (e : ∀ o, a ≠ p → a ≠ R → H a = some o → H' a = some o) : ScAt K a zs H' p R := by
  rcases h with h | ⟨o, h1, h2, h3, h4⟩
  · exact .inl h
  · exact .inr ⟨o, e o h3 h4 h1, h2, h3, h4⟩
structure Bun (K : PySem.W.Frag) (sa : Addr) (zs : List V) (p R q gq : Addr) (xs gs : List (List Nat)) (ps : List Kp) (H : Hp) : Prop where
  pl : PoolAt H p
  sc : ScAt K sa zs H p R
  nq : NamesAt H q xs
  ng : NamesAt H gq gs
  hR : H R = some (.lst (prefs ps))
  hk : ∀ k ∈ ps, KpOk H k ∧ k.l ≠ p ∧ k.l ≠ R
  pq : q ≠ p
  pg : gq ≠ p
  pR : R ≠ p
  qR : q ≠ R
  gR : gq ≠ R
section
variable {sa : Addr} {zs : List V} {p R q gq : Addr} {xs gs : List (List Nat)} {ps : List Kp} {H H' : Hp}
theorem Bun.drawn (h : Bun K sa zs p R q gq xs gs ps H) (e : ∀ b, b ≠ p → H' b = H b) (hp : PoolAt H' p) : Bun K sa zs p R q gq xs gs ps H' where
  pl := hp
  sc := h.sc.mono fun o n _ q => by rw [e _ n]; exact q
  nq := by unfold NamesAt; rw [e _ h.pq]; exact h.nq
  ng := by unfold NamesAt; rw [e _ h.pg]; exact h.ng
  hR := by rw [e _ h.pR]; exact h.hR
  hk := fun k hk => ⟨(h.hk k hk).1.sameB h.pl (SameB.drawn e) (h.hk k hk).2.1, (h.hk k hk).2⟩
  pq := h.pq
  pg := h.pg
  pR := h.pR
  qR := h.qR
  gR := h.gR
theorem Bun.same (h : Bun K sa zs p R q gq xs gs ps H) (e : Same H H') : Bun K sa zs p R q gq xs gs ps H' where
  pl := pool_of h.pl e
  sc := h.sc.mono fun o _ _ q => e _ _ q
  nq := e _ _ h.nq
  ng := e _ _ h.ng
  hR := e _ _ h.hR
  hk := fun k hk => ⟨(h.hk k hk).1.mono e, (h.hk k hk).2⟩
  pq := h.pq
  pg := h.pg
  pR := h.pR
  qR := h.qR
  gR := h.gR
/-- L is none of these -/
def Off (K : PySem.W.Frag) (sa : Addr) (zs : List V) (p R q gq : Addr) (ps : List Kp) (L : Addr) : Prop := p ≠ L ∧ q ≠ L ∧ gq ≠ L ∧ R ≠ L ∧ (∀ k ∈ ps, k.l ≠ L) ∧ ((∀ G, SqL K G sa zs) ∨ sa ≠ L)
theorem Bun.ne (h : Bun K sa zs p R q gq xs gs ps H) {L : Addr} (hL : H L = none) : Off K sa zs p R q gq ps L :=
  ⟨pool_ne h.pl hL, ne_of_none h.nq hL, ne_of_none h.ng hL, ne_of_none h.hR hL, fun k hk => ne_of_none (h.hk k hk).1.2.1 hL, h.sc.imp id fun ⟨o, h1, _⟩ => ne_of_none h1 hL⟩
theorem Bun.updL (h : Bun K sa zs p R q gq xs gs ps H) {L : Addr} {zs' ys : List V} (hL : H L = some (.lst zs')) (n : Off K sa zs p R q gq ps L) : Bun K sa zs p R q gq xs gs ps (upd H L (.lst ys)) where
  pl := h.pl.upd n.1
  sc := by
    rcases n.2.2.2.2.2 with z | z
    · exact .inl z
    · exact h.sc.mono fun o _ _ q => by rw [upd_ne z]; exact q
  nq := by unfold NamesAt; rw [upd_ne n.2.1]; exact h.nq
  ng := by unfold NamesAt; rw [upd_ne n.2.2.1]; exact h.ng
  hR := by rw [upd_ne n.2.2.2.1]; exact h.hR
  hk := fun k hk => ⟨(h.hk k hk).1.updL hL (n.2.2.2.2.1 k hk), (h.hk k hk).2⟩
  pq := h.pq
  pg := h.pg
  pR := h.pR
  qR := h.qR
  gR := h.gR
theorem Bun.updR (h : Bun K sa zs p R q gq xs gs ps H) {ps' : List Kp} (hk : ∀ k ∈ ps', KpOk H k ∧ k.l ≠ p ∧ k.l ≠ R) : Bun K sa zs p R q gq xs gs ps' (upd H R (.lst (prefs ps'))) where
  pl := h.pl.upd (Ne.symm h.pR)
  sc := h.sc.mono fun o _ n q => by rw [upd_ne n]; exact q
  nq := by unfold NamesAt; rw [upd_ne h.qR]; exact h.nq
  ng := by unfold NamesAt; rw [upd_ne h.gR]; exact h.ng
  hR := upd_same
  hk := fun k hk' => ⟨(hk k hk').1.updL h.hR (hk k hk').2.2, (hk k hk').2⟩
  pq := h.pq
  pg := h.pg
  pR := h.pR
  qR := h.qR
  gR := h.gR
end
theorem CatAt.updL {CC : Addr} {H : Hp} {p t : Addr} {ks : List Kd} {D : Addr} {ys : List V} (h : CatAt CC H p t ks) (hD : ∀ o, H D = some o → ∃ zs, o = .lst zs) : CatAt CC (upd H D (.lst ys)) p t ks := by
  obtain ⟨⟨dx, h1⟩, h2⟩ := h
  refine ⟨⟨dx, ?_⟩, ?_⟩
  · rw [upd_ne (fun z => ?_)]
    · exact h1
    · rw [z] at h1; obtain ⟨zs, e⟩ := hD _ h1; cases e
  · rw [upd_ne (fun z => ?_)]
    · exact h2
    · rw [z] at h2; obtain ⟨zs, e⟩ := hD _ h2; cases e
theorem nodup_le {α : Type} [DecidableEq α] : ∀ {xs ys : List α}, xs.Nodup → (∀ x ∈ xs, x ∈ ys) → xs.length ≤ ys.length
  | [], _, _, _ => Nat.zero_le _
  | x :: xs, ys, nd, h => by
    rw [List.nodup_cons] at nd
    have hx := h x List.mem_cons_self
    have ih := nodup_le (ys := ys.erase x) nd.2 fun y hy => (List.mem_erase_of_ne (fun e => nd.1 (by rw [← e]; exact hy))).mpr (h y (List.mem_cons_of_mem _ hy))
    rw [List.length_erase_of_mem hx] at ih
    have := List.length_pos_of_mem hx
    rw [List.length_cons]
    omega
theorem frep_ex {ns : List (List Nat)} (h : ¬ ns.Nodup) : ∃ i x, Frep ns i x := by
  have key : ∀ n, (ns.take n).Nodup ∨ ∃ i x, Frep ns i x := by
    intro n
    induction n with
    | zero => exact .inl List.nodup_nil
    | succ n ih =>
      rcases ih with ih | ih
      · cases hx : ns[n]? with
        | none => rw [List.take_add_one, hx]; exact .inl (by simpa using ih)
        | some x =>
          by_cases hm : x ∈ ns.take n
          · exact .inr ⟨n, x, hx, hm, ih⟩
          · exact .inl (nodup_take hx ih hm)
      · exact .inr ih
  rcases key ns.length with q | q
  · rw [List.take_length] at q; exact absurd q h
  · exact q
def labels : List (List Nat) := [[111, 110, 101], [116, 119, 111], [116, 104, 114, 101, 101]]
theorem label_at {j : Nat} (h : j < 3) : ∃ l, labels[j]? = some l ∧ Nm l ∧ atI [V.str (S [111, 110, 101]), V.str (S [116, 119, 111]), V.str (S [116, 104, 114, 101, 101])] (j : Nat) = some (.str (S l)) := by
  have h' : j = 0 ∨ j = 1 ∨ j = 2 := by omega
  rcases h' with rfl | rfl | rfl
  · exact ⟨_, rfl, by unfold Nm; decide, rfl⟩
  · exact ⟨_, rfl, by unfold Nm; decide, rfl⟩
  · exact ⟨_, rfl, by unfold Nm; decide, rfl⟩
theorem labels_nodup : labels.Nodup := by unfold labels; decide
def TsIn (j : Nat) (ts : List Tri) : Prop := ts.map (·.1) = labels.take j ∧ (∀ r ∈ ts, Nm r.1 ∧ Nm r.2.1 ∧ r.2.2 < 5) ∧ (1 ≤ j → ∃ r ∈ ts, 0 < r.2.2)
theorem TsIn.good {j : Nat} {ts : List Tri} (h : TsIn j ts) (h1 : 1 ≤ j) (h3 : j ≤ 3) {n : List Nat} (hn : Nm n) {a l : Addr} {us : List V} : KpGood ⟨a, n, l, us, ts⟩ := by
  have e := congrArg List.length h.1
  have l3 : labels.length = 3 := rfl
  rw [List.length_map, List.length_take, l3] at e
  refine ⟨hn, ?_, ?_, ?_, h.2.1, h.2.2 h1⟩
  · show 1 ≤ ts.length; omega
  · show ts.length ≤ 6; omega
  · show (ts.map (·.1)).Nodup
    rw [h.1]
    exact List.Sublist.nodup (List.take_sublist _ _) labels_nodup
def PsIn (xs : List (List Nat)) (c : Nat) (ps : List Kp) : Prop := ∀ k ∈ ps, KpGood k ∧ k.n ∈ xs.take c
def spLaw (K : PySem.W.Frag) : Sp := fun vs H Q _ => ∃ (a : Addr) (ns : List Int), vs = [.ref a] ∧ SqL K H a (ns.map V.int) ∧ ns.length ≤ 63 ∧ ∀ H', Q (.bl true) H'
abbrev s_law : Stmt := top 35
theorem sc_law : FnScope ["_law_script", "_law_names_here", "_law_groups_here", "_law_pool_here", "_law_count", "_law_used", "_law_kinds", "_law_k", "_law_roles", "_law_j", "_law_mode", "_law_label", "_law_more", "_law_turn", "_law_one", "_law_two", "_law_given", "_law_due_here", "_law_catalog", "_law_other", "_law_kind_here"] ["_law_script"] (defScope s_law) := ⟨rfl, rfl, rfl, by decide +kernel, rfl, by decide +kernel, by decide +kernel⟩
abbrev DPool (K : PySem.W.Frag) (mg : Str → Option Value) := Df K mg "_law_pool" "_law_pool" s_law_pool ["_law_script", "_law_k"]
abbrev DDraw (K : PySem.W.Frag) (mg : Str → Option Value) := Df K mg "_law_draw" "_law_draw" s_law_draw ["_law_pool_here", "_law_many"]
abbrev DWord (K : PySem.W.Frag) (mg : Str → Option Value) := Df K mg "_law_word" "_law_word" s_law_word ["_law_numbers"]
abbrev DNames (K : PySem.W.Frag) (mg : Str → Option Value) := Df K mg "_law_names" "_law_names" s_law_names ["_law_pool_here"]
theorem ok_law {f : Addr} {fd : FuncData} {mI mK : Addr} {eK : Addr} (F : Fun K "law" "law" s_law f fd) (T : Bt mg) (dP : DPool K mg) (dD : DDraw K mg) (dN : DNames K mg) (c : Six K mg mI) (kc : Kc K mg mK) (mC : MCi K) (cc : Cc K mg mC.f) (mG : MCg K) (hG : Meth K cc.C "groups" mG.f) (mM : MCm K) (hM : Meth K cc.C "made_groups" mM.f)
    (dKi : DKi K mg) (dDu : DDu K mg) (dRef : DRef K mg) (dI : DIs K mg)
    (GP : FnOk P w K mg base CX0 1 dP.f dP.fd ["_law_script", "_law_k"] (spPool K)) (GD : FnOk P w K mg base CX0 1 dD.f dD.fd ["_law_pool_here", "_law_many"] spDraw) (GN : FnOk P w K mg base CX0 2 dN.f dN.fd ["_law_pool_here"] spNames)
    (GKi : FnOk P w K mg base CX0 7 dKi.f dKi.fd ["_law_kind_here"] (spLKind kc.C c.C)) (GDu : FnOk P w K mg base CX0 1 dDu.f dDu.fd ["_law_kinds"] spDue) (GRef : FnOk P w K mg base CX0 6 dRef.f dRef.fd ["_law_given"] (spRefusal kc.C c.C))
    (GI : FnOk P w K mg base CX0 6 dI.f dI.fd ["_law_catalog", "_law_kinds", "_law_other"] (spIs cc.C kc.C c.C)) (GC : FnOk P w K mg base (L2.CX P w) 3 mC.f mC.fd ["self", "kinds"] (spCInit cc.C kc.C c.C eK))
    (GG : FnOk P w K mg base CX0 1 mG.f mG.fd ["self"] (spGroups cc.C kc.C c.C grps)) (GM : FnOk P w K mg base CX0 2 mM.f mM.fd ["self"] (spGroups cc.C kc.C c.C mgrps)) :
    FnOk P w K mg base CX0 9 f fd ["_law_script"] (spLaw K) := by
  refine F.ok sc_law (fun vs H Q E h => ?_) (fun cdv A outer s H vs Q E hr h => ?_)
  · obtain ⟨a, ns, rfl, _⟩ := h
    rfl
  · obtain ⟨a, ns, rfl, hS, hl, k⟩ := h
    have hu := hr.units
    have hr7 : Room 7 _ := hr.mono (by decide)
    have hr6 : Room 6 _ := hr.mono (by decide)
    have hr4 : Room 4 _ := hr.mono (by decide)
    have hr2 : Room 2 _ := hr.mono (by decide)
    have hr1 : Room 1 _ := hr.mono (by decide)
    refine ⟨_, (pss_cons (ps_set (i := 1) sc_law.nd rfl (Or.inl rfl) (pe_cf dN GN hr2 pass0 (pa_cons (pe_cf dP GP hr1 pass0 (pa_cons (pv 0) (pa_cons pe_int pa_nil))) pa_nil)))
  (pss_cons (ps_set (i := 2) sc_law.nd rfl (Or.inl rfl) (pe_cf dN GN hr2 pass0 (pa_cons (pe_cf dP GP hr1 pass0 (pa_cons (pv 0) (pa_cons pe_int pa_nil))) pa_nil)))
  (pss_cons (ps_set (i := 3) sc_law.nd rfl (Or.inl rfl) (pe_cf dP GP hr1 pass0 (pa_cons (pv 0) (pa_cons pe_int pa_nil))))
  (pss_cons (ps_set (i := 4) sc_law.nd rfl (Or.inl rfl) (pe_cf dD GD hr1 pass0 (pa_cons (pv 3) (pa_cons pe_int pa_nil))))
  (pss_cons (ps_set (i := 5) sc_law.nd rfl (Or.inl rfl) (pe_op op_addA pe_int (pe_cf dD GD hr1 pass0 (pa_cons (pv 3) (pa_cons pe_int pa_nil)))))
  (pss_cons (ps_set (i := 6) sc_law.nd rfl (Or.inl rfl) (pe_lst pa_nil))
  (pss_cons (ps_for PassesOwn.never rfl (pi_range1 rfl T.range (pa_cons (pv 4) pa_nil)) (pg_name (i := 7) sc_law.nd rfl (Or.inl rfl))
  (pss_cons (ps_set (i := 8) sc_law.nd rfl (Or.inl rfl) (pe_lst pa_nil))
  (pss_cons (ps_for PassesOwn.never rfl (pi_range1 rfl T.range (pa_cons (pe_op op_addA pe_int (pe_cf dD GD hr1 pass0 (pa_cons (pv 3) (pa_cons pe_int pa_nil)))) pa_nil)) (pg_name (i := 9) sc_law.nd rfl (Or.inl rfl))
  (pss_cons (ps_set (i := 10) sc_law.nd rfl (Or.inl rfl) (pe_cf dD GD hr1 pass0 (pa_cons (pv 3) (pa_cons pe_int pa_nil))))
  (pss_cons (ps_if (PW.pt (pw_and (pt_cmpR (keq K hu) (pv 9) pe_int (nomark _)) (pw_and1 (pt_cmpR (keq K hu) (pv 10) pe_int (nomark _))))) (pss_one (ps_set (i := 10) sc_law.nd rfl (Or.inl rfl) pe_int))
  pss_nil)
  (pss_cons (ps_set (i := 11) sc_law.nd rfl (Or.inl rfl) (pe_ix (kix K) (pe_lst (pa_cons (pe_lit [111, 110, 101] (by decide +kernel)) (pa_cons (pe_lit [116, 119, 111] (by decide +kernel)) (pa_cons (pe_lit [116, 104, 114, 101, 101] (by decide +kernel)) pa_nil)))) (pv 9) (fun _ _ => rfl)))
  (pss_one (ps_expr (kapp K (pv 8) (pa_cons (pe_tup (pa_cons (pv 11) (pa_cons (pe_ix (kix K) (pv 2) (pe_cf dD GD hr1 pass0 (pa_cons (pv 3) (pa_cons (pv 5) pa_nil))) (fun _ _ => rfl)) (pa_cons (pv 10) pa_nil)))) pa_nil))))))))
  (pss_one (ps_expr (kapp K (pv 6) (pa_cons (pe_tup (pa_cons (pe_ix (kix K) (pv 1) (pv 7) (fun _ _ => rfl)) (pa_cons (pv 8) pa_nil))) pa_nil)))))))
  (pss_cons (ps_set (i := 12) sc_law.nd rfl (Or.inl rfl) (pe_cf dP GP hr1 pass0 (pa_cons (pv 0) (pa_cons pe_int pa_nil))))
  (pss_cons (ps_if (PW.pt (pw_and (pt_cmpR (keq K hu) (pe_cf dD GD hr1 pass0 (pa_cons (pv 12) (pa_cons pe_int pa_nil))) pe_int (nomark _)) (pw_and1 (pt_cmpR op_gtI (pv 4) pe_int (nomark _))))) (pss_one (ps_for PassesOwn.never rfl (pi_range1 rfl T.range (pa_cons (pe_op op_addA pe_int (pe_cf dD GD hr1 pass0 (pa_cons (pv 12) (pa_cons pe_int pa_nil)))) pa_nil)) (pg_name (i := 13) sc_law.nd rfl (Or.inl rfl))
  (pss_cons (ps_set (i := 14) sc_law.nd rfl (Or.inl rfl) (pe_cf dD GD hr1 pass0 (pa_cons (pv 12) (pa_cons (pv 4) pa_nil))))
  (pss_cons (ps_set (i := 15) sc_law.nd rfl (Or.inl rfl) (pe_cf dD GD hr1 pass0 (pa_cons (pv 12) (pa_cons (pv 4) pa_nil))))
  (pss_one (ps_asg (pe_tup (pa_cons (pe_ix (kix K) (pe_ix (kix K) (pv 6) (pv 14) (fun _ _ => rfl)) pe_int (fun _ _ => rfl)) (pa_cons (pe_ix (kix K) (pe_ix (kix K) (pv 6) (pv 15) (fun _ _ => rfl)) pe_int (fun _ _ => rfl)) pa_nil))) (pg_sub (pv 6) (pv 15) set_list)))))))
  pss_nil)
  (pss_cons (ps_setLc (i := 16) (own := [("_law_kind_here", 20)]) (g := gName 20) (tt := tYes) rfl sc_law.nd rfl rfl (sw_true rfl rfl rfl (by decide +kernel)) (kpl K (pv 6)) (blkOk_by (N := ["_law_script", "_law_names_here", "_law_groups_here", "_law_pool_here", "_law_count", "_law_used", "_law_kinds", "_law_k", "_law_roles", "_law_j", "_law_mode", "_law_label", "_law_more", "_law_turn", "_law_one", "_law_two", "_law_given", "_law_due_here", "_law_catalog", "_law_other", "_law_kind_here"]) (sc := defScope s_law) (by decide +kernel)) (fun _ _ _ _ _ => (pg_name (i := 20) sc_law.nd rfl (Or.inl rfl))) (fun _ _ _ _ _ => pts_nil) (fun _ _ _ _ _ => (pe_cf dKi GKi hr7 pass0 (pa_cons (pv 20) pa_nil))))
  (pss_cons (ps_set (i := 17) sc_law.nd rfl (Or.inl rfl) (pe_cf dDu GDu hr1 pass0 (pa_cons (pv 6) pa_nil)))
  (pss_cons (ps_if (pt_cmpR (kne K hu) (pv 17) (pe_tup pa_nil) (nomark _)) (pss_one (ps_ret (pe_and (pe_cmpR (keq K hu) (pe_cf dRef GRef hr6 pass0 (pa_cons (pv 16) pa_nil)) (pv 17) (nomark _)) (pe_one (pe_cmpR (keq K hu) (pe_callB (klen K) (by rfl) T.len (by decide +kernel) (pa_cons (pv 16) pa_nil)) (pv 4) (nomark _))))))
  pss_nil)
  (pss_cons (ps_set (i := 18) sc_law.nd rfl (Or.inl rfl) (pe_mk mC cc.M cc.g GC hr4 passL (pa_cons (pv 16) pa_nil)))
  (pss_cons (ps_set (i := 19) sc_law.nd rfl (Or.inl rfl) (pe_ix (kix K) (pe_op op_addA (pv 1) (pe_lst (pa_cons (pe_lit [78, 111, 98, 111, 100, 121] (by decide +kernel)) pa_nil))) (pv 4) (fun _ _ => rfl)))
  (pss_cons (ps_if (PW.pt (pw_or (pt_not (pt_val (pe_cf dI GI hr6 pass0 (pa_cons (pv 18) (pa_cons (pv 6) (pa_cons (pv 19) pa_nil)))))) (pw_or1 (pt_cmpR (kne K hu) (pe_callB (klen K) (by rfl) T.len (by decide +kernel) (pa_cons (pv 16) pa_nil)) (pv 4) (nomark _))))) (pss_one (ps_ret pe_bl))
  pss_nil)
  (pss_cons (ps_expr (kapp K (pe_m0g (pv 18) cc.cl hG GG hr1 pass0 mG.b) (pa_cons (pe_lit [109, 111, 114, 101] (by decide +kernel)) pa_nil)))
  (pss_cons (ps_expr (kapp K (pe_m0g (pv 18) cc.cl hM GM hr2 pass0 mM.b) (pa_cons (pe_lit [109, 111, 114, 101] (by decide +kernel)) pa_nil)))
  (pss_cons (ps_expr (kclear K (pv 16)))
  (pss_one (ps_ret (pe_cf dI GI hr6 pass0 (pa_cons (pv 18) (pa_cons (pv 6) (pa_cons (pv 19) pa_nil)))))))))))))))))))))))), ?_⟩
    refine Rd.start_ (σ' := [some (.ref a), none, none, none, none, none, none, none, none, none, none, none, none, none, none, none, none, none, none, none, none]) rfl ?_
    walk_at "rd"
    refine ⟨a, ns, 0, rfl, hS, hl, by decide, by decide, fun p0 H1 hp0 s1 p1 => ?_⟩
    walk_at "rd"
    refine ⟨p0, rfl, p1, fun xs q H2 hx8 hxN hxD hq0 s2 p2 hq => ?_⟩
    have s02 : Same H H2 := SameB.ofNone s1 hp0 s2
    walk_at "rd"
    refine ⟨a, ns, 2, rfl, s02.seq hS, hl, by decide, by decide, fun p' H3 hp'0 s3 pp3 => ?_⟩
    walk_at "rd"
    refine ⟨p', rfl, pp3, fun gs gq H4 hg8 hgN _ hgq0 s4 _ hgq => ?_⟩
    have s24 : Same H2 H4 := SameB.ofNone s3 hp'0 s4
    have hq4 : NamesAt H4 q xs := s24 _ _ hq
    have hqg : q ≠ gq := ne_of_none (s3 _ _ hq) hgq0
    have s04 := s02.trans s24
    walk_at "rd"
    refine ⟨a, ns, 1, rfl, s04.seq hS, hl, by decide, by decide, fun p H5 hp5 s5 p5 => ?_⟩
    have npq : q ≠ p := ne_of_none hq4 hp5
    have npg : gq ≠ p := ne_of_none hgq hp5
    have hq5 := s5 _ _ hq4
    have hg5 := s5 _ _ hgq
    walk_at "rd"
    refine ⟨_, _, rfl, by decide, by decide, p5, fun cn H6 c0 c8 e6 p6 => ?_⟩
    walk_at "rd"
    refine ⟨_, _, rfl, by decide, by decide, p6, fun ud H7 u0 u8 e7 p7 => ?_⟩
    have hq7 : NamesAt H7 q xs := by unfold NamesAt; rw [e7 _ npq, e6 _ npq]; exact hq5
    have hg7 : NamesAt H7 gq gs := by unfold NamesAt; rw [e7 _ npg, e6 _ npg]; exact hg5
    walk_at "rd"
    refine ⟨by show 0 ≤ sizeLine; decide, fun R hR => ?_⟩
    have s57 : Same H H4 := s04
    have hS5 : SqL K H5 a (ns.map V.int) := (s04.trans s5).seq hS
    have sc7 : ScAt K a (ns.map V.int) H7 p R := by
      have h4 := ScAt.of (p := p) (R := R) (s04.seq hS) (K := K) (zs := ns.map V.int) (a := a)
      rcases s04.seq hS with (h | ⟨o, h⟩) | h
      · have n1 := ne_of_none h hp5
        have h7 : H7 a = some (.lst (ns.map V.int)) := by rw [e7 _ n1, e6 _ n1]; exact s5 _ _ h
        exact .inr ⟨_, h7, fun G e => .inl (.inl e), n1, ne_of_none h7 hR⟩
      · have n1 := ne_of_none h hp5
        have h7 : H7 a = some (.frz o (.lst (ns.map V.int))) := by rw [e7 _ n1, e6 _ n1]; exact s5 _ _ h
        exact .inr ⟨_, h7, fun G e => .inl (.inr ⟨o, e⟩), n1, ne_of_none h7 hR⟩
      · exact .inl fun G => .inr h
    have b0 : Bun K a (ns.map V.int) p R q gq xs gs [] (upd H7 R (.lst (prefs []))) := ⟨p7.upd (pool_ne p7 hR), sc7.mono fun o _ n z => by rw [upd_ne n]; exact z, by unfold NamesAt; rw [upd_ne (ne_of_none hq7 hR)]; exact hq7, by unfold NamesAt; rw [upd_ne (ne_of_none hg7 hR)]; exact hg7, upd_same, fun k hk => absurd hk List.not_mem_nil, npq, npg, Ne.symm (pool_ne p7 hR), ne_of_none hq7 hR, ne_of_none hg7 hR⟩
    walk_at "rd"
    have b0' : Bun K a (ns.map V.int) p R q gq xs gs [] (upd H7 R (.lst [])) := b0
    generalize upd H7 R (.lst []) = H8 at b0'
    have ch : (cn.toNat : Int) = cn := Int.toNat_of_nonneg c0
    refine Rd.foW Rd.wRange (fun i σ H' => ∃ (o7 o8 o9 o10 o11 : Option V) (ps : List Kp), σ = [some (.ref a), some (.ref q), some (.ref gq), some (.ref p), some (.int cn), some (.int (1 + ud)), some (.ref R), o7, o8, o9, o10, o11, none, none, none, none, none, none, none, none, none] ∧
      Bun K a (ns.map V.int) p R q gq xs gs ps H' ∧ ps.length = i ∧ PsIn xs cn.toNat ps) ⟨_, _, _, _, _, [], rfl, b0', rfl, fun k hk => absurd hk List.not_mem_nil⟩ (fun _ _ _ _ _ => trivial) ?_ ?_
    · rintro i x σ H9 hi hx ⟨o7, o8, o9, o10, o11, ps, rfl, b9, hlen, hin⟩
      rw [Int.zero_add] at hx
      subst hx
      dsimp only [List.set]
      walk_at "rd"
      refine ⟨by show 0 ≤ sizeLine; decide, fun L hL => ?_⟩
      have offL := b9.ne hL
      have b10 := b9.same (same_new (o := .lst []) hL)
      have hL10 : upd H9 L (.lst []) L = some (.lst []) := upd_same
      generalize upd H9 L (.lst []) = H10 at b10 hL10
      walk_at "rd"
      refine ⟨_, _, rfl, by decide, by decide, b10.pl, fun jn H11 j0 j3 e11 p11 => ?_⟩
      have b11 := b10.drawn e11 p11
      have hL11 : H11 L = some (.lst []) := by rw [e11 _ (Ne.symm offL.1)]; exact hL10
      walk_at "rd"
      have hi8 : i < xs.length := by omega
      have an : atI (xs.map fun l => V.str (S l)) (i : Nat) = some (.str (S xs[i])) := atI_nat (by simp [hi8])
      have nmN := hxN xs[i] (List.getElem_mem hi8)
      have nmem : xs[i] ∈ xs.take cn.toNat := by
        refine List.mem_iff_getElem?.mpr ⟨i, ?_⟩
        rw [List.getElem?_take, if_pos hi]
        exact List.getElem?_eq_getElem hi8
      refine Rd.foW Rd.wRange (fun j σ H' => ∃ (o9 o10 o11 : Option V) (us : List V) (ts : List Tri), σ = [some (.ref a), some (.ref q), some (.ref gq), some (.ref p), some (.int cn), some (.int (1 + ud)), some (.ref R), some (.int (i : Nat)), some (.ref L), o9, o10, o11, none, none, none, none, none, none, none, none, none] ∧
        Bun K a (ns.map V.int) p R q gq xs gs ps H' ∧ H' L = some (.lst us) ∧ TlAt H' us (tri ts) ∧ TsIn j ts) ⟨_, _, _, [], [], rfl, b11, hL11, .nil, rfl, fun r hr => absurd hr List.not_mem_nil, fun z => absurd z (by decide)⟩ (fun _ _ _ _ _ => trivial) ?_ ?_
      · rintro j x σ H12 hj hx ⟨o9, o10, o11, us, ts, rfl, b12, hL12, hT12, hts⟩
        rw [Int.zero_add] at hx
        subst hx
        dsimp only [List.set]
        walk_at "rd"
        refine ⟨_, _, rfl, by decide, by decide, b12.pl, fun md H13 m0 m5 e13 p13 => ?_⟩
        have b13 := b12.drawn e13 p13
        have hL13 : H13 L = some (.lst us) := by rw [e13 _ (Ne.symm offL.1)]; exact hL12
        have hT13 := hT12.sameB (SameB.drawn e13) (pool_tup b12.pl)
        have j3' : j < 3 := by omega
        show tSeq _ _ _ _ _
        refine Rd.seq ?_
        refine Rd.mid (fun σ H' => ∃ m : Nat, m < 5 ∧ (j = 0 → 0 < m) ∧ σ = [some (.ref a), some (.ref q), some (.ref gq), some (.ref p), some (.int cn), some (.int (1 + ud)), some (.ref R), some (.int (i : Nat)), some (.ref L), some (.int (j : Nat)), some (.int (m : Nat)), o11, none, none, none, none, none, none, none, none, none] ∧ H' = H13) ?_ ?_
        · rintro σ H' ⟨m, hm5, hm0, rfl, rfl⟩
          obtain ⟨lb, lb1, lb2, lb3⟩ := label_at j3'
          walk_at "rd"
          refine ⟨by show 3 ≤ sizeLine; decide, fun tl htl => ?_⟩
          have s14 := same_new (o := .lst [V.str (S [111, 110, 101]), V.str (S [116, 119, 111]), V.str (S [116, 104, 114, 101, 101])]) htl
          have b14 := b13.same s14
          have hL14 := s14 _ _ hL13
          have hT14 := hT13.mono s14
          have hM14 : upd H' tl (.lst [V.str (S [111, 110, 101]), V.str (S [116, 119, 111]), V.str (S [116, 104, 114, 101, 101])]) tl = some (.lst [V.str (S [111, 110, 101]), V.str (S [116, 119, 111]), V.str (S [116, 104, 114, 101, 101])]) := upd_same
          generalize upd H' tl (.lst [V.str (S [111, 110, 101]), V.str (S [116, 119, 111]), V.str (S [116, 104, 114, 101, 101])]) = H14 at s14 b14 hL14 hT14 hM14
          walk_at "rd"
          refine ⟨_, _, rfl, by omega, by omega, b14.pl, fun gi H15 g0 g8 e15 p15 => ?_⟩
          have b15 := b14.drawn e15 p15
          have hL15 : H15 L = some (.lst us) := by rw [e15 _ (Ne.symm offL.1)]; exact hL14
          have hT15 := hT14.sameB (SameB.drawn e15) (pool_tup b14.pl)
          obtain ⟨g, hgm, ag⟩ := at_names (ns := gs) g0 (by rw [hg8]; omega)
          refine Rd.ixL (SqL.of b15.ng) ag ?_
          walk_at "rd"
          refine ⟨by show 3 ≤ sizeLine; decide, fun tp htp => ?_⟩
          have s16 := same_new (o := .tup [.str (S lb), .str (S g), .int (m : Nat)]) htp
          have hL16 := s16 _ _ hL15
          have hT16 := hT15.mono s16
          have etl := congrArg List.length hts.1
          have l3 : labels.length = 3 := rfl
          rw [List.length_map, List.length_take, l3] at etl
          have lus : us.length ≤ 3 := by rw [tri_len hT15]; omega
          walk_at "rd"
          refine ⟨_, _, _, us ++ [.ref tp], ts ++ [(lb, g, m)], rfl, (b15.same s16).updL hL16 offL, upd_same, ?_, ?_, fun r hr => ?_, fun _ => ?_⟩
          · unfold tri
            rw [List.map_append]
            exact (hT16.one upd_same).upd (fun o z => by rw [hL16] at z; cases z)
          · rw [List.map_append, hts.1, List.take_add_one, lb1]
            rfl
          · rcases List.mem_append.mp hr with hr | hr
            · exact hts.2.1 r hr
            · rw [List.mem_singleton.mp hr]
              exact ⟨lb2, hgN g hgm, hm5⟩
          · by_cases hj0 : j = 0
            · exact ⟨_, List.mem_append.mpr (.inr (List.mem_singleton.mpr rfl)), hm0 hj0⟩
            · obtain ⟨r, hr, h0⟩ := hts.2.2 (by omega)
              exact ⟨r, List.mem_append.mpr (.inl hr), h0⟩
        · intro N' hN'
          walk_at "rd"
          refine Rd.iteD (fun c1 => ?_) (fun c1 => ?_)
          · walk_at "rd"
            refine Rd.iteD (fun c2 => ?_) (fun c2 => ?_)
            · walk_at "rd"
              exact hN' _ _ ⟨1, by decide, fun _ => by decide, rfl, rfl⟩
            · walk_at "rd"
              refine hN' _ _ ⟨md.toNat, by omega, fun _ => by omega, ?_, rfl⟩
              rw [Int.toNat_of_nonneg m0]
          · walk_at "rd"
            refine hN' _ _ ⟨md.toNat, by omega, fun _ => by omega, ?_, rfl⟩
            rw [Int.toNat_of_nonneg m0]
      · rintro σ H12 ⟨o9, o10, o11, us, ts, rfl, b12, hL12, hT12, hts⟩
        have hR12 := b12.hR
        have hq12 : H12 q = some (.lst (xs.map fun l => V.str (S l))) := b12.nq
        walk_at "rd"
        refine ⟨by show 2 ≤ sizeLine; decide, fun tp htp => ?_⟩
        have s13 := same_new (o := .tup [.str (S xs[i]), .ref L]) htp
        have b13 := b12.same s13
        have lpr : (prefs ps).length < sizeLine := by rw [List.length_map]; walk_at "sz"
        have hR13 := b13.hR
        walk_at "rd"
        have ep : prefs ps ++ [V.ref tp] = prefs (ps ++ [⟨tp, xs[i], L, us, ts⟩]) := by unfold prefs; rw [List.map_append]; rfl
        rw [ep]
        refine ⟨_, _, _, _, _, ps ++ [⟨tp, xs[i], L, us, ts⟩], rfl, b13.updR fun k hk => ?_, by rw [List.length_append, hlen]; rfl, fun k hk => ?_⟩
        · rcases List.mem_append.mp hk with hk | hk
          · exact b13.hk k hk
          · rw [List.mem_singleton.mp hk]
            exact ⟨⟨upd_same, s13 _ _ hL12, hT12.mono s13⟩, Ne.symm offL.1, Ne.symm offL.2.2.2.1⟩
        · rcases List.mem_append.mp hk with hk | hk
          · exact hin k hk
          · rw [List.mem_singleton.mp hk]
            exact ⟨hts.good (by omega) (by omega) nmN, nmem⟩
    · rintro σ H9 ⟨o7, o8, o9, o10, o11, ps, rfl, b9, hlen, hin⟩
      walk_at "rd"
      refine ⟨a, ns, 3, rfl, b9.sc.sq, hl, by decide, by decide, fun m H10 hm0 s10 p10 => ?_⟩
      have b10 : Bun K a (ns.map V.int) m R q gq xs gs ps H10 := ⟨p10, by
        rcases b9.sc with z | ⟨o, h1, h2, h3, h4⟩
        · exact .inl z
        · exact .inr ⟨o, s10 _ _ h1, h2, ne_of_none h1 hm0, h4⟩, s10 _ _ b9.nq, s10 _ _ b9.ng, s10 _ _ b9.hR, fun k hk => ⟨(b9.hk k hk).1.mono s10, ne_of_none (b9.hk k hk).1.2.1 hm0, (b9.hk k hk).2.2⟩, ne_of_none b9.nq hm0, ne_of_none b9.ng hm0, ne_of_none b9.hR hm0, b9.qR, b9.gR⟩
      show tSeq _ _ _ _ _
      refine Rd.seq ?_
      refine Rd.mid (fun σ H' => ∃ (o13 o14 o15 : Option V) (ps : List Kp), σ = [some (.ref a), some (.ref q), some (.ref gq), some (.ref p), some (.int cn), some (.int (1 + ud)), some (.ref R), o7, o8, o9, o10, o11, some (.ref m), o13, o14, o15, none, none, none, none, none] ∧
        Bun K a (ns.map V.int) m R q gq xs gs ps H' ∧ ps.length = cn.toNat ∧ PsIn xs cn.toNat ps) ?_ ?_
      · clear b10 b9 hlen hin
        rintro σ H11 ⟨o13, o14, o15, ps, rfl, b11, hlen, hin⟩
        have hR11 := b11.hR
        have hps11 : KpsOk H11 ps := fun k hk => (b11.hk k hk).1
        have hq11 := b11.nq
        have kR : ∀ k ∈ ps, k.l ≠ R := fun k hk => (b11.hk k hk).2.2
        have lP : (prefs ps).length = ps.length := List.length_map ..
        have l8 : ps.length ≤ 8 := by omega
        have good : ∀ k ∈ ps, KpGood k := fun k hk => (hin k hk).1
        walk_at "rd"
        refine Rd.lcZ Rd.wList (by rw [lP]; walk_at "sz") (fun D i acc H' => Same H11 H' ∧ ∃ ks, acc = krefs ks ∧ ks.map ntOf = (ps.take i).map ntP ∧ KdsOk kc.C c.C H' ks) (fun D hD => ⟨same_new hD, [], rfl, rfl, fun r hr => absurd hr List.not_mem_nil⟩) (fun D i acc H' hi j => SqL.of (j.1 _ _ hR11)) ?_ ?_
        · rintro D hD i x acc H' hi hx hacc hlen2 ⟨j1, ks, rfl, j3, j4⟩ Kt Kf hT' hF
          obtain ⟨kp, hk', rfl⟩ := pref_at hx
          have hkm := List.mem_of_getElem? hk'
          dsimp only [List.set]
          walk_at "rd"
          refine ⟨kp, rfl, (hps11.mono j1) kp hkm, good kp hkm, fun kd H2 hn s2 hkd e1 e2 => ?_⟩
          have hacc2 := s2 _ _ hacc
          have gl : ∀ o, H2 D = some o → ∃ zs, o = .lst zs := fun o e => by rw [hacc2] at e; cases e; exact ⟨_, rfl⟩
          refine hT' _ _ hacc2 ⟨same_upd (j1.trans s2) hD, ks ++ [kd], ?_, ?_, fun k hk => ?_⟩
          · unfold krefs; rw [List.map_append]; rfl
          · rw [List.map_append, j3, List.take_add_one, hk', List.map_append]
            show _ ++ [(kd.n, trs kd.rs)] = _ ++ [(kp.n, kp.ts)]
            rw [e1, e2]
          · rcases List.mem_append.mp hk with hk | hk
            · exact KdOk.updL ((j4.mono s2) k hk) gl
            · rw [List.mem_singleton.mp hk]
              exact hkd.updL gl
        · rintro G acc H12 hG hacc hlen2 ⟨s12, ks, rfl, he, hks⟩
          rw [lP, List.take_length] at he
          have hR12 := s12 _ _ hR11
          have hps12 := hps11.mono s12
          have nRG : R ≠ G := ne_of_none hR11 hG
          have kG : ∀ k ∈ ps, k.l ≠ G := fun k hk => ne_of_none (hps11 k hk).2.1 hG
          have lKs : ks.length = ps.length := ks_len he
          have enm : ks.map (·.n) = ps.map (·.n) := ks_names he
          walk_at "rd"
          refine ⟨R, ps, rfl, hR12, hps12, by omega, fun t H13 ys s13 ht rf => ?_⟩
          walk_at "rd"
          refine ⟨by show 0 ≤ sizeLine; decide, fun e0 he0 => ?_⟩
          have s14 := same_new (o := .tup []) he0
          have ht14 := s14 _ _ ht
          have s1214 := s13.trans s14
          have hacc14 := s1214 _ _ hacc
          have hks14 := hks.mono s1214
          have lG : (krefs ks).length = cn.toNat := by rw [List.length_map]; omega
          by_cases nd : (ps.map (·.n)).Nodup
          · have ey := rf.1 nd
            subst ey
            refine neTnil ht14 upd_same rfl ?_
            walk_at "rd"
            have hR14 := s1214 _ _ hR12
            have hps14 := hps12.mono s1214
            have hq14 : NamesAt (upd H13 e0 (.tup [])) q xs := s1214 _ _ (s12 _ _ hq11)
            generalize upd H13 e0 (.tup []) = H14 at ht14 hacc14 hks14 hR14 hps14 hq14 s1214 s14
            refine cmk_go cc hacc14 hks14 (by omega) (fun _ pc pt H15 _ s15 cat => ?_) (fun i x fr => absurd (by rw [enm]; exact nd) (not_nodup fr.1 fr.2.1))
            have hq15 : H15 q = some (.lst (xs.map fun l => V.str (S l))) := s15 _ _ hq14
            walk_at "rd"
            refine ⟨by show 1 ≤ sizeLine; decide, fun l1 hl1 => ?_⟩
            have s16 := same_new (o := .lst [V.str (S [78, 111, 98, 111, 100, 121])]) hl1
            refine Rd.addL (s16 _ _ hq15) upd_same (by rw [List.length_map, hx8]; decide) fun l2 hl2 => ?_
            have s17 := same_upd (o := .lst ((xs.map fun l => V.str (S l)) ++ [V.str (S [78, 111, 98, 111, 100, 121])])) s16 (none_same s16 hl2)
            have hl17 : upd (upd H15 l1 (.lst [V.str (S [78, 111, 98, 111, 100, 121])])) l2 (.lst ((xs.map fun l => V.str (S l)) ++ [V.str (S [78, 111, 98, 111, 100, 121])])) l2 = some (.lst ((xs.map fun l => V.str (S l)) ++ [V.str (S [78, 111, 98, 111, 100, 121])])) := upd_same
            generalize upd (upd H15 l1 (.lst [V.str (S [78, 111, 98, 111, 100, 121])])) l2 (.lst ((xs.map fun l => V.str (S l)) ++ [V.str (S [78, 111, 98, 111, 100, 121])])) = H17 at s17 hl17
            obtain ⟨o, ao, oko, hno⟩ : ∃ o : List Nat, atI ((xs.map fun l => V.str (S l)) ++ [V.str (S [78, 111, 98, 111, 100, 121])]) cn = some (.str (S o)) ∧ okV (.str (S o)) = true ∧ ∀ k ∈ ps, k.n ≠ o := by
              rcases Nat.lt_or_ge cn.toNat 8 with lt | ge
              · have lt' : cn.toNat < xs.length := by omega
                refine ⟨xs[cn.toNat], ?_, ok_S (hxN _ (List.getElem_mem lt')), fun k hk e => ?_⟩
                · exact (congrArg (atI _) ch.symm).trans (atI_nat (by rw [List.getElem?_append_left (by rw [List.length_map]; exact lt'), List.getElem?_map, List.getElem?_eq_getElem lt']; rfl))
                · have h1 := (hin k hk).2
                  obtain ⟨j, hj⟩ := List.mem_iff_getElem?.mp h1
                  rw [List.getElem?_take] at hj
                  rcases Nat.lt_or_ge j cn.toNat with hlt | hge
                  · rw [if_pos hlt] at hj
                    have hj' : xs[j]? = xs[cn.toNat]? := by rw [hj, List.getElem?_eq_getElem lt', e]
                    have := inj_ix hxD (by omega) hj'
                    omega
                  · rw [if_neg (by omega)] at hj
                    cases hj
              · have e8 : cn.toNat = 8 := by omega
                refine ⟨[78, 111, 98, 111, 100, 121], ?_, by decide +kernel, fun k hk e => ?_⟩
                · refine (congrArg (atI _) ch.symm).trans (atI_nat ?_)
                  rw [e8, List.getElem?_append_right (by rw [List.length_map, hx8]; exact Nat.le_refl _), List.length_map, hx8]
                  rfl
                · have h1 := (good k hk).1
                  rw [e] at h1
                  exact absurd (h1.2.2 78 (by decide)) (by decide)
            have s1417 := s15.trans s17
            have cat17 := cat.mono s17
            have hks17 := hks14.mono s1417
            have hR17 := s1417 _ _ hR14
            have hps17 := hps14.mono s1417
            walk_at "rd"
            refine ⟨pc, pt, R, o, ks, ps, rfl, cat17, hks17, hR17, hps17, l8, good, he, nd, hno, oko, fun H18 s18 => ?_⟩
            have s1418 := s1417.trans s18
            have hG18 := s1418 _ _ hacc14
            walk_at "rd"
            refine Rd.iteNDT (by rw [lG]; exact ch) ?_
            walk_at "rd"
            have k6 : ∀ k ∈ ks, k.rs.length ≤ 6 := fun k hk => by
              obtain ⟨q, hq, e⟩ := ks_mem he hk
              have e2 : trs k.rs = q.ts := congrArg Prod.snd e
              have h6 := (good q hq).2.2.1
              rw [← e2] at h6
              unfold trs at h6
              rw [List.length_map] at h6
              exact h6
            have nle : ∀ {gs : List (List Nat)} {ss : List Str}, gs.length ≤ ks.length * 6 → Rises gs ss → (ss.map V.str).length < sizeLine := fun {gs ss} hg R => by
              have h1 := nodup_le R.2.1 (ys := gs.map S) fun x hx => (R.2.2 x).mp hx
              rw [List.length_map] at h1
              rw [List.length_map]
              have h2 : ks.length * 6 ≤ 8 * 6 := Nat.mul_le_mul_right _ (by omega)
              walk_at "sz"
            have cat18 := cat17.mono s18
            obtain ⟨⟨dx18, hp18⟩, ht18⟩ := id cat18
            refine ⟨pc, dx18, _, rfl, hp18, cflds_no _ (by decide +kernel), ?_⟩
            walk_at "rd"
            refine ⟨pc, pt, dx18, ks, rfl, hp18, ht18, hks14.mono s1418, by omega, k6, fun l3 ss3 H19 n19 s19 h19 R19 => ?_⟩
            have l19 := nle (grps_len k6) R19
            walk_at "rd"
            have s20 := same_upd (o := .lst (ss3.map V.str ++ [V.str (S [109, 111, 114, 101])])) s19 n19
            generalize upd H19 l3 (.lst (ss3.map V.str ++ [V.str (S [109, 111, 114, 101])])) = H20 at s20
            have s1420 := s1418.trans s20
            have cat20 := cat18.mono s20
            obtain ⟨⟨dx20, hp20⟩, ht20⟩ := id cat20
            refine ⟨pc, dx20, _, rfl, hp20, cflds_no _ (by decide +kernel), ?_⟩
            walk_at "rd"
            refine ⟨pc, pt, dx20, ks, rfl, hp20, ht20, hks14.mono s1420, by omega, k6, fun l4 ss4 H21 n21 s21 h21 R21 => ?_⟩
            have l21 := nle (mgrps_len k6) R21
            walk_at "rd"
            have s22 := same_upd (o := .lst (ss4.map V.str ++ [V.str (S [109, 111, 114, 101])])) s21 n21
            generalize upd H21 l4 (.lst (ss4.map V.str ++ [V.str (S [109, 111, 114, 101])])) = H22 at s22
            have s1422 := s1420.trans s22
            have hG22 := s1422 _ _ hacc14
            refine Rd.bm0 ?_
            walk_at "rd"
            refine Rd.clear hG22 ?_
            walk_at "rd"
            have gl : ∀ o, H22 G = some o → ∃ zs, o = .lst zs := fun o e => by rw [hG22] at e; cases e; exact ⟨_, rfl⟩
            have cat22 := cat20.mono s22
            refine ⟨pc, pt, R, o, ks, ps, rfl, cat22.updL gl, fun k hk => KdOk.updL ((hks14.mono s1422) k hk) gl, by rw [upd_ne nRG]; exact s1422 _ _ hR14, fun k hk => KpOk.updL ((hps14.mono s1422) k hk) hG22 (kG k hk), l8, good, he, nd, hno, oko, fun H18 s18 => ?_⟩
            exact k _
          · obtain ⟨i, x, fr⟩ := frep_ex nd
            have ey := rf.2 i x fr
            have nmx : Nm x := by
              have h1 := List.mem_of_getElem? fr.1
              obtain ⟨q, hq, rfl⟩ := List.mem_map.mp h1
              exact (good q hq).1
            have oky : ys.all okV = true := by rw [ey, List.all_cons, ok_S nmx]; rfl
            refine neTnil ht14 upd_same oky ?_
            rw [ey]
            walk_at "rd"
            refine ⟨G, ks, rfl, hacc14, hks14, by omega, fun t2 H15 y s15 ht15 rf2 => ?_⟩
            have ey2 := rf2.2 i x (by rw [enm]; exact fr)
            subst ey2
            rw [ey] at ht14 oky
            have hG15 := s15 _ _ hacc14
            walk_at "rd"
            refine Rd.eqTs (SqT.of ht15) (SqT.of (s15 _ _ ht14)) oky ?_
            walk_at "rd"
            rw [lG, ch, decide_eq_true rfl]
            exact k _
      · intro N' hN'
        walk_at "rd"
        refine ⟨_, _, rfl, by decide, by decide, b10.pl, fun dd H11 _ _ e11 p11 => ?_⟩
        have b11 := b10.drawn e11 p11
        walk_at "rd"
        refine Rd.iteD (fun _ => ?_) (fun _ => ?_)
        · walk_at "rd"
          refine Rd.iteD (fun c1 => ?_) (fun c1 => ?_)
          · walk_at "rd"
            refine ⟨_, _, rfl, by decide, by decide, b11.pl, fun tn H12 t0 t3 e12 p12 => ?_⟩
            have b12 := b11.drawn e12 p12
            walk_at "rd"
            refine Rd.foW Rd.wRange (fun i σ H' => ∃ (o13 o14 o15 : Option V) (ps : List Kp), σ = [some (.ref a), some (.ref q), some (.ref gq), some (.ref p), some (.int cn), some (.int (1 + ud)), some (.ref R), o7, o8, o9, o10, o11, some (.ref m), o13, o14, o15, none, none, none, none, none] ∧
              Bun K a (ns.map V.int) m R q gq xs gs ps H' ∧ ps.length = cn.toNat ∧ PsIn xs cn.toNat ps) ⟨_, _, _, ps, rfl, b12, hlen, hin⟩ (fun _ _ _ _ _ => trivial) ?_ ?_
            · clear hN' b12 b11 b10 b9 hlen hin
              rintro i x σ H13 hi hx ⟨o13, o14, o15, ps, rfl, b13, hlen, hin⟩
              dsimp only [List.set]
              walk_at "rd"
              refine ⟨_, _, rfl, by omega, by omega, b13.pl, fun one H14 o0 o1 e14 p14 => ?_⟩
              have b14 := b13.drawn e14 p14
              walk_at "rd"
              refine ⟨_, _, rfl, by omega, by omega, b14.pl, fun two H15 w0 w1 e15 p15 => ?_⟩
              have b15 := b14.drawn e15 p15
              have at_ps : ∀ z : Int, 0 ≤ z → z < cn → ∃ r, atI (prefs ps) z = some (.ref r.a) ∧ ps[z.toNat]? = some r ∧ r ∈ ps ∧ KpOk H15 r := fun z z0 z1 => by
                have lt : z.toNat < ps.length := by omega
                have ez : z = ((z.toNat : Nat) : Int) := by omega
                refine ⟨ps[z.toNat], ?_, List.getElem?_eq_getElem lt, List.getElem_mem lt, (b15.hk _ (List.getElem_mem lt)).1⟩
                exact (congrArg (atI (prefs ps)) ez).trans (atI_nat (by rw [List.getElem?_map, List.getElem?_eq_getElem lt]; rfl))
              obtain ⟨k1, a1, g1, m1, b1⟩ := at_ps one o0 o1
              obtain ⟨k2, a2, g2, m2, b2⟩ := at_ps two w0 w1
              have hix : ixN (prefs ps).length two = some two.toNat := by
                unfold ixN
                rw [if_pos w0, if_pos (by rw [List.length_map]; omega)]
              have hR15 := b15.hR
              have c1 := b1.1
              have c2 := b2.1
              walk_at "rd"
              refine ⟨by show 2 ≤ sizeLine; decide, fun tp htp => ?_⟩
              have s16 := same_new (o := .tup [.str (S k1.n), .ref k2.l]) htp
              have b16 := b15.same s16
              have hR16 := b16.hR
              walk_at "rd"
              have ep : (prefs ps).set two.toNat (V.ref tp) = prefs (ps.set two.toNat ⟨tp, k1.n, k2.l, k2.us, k2.ts⟩) := by unfold prefs; rw [List.map_set]
              rw [ep]
              refine ⟨_, _, _, ps.set two.toNat ⟨tp, k1.n, k2.l, k2.us, k2.ts⟩, rfl, b16.updR fun k hk => ?_, by rw [List.length_set]; exact hlen, fun k hk => ?_⟩
              · rcases List.mem_or_eq_of_mem_set hk with hk | hk
                · exact b16.hk k hk
                · rw [hk]
                  have q2 := b16.hk k2 m2
                  exact ⟨⟨upd_same, q2.1.2.1, q2.1.2.2⟩, q2.2.1, q2.2.2⟩
              · rcases List.mem_or_eq_of_mem_set hk with hk | hk
                · exact hin k hk
                · rw [hk]
                  have q1 := hin k1 m1
                  have q2 := hin k2 m2
                  exact ⟨⟨q1.1.1, q2.1.2⟩, q1.2⟩
            · rintro σ H13 ⟨o13, o14, o15, ps, rfl, b13, hlen, hin⟩
              walk_at "rd"
              exact hN' _ _ ⟨_, _, _, ps, rfl, b13, hlen, hin⟩
          · walk_at "rd"
            exact hN' _ _ ⟨_, _, _, ps, rfl, b11, hlen, hin⟩
        · walk_at "rd"
          exact hN' _ _ ⟨_, _, _, ps, rfl, b11, hlen, hin⟩

end
section
variable {P : Program} {w : World} {K : PySem.W.Frag} {mg : Str → Option Value} {base : Heap} {tk : Tok}
/-! ### what the top has left -/
theorem all_mk {P : Program} {w : World} {K : PySem.W.Frag} {h : Heap} {mg : Str → Option Value} {fP fD fW fN fR fFr fRo fSo fLg fLm fKi fRef fUn fTo fDu fPl fI Cr Ce Cm Cf Cb Cw Ckd Cct fInit fRm fFm fMm fKin fCi fCl fCit fCn fCg fCm cRE CExN fIxN CExK fIxK CExR fIxR fa fLaw : Addr} (X : K.In h) (G : h.Ns mainGlobals mg) (hfa : mg "law" = some (.ref fa))
    {odP anP : Option Addr} {slP : Array (Option Value)} {ocP kVP dcP pmP cdP ctP : Value}
    {odD anD : Option Addr} {slD : Array (Option Value)} {ocD kVD dcD pmD cdD ctD : Value}
    {odW anW : Option Addr} {slW : Array (Option Value)} {ocW kVW dcW pmW cdW ctW : Value}
    {odN anN : Option Addr} {slN : Array (Option Value)} {ocN kVN dcN pmN cdN ctN : Value}
    {odR anR : Option Addr} {slR : Array (Option Value)} {ocR kVR dcR pmR cdR ctR : Value}
    {odFr anFr : Option Addr} {slFr : Array (Option Value)} {ocFr kVFr dcFr pmFr cdFr ctFr : Value}
    {odRo anRo : Option Addr} {slRo : Array (Option Value)} {ocRo kVRo dcRo pmRo cdRo ctRo : Value}
    {odSo anSo : Option Addr} {slSo : Array (Option Value)} {ocSo kVSo dcSo pmSo cdSo ctSo : Value}
    {odLg anLg : Option Addr} {slLg : Array (Option Value)} {ocLg kVLg dcLg pmLg cdLg ctLg : Value}
    {odLm anLm : Option Addr} {slLm : Array (Option Value)} {ocLm kVLm dcLm pmLm cdLm ctLm : Value}
    {odKi anKi : Option Addr} {slKi : Array (Option Value)} {ocKi kVKi dcKi pmKi cdKi ctKi : Value}
    {odRef anRef : Option Addr} {slRef : Array (Option Value)} {ocRef kVRef dcRef pmRef cdRef ctRef : Value}
    {odUn anUn : Option Addr} {slUn : Array (Option Value)} {ocUn kVUn dcUn pmUn cdUn ctUn : Value}
    {odTo anTo : Option Addr} {slTo : Array (Option Value)} {ocTo kVTo dcTo pmTo cdTo ctTo : Value}
    {odDu anDu : Option Addr} {slDu : Array (Option Value)} {ocDu kVDu dcDu pmDu cdDu ctDu : Value}
    {odPl anPl : Option Addr} {slPl : Array (Option Value)} {ocPl kVPl dcPl pmPl cdPl ctPl : Value}
    {odI anI : Option Addr} {slI : Array (Option Value)} {ocI kVI dcI pmI cdI ctI : Value}
    {xr : Str} {tr : Tok}
    {xe : Str} {te : Tok}
    {xm : Str} {tm : Tok}
    {xf : Str} {tf : Tok}
    {xb : Str} {tb : Tok}
    {xw : Str} {tw : Tok}
    {odInit anInit : Option Addr} {slInit : Array (Option Value)} {ocInit kVInit dcInit pmInit cdInit ctInit : Value}
    {odRm anRm : Option Addr} {slRm : Array (Option Value)} {ocRm kVRm dcRm pmRm cdRm ctRm : Value}
    {odFm anFm : Option Addr} {slFm : Array (Option Value)} {ocFm kVFm dcFm pmFm cdFm ctFm : Value}
    {odMm anMm : Option Addr} {slMm : Array (Option Value)} {ocMm kVMm dcMm pmMm cdMm ctMm : Value}
    {odKin anKin : Option Addr} {slKin : Array (Option Value)} {ocKin kVKin dcKin pmKin cdKin ctKin : Value}
    {odCi anCi : Option Addr} {slCi : Array (Option Value)} {ocCi kVCi dcCi pmCi cdCi ctCi : Value}
    {odCl anCl : Option Addr} {slCl : Array (Option Value)} {ocCl kVCl dcCl pmCl cdCl ctCl : Value}
    {odCit anCit : Option Addr} {slCit : Array (Option Value)} {ocCit kVCit dcCit pmCit cdCit ctCit : Value}
    {odCn anCn : Option Addr} {slCn : Array (Option Value)} {ocCn kVCn dcCn pmCn cdCn ctCn : Value}
    {odCg anCg : Option Addr} {slCg : Array (Option Value)} {ocCg kVCg dcCg pmCg cdCg ctCg : Value}
    {odCm anCm : Option Addr} {slCm : Array (Option Value)} {ocCm kVCm dcCm pmCm cdCm ctCm : Value}
    {enmxN eqxN : Str} {eAxN : Addr} {ebsxN ebmxN : List Value} {esnxN : List Str} {esubxN : List Value} {eabxN : Bool} {ecolxN : Option Bool} {eddxN : Option Addr} {eaxN ebxN ecxN edxN eexN : Option Value}
    {odIxN anIxN : Option Addr} {slIxN : Array (Option Value)} {ocIxN kVIxN dcIxN pmIxN cdIxN ctIxN : Value}
    {enmxK eqxK : Str} {eAxK : Addr} {ebsxK ebmxK : List Value} {esnxK : List Str} {esubxK : List Value} {eabxK : Bool} {ecolxK : Option Bool} {eddxK : Option Addr} {eaxK ebxK ecxK edxK eexK : Option Value}
    {odIxK anIxK : Option Addr} {slIxK : Array (Option Value)} {ocIxK kVIxK dcIxK pmIxK cdIxK ctIxK : Value}
    {enmxR eqxR : Str} {eAxR : Addr} {ebsxR ebmxR : List Value} {esnxR : List Str} {esubxR : List Value} {eabxR : Bool} {ecolxR : Option Bool} {eddxR : Option Addr} {eaxR ebxR ecxR edxR eexR : Option Value}
    {odIxR anIxR : Option Addr} {slIxR : Array (Option Value)} {ocIxR kVIxR dcIxR pmIxR cdIxR ctIxR : Value}
    {tkL : Tok}
    {tkM : Tok}
    {odLaw anLaw : Option Addr} {slLaw : Array (Option Value)} {ocLaw kVLaw dcLaw pmLaw cdLaw ctLaw : Value}
    (spc : PySem.W.specialIn K (.builtin "object.__class__") "__get__" = some (some (.builtin "getset_descriptor.__get__")))
    (tkc : PySem.W.takesIn K (.builtin "object.__class__") = some true)
    (aP : PySem.W.nsIn K mainGlobals "_law_pool" = some (some (.ref fP)))
    (lP : K.lookup fP = some ⟨ocP, odP, .func (PySem.W.fnOf "_law_pool" "_law_pool" (defArgs s_law_pool) (defBody s_law_pool) (defScope s_law_pool) .none kVP dcP pmP anP cdP ctP), slP⟩)
    (cP : PySem.W.codeIn K cdP "_law_pool" = true)
    (kP : PySem.W.keepIn K (.ref fP) = true)
    (aD : PySem.W.nsIn K mainGlobals "_law_draw" = some (some (.ref fD)))
    (lD : K.lookup fD = some ⟨ocD, odD, .func (PySem.W.fnOf "_law_draw" "_law_draw" (defArgs s_law_draw) (defBody s_law_draw) (defScope s_law_draw) .none kVD dcD pmD anD cdD ctD), slD⟩)
    (cD : PySem.W.codeIn K cdD "_law_draw" = true)
    (kD : PySem.W.keepIn K (.ref fD) = true)
    (aW : PySem.W.nsIn K mainGlobals "_law_word" = some (some (.ref fW)))
    (lW : K.lookup fW = some ⟨ocW, odW, .func (PySem.W.fnOf "_law_word" "_law_word" (defArgs s_law_word) (defBody s_law_word) (defScope s_law_word) .none kVW dcW pmW anW cdW ctW), slW⟩)
    (cW : PySem.W.codeIn K cdW "_law_word" = true)
    (kW : PySem.W.keepIn K (.ref fW) = true)
    (aN : PySem.W.nsIn K mainGlobals "_law_names" = some (some (.ref fN)))
    (lN : K.lookup fN = some ⟨ocN, odN, .func (PySem.W.fnOf "_law_names" "_law_names" (defArgs s_law_names) (defBody s_law_names) (defScope s_law_names) .none kVN dcN pmN anN cdN ctN), slN⟩)
    (cN : PySem.W.codeIn K cdN "_law_names" = true)
    (kN : PySem.W.keepIn K (.ref fN) = true)
    (aR : PySem.W.nsIn K mainGlobals "require_name" = some (some (.ref fR)))
    (lR : K.lookup fR = some ⟨ocR, odR, .func (PySem.W.fnOf "require_name" "require_name" (defArgs s_require_name) (defBody s_require_name) (defScope s_require_name) .none kVR dcR pmR anR cdR ctR), slR⟩)
    (cR : PySem.W.codeIn K cdR "require_name" = true)
    (kR : PySem.W.keepIn K (.ref fR) = true)
    (aFr : PySem.W.nsIn K mainGlobals "first_repeated" = some (some (.ref fFr)))
    (lFr : K.lookup fFr = some ⟨ocFr, odFr, .func (PySem.W.fnOf "first_repeated" "first_repeated" (defArgs s_first_repeated) (defBody s_first_repeated) (defScope s_first_repeated) .none kVFr dcFr pmFr anFr cdFr ctFr), slFr⟩)
    (cFr : PySem.W.codeIn K cdFr "first_repeated" = true)
    (kFr : PySem.W.keepIn K (.ref fFr) = true)
    (aRo : PySem.W.nsIn K mainGlobals "_law_role" = some (some (.ref fRo)))
    (lRo : K.lookup fRo = some ⟨ocRo, odRo, .func (PySem.W.fnOf "_law_role" "_law_role" (defArgs s_law_role) (defBody s_law_role) (defScope s_law_role) .none kVRo dcRo pmRo anRo cdRo ctRo), slRo⟩)
    (cRo : PySem.W.codeIn K cdRo "_law_role" = true)
    (kRo : PySem.W.keepIn K (.ref fRo) = true)
    (aSo : PySem.W.nsIn K mainGlobals "_law_sorted" = some (some (.ref fSo)))
    (lSo : K.lookup fSo = some ⟨ocSo, odSo, .func (PySem.W.fnOf "_law_sorted" "_law_sorted" (defArgs s_law_sorted) (defBody s_law_sorted) (defScope s_law_sorted) .none kVSo dcSo pmSo anSo cdSo ctSo), slSo⟩)
    (cSo : PySem.W.codeIn K cdSo "_law_sorted" = true)
    (kSo : PySem.W.keepIn K (.ref fSo) = true)
    (aLg : PySem.W.nsIn K mainGlobals "_law_groups" = some (some (.ref fLg)))
    (lLg : K.lookup fLg = some ⟨ocLg, odLg, .func (PySem.W.fnOf "_law_groups" "_law_groups" (defArgs s_law_groups) (defBody s_law_groups) (defScope s_law_groups) .none kVLg dcLg pmLg anLg cdLg ctLg), slLg⟩)
    (cLg : PySem.W.codeIn K cdLg "_law_groups" = true)
    (kLg : PySem.W.keepIn K (.ref fLg) = true)
    (aLm : PySem.W.nsIn K mainGlobals "_law_made_groups" = some (some (.ref fLm)))
    (lLm : K.lookup fLm = some ⟨ocLm, odLm, .func (PySem.W.fnOf "_law_made_groups" "_law_made_groups" (defArgs s_law_made_groups) (defBody s_law_made_groups) (defScope s_law_made_groups) .none kVLm dcLm pmLm anLm cdLm ctLm), slLm⟩)
    (cLm : PySem.W.codeIn K cdLm "_law_made_groups" = true)
    (kLm : PySem.W.keepIn K (.ref fLm) = true)
    (aKi : PySem.W.nsIn K mainGlobals "_law_kind" = some (some (.ref fKi)))
    (lKi : K.lookup fKi = some ⟨ocKi, odKi, .func (PySem.W.fnOf "_law_kind" "_law_kind" (defArgs s_law_kind) (defBody s_law_kind) (defScope s_law_kind) .none kVKi dcKi pmKi anKi cdKi ctKi), slKi⟩)
    (cKi : PySem.W.codeIn K cdKi "_law_kind" = true)
    (kKi : PySem.W.keepIn K (.ref fKi) = true)
    (aRef : PySem.W.nsIn K mainGlobals "_law_refusal" = some (some (.ref fRef)))
    (lRef : K.lookup fRef = some ⟨ocRef, odRef, .func (PySem.W.fnOf "_law_refusal" "_law_refusal" (defArgs s_law_refusal) (defBody s_law_refusal) (defScope s_law_refusal) .none kVRef dcRef pmRef anRef cdRef ctRef), slRef⟩)
    (cRef : PySem.W.codeIn K cdRef "_law_refusal" = true)
    (kRef : PySem.W.keepIn K (.ref fRef) = true)
    (aUn : PySem.W.nsIn K mainGlobals "_law_unknown" = some (some (.ref fUn)))
    (lUn : K.lookup fUn = some ⟨ocUn, odUn, .func (PySem.W.fnOf "_law_unknown" "_law_unknown" (defArgs s_law_unknown) (defBody s_law_unknown) (defScope s_law_unknown) .none kVUn dcUn pmUn anUn cdUn ctUn), slUn⟩)
    (cUn : PySem.W.codeIn K cdUn "_law_unknown" = true)
    (kUn : PySem.W.keepIn K (.ref fUn) = true)
    (aTo : PySem.W.nsIn K mainGlobals "_law_told" = some (some (.ref fTo)))
    (lTo : K.lookup fTo = some ⟨ocTo, odTo, .func (PySem.W.fnOf "_law_told" "_law_told" (defArgs s_law_told) (defBody s_law_told) (defScope s_law_told) .none kVTo dcTo pmTo anTo cdTo ctTo), slTo⟩)
    (cTo : PySem.W.codeIn K cdTo "_law_told" = true)
    (kTo : PySem.W.keepIn K (.ref fTo) = true)
    (aDu : PySem.W.nsIn K mainGlobals "_law_due" = some (some (.ref fDu)))
    (lDu : K.lookup fDu = some ⟨ocDu, odDu, .func (PySem.W.fnOf "_law_due" "_law_due" (defArgs s_law_due) (defBody s_law_due) (defScope s_law_due) .none kVDu dcDu pmDu anDu cdDu ctDu), slDu⟩)
    (cDu : PySem.W.codeIn K cdDu "_law_due" = true)
    (kDu : PySem.W.keepIn K (.ref fDu) = true)
    (aPl : PySem.W.nsIn K mainGlobals "_law_plain" = some (some (.ref fPl)))
    (lPl : K.lookup fPl = some ⟨ocPl, odPl, .func (PySem.W.fnOf "_law_plain" "_law_plain" (defArgs s_law_plain) (defBody s_law_plain) (defScope s_law_plain) .none kVPl dcPl pmPl anPl cdPl ctPl), slPl⟩)
    (cPl : PySem.W.codeIn K cdPl "_law_plain" = true)
    (kPl : PySem.W.keepIn K (.ref fPl) = true)
    (aI : PySem.W.nsIn K mainGlobals "_law_is" = some (some (.ref fI)))
    (lI : K.lookup fI = some ⟨ocI, odI, .func (PySem.W.fnOf "_law_is" "_law_is" (defArgs s_law_is) (defBody s_law_is) (defScope s_law_is) .none kVI dcI pmI anI cdI ctI), slI⟩)
    (cI : PySem.W.codeIn K cdI "_law_is" = true)
    (kI : PySem.W.keepIn K (.ref fI) = true)
    (gr : PySem.W.nsIn K mainGlobals "Role" = some (some (.ref Cr)))
    (in_r : PySem.W.findIn K (.ref Cr) "__init__" = some (some (.ref fInit)))
    (at_makes_r : PySem.W.findIn K (.ref Cr) "makes" = some (some (.ref fRm)))
    (pgr : PySem.W.plainGet K Cr Str.empty = true)
    (hdr : PySem.W.hasDictIn K Cr = true)
    (por : PySem.W.plainOver K Cr = true)
    (sar : PySem.W.findIn K (.ref Cr) "__setattr__" = some (some (.builtin "object.__setattr__")))
    (mkr : PySem.W.makesIn K Cr = true)
    (kcr : PySem.W.keepIn K (.ref Cr) = true)
    (n_name_r : PySem.W.findIn K (.ref Cr) "name" = some none)
    (n_group_r : PySem.W.findIn K (.ref Cr) "group" = some none)
    (car : PySem.W.findIn K (.ref Cr) "__class__" = some (some (.builtin "object.__class__")))
    (mor : PySem.W.mroIn K Cr (.type "object") = some true)
    (mar : PySem.W.findIn K (.ref Cr) "MARK" = some (some (.str xr tr)))
    (mxr : xr = S [])
    (msr : PySem.W.specialIn K (.str xr tr) "__get__" = some none)
    (ge : PySem.W.nsIn K mainGlobals "Read" = some (some (.ref Ce)))
    (in_e : PySem.W.findIn K (.ref Ce) "__init__" = some (some (.ref fInit)))
    (at_makes_e : PySem.W.findIn K (.ref Ce) "makes" = some (some (.ref fRm)))
    (pge : PySem.W.plainGet K Ce Str.empty = true)
    (hde : PySem.W.hasDictIn K Ce = true)
    (poe : PySem.W.plainOver K Ce = true)
    (sae : PySem.W.findIn K (.ref Ce) "__setattr__" = some (some (.builtin "object.__setattr__")))
    (mke : PySem.W.makesIn K Ce = true)
    (kce : PySem.W.keepIn K (.ref Ce) = true)
    (n_name_e : PySem.W.findIn K (.ref Ce) "name" = some none)
    (n_group_e : PySem.W.findIn K (.ref Ce) "group" = some none)
    (cae : PySem.W.findIn K (.ref Ce) "__class__" = some (some (.builtin "object.__class__")))
    (moe : PySem.W.mroIn K Ce (.type "object") = some true)
    (mae : PySem.W.findIn K (.ref Ce) "MARK" = some (some (.str xe te)))
    (mxe : xe = S [114])
    (mse : PySem.W.specialIn K (.str xe te) "__get__" = some none)
    (gm : PySem.W.nsIn K mainGlobals "Made" = some (some (.ref Cm)))
    (in_m : PySem.W.findIn K (.ref Cm) "__init__" = some (some (.ref fInit)))
    (at_makes_m : PySem.W.findIn K (.ref Cm) "makes" = some (some (.ref fMm)))
    (pgm : PySem.W.plainGet K Cm Str.empty = true)
    (hdm : PySem.W.hasDictIn K Cm = true)
    (pom : PySem.W.plainOver K Cm = true)
    (sam : PySem.W.findIn K (.ref Cm) "__setattr__" = some (some (.builtin "object.__setattr__")))
    (mkm : PySem.W.makesIn K Cm = true)
    (kcm : PySem.W.keepIn K (.ref Cm) = true)
    (n_name_m : PySem.W.findIn K (.ref Cm) "name" = some none)
    (n_group_m : PySem.W.findIn K (.ref Cm) "group" = some none)
    (cam : PySem.W.findIn K (.ref Cm) "__class__" = some (some (.builtin "object.__class__")))
    (mom : PySem.W.mroIn K Cm (.type "object") = some true)
    (mam : PySem.W.findIn K (.ref Cm) "MARK" = some (some (.str xm tm)))
    (mxm : xm = S [109])
    (msm : PySem.W.specialIn K (.str xm tm) "__get__" = some none)
    (gf : PySem.W.nsIn K mainGlobals "Fresh" = some (some (.ref Cf)))
    (in_f : PySem.W.findIn K (.ref Cf) "__init__" = some (some (.ref fInit)))
    (at_makes_f : PySem.W.findIn K (.ref Cf) "makes" = some (some (.ref fFm)))
    (pgf : PySem.W.plainGet K Cf Str.empty = true)
    (hdf : PySem.W.hasDictIn K Cf = true)
    (pof : PySem.W.plainOver K Cf = true)
    (saf : PySem.W.findIn K (.ref Cf) "__setattr__" = some (some (.builtin "object.__setattr__")))
    (mkf : PySem.W.makesIn K Cf = true)
    (kcf : PySem.W.keepIn K (.ref Cf) = true)
    (n_name_f : PySem.W.findIn K (.ref Cf) "name" = some none)
    (n_group_f : PySem.W.findIn K (.ref Cf) "group" = some none)
    (caf : PySem.W.findIn K (.ref Cf) "__class__" = some (some (.builtin "object.__class__")))
    (mof : PySem.W.mroIn K Cf (.type "object") = some true)
    (maf : PySem.W.findIn K (.ref Cf) "MARK" = some (some (.str xf tf)))
    (mxf : xf = S [102])
    (msf : PySem.W.specialIn K (.str xf tf) "__get__" = some none)
    (gb : PySem.W.nsIn K mainGlobals "Both" = some (some (.ref Cb)))
    (in_b : PySem.W.findIn K (.ref Cb) "__init__" = some (some (.ref fInit)))
    (at_makes_b : PySem.W.findIn K (.ref Cb) "makes" = some (some (.ref fMm)))
    (pgb : PySem.W.plainGet K Cb Str.empty = true)
    (hdb : PySem.W.hasDictIn K Cb = true)
    (pob : PySem.W.plainOver K Cb = true)
    (sab : PySem.W.findIn K (.ref Cb) "__setattr__" = some (some (.builtin "object.__setattr__")))
    (mkb : PySem.W.makesIn K Cb = true)
    (kcb : PySem.W.keepIn K (.ref Cb) = true)
    (n_name_b : PySem.W.findIn K (.ref Cb) "name" = some none)
    (n_group_b : PySem.W.findIn K (.ref Cb) "group" = some none)
    (cab : PySem.W.findIn K (.ref Cb) "__class__" = some (some (.builtin "object.__class__")))
    (mob : PySem.W.mroIn K Cb (.type "object") = some true)
    (mab : PySem.W.findIn K (.ref Cb) "MARK" = some (some (.str xb tb)))
    (mxb : xb = S [114, 109])
    (msb : PySem.W.specialIn K (.str xb tb) "__get__" = some none)
    (gw : PySem.W.nsIn K mainGlobals "Renewed" = some (some (.ref Cw)))
    (in_w : PySem.W.findIn K (.ref Cw) "__init__" = some (some (.ref fInit)))
    (at_makes_w : PySem.W.findIn K (.ref Cw) "makes" = some (some (.ref fFm)))
    (pgw : PySem.W.plainGet K Cw Str.empty = true)
    (hdw : PySem.W.hasDictIn K Cw = true)
    (pow : PySem.W.plainOver K Cw = true)
    (saw : PySem.W.findIn K (.ref Cw) "__setattr__" = some (some (.builtin "object.__setattr__")))
    (mkw : PySem.W.makesIn K Cw = true)
    (kcw : PySem.W.keepIn K (.ref Cw) = true)
    (n_name_w : PySem.W.findIn K (.ref Cw) "name" = some none)
    (n_group_w : PySem.W.findIn K (.ref Cw) "group" = some none)
    (caw : PySem.W.findIn K (.ref Cw) "__class__" = some (some (.builtin "object.__class__")))
    (mow : PySem.W.mroIn K Cw (.type "object") = some true)
    (maw : PySem.W.findIn K (.ref Cw) "MARK" = some (some (.str xw tw)))
    (mxw : xw = S [114, 102])
    (msw : PySem.W.specialIn K (.str xw tw) "__get__" = some none)
    (gkd : PySem.W.nsIn K mainGlobals "Kind" = some (some (.ref Ckd)))
    (in_kd : PySem.W.findIn K (.ref Ckd) "__init__" = some (some (.ref fKin)))
    (pgkd : PySem.W.plainGet K Ckd Str.empty = true)
    (hdkd : PySem.W.hasDictIn K Ckd = true)
    (pokd : PySem.W.plainOver K Ckd = true)
    (sakd : PySem.W.findIn K (.ref Ckd) "__setattr__" = some (some (.builtin "object.__setattr__")))
    (mkkd : PySem.W.makesIn K Ckd = true)
    (kckd : PySem.W.keepIn K (.ref Ckd) = true)
    (n_name_kd : PySem.W.findIn K (.ref Ckd) "name" = some none)
    (n_roles_kd : PySem.W.findIn K (.ref Ckd) "roles" = some none)
    (gct : PySem.W.nsIn K mainGlobals "Catalog" = some (some (.ref Cct)))
    (in_ct : PySem.W.findIn K (.ref Cct) "__init__" = some (some (.ref fCi)))
    (at_len_ct : PySem.W.findIn K (.ref Cct) "__len__" = some (some (.ref fCl)))
    (at_iter_ct : PySem.W.findIn K (.ref Cct) "__iter__" = some (some (.ref fCit)))
    (at_named_ct : PySem.W.findIn K (.ref Cct) "named" = some (some (.ref fCn)))
    (at_groups_ct : PySem.W.findIn K (.ref Cct) "groups" = some (some (.ref fCg)))
    (at_made_groups_ct : PySem.W.findIn K (.ref Cct) "made_groups" = some (some (.ref fCm)))
    (pgct : PySem.W.plainGet K Cct Str.empty = true)
    (hdct : PySem.W.hasDictIn K Cct = true)
    (poct : PySem.W.plainOver K Cct = true)
    (sact : PySem.W.findIn K (.ref Cct) "__setattr__" = some (some (.builtin "object.__setattr__")))
    (mkct : PySem.W.makesIn K Cct = true)
    (kcct : PySem.W.keepIn K (.ref Cct) = true)
    (n_kinds_ct : PySem.W.findIn K (.ref Cct) "kinds" = some none)
    (lInit : K.lookup fInit = some ⟨ocInit, odInit, .func (PySem.W.fnOf "__init__" "Role.__init__" (defArgs s_Role___init) (defBody s_Role___init) (defScope s_Role___init) .none kVInit dcInit pmInit anInit cdInit ctInit), slInit⟩)
    (cInit : PySem.W.codeIn K cdInit "Role.__init__" = true)
    (kInit : PySem.W.keepIn K (.ref fInit) = true)
    (fnInit : PySem.W.isFn K (.ref fInit) = true)
    (lRm : K.lookup fRm = some ⟨ocRm, odRm, .func (PySem.W.fnOf "makes" "Role.makes" (defArgs s_Role_makes) (defBody s_Role_makes) (defScope s_Role_makes) .none kVRm dcRm pmRm anRm cdRm ctRm), slRm⟩)
    (cRm : PySem.W.codeIn K cdRm "Role.makes" = true)
    (kRm : PySem.W.keepIn K (.ref fRm) = true)
    (fnRm : PySem.W.isFn K (.ref fRm) = true)
    (lFm : K.lookup fFm = some ⟨ocFm, odFm, .func (PySem.W.fnOf "makes" "Fresh.makes" (defArgs s_Fresh_makes) (defBody s_Fresh_makes) (defScope s_Fresh_makes) .none kVFm dcFm pmFm anFm cdFm ctFm), slFm⟩)
    (cFm : PySem.W.codeIn K cdFm "Fresh.makes" = true)
    (kFm : PySem.W.keepIn K (.ref fFm) = true)
    (fnFm : PySem.W.isFn K (.ref fFm) = true)
    (lMm : K.lookup fMm = some ⟨ocMm, odMm, .func (PySem.W.fnOf "makes" "Made.makes" (defArgs s_Made_makes) (defBody s_Made_makes) (defScope s_Made_makes) .none kVMm dcMm pmMm anMm cdMm ctMm), slMm⟩)
    (cMm : PySem.W.codeIn K cdMm "Made.makes" = true)
    (kMm : PySem.W.keepIn K (.ref fMm) = true)
    (fnMm : PySem.W.isFn K (.ref fMm) = true)
    (lKin : K.lookup fKin = some ⟨ocKin, odKin, .func (PySem.W.fnOf "__init__" "Kind.__init__" (defArgs s_Kind___init) (defBody s_Kind___init) (defScope s_Kind___init) .none kVKin dcKin pmKin anKin cdKin ctKin), slKin⟩)
    (cKin : PySem.W.codeIn K cdKin "Kind.__init__" = true)
    (kKin : PySem.W.keepIn K (.ref fKin) = true)
    (fnKin : PySem.W.isFn K (.ref fKin) = true)
    (lCi : K.lookup fCi = some ⟨ocCi, odCi, .func (PySem.W.fnOf "__init__" "Catalog.__init__" (defArgs s_Catalog___init) (defBody s_Catalog___init) (defScope s_Catalog___init) .none kVCi dcCi pmCi anCi cdCi ctCi), slCi⟩)
    (cCi : PySem.W.codeIn K cdCi "Catalog.__init__" = true)
    (kCi : PySem.W.keepIn K (.ref fCi) = true)
    (fnCi : PySem.W.isFn K (.ref fCi) = true)
    (lCl : K.lookup fCl = some ⟨ocCl, odCl, .func (PySem.W.fnOf "__len__" "Catalog.__len__" (defArgs s_Catalog___len) (defBody s_Catalog___len) (defScope s_Catalog___len) .none kVCl dcCl pmCl anCl cdCl ctCl), slCl⟩)
    (cCl : PySem.W.codeIn K cdCl "Catalog.__len__" = true)
    (kCl : PySem.W.keepIn K (.ref fCl) = true)
    (fnCl : PySem.W.isFn K (.ref fCl) = true)
    (lCit : K.lookup fCit = some ⟨ocCit, odCit, .func (PySem.W.fnOf "__iter__" "Catalog.__iter__" (defArgs s_Catalog___iter) (defBody s_Catalog___iter) (defScope s_Catalog___iter) .none kVCit dcCit pmCit anCit cdCit ctCit), slCit⟩)
    (cCit : PySem.W.codeIn K cdCit "Catalog.__iter__" = true)
    (kCit : PySem.W.keepIn K (.ref fCit) = true)
    (fnCit : PySem.W.isFn K (.ref fCit) = true)
    (lCn : K.lookup fCn = some ⟨ocCn, odCn, .func (PySem.W.fnOf "named" "Catalog.named" (defArgs s_Catalog_named) (defBody s_Catalog_named) (defScope s_Catalog_named) .none kVCn dcCn pmCn anCn cdCn ctCn), slCn⟩)
    (cCn : PySem.W.codeIn K cdCn "Catalog.named" = true)
    (kCn : PySem.W.keepIn K (.ref fCn) = true)
    (fnCn : PySem.W.isFn K (.ref fCn) = true)
    (lCg : K.lookup fCg = some ⟨ocCg, odCg, .func (PySem.W.fnOf "groups" "Catalog.groups" (defArgs s_Catalog_groups) (defBody s_Catalog_groups) (defScope s_Catalog_groups) .none kVCg dcCg pmCg anCg cdCg ctCg), slCg⟩)
    (cCg : PySem.W.codeIn K cdCg "Catalog.groups" = true)
    (kCg : PySem.W.keepIn K (.ref fCg) = true)
    (fnCg : PySem.W.isFn K (.ref fCg) = true)
    (lCm : K.lookup fCm = some ⟨ocCm, odCm, .func (PySem.W.fnOf "made_groups" "Catalog.made_groups" (defArgs s_Catalog_made_groups) (defBody s_Catalog_made_groups) (defScope s_Catalog_made_groups) .none kVCm dcCm pmCm anCm cdCm ctCm), slCm⟩)
    (cCm : PySem.W.codeIn K cdCm "Catalog.made_groups" = true)
    (kCm : PySem.W.keepIn K (.ref fCm) = true)
    (fnCm : PySem.W.isFn K (.ref fCm) = true)
    (gl_cRE : PySem.W.nsIn K mainGlobals "RedoError" = some (some (.ref cRE)))
    (gExN : PySem.W.nsIn K mainGlobals "BadName" = some (some (.ref CExN)))
    (xExN : K.lookup CExN = some (excClassObj enmxN eqxN CExN eAxN ebsxN ebmxN true esnxN esubxN eabxN ecolxN eddxN eaxN ebxN ecxN edxN eexN "ValueError.__new__"))
    (bExN : PySem.HandSPX.refsVE ebmxN = true)
    (saExN : PySem.W.findIn K (.ref CExN) "__setattr__" = some (some (.builtin "object.__setattr__")))
    (gaExN : PySem.W.findIn K (.ref CExN) "__getattribute__" = some (some (.builtin "BaseException.__getattribute__")))
    (ggExN : PySem.W.findIn K (.ref CExN) "__getattr__" = some none)
    (nnExN : PySem.W.findIn K (.ref CExN) "name" = some none)
    (inExN : PySem.W.findIn K (.ref CExN) "__init__" = some (some (.ref fIxN)))
    (tyIxN : PySem.W.typeIn K (.ref fIxN) = some (.type "function"))
    (lIxN : K.lookup fIxN = some ⟨ocIxN, odIxN, .func (PySem.W.fnOf "__init__" "BadName.__init__" (defArgs s_BadName___init) (defBody s_BadName___init) (defScope s_BadName___init) .none kVIxN dcIxN pmIxN anIxN cdIxN ctIxN), slIxN⟩)
    (cIxN : PySem.W.codeIn K cdIxN "BadName.__init__" = true)
    (kIxN : PySem.W.keepIn K (.ref fIxN) = true)
    (kExN : PySem.W.keepIn K (.ref CExN) = true)
    (exExN : PySem.W.subIn K (.ref CExN) (.type "BaseException") = some true)
    (tyExN : PySem.W.typeIn K (.ref CExN) = some (.type "type"))
    (hdExN : PySem.W.hasDictIn K CExN = true)
    (sExN : PySem.W.subIn K (.ref CExN) (.ref CExN) = some true)
    (clExN : PySem.W.findIn K (.ref CExN) "__class__" = some (some (.builtin "object.__class__")))
    (moExN : PySem.W.mroIn K CExN (.type "object") = some true)
    (gExK : PySem.W.nsIn K mainGlobals "BadKind" = some (some (.ref CExK)))
    (xExK : K.lookup CExK = some (excClassObj enmxK eqxK CExK eAxK ebsxK ebmxK true esnxK esubxK eabxK ecolxK eddxK eaxK ebxK ecxK edxK eexK "ValueError.__new__"))
    (bExK : PySem.HandSPX.refsVE ebmxK = true)
    (saExK : PySem.W.findIn K (.ref CExK) "__setattr__" = some (some (.builtin "object.__setattr__")))
    (gaExK : PySem.W.findIn K (.ref CExK) "__getattribute__" = some (some (.builtin "BaseException.__getattribute__")))
    (ggExK : PySem.W.findIn K (.ref CExK) "__getattr__" = some none)
    (nnExK : PySem.W.findIn K (.ref CExK) "name" = some none)
    (inExK : PySem.W.findIn K (.ref CExK) "__init__" = some (some (.ref fIxK)))
    (tyIxK : PySem.W.typeIn K (.ref fIxK) = some (.type "function"))
    (lIxK : K.lookup fIxK = some ⟨ocIxK, odIxK, .func (PySem.W.fnOf "__init__" "BadKind.__init__" (defArgs s_BadKind___init) (defBody s_BadKind___init) (defScope s_BadKind___init) .none kVIxK dcIxK pmIxK anIxK cdIxK ctIxK), slIxK⟩)
    (cIxK : PySem.W.codeIn K cdIxK "BadKind.__init__" = true)
    (kIxK : PySem.W.keepIn K (.ref fIxK) = true)
    (kExK : PySem.W.keepIn K (.ref CExK) = true)
    (exExK : PySem.W.subIn K (.ref CExK) (.type "BaseException") = some true)
    (tyExK : PySem.W.typeIn K (.ref CExK) = some (.type "type"))
    (hdExK : PySem.W.hasDictIn K CExK = true)
    (sExK : PySem.W.subIn K (.ref CExK) (.ref CExK) = some true)
    (clExK : PySem.W.findIn K (.ref CExK) "__class__" = some (some (.builtin "object.__class__")))
    (moExK : PySem.W.mroIn K CExK (.type "object") = some true)
    (gExR : PySem.W.nsIn K mainGlobals "NoKind" = some (some (.ref CExR)))
    (xExR : K.lookup CExR = some (excClassObj enmxR eqxR CExR eAxR ebsxR ebmxR true esnxR esubxR eabxR ecolxR eddxR eaxR ebxR ecxR edxR eexR "ValueError.__new__"))
    (bExR : PySem.HandSPX.refsVE ebmxR = true)
    (saExR : PySem.W.findIn K (.ref CExR) "__setattr__" = some (some (.builtin "object.__setattr__")))
    (gaExR : PySem.W.findIn K (.ref CExR) "__getattribute__" = some (some (.builtin "BaseException.__getattribute__")))
    (ggExR : PySem.W.findIn K (.ref CExR) "__getattr__" = some none)
    (nnExR : PySem.W.findIn K (.ref CExR) "name" = some none)
    (inExR : PySem.W.findIn K (.ref CExR) "__init__" = some (some (.ref fIxR)))
    (tyIxR : PySem.W.typeIn K (.ref fIxR) = some (.type "function"))
    (lIxR : K.lookup fIxR = some ⟨ocIxR, odIxR, .func (PySem.W.fnOf "__init__" "NoKind.__init__" (defArgs s_NoKind___init) (defBody s_NoKind___init) (defScope s_NoKind___init) .none kVIxR dcIxR pmIxR anIxR cdIxR ctIxR), slIxR⟩)
    (cIxR : PySem.W.codeIn K cdIxR "NoKind.__init__" = true)
    (kIxR : PySem.W.keepIn K (.ref fIxR) = true)
    (kExR : PySem.W.keepIn K (.ref CExR) = true)
    (exExR : PySem.W.subIn K (.ref CExR) (.type "BaseException") = some true)
    (tyExR : PySem.W.typeIn K (.ref CExR) = some (.type "type"))
    (hdExR : PySem.W.hasDictIn K CExR = true)
    (sExR : PySem.W.subIn K (.ref CExR) (.ref CExR) = some true)
    (clExR : PySem.W.findIn K (.ref CExR) "__class__" = some (some (.builtin "object.__class__")))
    (moExR : PySem.W.mroIn K CExR (.type "object") = some true)
    (q1 : PySem.W.kitOne K (.ref CExK) (.ref cRE) = some true)
    (q2 : PySem.W.kitOne K (.ref CExK) (.ref CExR) = some false)
    (q3 : PySem.W.kitOne K (.ref CExR) (.ref cRE) = some true)
    (q4 : PySem.W.kitOne K (.ref CExR) (.ref CExK) = some false)
    (gL : PySem.W.nsIn K mainGlobals "LONGEST_NAME" = some (some (.int 8 tkL)))
    (gM : PySem.W.nsIn K mainGlobals "MOST_ROLES" = some (some (.int 6 tkM)))
    (z_len : PySem.W.nsIn K mainGlobals "len" = some none)
    (z_sum : PySem.W.nsIn K mainGlobals "sum" = some none)
    (z_int : PySem.W.nsIn K mainGlobals "int" = some none)
    (z_range : PySem.W.nsIn K mainGlobals "range" = some none)
    (z_isinstance : PySem.W.nsIn K mainGlobals "isinstance" = some none)
    (z_any : PySem.W.nsIn K mainGlobals "any" = some none)
    (z_all : PySem.W.nsIn K mainGlobals "all" = some none)
    (z_list : PySem.W.nsIn K mainGlobals "list" = some none)
    (z_tuple : PySem.W.nsIn K mainGlobals "tuple" = some none)
    (z_sorted : PySem.W.nsIn K mainGlobals "sorted" = some none)
    (z_set : PySem.W.nsIn K mainGlobals "set" = some none)
    (z_bool : PySem.W.nsIn K mainGlobals "bool" = some none)
    (z_ValueError : PySem.W.nsIn K mainGlobals "ValueError" = some none)
    (z_enumerate : PySem.W.nsIn K mainGlobals "enumerate" = some none)
    (z_iter : PySem.W.nsIn K mainGlobals "iter" = some none)
    (aLaw : PySem.W.nsIn K mainGlobals "law" = some (some (.ref fLaw)))
    (lLaw : K.lookup fLaw = some ⟨ocLaw, odLaw, .func (PySem.W.fnOf "law" "law" (defArgs s_law) (defBody s_law) (defScope s_law) .none kVLaw dcLaw pmLaw anLaw cdLaw ctLaw), slLaw⟩)
    (cLaw : PySem.W.codeIn K cdLaw "law" = true)
    (kLaw : PySem.W.keepIn K (.ref fLaw) = true) :
    ∃ fd : FuncData, (∀ (s : Shared) (v : Value), BindsTo s fd ⟨[v], []⟩ [("_law_script", v)]) ∧ ∀ base : Heap, K.In base → base.Ns mainGlobals mg → FnOk P w K mg base CX0 9 fa fd ["_law_script"] (spLaw K) := by
  have e := hfa.symm.trans (PySem.W.mg_of X G aLaw)
  cases e
  refine ⟨PySem.W.fnOf "law" "law" (defArgs s_law) (defBody s_law) (defScope s_law) .none kVLaw dcLaw pmLaw anLaw cdLaw ctLaw, fun s v => .of_eq rfl, fun base _ _ => ?_⟩
  have FP := fun_mk (st := s_law_pool) lP cP kP
  let dP : Df K mg "_law_pool" "_law_pool" s_law_pool ["_law_script", "_law_k"] := ⟨fP, _, FP, PySem.W.mg_of X G aP, FP.binds (ps := ["_law_script", "_law_k"]) fun _ _ _ _ _ _ us hl => match us, hl with | [_, _], _ => rfl⟩
  have FD := fun_mk (st := s_law_draw) lD cD kD
  let dD : Df K mg "_law_draw" "_law_draw" s_law_draw ["_law_pool_here", "_law_many"] := ⟨fD, _, FD, PySem.W.mg_of X G aD, FD.binds (ps := ["_law_pool_here", "_law_many"]) fun _ _ _ _ _ _ us hl => match us, hl with | [_, _], _ => rfl⟩
  have FW := fun_mk (st := s_law_word) lW cW kW
  let dW : Df K mg "_law_word" "_law_word" s_law_word ["_law_numbers"] := ⟨fW, _, FW, PySem.W.mg_of X G aW, FW.binds (ps := ["_law_numbers"]) fun _ _ _ _ _ _ us hl => match us, hl with | [_], _ => rfl⟩
  have FN := fun_mk (st := s_law_names) lN cN kN
  let dN : Df K mg "_law_names" "_law_names" s_law_names ["_law_pool_here"] := ⟨fN, _, FN, PySem.W.mg_of X G aN, FN.binds (ps := ["_law_pool_here"]) fun _ _ _ _ _ _ us hl => match us, hl with | [_], _ => rfl⟩
  have FR := fun_mk (st := s_require_name) lR cR kR
  let dR : Df K mg "require_name" "require_name" s_require_name ["text"] := ⟨fR, _, FR, PySem.W.mg_of X G aR, FR.binds (ps := ["text"]) fun _ _ _ _ _ _ us hl => match us, hl with | [_], _ => rfl⟩
  have FFr := fun_mk (st := s_first_repeated) lFr cFr kFr
  let dFr : Df K mg "first_repeated" "first_repeated" s_first_repeated ["names"] := ⟨fFr, _, FFr, PySem.W.mg_of X G aFr, FFr.binds (ps := ["names"]) fun _ _ _ _ _ _ us hl => match us, hl with | [_], _ => rfl⟩
  have FRo := fun_mk (st := s_law_role) lRo cRo kRo
  let dRo : Df K mg "_law_role" "_law_role" s_law_role ["_law_name", "_law_group", "_law_mode"] := ⟨fRo, _, FRo, PySem.W.mg_of X G aRo, FRo.binds (ps := ["_law_name", "_law_group", "_law_mode"]) fun _ _ _ _ _ _ us hl => match us, hl with | [_, _, _], _ => rfl⟩
  have FSo := fun_mk (st := s_law_sorted) lSo cSo kSo
  let dSo : Df K mg "_law_sorted" "_law_sorted" s_law_sorted ["_law_rows"] := ⟨fSo, _, FSo, PySem.W.mg_of X G aSo, FSo.binds (ps := ["_law_rows"]) fun _ _ _ _ _ _ us hl => match us, hl with | [_], _ => rfl⟩
  have FLg := fun_mk (st := s_law_groups) lLg cLg kLg
  let dLg : Df K mg "_law_groups" "_law_groups" s_law_groups ["_law_kinds"] := ⟨fLg, _, FLg, PySem.W.mg_of X G aLg, FLg.binds (ps := ["_law_kinds"]) fun _ _ _ _ _ _ us hl => match us, hl with | [_], _ => rfl⟩
  have FLm := fun_mk (st := s_law_made_groups) lLm cLm kLm
  let dLm : Df K mg "_law_made_groups" "_law_made_groups" s_law_made_groups ["_law_kinds"] := ⟨fLm, _, FLm, PySem.W.mg_of X G aLm, FLm.binds (ps := ["_law_kinds"]) fun _ _ _ _ _ _ us hl => match us, hl with | [_], _ => rfl⟩
  have FKi := fun_mk (st := s_law_kind) lKi cKi kKi
  let dKi : Df K mg "_law_kind" "_law_kind" s_law_kind ["_law_kind_here"] := ⟨fKi, _, FKi, PySem.W.mg_of X G aKi, FKi.binds (ps := ["_law_kind_here"]) fun _ _ _ _ _ _ us hl => match us, hl with | [_], _ => rfl⟩
  have FRef := fun_mk (st := s_law_refusal) lRef cRef kRef
  let dRef : Df K mg "_law_refusal" "_law_refusal" s_law_refusal ["_law_given"] := ⟨fRef, _, FRef, PySem.W.mg_of X G aRef, FRef.binds (ps := ["_law_given"]) fun _ _ _ _ _ _ us hl => match us, hl with | [_], _ => rfl⟩
  have FUn := fun_mk (st := s_law_unknown) lUn cUn kUn
  let dUn : Df K mg "_law_unknown" "_law_unknown" s_law_unknown ["_law_catalog", "_law_name"] := ⟨fUn, _, FUn, PySem.W.mg_of X G aUn, FUn.binds (ps := ["_law_catalog", "_law_name"]) fun _ _ _ _ _ _ us hl => match us, hl with | [_, _], _ => rfl⟩
  have FTo := fun_mk (st := s_law_told) lTo cTo kTo
  let dTo : Df K mg "_law_told" "_law_told" s_law_told ["_law_kind_here"] := ⟨fTo, _, FTo, PySem.W.mg_of X G aTo, FTo.binds (ps := ["_law_kind_here"]) fun _ _ _ _ _ _ us hl => match us, hl with | [_], _ => rfl⟩
  have FDu := fun_mk (st := s_law_due) lDu cDu kDu
  let dDu : Df K mg "_law_due" "_law_due" s_law_due ["_law_kinds"] := ⟨fDu, _, FDu, PySem.W.mg_of X G aDu, FDu.binds (ps := ["_law_kinds"]) fun _ _ _ _ _ _ us hl => match us, hl with | [_], _ => rfl⟩
  have FPl := fun_mk (st := s_law_plain) lPl cPl kPl
  let dPl : Df K mg "_law_plain" "_law_plain" s_law_plain ["_law_kind_here"] := ⟨fPl, _, FPl, PySem.W.mg_of X G aPl, FPl.binds (ps := ["_law_kind_here"]) fun _ _ _ _ _ _ us hl => match us, hl with | [_], _ => rfl⟩
  have FI := fun_mk (st := s_law_is) lI cI kI
  let dI : Df K mg "_law_is" "_law_is" s_law_is ["_law_catalog", "_law_kinds", "_law_other"] := ⟨fI, _, FI, PySem.W.mg_of X G aI, FI.binds (ps := ["_law_catalog", "_law_kinds", "_law_other"]) fun _ _ _ _ _ _ us hl => match us, hl with | [_, _, _], _ => rfl⟩
  let rr_ : Rc K mg fInit "Role" [] := ⟨Cr, PySem.W.mg_of X G gr, ⟨pgr, hdr, por, sar⟩, ⟨mkr, in_r, fnInit, kcr⟩, n_name_r, n_group_r, .str xr tr, ⟨mar, by rw [mxr]; exact ⟨_, rfl⟩, msr, by decide +kernel⟩, car, spc, tkc, mor⟩
  let re_ : Rc K mg fInit "Read" [114] := ⟨Ce, PySem.W.mg_of X G ge, ⟨pge, hde, poe, sae⟩, ⟨mke, in_e, fnInit, kce⟩, n_name_e, n_group_e, .str xe te, ⟨mae, by rw [mxe]; exact ⟨_, rfl⟩, mse, by decide +kernel⟩, cae, spc, tkc, moe⟩
  let rm_ : Rc K mg fInit "Made" [109] := ⟨Cm, PySem.W.mg_of X G gm, ⟨pgm, hdm, pom, sam⟩, ⟨mkm, in_m, fnInit, kcm⟩, n_name_m, n_group_m, .str xm tm, ⟨mam, by rw [mxm]; exact ⟨_, rfl⟩, msm, by decide +kernel⟩, cam, spc, tkc, mom⟩
  let rf_ : Rc K mg fInit "Fresh" [102] := ⟨Cf, PySem.W.mg_of X G gf, ⟨pgf, hdf, pof, saf⟩, ⟨mkf, in_f, fnInit, kcf⟩, n_name_f, n_group_f, .str xf tf, ⟨maf, by rw [mxf]; exact ⟨_, rfl⟩, msf, by decide +kernel⟩, caf, spc, tkc, mof⟩
  let rb_ : Rc K mg fInit "Both" [114, 109] := ⟨Cb, PySem.W.mg_of X G gb, ⟨pgb, hdb, pob, sab⟩, ⟨mkb, in_b, fnInit, kcb⟩, n_name_b, n_group_b, .str xb tb, ⟨mab, by rw [mxb]; exact ⟨_, rfl⟩, msb, by decide +kernel⟩, cab, spc, tkc, mob⟩
  let rw_ : Rc K mg fInit "Renewed" [114, 102] := ⟨Cw, PySem.W.mg_of X G gw, ⟨pgw, hdw, pow, saw⟩, ⟨mkw, in_w, fnInit, kcw⟩, n_name_w, n_group_w, .str xw tw, ⟨maw, by rw [mxw]; exact ⟨_, rfl⟩, msw, by decide +kernel⟩, caw, spc, tkc, mow⟩
  let c : Six K mg fInit := ⟨rr_, re_, rm_, rf_, rb_, rw_⟩
  let kc : Kc K mg fKin := ⟨Ckd, PySem.W.mg_of X G gkd, ⟨pgkd, hdkd, pokd, sakd⟩, ⟨mkkd, in_kd, fnKin, kckd⟩, n_name_kd, n_roles_kd⟩
  let cc : Cc K mg fCi := ⟨Cct, PySem.W.mg_of X G gct, ⟨pgct, hdct, poct, sact⟩, ⟨mkct, in_ct, fnCi, kcct⟩, n_kinds_ct⟩
  have FInit := fun_mk (st := s_Role___init) lInit cInit kInit
  let mInit : Mf K "__init__" "Role.__init__" s_Role___init ["self", "name", "group"] := ⟨fInit, _, FInit, FInit.binds (ps := ["self", "name", "group"]) fun _ _ _ _ _ _ us hl => match us, hl with | [_, _, _], _ => rfl⟩
  have FRm := fun_mk (st := s_Role_makes) lRm cRm kRm
  let mRm : Mf K "makes" "Role.makes" s_Role_makes ["self"] := ⟨fRm, _, FRm, FRm.binds (ps := ["self"]) fun _ _ _ _ _ _ us hl => match us, hl with | [_], _ => rfl⟩
  have FFm := fun_mk (st := s_Fresh_makes) lFm cFm kFm
  let mFm : Mf K "makes" "Fresh.makes" s_Fresh_makes ["self"] := ⟨fFm, _, FFm, FFm.binds (ps := ["self"]) fun _ _ _ _ _ _ us hl => match us, hl with | [_], _ => rfl⟩
  have FMm := fun_mk (st := s_Made_makes) lMm cMm kMm
  let mMm : Mf K "makes" "Made.makes" s_Made_makes ["self"] := ⟨fMm, _, FMm, FMm.binds (ps := ["self"]) fun _ _ _ _ _ _ us hl => match us, hl with | [_], _ => rfl⟩
  have FKin := fun_mk (st := s_Kind___init) lKin cKin kKin
  let mKin : Mf K "__init__" "Kind.__init__" s_Kind___init ["self", "name", "roles"] := ⟨fKin, _, FKin, FKin.binds (ps := ["self", "name", "roles"]) fun _ _ _ _ _ _ us hl => match us, hl with | [_, _, _], _ => rfl⟩
  have FCi := fun_mk (st := s_Catalog___init) lCi cCi kCi
  let mCi : Mf K "__init__" "Catalog.__init__" s_Catalog___init ["self", "kinds"] := ⟨fCi, _, FCi, FCi.binds (ps := ["self", "kinds"]) fun _ _ _ _ _ _ us hl => match us, hl with | [_, _], _ => rfl⟩
  have FCl := fun_mk (st := s_Catalog___len) lCl cCl kCl
  let mCl : Mf K "__len__" "Catalog.__len__" s_Catalog___len ["self"] := ⟨fCl, _, FCl, FCl.binds (ps := ["self"]) fun _ _ _ _ _ _ us hl => match us, hl with | [_], _ => rfl⟩
  have FCit := fun_mk (st := s_Catalog___iter) lCit cCit kCit
  let mCit : Mf K "__iter__" "Catalog.__iter__" s_Catalog___iter ["self"] := ⟨fCit, _, FCit, FCit.binds (ps := ["self"]) fun _ _ _ _ _ _ us hl => match us, hl with | [_], _ => rfl⟩
  have FCn := fun_mk (st := s_Catalog_named) lCn cCn kCn
  let mCn : Mf K "named" "Catalog.named" s_Catalog_named ["self", "name"] := ⟨fCn, _, FCn, FCn.binds (ps := ["self", "name"]) fun _ _ _ _ _ _ us hl => match us, hl with | [_, _], _ => rfl⟩
  have FCg := fun_mk (st := s_Catalog_groups) lCg cCg kCg
  let mCg : Mf K "groups" "Catalog.groups" s_Catalog_groups ["self"] := ⟨fCg, _, FCg, FCg.binds (ps := ["self"]) fun _ _ _ _ _ _ us hl => match us, hl with | [_], _ => rfl⟩
  have FCm := fun_mk (st := s_Catalog_made_groups) lCm cCm kCm
  let mCm : Mf K "made_groups" "Catalog.made_groups" s_Catalog_made_groups ["self"] := ⟨fCm, _, FCm, FCm.binds (ps := ["self"]) fun _ _ _ _ _ _ us hl => match us, hl with | [_], _ => rfl⟩
  have gl_cRE' : mg "RedoError" = some (.ref cRE) := PySem.W.mg_of X G gl_cRE
  have FExN := fun_mk (st := s_BadName___init) lIxN cIxN kIxN
  let exN : ErN K mg := ⟨CExN, fIxN, _, ⟨⟨enmxN, eqxN, eAxN, ebsxN, ebmxN, esnxN, esubxN, eabxN, ecolxN, eddxN, eaxN, ebxN, ecxN, edxN, eexN, xExN, bExN⟩, saExN, exExN, tyExN, kExN⟩, inExN, tyIxN, PySem.W.mg_of X G gExN, nnExN, FExN, FExN.binds (ps := ["self", "name"]) fun _ _ _ _ _ _ us hl => match us, hl with | [_, _], _ => rfl, ⟨gaExN, ggExN, exExN, hdExN⟩, ⟨gaExN, ggExN, exExN, hdExN, clExN, spc, tkc, moExN⟩, PySem.W.exm_ref exExN hdExN tyExN sExN⟩
  have FExK := fun_mk (st := s_BadKind___init) lIxK cIxK kIxK
  let exK : ErK K mg := ⟨CExK, fIxK, _, ⟨⟨enmxK, eqxK, eAxK, ebsxK, ebmxK, esnxK, esubxK, eabxK, ecolxK, eddxK, eaxK, ebxK, ecxK, edxK, eexK, xExK, bExK⟩, saExK, exExK, tyExK, kExK⟩, inExK, tyIxK, PySem.W.mg_of X G gExK, nnExK, FExK, FExK.binds (ps := ["self", "name"]) fun _ _ _ _ _ _ us hl => match us, hl with | [_, _], _ => rfl, ⟨gaExK, ggExK, exExK, hdExK⟩, ⟨gaExK, ggExK, exExK, hdExK, clExK, spc, tkc, moExK⟩, PySem.W.exm_ref exExK hdExK tyExK sExK⟩
  have FExR := fun_mk (st := s_NoKind___init) lIxR cIxR kIxR
  let exR : ErR K mg := ⟨CExR, fIxR, _, ⟨⟨enmxR, eqxR, eAxR, ebsxR, ebmxR, esnxR, esubxR, eabxR, ecolxR, eddxR, eaxR, ebxR, ecxR, edxR, eexR, xExR, bExR⟩, saExR, exExR, tyExR, kExR⟩, inExR, tyIxR, PySem.W.mg_of X G gExR, nnExR, FExR, FExR.binds (ps := ["self", "name"]) fun _ _ _ _ _ _ us hl => match us, hl with | [_, _], _ => rfl, ⟨gaExR, ggExR, exExR, hdExR⟩, ⟨gaExR, ggExR, exExR, hdExR, clExR, spc, tkc, moExR⟩, PySem.W.exm_ref exExR hdExR tyExR sExR⟩
  have gL' : mg "LONGEST_NAME" = some (.int 8 tkL) := PySem.W.mg_of X G gL
  have gM' : mg "MOST_ROLES" = some (.int 6 tkM) := PySem.W.mg_of X G gM
  have T : Bt mg := ⟨PySem.W.mg_none_of X G z_len, PySem.W.mg_none_of X G z_sum, PySem.W.mg_none_of X G z_int, PySem.W.mg_none_of X G z_range, PySem.W.mg_none_of X G z_isinstance, PySem.W.mg_none_of X G z_any, PySem.W.mg_none_of X G z_all, PySem.W.mg_none_of X G z_list, PySem.W.mg_none_of X G z_tuple, PySem.W.mg_none_of X G z_sorted, PySem.W.mg_none_of X G z_set, PySem.W.mg_none_of X G z_bool, PySem.W.mg_none_of X G z_ValueError⟩
  have hz_enumerate := PySem.W.mg_none_of X G z_enumerate
  have hz_iter := PySem.W.mg_none_of X G z_iter
  have t2 : ∀ m, m < 5 → Tells P w K mg base (c.C m) "makes" (.bl (mkB m)) := by
    intro m hm
    have hm' : m = 0 ∨ m = 1 ∨ m = 2 ∨ m = 3 ∨ m = 4 := by omega
    rcases hm' with rfl | rfl | rfl | rfl | rfl
    · exact ⟨_, _, _, mRm, ⟨at_makes_e, fnRm, kRm⟩, ok_Rm mRm⟩
    · exact ⟨_, _, _, mMm, ⟨at_makes_m, fnMm, kMm⟩, ok_Mm mMm⟩
    · exact ⟨_, _, _, mFm, ⟨at_makes_f, fnFm, kFm⟩, ok_Fm mFm⟩
    · exact ⟨_, _, _, mMm, ⟨at_makes_b, fnMm, kMm⟩, ok_Mm mMm⟩
    · exact ⟨_, _, _, mFm, ⟨at_makes_w, fnFm, kFm⟩, ok_Fm mFm⟩
  have hN : Meth K cc.C "named" mCn.f := ⟨at_named_ct, fnCn, kCn⟩
  have hG : Meth K cc.C "groups" mCg.f := ⟨at_groups_ct, fnCg, kCg⟩
  have hM : Meth K cc.C "made_groups" mCm.f := ⟨at_made_groups_ct, fnCm, kCm⟩
  have gNK : mg "NoKind" = some (.ref CExR) := exR.g
  have gBK : mg "BadKind" = some (.ref CExK) := exK.g
  have GP : FnOk P w K mg base CX0 1 dP.f dP.fd _ (spPool K) := ok_pool dP.F T
  have GD : FnOk P w K mg base CX0 1 dD.f dD.fd _ spDraw := ok_draw dD.F T
  have GN : FnOk P w K mg base CX0 2 dN.f dN.fd _ spNames := ok_names dN.F T dD dW
  have GRo : FnOk P w K mg base (L2.CX P w) 6 dRo.f dRo.fd _ (spRole exN.C c.C 5) := ok_role dRo mInit c T dR exN gL'
  have GK : FnOk P w K mg base (L2.CX P w) 4 mKin.f mKin.fd _ (spKInit K c.C exN.C exK.C) := ok_kinit mKin T hz_enumerate dR dFr c exN exK gL' gM' t2
  have GC : FnOk P w K mg base (L2.CX P w) 3 mCi.f mCi.fd _ (spCInit cc.C kc.C c.C exK.C) := ok_cinit mCi T hz_enumerate dFr c kc cc exK
  have GKi : FnOk P w K mg base CX0 7 dKi.f dKi.fd _ (spLKind kc.C c.C) := ok_lkind dKi T c mKin kc dRo GRo GK
  have GRef : FnOk P w K mg base CX0 6 dRef.f dRef.fd _ (spRefusal kc.C c.C) := ok_refusal dRef T mCi cc exK GC gl_cRE' gNK q1 q2
  have GCn : FnOk P w K mg base (L2.CX P w) 4 mCn.f mCn.fd _ (spNamed cc.C kc.C c.C exR.C) := (ok_named mCn T c kc cc exR).mono (by decide)
  have GUn : FnOk P w K mg base CX0 5 dUn.f dUn.fd _ (spUnknown cc.C kc.C c.C) := ok_unknown dUn mCn cc hN T exR GCn gl_cRE' gBK q3 q4
  have GDu : FnOk P w K mg base CX0 1 dDu.f dDu.fd _ spDue := ok_due dDu T
  have GTo : FnOk P w K mg base CX0 1 dTo.f dTo.fd _ (spTold kc.C c.C) := ok_told dTo T c kc
  have GPl : FnOk P w K mg base CX0 1 dPl.f dPl.fd _ spPlain := ok_plain dPl T
  have GLg : FnOk P w K mg base CX0 2 dLg.f dLg.fd _ (spLGroups pgrps) := ok_lgroups dLg T dSo
  have GLm : FnOk P w K mg base CX0 2 dLm.f dLm.fd _ (spLGroups pmgrps) := ok_lmgroups dLm T dSo
  have GG : FnOk P w K mg base CX0 1 mCg.f mCg.fd _ (spGroups cc.C kc.C c.C grps) := ok_groups mCg T c kc cc
  have GM : FnOk P w K mg base CX0 2 mCm.f mCm.fd _ (spGroups cc.C kc.C c.C mgrps) := ok_mgroups mCm T c kc cc t2
  have GI : FnOk P w K mg base CX0 6 dI.f dI.fd _ (spIs cc.C kc.C c.C) := ok_is (eR := exR) dI T c cc mCl at_len_ct fnCl mCit at_iter_ct fnCit hz_iter mCn hN mCg hG mCm hM dPl dTo dUn dLg dLm GPl GTo GUn GLg GLm GCn GG GM
  exact ok_law (fun_mk (st := s_law) lLaw cLaw kLaw) T dP dD dN c kc mCi cc mCg hG mCm hM dKi dDu dRef dI GP GD GN GKi GDu GRef GI GC GG GM
theorem walk {l : PySem.W.OpenLaw} {q : Program} {loose : List Str} {XP : (Str → Option Value) → Heap → Prop} {YP : World → Heap → Prop} {d : DefRec} {K : Params → PySem.W.Frag} (hn : l.most = some 63) (hdf : d.params.defaults = []) (hY : ∀ (w : World) (h : Heap), YP w h → (K w.params).In h)
    (F : ∀ (w : World) (mg : Str → Option Value) (fa : Addr) (h : Heap), (K w.params).In h → h.Ns mainGlobals mg → mg d.name = some (.ref fa) → ∃ fd : FuncData, (∀ (s : Shared) (u : Value), BindsTo s fd ⟨[u], []⟩ [("_law_script", u)]) ∧ ∀ base : Heap, (K w.params).In base → base.Ns mainGlobals mg → FnOk l.prog w (K w.params) mg base CX0 9 fa fd ["_law_script"] (spLaw (K w.params))) :
    PySem.W.WalkO q loose XP YP l.row.toRowW d [] (fun f vs => PySem.call f vs) :=
  L2.walk_of (n := 63) (k := 9) (x := "_law_script") (CX := fun _ => CX0) (sp := fun w => spLaw (K w.params)) hn (by decide) hdf ⟨rfl, by decide, by decide⟩ hY F (fun _ _ a ns hl _ hS => ⟨a, ns, rfl, hS, hl, fun _ => rfl⟩) fun _ _ _ _ _ z => z

end
end Toy
open PySem PySem.W PyProof.Rows in
set_option maxRecDepth 100000 in
set_option maxHeartbeats 0 in
theorem PySem.Challenge.cw_redopages_k03_catalogs_and_their_groups_holds : PySem.Challenge.rw_redopages_k03_catalogs_and_their_groups.Holds := by
  w_on; o_law; k_head; (case hw => w_witness2)
  k_fill
  refine Toy.walk (l := PySem.Challenge.rw_redopages_k03_catalogs_and_their_groups) rfl rfl (fun w h Y => PySem.W.kIn_of Y) ?F
  case F =>
    intro w mg fa h KX G hmg
    refine' Toy.all_mk KX G hmg ?spc ?tkc ?aP ?lP ?cP ?kP ?aD ?lD ?cD ?kD ?aW ?lW ?cW ?kW ?aN ?lN ?cN ?kN ?aR ?lR ?cR ?kR ?aFr ?lFr ?cFr ?kFr ?aRo ?lRo ?cRo ?kRo ?aSo ?lSo ?cSo ?kSo ?aLg ?lLg ?cLg ?kLg ?aLm ?lLm ?cLm ?kLm ?aKi ?lKi ?cKi ?kKi ?aRef ?lRef ?cRef ?kRef ?aUn ?lUn ?cUn ?kUn ?aTo ?lTo ?cTo ?kTo ?aDu ?lDu ?cDu ?kDu ?aPl ?lPl ?cPl ?kPl ?aI ?lI ?cI ?kI ?gr ?in_r ?at_makes_r ?pgr ?hdr ?por ?sar ?mkr ?kcr ?n_name_r ?n_group_r ?car ?mor ?mar ?mxr ?msr ?ge ?in_e ?at_makes_e ?pge ?hde ?poe ?sae ?mke ?kce ?n_name_e ?n_group_e ?cae ?moe ?mae ?mxe ?mse ?gm ?in_m ?at_makes_m ?pgm ?hdm ?pom ?sam ?mkm ?kcm ?n_name_m ?n_group_m ?cam ?mom ?mam ?mxm ?msm ?gf ?in_f ?at_makes_f ?pgf ?hdf ?pof ?saf ?mkf ?kcf ?n_name_f ?n_group_f ?caf ?mof ?maf ?mxf ?msf ?gb ?in_b ?at_makes_b ?pgb ?hdb ?pob ?sab ?mkb ?kcb ?n_name_b ?n_group_b ?cab ?mob ?mab ?mxb ?msb ?gw ?in_w ?at_makes_w ?pgw ?hdw ?pow ?saw ?mkw ?kcw ?n_name_w ?n_group_w ?caw ?mow ?maw ?mxw ?msw ?gkd ?in_kd ?pgkd ?hdkd ?pokd ?sakd ?mkkd ?kckd ?n_name_kd ?n_roles_kd ?gct ?in_ct ?at_len_ct ?at_iter_ct ?at_named_ct ?at_groups_ct ?at_made_groups_ct ?pgct ?hdct ?poct ?sact ?mkct ?kcct ?n_kinds_ct ?lInit ?cInit ?kInit ?fnInit ?lRm ?cRm ?kRm ?fnRm ?lFm ?cFm ?kFm ?fnFm ?lMm ?cMm ?kMm ?fnMm ?lKin ?cKin ?kKin ?fnKin ?lCi ?cCi ?kCi ?fnCi ?lCl ?cCl ?kCl ?fnCl ?lCit ?cCit ?kCit ?fnCit ?lCn ?cCn ?kCn ?fnCn ?lCg ?cCg ?kCg ?fnCg ?lCm ?cCm ?kCm ?fnCm ?gl_cRE ?gExN ?xExN ?bExN ?saExN ?gaExN ?ggExN ?nnExN ?inExN ?tyIxN ?lIxN ?cIxN ?kIxN ?kExN ?exExN ?tyExN ?hdExN ?sExN ?clExN ?moExN ?gExK ?xExK ?bExK ?saExK ?gaExK ?ggExK ?nnExK ?inExK ?tyIxK ?lIxK ?cIxK ?kIxK ?kExK ?exExK ?tyExK ?hdExK ?sExK ?clExK ?moExK ?gExR ?xExR ?bExR ?saExR ?gaExR ?ggExR ?nnExR ?inExR ?tyIxR ?lIxR ?cIxR ?kIxR ?kExR ?exExR ?tyExR ?hdExR ?sExR ?clExR ?moExR ?q1 ?q2 ?q3 ?q4 ?gL ?gM ?z_len ?z_sum ?z_int ?z_range ?z_isinstance ?z_any ?z_all ?z_list ?z_tuple ?z_sorted ?z_set ?z_bool ?z_ValueError ?z_enumerate ?z_iter ?aLaw ?lLaw ?cLaw ?kLaw
    (case spc => k_is)
    (case tkc => k_is)
    (case aP => k_is)
    (case lP => k_is)
    (case cP => k_is)
    (case kP => k_is)
    (case aD => k_is)
    (case lD => k_is)
    (case cD => k_is)
    (case kD => k_is)
    (case aW => k_is)
    (case lW => k_is)
    (case cW => k_is)
    (case kW => k_is)
    (case aN => k_is)
    (case lN => k_is)
    (case cN => k_is)
    (case kN => k_is)
    (case aR => k_is)
    (case lR => k_is)
    (case cR => k_is)
    (case kR => k_is)
    (case aFr => k_is)
    (case lFr => k_is)
    (case cFr => k_is)
    (case kFr => k_is)
    (case aRo => k_is)
    (case lRo => k_is)
    (case cRo => k_is)
    (case kRo => k_is)
    (case aSo => k_is)
    (case lSo => k_is)
    (case cSo => k_is)
    (case kSo => k_is)
    (case aLg => k_is)
    (case lLg => k_is)
    (case cLg => k_is)
    (case kLg => k_is)
    (case aLm => k_is)
    (case lLm => k_is)
    (case cLm => k_is)
    (case kLm => k_is)
    (case aKi => k_is)
    (case lKi => k_is)
    (case cKi => k_is)
    (case kKi => k_is)
    (case aRef => k_is)
    (case lRef => k_is)
    (case cRef => k_is)
    (case kRef => k_is)
    (case aUn => k_is)
    (case lUn => k_is)
    (case cUn => k_is)
    (case kUn => k_is)
    (case aTo => k_is)
    (case lTo => k_is)
    (case cTo => k_is)
    (case kTo => k_is)
    (case aDu => k_is)
    (case lDu => k_is)
    (case cDu => k_is)
    (case kDu => k_is)
    (case aPl => k_is)
    (case lPl => k_is)
    (case cPl => k_is)
    (case kPl => k_is)
    (case aI => k_is)
    (case lI => k_is)
    (case cI => k_is)
    (case kI => k_is)
    (case gr => k_is)
    (case in_r => k_is)
    (case at_makes_r => k_is)
    (case pgr => k_is)
    (case hdr => k_is)
    (case por => k_is)
    (case sar => k_is)
    (case mkr => k_is)
    (case kcr => k_is)
    (case n_name_r => k_is)
    (case n_group_r => k_is)
    (case car => k_is)
    (case mor => k_is)
    (case mar => k_is)
    (case mxr => decide +kernel)
    (case msr => k_is)
    (case ge => k_is)
    (case in_e => k_is)
    (case at_makes_e => k_is)
    (case pge => k_is)
    (case hde => k_is)
    (case poe => k_is)
    (case sae => k_is)
    (case mke => k_is)
    (case kce => k_is)
    (case n_name_e => k_is)
    (case n_group_e => k_is)
    (case cae => k_is)
    (case moe => k_is)
    (case mae => k_is)
    (case mxe => decide +kernel)
    (case mse => k_is)
    (case gm => k_is)
    (case in_m => k_is)
    (case at_makes_m => k_is)
    (case pgm => k_is)
    (case hdm => k_is)
    (case pom => k_is)
    (case sam => k_is)
    (case mkm => k_is)
    (case kcm => k_is)
    (case n_name_m => k_is)
    (case n_group_m => k_is)
    (case cam => k_is)
    (case mom => k_is)
    (case mam => k_is)
    (case mxm => decide +kernel)
    (case msm => k_is)
    (case gf => k_is)
    (case in_f => k_is)
    (case at_makes_f => k_is)
    (case pgf => k_is)
    (case hdf => k_is)
    (case pof => k_is)
    (case saf => k_is)
    (case mkf => k_is)
    (case kcf => k_is)
    (case n_name_f => k_is)
    (case n_group_f => k_is)
    (case caf => k_is)
    (case mof => k_is)
    (case maf => k_is)
    (case mxf => decide +kernel)
    (case msf => k_is)
    (case gb => k_is)
    (case in_b => k_is)
    (case at_makes_b => k_is)
    (case pgb => k_is)
    (case hdb => k_is)
    (case pob => k_is)
    (case sab => k_is)
    (case mkb => k_is)
    (case kcb => k_is)
    (case n_name_b => k_is)
    (case n_group_b => k_is)
    (case cab => k_is)
    (case mob => k_is)
    (case mab => k_is)
    (case mxb => decide +kernel)
    (case msb => k_is)
    (case gw => k_is)
    (case in_w => k_is)
    (case at_makes_w => k_is)
    (case pgw => k_is)
    (case hdw => k_is)
    (case pow => k_is)
    (case saw => k_is)
    (case mkw => k_is)
    (case kcw => k_is)
    (case n_name_w => k_is)
    (case n_group_w => k_is)
    (case caw => k_is)
    (case mow => k_is)
    (case maw => k_is)
    (case mxw => decide +kernel)
    (case msw => k_is)
    (case gkd => k_is)
    (case in_kd => k_is)
    (case pgkd => k_is)
    (case hdkd => k_is)
    (case pokd => k_is)
    (case sakd => k_is)
    (case mkkd => k_is)
    (case kckd => k_is)
    (case n_name_kd => k_is)
    (case n_roles_kd => k_is)
    (case gct => k_is)
    (case in_ct => k_is)
    (case at_len_ct => k_is)
    (case at_iter_ct => k_is)
    (case at_named_ct => k_is)
    (case at_groups_ct => k_is)
    (case at_made_groups_ct => k_is)
    (case pgct => k_is)
    (case hdct => k_is)
    (case poct => k_is)
    (case sact => k_is)
    (case mkct => k_is)
    (case kcct => k_is)
    (case n_kinds_ct => k_is)
    (case lInit => k_is)
    (case cInit => k_is)
    (case kInit => k_is)
    (case fnInit => k_is)
    (case lRm => k_is)
    (case cRm => k_is)
    (case kRm => k_is)
    (case fnRm => k_is)
    (case lFm => k_is)
    (case cFm => k_is)
    (case kFm => k_is)
    (case fnFm => k_is)
    (case lMm => k_is)
    (case cMm => k_is)
    (case kMm => k_is)
    (case fnMm => k_is)
    (case lKin => k_is)
    (case cKin => k_is)
    (case kKin => k_is)
    (case fnKin => k_is)
    (case lCi => k_is)
    (case cCi => k_is)
    (case kCi => k_is)
    (case fnCi => k_is)
    (case lCl => k_is)
    (case cCl => k_is)
    (case kCl => k_is)
    (case fnCl => k_is)
    (case lCit => k_is)
    (case cCit => k_is)
    (case kCit => k_is)
    (case fnCit => k_is)
    (case lCn => k_is)
    (case cCn => k_is)
    (case kCn => k_is)
    (case fnCn => k_is)
    (case lCg => k_is)
    (case cCg => k_is)
    (case kCg => k_is)
    (case fnCg => k_is)
    (case lCm => k_is)
    (case cCm => k_is)
    (case kCm => k_is)
    (case fnCm => k_is)
    (case gl_cRE => k_is)
    (case gExN => k_is)
    (case xExN => k_is)
    (case bExN => decide +kernel)
    (case saExN => k_is)
    (case gaExN => k_is)
    (case ggExN => k_is)
    (case nnExN => k_is)
    (case inExN => k_is)
    (case tyIxN => k_is)
    (case lIxN => k_is)
    (case cIxN => k_is)
    (case kIxN => k_is)
    (case kExN => k_is)
    (case exExN => k_is)
    (case tyExN => k_is)
    (case hdExN => k_is)
    (case sExN => first | rfl | k_is)
    (case clExN => k_is)
    (case moExN => k_is)
    (case gExK => k_is)
    (case xExK => k_is)
    (case bExK => decide +kernel)
    (case saExK => k_is)
    (case gaExK => k_is)
    (case ggExK => k_is)
    (case nnExK => k_is)
    (case inExK => k_is)
    (case tyIxK => k_is)
    (case lIxK => k_is)
    (case cIxK => k_is)
    (case kIxK => k_is)
    (case kExK => k_is)
    (case exExK => k_is)
    (case tyExK => k_is)
    (case hdExK => k_is)
    (case sExK => first | rfl | k_is)
    (case clExK => k_is)
    (case moExK => k_is)
    (case gExR => k_is)
    (case xExR => k_is)
    (case bExR => decide +kernel)
    (case saExR => k_is)
    (case gaExR => k_is)
    (case ggExR => k_is)
    (case nnExR => k_is)
    (case inExR => k_is)
    (case tyIxR => k_is)
    (case lIxR => k_is)
    (case cIxR => k_is)
    (case kIxR => k_is)
    (case kExR => k_is)
    (case exExR => k_is)
    (case tyExR => k_is)
    (case hdExR => k_is)
    (case sExR => first | rfl | k_is)
    (case clExR => k_is)
    (case moExR => k_is)
    (case q1 => kit_is)
    (case q2 => kit_is)
    (case q3 => kit_is)
    (case q4 => kit_is)
    (case gL => k_is)
    (case gM => k_is)
    (case z_len => k_is)
    (case z_sum => k_is)
    (case z_int => k_is)
    (case z_range => k_is)
    (case z_isinstance => k_is)
    (case z_any => k_is)
    (case z_all => k_is)
    (case z_list => k_is)
    (case z_tuple => k_is)
    (case z_sorted => k_is)
    (case z_set => k_is)
    (case z_bool => k_is)
    (case z_ValueError => k_is)
    (case z_enumerate => k_is)
    (case z_iter => k_is)
    (case aLaw => k_is)
    (case lLaw => k_is)
    (case cLaw => k_is)
    (case kLaw => k_is)
