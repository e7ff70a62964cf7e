import PyProof.Rows.All
import Wide.All
import OpenK.AllK
import Wide.FinOn
import HandS.ForMost
import HandS.Exc
import HandS.ExcOwn
import HandS.ExcInit
import HandS.ExcField
import HandS.ExcIs
import HandS.TryOnly
import HandS.TryMany
import HandS.WordsExc
import HandS.CallSlots
import HandS.IsInst
import HandS.Codes
import HandS.Walk
import HandS.Steps
import HandS.StrMore
import HandS.Strs
import HandS.TupSets
import HandS.Zip
import PyProof.Rows.SortStr
import HandS.OwnIter
import HandS.OwnEq
import HandS.IterVal
import HandS.More
import KE.KDictKeyed
import PyProof.Rows.TupTab
import HandS.Deep
import PyProof.EnumMake
import PyProof.DictMoreH
import HandS.NamedTupGet
import HandS.Conv
import HandS.FStr
import KE.KxField
import HandS.Defaults
import KE.KUnpackStar
import KE.KSortTupG
import HandS.TupLe
import HandS.Star
import KE.KOpsOwn
import PyProof.WalksMore
import HandS.TupAny
import OpenK.KMeth
import PySem.Challenge.RW_redopages_k35_catalogs_with_images
set_option Elab.async false
set_option linter.all false
set_option maxRecDepth 100000
set_option maxHeartbeats 4000000
/-! readings by named steps -/
namespace Fw
open PySem PySem.Spec L2

/-! ### a def of the top -/
structure Df (K : PySem.W.Frag) (mg : Str → Option Value) (nm qual : Str) (st : Stmt) (ps : List Str) where
  f : Addr
  fd : FuncData
  F : Fun K nm qual st f fd
  g : mg nm = some (.ref f)
  b : Binds K fd ps []
/-- a method: where it stands -/
structure Mf (K : PySem.W.Frag) (nm qual : Str) (st : Stmt) (ps : List Str) where
  f : Addr
  fd : FuncData
  F : Fun K nm qual st f fd
  b : Binds K fd ps []

section
variable {X : Cx}
/-! ### named relations -/
def rLtS : R2 := fun x y H Q => ∃ i j, x = .str i ∧ y = .str j ∧ Q (.bl (decide (i.cps.toList < j.cps.toList))) H
theorem op_ltS : OpR X (compareOp .Lt) rLtS := op_lt_str
def rLeS : R2 := fun x y H Q => ∃ i j, x = .str i ∧ y = .str j ∧ Q (.bl (!decide (j.cps.toList < i.cps.toList))) H
theorem op_leS : OpR X (compareOp .LtE) rLeS := op_le_str
def rLtA : R2 := fun x y H Q => rI0 (fun i j => .bl (decide (i < j))) x y H Q ∨ rLtS x y H Q
theorem op_ltA : OpR X (compareOp .Lt) rLtA := op_lt.or op_ltS
def rLeA : R2 := fun x y H Q => rI0 (fun i j => .bl (decide (i ≤ j))) x y H Q ∨ rLeS x y H Q
theorem op_leA : OpR X (compareOp .LtE) rLeA := op_le.or op_leS
def rGtI : R2 := rI0 fun i j => .bl (decide (j < i))
theorem op_gtI : OpR X (compareOp .Gt) rGtI := op_gt
def rGeI : R2 := rI0 fun i j => .bl (decide (j ≤ i))
theorem op_geI : OpR X (compareOp .GtE) rGeI := op_ge
def rAddA : R2 := fun x y H Q => rI0 (fun i j => .int (i + j)) x y H Q ∨ rAddS x y H Q ∨ rCat x y H Q
theorem op_addA : OpR X (binaryOp .Add) rAddA := op_add.or (OpR.or (r := rAddS) op_add_str op_cat)
def rSubI : R2 := rI0 fun i j => .int (i - j)
theorem op_subI : OpR X (binaryOp .Sub) rSubI := op_sub
def rModI : R2 := rI (fun _ j => 0 < j) fun i j => .int (i % j)
theorem op_modI : OpR X (binaryOp .Mod) rModI := op_mod
def rDivI : R2 := rI CDiv fun i j => .int (i / j)
theorem op_divI : OpR X (binaryOp .FloorDiv) rDivI := op_fdiv
def rPowI : R2 := rI CPow fun i j => .int (i ^ j.toNat)
theorem op_powI : OpR X (binaryOp .Pow) rPowI := op_pow
/-- == and != : of scalars, of data -/
def rEqA (K : PySem.W.Frag) : R2 := fun x y H Q => rEq x y H Q ∨ rEqD K x y H Q
def rNeA (K : PySem.W.Frag) : R2 := fun x y H Q => rNe x y H Q ∨ rNeD K x y H Q
theorem op_eqA (hu : X.A.units + 64 < cLine) : OpR X (compareOp .Eq) (rEqA X.K) := op_eq.or (op_eqD hu)
theorem op_neA (hu : X.A.units + 64 < cLine) : OpR X (compareOp .NotEq) (rNeA X.K) := op_ne.or (op_neD hu)
def rLenA (K : PySem.W.Frag) : List V → Hp → VK → Prop := fun xs H Q => ∃ x n, xs = [x] ∧ LenV K x H n ∧ Q (.int n) H
theorem call_lenA : CallR X (.builtin "len") (rLenA X.K) := call_len
def rInt1 : List V → Hp → VK → Prop := fun xs H Q => (∃ i, xs = [.int i] ∧ Q (.int i) H) ∨ ∃ k, xs = [.bl k] ∧ Q (.int (if k then 1 else 0)) H
theorem call_intA : CallR X (.type "int") rInt1 := call_int1
def rSlA (K : PySem.W.Frag) : V → Option Int → Option Int → Hp → VK → Prop := fun x lo hi H Q => rSlL K x lo hi H Q ∨ rSlS x lo hi H Q
theorem sl_any : SlR X (rSlA X.K) := sl_list.or sl_str
def rJoin (K : PySem.W.Frag) : V → List V → Hp → VK → Prop := fun x xs H Q => ∃ a p, ∃ ys : List Str, x = .str a ∧ xs = [.ref p] ∧ (SqL K H p (ys.map V.str) ∨ SqT K H p (ys.map V.str)) ∧
    (ys.map (·.length)).sum + ys.length * a.length ≤ 16777216 ∧ Q (.str (Txt.join a ys)) H
def rUpper : V → List V → Hp → VK → Prop := fun x xs H Q => ∃ a, x = .str a ∧ xs = [] ∧ a.length ≤ 5592405 ∧ Q (.str (Txt.upper a)) H
theorem pe_joinA {o e : Expr} {to te : TE} {apos pos : Pos} (ho : PE X o to) (he : PE X e te) (hs : starEach [e] X.env = [(false, eval e X.env)] := by rfl) (hbase : attributeBase o "join" X.env (eval o X.env) = eval o X.env := by rfl) (hline : (apos.endLine == pos.line) = true := by rfl) :
    PE X (.Call (.Attribute o "join" apos) [e] [] pos) (tM1 (rJoin X.K) to te) := pe_join ho he hs hbase hline
theorem pe_upperA {o : Expr} {to : TE} {apos pos : Pos} (ho : PE X o to) (hbase : attributeBase o "upper" X.env (eval o X.env) = eval o X.env := by rfl) (hline : (apos.endLine == pos.line) = true := by rfl) :
    PE X (.Call (.Attribute o "upper" apos) [] [] pos) (tM0 rUpper to) := pe_upper ho hbase hline

/-! ### calls of defs -/
theorem pe_cf {P : Program} {w : World} {K : PySem.W.Frag} {mg : Str → Option Value} {base : Heap} {nm q : Str} {st : Stmt} {ps : List Str} {CX : CXT} {k : Nat} {sp : Sp} {E : XK} {e : Expr} {es : List Expr} {t : TA} {p pos : Pos} (d : Df K mg nm q st ps) (F : FnOk P w K mg base CX k d.f d.fd ps sp) (hr : Room k X.A) (hx : Passes CX X E)
    (ha : PA X (e :: es) t) (h1 : X.prog = P := by rfl) (h2 : X.w = w := by rfl) (h3 : X.K = K := by rfl) (h4 : X.mg = mg := by rfl) (h5 : X.base = base := by rfl) (hg : Gl X nm := by rfl) (hd : (nm == ("__debug__" : Str)) = false := by decide) (he : starEach (e :: es) X.env = (false, eval e X.env) :: starEach es X.env := by rfl) (hpl : (backTo pos (starEach es X.env)).any (·.1) = false := by rfl) :
    PE X (.Call (.Name nm p) (e :: es) [] pos) (tCall sp [] E t) := by
  subst h1 h2 h3 h4 h5
  exact pe_call F hr hg d.g d.F.kp d.b .nil hx ha hd he hpl
end

/-! ### readings, step by step -/
namespace Rd
variable {K : PySem.W.Frag} {σ : St} {H : Hp} {Q : VK} {x y z v : V} {ta tb te tc to tx : TE} {t u : TS} {i j : Int} {a b p : Addr} {N : St → Hp → Prop} {r : VK} {bk ct : St → Hp → Prop} {g : Int → Int → V}
theorem var {i : Nat} (h : σ[i]? = some (some v)) (q : Q v H) : tVar i σ H Q := ⟨v, h, q⟩
theorem con (q : Q v H) : tC v σ H Q := q
theorem op {r : R2} (h : ta σ H fun x H1 => tb σ H1 fun y H2 => r x y H2 Q) : tOp r ta tb σ H Q := h
theorem i0 (q : Q (g i j) H) : rI0 g (.int i) (.int j) H Q := ⟨i, j, rfl, rfl, q⟩
theorem ii {C : Int → Int → Prop} (c : C i j) (q : Q (g i j) H) : rI C g (.int i) (.int j) H Q := ⟨i, j, rfl, rfl, c, q⟩
theorem addI (q : Q (.int (i + j)) H) : rAddA (.int i) (.int j) H Q := .inl ⟨i, j, rfl, rfl, q⟩
theorem addS {x y : Str} (h : x.length + y.length ≤ sizeLine) (q : Q (.str (x ++ y)) H) : rAddA (.str x) (.str y) H Q := .inr (.inl ⟨x, y, rfl, rfl, h, q⟩)
theorem addL {xs ys : List V} (h1 : H a = some (.lst xs)) (h2 : H b = some (.lst ys)) (hl : xs.length + ys.length ≤ sizeLine) (q : ∀ p, H p = none → Q (.ref p) (upd H p (.lst (xs ++ ys)))) : rAddA (.ref a) (.ref b) H Q :=
  .inr (.inr ⟨a, b, xs, ys, rfl, rfl, h1, h2, hl, q⟩)
theorem subI (q : Q (.int (i - j)) H) : rSubI (.int i) (.int j) H Q := ⟨i, j, rfl, rfl, q⟩
theorem modI (h : 0 < j) (q : Q (.int (i % j)) H) : rModI (.int i) (.int j) H Q := ⟨i, j, rfl, rfl, h, q⟩
theorem divI (h : CDiv i j) (q : Q (.int (i / j)) H) : rDivI (.int i) (.int j) H Q := ⟨i, j, rfl, rfl, h, q⟩
theorem powI (h : CPow i j) (q : Q (.int (i ^ j.toNat)) H) : rPowI (.int i) (.int j) H Q := ⟨i, j, rfl, rfl, h, q⟩
theorem gtI (q : Q (.bl (decide (j < i))) H) : rGtI (.int i) (.int j) H Q := ⟨i, j, rfl, rfl, q⟩
theorem geI (q : Q (.bl (decide (j ≤ i))) H) : rGeI (.int i) (.int j) H Q := ⟨i, j, rfl, rfl, q⟩
theorem ltI (q : Q (.bl (decide (i < j))) H) : rLtA (.int i) (.int j) H Q := .inl ⟨i, j, rfl, rfl, q⟩
theorem leI (q : Q (.bl (decide (i ≤ j))) H) : rLeA (.int i) (.int j) H Q := .inl ⟨i, j, rfl, rfl, q⟩
theorem ltS {x y : Str} (q : Q (.bl (decide (x.cps.toList < y.cps.toList))) H) : rLtA (.str x) (.str y) H Q := .inr ⟨x, y, rfl, rfl, q⟩
theorem leS {x y : Str} (q : Q (.bl (!decide (y.cps.toList < x.cps.toList))) H) : rLeA (.str x) (.str y) H Q := .inr ⟨x, y, rfl, rfl, q⟩
theorem eqI (q : Q (.bl (decide (i = j))) H) : rEqA K (.int i) (.int j) H Q := .inl ⟨rfl, by
  have e : decide (V.int i = V.int j) = decide (i = j) := decide_eq_decide.mpr ⟨fun z => V.int.inj z, fun z => by rw [z]⟩
  rw [e]; exact q⟩
theorem neI (q : Q (.bl (!decide (i = j))) H) : rNeA K (.int i) (.int j) H Q := .inl ⟨rfl, by
  have e : decide (V.int i = V.int j) = decide (i = j) := decide_eq_decide.mpr ⟨fun z => V.int.inj z, fun z => by rw [z]⟩
  rw [e]; exact q⟩
theorem eqS {x y : Str} (q : Q (.bl (decide (x = y))) H) : rEqA K (.str x) (.str y) H Q := .inl ⟨rfl, by
  have e : decide (V.str x = V.str y) = decide (x = y) := decide_eq_decide.mpr ⟨fun z => V.str.inj z, fun z => by rw [z]⟩
  rw [e]; exact q⟩
theorem neS {x y : Str} (q : Q (.bl (!decide (x = y))) H) : rNeA K (.str x) (.str y) H Q := .inl ⟨rfl, by
  have e : decide (V.str x = V.str y) = decide (x = y) := decide_eq_decide.mpr ⟨fun z => V.str.inj z, fun z => by rw [z]⟩
  rw [e]; exact q⟩
theorem eqD {d e : PyData} (h1 : Dp K H x d) (h2 : Dp K H y e) (s1 : SeqAt.shaped d = true) (s2 : SeqAt.shaped e = true) (q : Q (.bl (PyData.eqv d e)) H) : rEqA K x y H Q := .inr ⟨d, e, h1, h2, s1, s2, q⟩
theorem neD {d e : PyData} (h1 : Dp K H x d) (h2 : Dp K H y e) (s1 : SeqAt.shaped d = true) (s2 : SeqAt.shaped e = true) (q : Q (.bl (!PyData.eqv d e)) H) : rNeA K x y H Q := .inr ⟨d, e, h1, h2, s1, s2, q⟩
theorem int1 (q : Q (.int i) H) : rInt1 [.int i] H Q := .inl ⟨i, rfl, q⟩
theorem lenL {xs : List V} (h : SqL K H p xs) (q : Q (.int xs.length) H) : rLenA K [.ref p] H Q := ⟨_, _, rfl, .inl ⟨xs, h, rfl⟩, q⟩
theorem lenT {xs : List V} (h : SqT K H p xs) (q : Q (.int xs.length) H) : rLenA K [.ref p] H Q := ⟨_, _, rfl, .inr ⟨xs, h, rfl⟩, q⟩
theorem lenS {x : Str} (h : x.length ≤ sizeLine) (q : Q (.int x.length) H) : rLenA K [.str x] H Q := ⟨_, _, rfl, ⟨h, rfl⟩, q⟩
theorem ixL {xs : List V} (h : SqL K H p xs) (h2 : atI xs i = some v) (q : Q v H) : rIx K (.ref p) (.int i) H Q := .inl ⟨p, xs, i, v, rfl, rfl, h, h2, q⟩
theorem ixT {xs : List V} (h : SqT K H p xs) (h2 : atI xs i = some v) (q : Q v H) : rIx K (.ref p) (.int i) H Q := .inr (.inl ⟨p, xs, i, v, rfl, rfl, h, h2, q⟩)
theorem ixS {x : Str} {c : Nat} (h : x.length ≤ sizeLine) (h2 : atI x.cps.toList i = some c) (q : Q (.str ⟨#[c]⟩) H) : rIx K (.str x) (.int i) H Q := .inr (.inr ⟨x, i, c, rfl, rfl, h, h2, q⟩)
theorem slL {xs : List V} {lo hi : Option Int} (h : SqL K H a xs) (q : ∀ p, H p = none → Q (.ref p) (upd H p (.lst (cutV xs lo hi)))) : rSlA K (.ref a) lo hi H Q := .inl ⟨a, xs, rfl, h, q⟩
theorem slS {x : Str} {lo hi : Option Int} (h : x.length ≤ sizeLine) (q : Q (.str (cutS x lo hi)) H) : rSlA K (.str x) lo hi H Q := .inr ⟨x, rfl, h, q⟩
theorem sl {r : V → Option Int → Option Int → Hp → VK → Prop} {tl th : TO} (h : te σ H fun x H1 => tl σ H1 fun l H2 => th σ H2 fun u H3 => r x l u H3 Q) : tSl r te tl th σ H Q := h
theorem noPart {Q : Option Int → Hp → Prop} (q : Q none H) : tNoPart σ H Q := q
theorem part {Q : Option Int → Hp → Prop} (h : te σ H fun x H1 => ∃ i, x = .int i ∧ Q (some i) H1) : tPart te σ H Q := h
theorem exint {P : Int → Prop} (h : P i) : ∃ k, V.int i = .int k ∧ P k := ⟨i, rfl, h⟩
/-- tests -/
theorem test {Q : Bool → Hp → Prop} (h : te σ H fun x H' => ∃ k, x = .bl k ∧ Q k H') : tTest te σ H Q := h
theorem tbv {Q : Bool → Hp → Prop} (h : te σ H fun x H' => ∃ k, x = .bl k ∧ Q k H') : tB te σ H Q := h
theorem exbl {b : Bool} {P : Bool → Prop} (h : P b) : ∃ k, V.bl b = .bl k ∧ P k := ⟨b, rfl, h⟩
theorem yes {Q : Bool → Hp → Prop} (q : Q true H) : tYes σ H Q := q
theorem andT {t u : TT} {Q : Bool → Hp → Prop} (h : t σ H fun c H1 => if c = true then u σ H1 Q else Q false H1) : tAnd t u σ H Q := h
theorem orT {t u : TT} {Q : Bool → Hp → Prop} (h : t σ H fun c H1 => if c = true then Q true H1 else u σ H1 Q) : tOr t u σ H Q := h
theorem notT {t : TT} {Q : Bool → Hp → Prop} (h : t σ H fun c H1 => Q (!c) H1) : tNot t σ H Q := h
theorem andV (h : ta σ H fun x H1 => ∃ c, x = .bl c ∧ if c = true then tb σ H1 Q else Q (.bl false) H1) : tAndV ta tb σ H Q := h
theorem orV (h : ta σ H fun x H1 => ∃ c, x = .bl c ∧ if c = true then Q (.bl true) H1 else tb σ H1 Q) : tOrV ta tb σ H Q := h
theorem notV (h : ta σ H fun x H1 => ∃ c, x = .bl c ∧ Q (.bl (!c)) H1) : tNotV ta σ H Q := h
theorem chain {r r' : R2} (h : ta σ H fun x H1 => tb σ H1 fun y H2 => r x y H2 fun z H3 => ∃ k, z = .bl k ∧ (if k = true then tc σ H3 fun w' H4 => r' y w' H4 Q else Q (.bl false) H3)) : tChain r r' ta tb tc σ H Q := h
/-- statements -/
theorem seq (h : t (Ends.mk (u (Ends.mk N r bk ct)) r bk ct) σ H) : tSeq t u (Ends.mk N r bk ct) σ H := h
theorem asg {i : Nat} (h : te σ H fun x H1 => N (σ.set i (some x)) H1) : tAsg te (gName i) (Ends.mk N r bk ct) σ H := h
theorem drop (h : te σ H fun _ H1 => N σ H1) : tDrop te (Ends.mk N r bk ct) σ H := h
theorem ret (h : te σ H r) : tRet te (Ends.mk N r bk ct) σ H := h
theorem retN (h : r .non H) : tRetN (Ends.mk N r bk ct) σ H := h
theorem next (h : N σ H) : tNext (Ends.mk N r bk ct) σ H := h
theorem ifS {c : TT} (h : c σ H fun b H1 => if b = true then t (Ends.mk N r bk ct) σ H1 else u (Ends.mk N r bk ct) σ H1) : tIfS c t u (Ends.mk N r bk ct) σ H := h
theorem iteT {A B : Prop} (h : A) : if true = true then A else B := by rw [if_pos rfl]; exact h
theorem iteF {A B : Prop} (h : B) : if false = true then A else B := by rw [if_neg Bool.false_ne_true]; exact h
theorem iteNF {A B : Prop} (h : A) : if (!false) = true then A else B := h
theorem iteNT {A B : Prop} (h : B) : if (!true) = true then A else B := h
theorem iteD {c A B : Prop} [Decidable c] (h1 : c → A) (h2 : ¬ c → B) : if decide c = true then A else B := by
  by_cases h : c
  · rw [decide_eq_true h, if_pos rfl]; exact h1 h
  · rw [decide_eq_false h, if_neg Bool.false_ne_true]; exact h2 h
theorem iteN {c A B : Prop} [Decidable c] (h1 : ¬ c → A) (h2 : c → B) : if (!decide c) = true then A else B := by
  by_cases h : c
  · rw [decide_eq_true h]; rw [if_neg (by decide)]; exact h2 h
  · rw [decide_eq_false h]; rw [if_pos (by decide)]; exact h1 h
/-- calls, displays -/
theorem cons {tr : TA} {Q : List V → Hp → Prop} (h : ta σ H fun x H1 => tr σ H1 fun xs H2 => Q (x :: xs) H2) : tCons ta tr σ H Q := h
theorem nil {Q : List V → Hp → Prop} (q : Q [] H) : tNil σ H Q := q
theorem call {sp : Sp} {E : XK} {t : TA} (h : t σ H fun vs H1 => sp (vs ++ []) H1 Q E) : tCall sp [] E t σ H Q := h
theorem cb {r : List V → Hp → VK → Prop} {t : TA} (h : t σ H fun vs H1 => r vs H1 Q) : tCB r t σ H Q := h
theorem tup {t : TA} (h : t σ H fun xs H1 => xs.length ≤ sizeLine ∧ ∀ p, H1 p = none → Q (.ref p) (upd H1 p (.tup xs))) : tTup t σ H Q := h
theorem lst {t : TA} (h : t σ H fun xs H1 => xs.length ≤ sizeLine ∧ ∀ p, H1 p = none → Q (.ref p) (upd H1 p (.lst xs))) : tLst t σ H Q := h
theorem m0 {r : V → List V → Hp → VK → Prop} (h : to σ H fun x H1 => (∃ a, x = .str a) ∧ r x [] H1 Q) : tM0 r to σ H Q := h
theorem m1 {r : V → List V → Hp → VK → Prop} (h : to σ H fun x H1 => (∃ a, x = .str a) ∧ te σ H1 fun y H2 => r x [y] H2 Q) : tM1 r to te σ H Q := h
theorem isStr {x : Str} {A : Prop} (h : A) : (∃ a, V.str x = .str a) ∧ A := ⟨⟨x, rfl⟩, h⟩
theorem upper {x : Str} (h : x.length ≤ 5592405) (q : Q (.str (Txt.upper x)) H) : rUpper (.str x) [] H Q := ⟨x, rfl, rfl, h, q⟩
theorem join {x : Str} {ys : List Str} (h : SqL K H p (ys.map V.str)) (hz : (ys.map (·.length)).sum + ys.length * x.length ≤ 16777216) (q : Q (.str (Txt.join x ys)) H) : rJoin K (.str x) [.ref p] H Q := ⟨x, p, ys, rfl, rfl, .inl h, hz, q⟩
theorem fld {f : Str} (h : ta σ H fun x H1 => ∃ a C dx fs v, x = .ref a ∧ H1 a = some (.ins C dx fs) ∧ Cls K C ∧ NoAttr K C f ∧ fs.lookup f = some v ∧ Q v H1) : tFld K ta f σ H Q := h
theorem start_ {t : TS} {D : Ends} {σ' : St} (e : σ = σ') (h : t D σ' H) : t D σ H := by rw [e]; exact h
end Rd

/-- heaps -/
theorem same_new {H : Hp} {p : Addr} {o : HO} (h : H p = none) : Same H (upd H p o) := fun a u e => by
  rw [upd_ne (ne_of_none e h)]; exact e
theorem same_upd {H0 H : Hp} {p : Addr} {o : HO} (e : Same H0 H) (h : H0 p = none) : Same H0 (upd H p o) := fun a u ha => by
  rw [upd_ne (ne_of_none ha h)]; exact e a u ha
theorem Same.sqt {K : PySem.W.Frag} {H H' : Hp} {a : Addr} {xs : List V} (e : Same H H') (h : SqT K H a xs) : SqT K H' a xs := by
  rcases h with (h | ⟨o, h⟩) | h
  · exact .inl (.inl (e _ _ h))
  · exact .inl (.inr ⟨o, e _ _ h⟩)
  · exact .inr h
end Fw
namespace Fw
open PySem PySem.Spec L2
/-- the built-ins that the program leaves alone -/
structure Bt (mg : Str → Option Value) : Prop where
  len : mg "len" = none
  sum : mg "sum" = none
  int : mg "int" = none
  range : mg "range" = none
  isinstance : mg "isinstance" = none
  any : mg "any" = none
  all : mg "all" = none
  list : mg "list" = none
  tuple : mg "tuple" = none
  sorted : mg "sorted" = none
  set : mg "set" = none
  bool : mg "bool" = none
  ValueError : mg "ValueError" = none
section
variable {X : Cx}
def rMulS : R2 := fun x y H Q => ∃ z i, x = .str z ∧ y = .int i ∧ 0 ≤ i ∧ i < 1000 ∧ z.length ≤ 1000 ∧ Q (.str (Txt.mul z i)) H
theorem op_mulS : OpR X (binaryOp .Mult) rMulS := by
  intro pins s σ H x y v u Q I rx ry h
  obtain ⟨z, i, rfl, rfl, h0, h1, h2, q⟩ := h
  obtain ⟨t, rfl⟩ := rx
  obtain ⟨t', rfl⟩ := ry
  have e : i.toNat ≤ 1000 := by omega
  have hm : z.length * i.toNat ≤ 1000 * 1000 := Nat.mul_le_mul h2 e
  refine PySem.SB.mul ⟨?_, fun hn _ => ?_, fun hn _ => ?_⟩ fun t' k => ⟨.str _, H, I.tok k, ⟨t', rfl⟩, q⟩
  · rw [decide_eq_false (by omega), decide_eq_false (by omega)]; rfl
  · have hd : 1000 ≤ (2 ^ 63 - 1) / i := by
      rw [Int.le_ediv_iff_mul_le (by omega)]
      omega
    omega
  · show decide _ = false
    apply decide_eq_false
    have q : sizeLine = 16777216 := sizeLine_eq
    omega
def rMulA : R2 := fun x y H Q => rI CMul (fun i j => .int (i * j)) x y H Q ∨ rMulS x y H Q
theorem op_mulA : OpR X (binaryOp .Mult) rMulA := op_mul.or op_mulS
end
namespace Rd
variable {H : Hp} {Q : VK} {i j : Int} 
theorem mulI (h : CMul i j) (q : Q (.int (i * j)) H) : rMulA (.int i) (.int j) H Q := .inl ⟨i, j, rfl, rfl, h, q⟩
theorem mulS {z : Str} (h0 : 0 ≤ i) (h1 : i < 1000) (h2 : z.length ≤ 1000) (q : Q (.str (Txt.mul z i)) H) : rMulA (.str z) (.int i) H Q := .inr ⟨z, i, rfl, rfl, h0, h1, h2, q⟩
theorem asgSub {σ : St} {N : St → Hp → Prop} {r : VK} {bk ct : St → Hp → Prop} {te to ti : TE} {t : TSet} (h : te σ H fun v H1 => to σ H1 fun o H2 => ti σ H2 fun i H3 => t o i v H3 fun H4 => N σ H4) : tAsg te (gSub to ti t) (Ends.mk N r bk ct) σ H := h
theorem setL {p : Addr} {v : V} {xs : List V} {j : Nat} {Q : Hp → Prop} (h : H p = some (.lst xs)) (h2 : ixN xs.length i = some j) (q : Q (upd H p (.lst (xs.set j v)))) : rSetL (.ref p) (.int i) v H Q := ⟨p, xs, i, j, rfl, rfl, h, h2, q⟩
theorem sumL {K : PySem.W.Frag} {a : Addr} {ns : List Int} (h : SqL K H a (ns.map V.int)) (q : Q (.int ns.sum) H) : rSum K [.ref a] H Q := ⟨a, ns, rfl, h, q⟩
end Rd
end Fw
namespace Fw
open PySem PySem.Spec L2
/-- what is left of a comprehension, of a for, once the thing to walk is known -/
def LcGo (J : It) (g : TG) (tt : TT) (te : TE) (vs : List Nat) (σ : St) (H1 : Hp) (Q : VK) : Prop := tLc (fun _ H R => R J H) g tt te vs σ H1 Q
def FoGo (J : It) (g : TG) (tb : TS) (D : Ends) (σ : St) (H : Hp) : Prop := tFor (fun _ H R => R J H) g tb D σ H
abbrev Flat (Itm : Nat → V → Prop) : Nat → Hp → V → Hp → Prop := fun i H x H' => H' = H ∧ Itm i x
namespace Rd
variable {K : PySem.W.Frag} {σ : St} {H : Hp} {Q : VK} {te tl : TE} {ta : TA} {tt : TT} {g : TG} {vs : List Nat} {tb : TS} {D : Ends} {J : It} {n : Nat} {G : Hp → Prop} {Itm : Nat → V → Prop}
theorem lcL (h : tl σ H fun x H1 => ∃ a, x = .ref a ∧ (∃ xs, SqL K H1 a xs) ∧ LcGo (Itl K a) g tt te vs σ H1 Q) : tLc (iList K tl) g tt te vs σ H Q := h
theorem lcT (h : tl σ H fun x H1 => ∃ a, x = .ref a ∧ (∃ xs, SqT K H1 a xs) ∧ LcGo (Itt K a) g tt te vs σ H1 Q) : tLc (iTup K tl) g tt te vs σ H Q := h
theorem lcR (h : ta σ H fun us H1 => ∃ j : Int, us = [.int j] ∧ -(2 ^ 62) ≤ j ∧ j < 2 ^ 62 ∧ LcGo (Itr 0 j.toNat) g tt te vs σ H1 Q) : tLc (iRng1 ta) g tt te vs σ H Q := h
theorem lcS (h : tl σ H fun v H1 => ∃ x, v = .str x ∧ LcGo (Its x) g tt te vs σ H1 Q) : tLc (iStr tl) g tt te vs σ H Q := h
theorem foL (h : tl σ H fun x H1 => ∃ a, x = .ref a ∧ (∃ xs, SqL K H1 a xs) ∧ FoGo (Itl K a) g tb D σ H1) : tFor (iList K tl) g tb D σ H := h
theorem foT (h : tl σ H fun x H1 => ∃ a, x = .ref a ∧ (∃ xs, SqT K H1 a xs) ∧ FoGo (Itt K a) g tb D σ H1) : tFor (iTup K tl) g tb D σ H := h
theorem foR (h : ta σ H fun us H1 => ∃ j : Int, us = [.int j] ∧ -(2 ^ 62) ≤ j ∧ j < 2 ^ 62 ∧ FoGo (Itr 0 j.toNat) g tb D σ H1) : tFor (iRng1 ta) g tb D σ H := h
theorem exrange {i : Int} {P : Int → Prop} (h1 : -(2 ^ 62) ≤ i) (h2 : i < 2 ^ 62) (h : P i) : ∃ j : Int, [V.int i] = [.int j] ∧ -(2 ^ 62) ≤ j ∧ j < 2 ^ 62 ∧ P j := ⟨i, rfl, h1, h2, h⟩
theorem exstr {x : Str} {P : Str → Prop} (h : P x) : ∃ z, V.str x = .str z ∧ P z := ⟨x, rfl, h⟩
theorem exlist {a : Addr} {xs : List V} {P : Addr → Prop} (hs : SqL K H a xs) (h : P a) : ∃ b, V.ref a = .ref b ∧ (∃ xs, SqL K H b xs) ∧ P b := ⟨a, rfl, ⟨xs, hs⟩, h⟩
theorem extup {a : Addr} {xs : List V} {P : Addr → Prop} (hs : SqT K H a xs) (h : P a) : ∃ b, V.ref a = .ref b ∧ (∃ xs, SqT K H b xs) ∧ P b := ⟨a, rfl, ⟨xs, hs⟩, h⟩
/-- a comprehension: Jv by turn, items made and heap -/
theorem lcW {s : Nat} (w : Walk J n G (Flat Itm)) (hn : n < sizeLine) (Jv : Nat → List V → Hp → Prop) (h0 : Jv 0 [] H)
    (hst : ∀ D, H D = none → ∀ i acc ys H', Jv i acc H' → Jv i acc (upd H' D (.lst ys))) (hG : ∀ i acc H', i ≤ n → Jv i acc H' → G H')
    (step : ∀ D, H D = none → ∀ i x acc H', i < n → Itm i x → H' D = some (.lst acc) → acc.length ≤ i → Jv i acc H' → ∀ (Kt : V → Hp → Prop) (Kf : Hp → Prop), (∀ y H4, H4 D = some (.lst acc) → Jv (i + 1) (acc ++ [y]) H4 → Kt y H4) → (∀ H3, H3 D = some (.lst acc) → Jv (i + 1) acc H3 → Kf H3) →
      tt ((σ.set s none).set s (some x)) H' fun b H3 => if b = true then te ((σ.set s none).set s (some x)) H3 Kt else Kf H3)
    (fin : ∀ D acc H', H D = none → H' D = some (.lst acc) → acc.length ≤ n → Jv n acc H' → Q (.ref D) H') : LcGo J (gName s) tt te [s] σ H Q := by
  intro D hD
  refine lc_it w (fun i H' => ∃ acc, H' D = some (.lst acc) ∧ acc.length ≤ i ∧ Jv i acc H') ⟨[], upd_same, Nat.le_refl _, hst D hD _ _ _ _ h0⟩ (fun i H' hi ⟨acc, _, _, j⟩ => hG i acc H' hi j) ?_ (fun H' ⟨acc, a1, a2, a3⟩ => fin D acc H' hD a1 a2 a3)
  rintro i x H' H2 hi ⟨acc, a1, a2, a3⟩ ⟨rfl, hx⟩
  show wipe (((wipe σ [s])).set s (some x)) [s] = wipe σ [s] ∧ _
  refine ⟨?_, ?_⟩
  · show ((σ.set s none).set s (some x)).set s none = σ.set s none
    rw [List.set_set, List.set_set]
  · exact step D hD i x acc _ hi hx a1 a2 a3 _ _
      (fun y H4 b1 b2 => ⟨acc, b1, Nat.lt_of_le_of_lt a2 (Nat.lt_trans hi hn), acc ++ [y], upd_same, by rw [List.length_append, List.length_singleton]; omega, hst D hD _ _ _ _ b2⟩)
      (fun H3 b1 b2 => ⟨acc, b1, Nat.le_succ_of_le a2, b2⟩)
/-- a for: Pv by turn, slots and heap -/
theorem foW {s : Nat} {N : St → Hp → Prop} {r : VK} {bk ct : St → Hp → Prop} (w : Walk J n G (Flat Itm)) (Pv : Nat → St → Hp → Prop) (h0 : Pv 0 σ H) (hG : ∀ i σ H, i ≤ n → Pv i σ H → G H)
    (step : ∀ i x σ H, i < n → Itm i x → Pv i σ H → tb (Ends.mk (Pv (i + 1)) r N (Pv (i + 1))) (σ.set s (some x)) H) (fin : ∀ σ H, Pv n σ H → N σ H) : FoGo J (gName s) tb (Ends.mk N r bk ct) σ H :=
  for_it w Pv h0 hG (fun i x σ H H' hi p ⟨e, hx⟩ => by subst e; exact step i x σ _ hi hx p) fin
theorem wList {a : Addr} {xs : List V} : Walk (Itl K a) xs.length (fun H => SqL K H a xs) (Flat fun i x => xs[i]? = some x) := walk_list
theorem wTup {a : Addr} {xs : List V} : Walk (Itt K a) xs.length (fun H => SqT K H a xs) (Flat fun i x => xs[i]? = some x) := walk_tup
theorem wRange {n : Nat} : Walk (Itr 0 n) n (fun _ => True) (Flat fun i x => x = .int (0 + i)) := walk_range
theorem wStr {z : Str} : Walk (Its z) z.cps.size (fun _ => True) (Flat fun i v => ∃ c, z.cps[i]? = some c ∧ v = .str ⟨#[c]⟩) := walk_str
end Rd
end Fw
namespace Fw
open PySem PySem.Spec L2
section
variable {X : Cx} (K : PySem.W.Frag)
theorem kix (h : X.K = K := by rfl) : IxR X (rIx K) := by subst h; exact ix_seq
theorem keq (hu : X.A.units + 64 < cLine) (h : X.K = K := by rfl) : OpR X (compareOp .Eq) (rEqA K) := by subst h; exact op_eqA hu
theorem kne (hu : X.A.units + 64 < cLine) (h : X.K = K := by rfl) : OpR X (compareOp .NotEq) (rNeA K) := by subst h; exact op_neA hu
theorem klen (h : X.K = K := by rfl) : CallR X (.builtin "len") (rLenA K) := by subst h; exact call_lenA
theorem ksum (hc : X.calm = true := by rfl) (h : X.K = K := by rfl) : CallR X (.builtin "sum") (rSum K) := by subst h; exact cr_sum hc
theorem kany (hc : X.calm = true := by rfl) (h : X.K = K := by rfl) : CallR X (.builtin "any") (rAny K) := by subst h; exact cr_any hc
theorem kall (hc : X.calm = true := by rfl) (h : X.K = K := by rfl) : CallR X (.builtin "all") (rAll K) := by subst h; exact cr_all hc
theorem kisi (h : X.K = K := by rfl) : CallR X (.builtin "isinstance") (rIsi K) := by subst h; exact call_isi
def rListOf (K : PySem.W.Frag) : List V → Hp → VK → Prop := fun xs H Q => ∃ p ys, xs = [.ref p] ∧ (SqL K H p ys ∨ SqT K H p ys) ∧ ∀ l, H l = none → Q (.ref l) (upd H l (.lst ys))
def rTupOf (K : PySem.W.Frag) : List V → Hp → VK → Prop := fun xs H Q => ∃ p ys, xs = [.ref p] ∧ ((SqL K H p ys ∧ ∀ l, H l = none → Q (.ref l) (upd H l (.tup ys))) ∨ (SqT K H p ys ∧ Q (.ref p) H))
theorem klist (h : X.K = K := by rfl) : CallR X (.type "list") (rListOf K) := by subst h; exact call_list_of
theorem ktuple (h : X.K = K := by rfl) : CallR X (.type "tuple") (rTupOf K) := by subst h; exact call_tuple_of
theorem ksl (h : X.K = K := by rfl) : SlR X (rSlA K) := by subst h; exact sl_any
theorem kin (h : X.K = K := by rfl) : OpR X (compareOp .In) (rIn K false) := by subst h; exact op_in_seq
theorem knin (h : X.K = K := by rfl) : OpR X (compareOp .NotIn) (rIn K true) := by subst h; exact op_notIn_seq
theorem kpl {tg l : Expr} {tl : TE} (hl : PE X l tl) (h : X.K = K := by rfl) : PI X tg l (iList K tl) := by subst h; exact pi_list hl
theorem kpt {tg l : Expr} {tl : TE} (hl : PE X l tl) (h : X.K = K := by rfl) : PI X tg l (iTup K tl) := by subst h; exact pi_tup hl
theorem kjoin {o e : Expr} {to te : TE} {apos pos : Pos} (ho : PE X o to) (he : PE X e te) (h : X.K = K := by rfl) (hs : starEach [e] X.env = [(false, eval e X.env)] := by rfl) (hbase : attributeBase o "join" X.env (eval o X.env) = eval o X.env := by rfl) (hline : (apos.endLine == pos.line) = true := by rfl) :
    PE X (.Call (.Attribute o "join" apos) [e] [] pos) (tM1 (rJoin K) to te) := by subst h; exact pe_joinA ho he hs hbase hline
theorem kfld {e : Expr} {f : Str} {ta : TE} {pos : Pos} (he : PE X e ta) (h : X.K = K := by rfl) (hb : attributeBase e f X.env (eval e X.env) = eval e X.env := by rfl) : PE X (.Attribute e f pos) (tFld K ta f) := by subst h; exact pe_fld he hb
theorem kcon {e : Expr} {f : Str} {ta : TE} {pos : Pos} (he : PE X e ta) (h : X.K = K := by rfl) (hb : attributeBase e f X.env (eval e X.env) = eval e X.env := by rfl) : PE X (.Attribute e f pos) (tCon K ta f) := by subst h; exact pe_con he hb
end
namespace Rd
variable {K : PySem.W.Frag} {H : Hp} {Q : VK} {p : Addr}
theorem listL {ys : List V} (h : SqL K H p ys) (q : ∀ l, H l = none → Q (.ref l) (upd H l (.lst ys))) : rListOf K [.ref p] H Q := ⟨p, ys, rfl, .inl h, q⟩
theorem listT {ys : List V} (h : SqT K H p ys) (q : ∀ l, H l = none → Q (.ref l) (upd H l (.lst ys))) : rListOf K [.ref p] H Q := ⟨p, ys, rfl, .inr h, q⟩
theorem tupL {ys : List V} (h : SqL K H p ys) (q : ∀ l, H l = none → Q (.ref l) (upd H l (.tup ys))) : rTupOf K [.ref p] H Q := ⟨p, ys, rfl, .inl ⟨h, q⟩⟩
theorem tupT {ys : List V} (h : SqT K H p ys) (q : Q (.ref p) H) : rTupOf K [.ref p] H Q := ⟨p, ys, rfl, .inr ⟨h, q⟩⟩
/-- xs.append(y) -/
theorem bm {T : String} {r : V → List V → Hp → VK → Prop} {to : TE} {t : TA} {σ : St} (h : to σ H fun x H1 => tyV K T x H1 ∧ t σ H1 fun xs H2 => r x xs H2 Q) : tBM K T r to t σ H Q := h
theorem tyL {xs : List V} {A : Prop} (h : H p = some (.lst xs)) (q : A) : tyV K "list" (.ref p) H ∧ A := ⟨.inl ⟨rfl, _, SqL.of h⟩, q⟩
theorem append {xs : List V} {y : V} (h : H p = some (.lst xs)) (hl : xs.length < sizeLine) (q : Q .non (upd H p (.lst (xs ++ [y])))) : rAppend (.ref p) [y] H Q := ⟨p, xs, y, rfl, rfl, h, hl, q⟩
end Rd
end Fw

namespace Fw
open PySem PySem.Spec L2
theorem kapp {X : Cx} (K : PySem.W.Frag) {o e : Expr} {to : TE} {t : TA} {apos cpos : Pos} (ho : PE X o to) (ha : PA X [e] t) (h : X.K = K := by rfl)
    (hbase : attributeBase o "append" X.env (eval o X.env) = eval o X.env := by rfl)
    (hfew : ((backTo cpos (starEach [e] X.env)).all (fun x => !x.1) && (backToKw cpos (keywordEach [] X.env)).all (fun x => x.1.isSome)
      && decide (([e] : List Expr).length + ([] : List Keyword).length + (if ([] : List Keyword).isEmpty then 0 else 1) < 30)) = true := by rfl)
    (hline : (apos.endLine == cpos.line) = true := by rfl) (hs : starEach [e] X.env = (false, eval e X.env) :: starEach [] X.env := by rfl) (hplain : (backTo cpos (starEach [] X.env)).any (·.1) = false := by rfl) :
    PE X (.Call (.Attribute o "append" apos) [e] [] cpos) (tBM K "list" rAppend to t) := by
  subst h
  exact pe_bm PySem.F.plainAttrs_list PySem.F.slot_list_append PySem.F.type_list_append mt_append ho ha hbase hfew hline hs hplain
end Fw

namespace Fw
open PySem PySem.Spec L2
abbrev S (l : List Nat) : Str := ⟨l.toArray⟩
theorem pe_lit {X : Cx} (l : List Nat) {x : Str} {j pos} (h : x = S l) : PE X (.Constant (.str x) j pos) (tC (.str (S l))) := by subst h; exact pe_str
theorem dec_S {a b : List Nat} : decide (S a = S b) = decide (a = b) := decide_eq_decide.mpr ⟨fun h => SX.S_inj h, fun h => by rw [h]⟩
theorem sIx_ge {n d : Nat} {i : Int} (h : 0 ≤ i) : HT.sIx n d (some i) = min i.toNat n := by
  have e : i = ((i.toNat : Nat) : Int) := by omega
  rw [e, HT.sIx_nat]
  rfl
theorem cut_to {l : List Nat} {i : Int} (h : 0 ≤ i) : cutS (S l) none (some i) = S (l.take i.toNat) := by
  show (⟨((l.toArray.toList.drop 0).take (HT.sIx l.toArray.size l.toArray.size (some i) - 0)).toArray⟩ : Str) = ⟨(l.take i.toNat).toArray⟩
  rw [sIx_ge h, List.drop_zero, Nat.sub_zero, List.size_toArray]
  show (⟨(l.take (min i.toNat l.length)).toArray⟩ : Str) = ⟨(l.take i.toNat).toArray⟩
  by_cases hl : i.toNat ≤ l.length
  · rw [Nat.min_eq_left hl]
  · have e1 : min i.toNat l.length = l.length := by omega
    have e2 : l.take i.toNat = l := List.take_of_length_le (by omega)
    rw [e1, e2, List.take_length]
theorem cut_fromto {l : List Nat} {i j : Int} (h : 0 ≤ i) (h2 : 0 ≤ j) : cutS (S l) (some i) (some j) = S ((l.drop i.toNat).take (j.toNat - i.toNat)) := by
  show (⟨((l.toArray.toList.drop (HT.sIx l.toArray.size 0 (some i))).take (HT.sIx l.toArray.size l.toArray.size (some j) - HT.sIx l.toArray.size 0 (some i))).toArray⟩ : Str) = _
  rw [sIx_ge h, sIx_ge h2, List.size_toArray]
  show (⟨((l.drop (min i.toNat l.length)).take (min j.toNat l.length - min i.toNat l.length)).toArray⟩ : Str) = ⟨((l.drop i.toNat).take (j.toNat - i.toNat)).toArray⟩
  by_cases hl : i.toNat ≤ l.length
  · rw [Nat.min_eq_left hl]
    by_cases hj : j.toNat ≤ l.length
    · rw [Nat.min_eq_left hj]
    · have e1 : min j.toNat l.length = l.length := by omega
      have e2 : (l.drop i.toNat).take (l.length - i.toNat) = l.drop i.toNat := List.take_of_length_le (by rw [List.length_drop]; omega)
      have e3 : (l.drop i.toNat).take (j.toNat - i.toNat) = l.drop i.toNat := List.take_of_length_le (by rw [List.length_drop]; omega)
      rw [e1, e2, e3]
  · have e1 : min i.toNat l.length = l.length := by omega
    have e2 : l.drop i.toNat = [] := List.drop_of_length_le (by omega)
    have e3 : l.drop l.length = [] := List.drop_of_length_le (Nat.le_refl _)
    rw [e1, e2, e3, List.take_nil, List.take_nil]
theorem cut_from {l : List Nat} {i : Int} (h : 0 ≤ i) : cutS (S l) (some i) none = S (l.drop i.toNat) := by
  show (⟨((l.toArray.toList.drop (HT.sIx l.toArray.size 0 (some i))).take (l.toArray.size - HT.sIx l.toArray.size 0 (some i))).toArray⟩ : Str) = _
  rw [sIx_ge h, List.size_toArray]
  show (⟨((l.drop (min i.toNat l.length)).take (l.length - min i.toNat l.length)).toArray⟩ : Str) = ⟨(l.drop i.toNat).toArray⟩
  have e2 : (l.drop (min i.toNat l.length)).take (l.length - min i.toNat l.length) = l.drop (min i.toNat l.length) := List.take_of_length_le (by rw [List.length_drop]; omega)
  rw [e2]
  by_cases hl : i.toNat ≤ l.length
  · rw [Nat.min_eq_left hl]
  · have e1 : min i.toNat l.length = l.length := by omega
    have e2 : l.drop i.toNat = [] := List.drop_of_length_le (by omega)
    have e3 : l.drop l.length = [] := List.drop_of_length_le (Nat.le_refl _)
    rw [e1, e2, e3]
theorem foldl_cps (l : List Nat) : ∀ (n : Nat) (acc : Array Nat), ((List.replicate n l.toArray).foldl (· ++ ·) acc).toList = acc.toList ++ (List.replicate n l).flatten
  | 0, acc => by simp
  | n + 1, acc => by
    rw [List.replicate_succ, List.foldl_cons, foldl_cps l n]
    simp [List.replicate_succ]
theorem mul_S {l : List Nat} {n : Int} (h : 1 < n) (hl : 1 ≤ l.length) : Txt.mul (S l) n = S ((List.replicate n.toNat l).flatten) := by
  unfold Txt.mul
  rw [if_neg (by omega), if_neg]
  · have e := foldl_cps l n.toNat #[]
    rw [List.nil_append] at e
    show (⟨(List.replicate n.toNat l.toArray).foldl (· ++ ·) #[]⟩ : Str) = ⟨_⟩
    congr 1
    rw [← e]
  · intro z
    rw [Bool.or_eq_true] at z
    rcases z with z | z
    · have := eq_of_beq z; omega
    · have := eq_of_beq z
      rw [SX.S_len] at this
      omega
theorem rep_len (l : List Nat) (n : Nat) : ((List.replicate n l).flatten).length = n * l.length := by
  induction n with
  | zero => simp
  | succ n ih => rw [List.replicate_succ, List.flatten_cons, List.length_append, ih, Nat.succ_mul, Nat.add_comm]
namespace RS
theorem mul {H : Hp} {Q : VK} {i : Int} {l : List Nat} (h : 1 < i) (h1 : i < 1000) (hl : 1 ≤ l.length) (h2 : l.length ≤ 1000) (q : Q (.str (S ((List.replicate i.toNat l).flatten))) H) : rMulA (.str (S l)) (.int i) H Q :=
  Rd.mulS (by omega) h1 (by show l.toArray.size ≤ _; rw [List.size_toArray]; exact h2) (by rw [mul_S h hl]; exact q)
variable {H : Hp} {Q : VK} {i j : Int} {l a b : List Nat}
theorem len_S {l : List Nat} (h : l.length ≤ 1000) : (S l).length ≤ sizeLine := by
  have q : sizeLine = 16777216 := sizeLine_eq
  show l.toArray.size ≤ _
  rw [List.size_toArray]; omega
theorem slTo {K : PySem.W.Frag} (h : 0 ≤ i) (hl : l.length ≤ 1000) (q : Q (.str (S (l.take i.toNat))) H) : rSlA K (.str (S l)) none (some i) H Q := Rd.slS (len_S hl) (by rw [cut_to h]; exact q)
theorem slFrom {K : PySem.W.Frag} (h : 0 ≤ i) (hl : l.length ≤ 1000) (q : Q (.str (S (l.drop i.toNat))) H) : rSlA K (.str (S l)) (some i) none H Q := Rd.slS (len_S hl) (by rw [cut_from h]; exact q)
theorem slFT {K : PySem.W.Frag} (h : 0 ≤ i) (h2 : 0 ≤ j) (hl : l.length ≤ 1000) (q : Q (.str (S ((l.drop i.toNat).take (j.toNat - i.toNat)))) H) : rSlA K (.str (S l)) (some i) (some j) H Q := Rd.slS (len_S hl) (by rw [cut_fromto h h2]; exact q)
theorem add (h : a.length + b.length ≤ 1000) (q : Q (.str (S (a ++ b))) H) : rAddA (.str (S a)) (.str (S b)) H Q := by
  refine Rd.addS ?_ ?_
  · have q : sizeLine = 16777216 := sizeLine_eq
    show a.toArray.size + b.toArray.size ≤ _
    rw [List.size_toArray, List.size_toArray]; omega
  · rw [SX.S_cat]; exact q
theorem eq {K : PySem.W.Frag} (q : Q (.bl (decide (a = b))) H) : rEqA K (.str (S a)) (.str (S b)) H Q := Rd.eqS (by rw [dec_S]; exact q)
theorem ne {K : PySem.W.Frag} (q : Q (.bl (!decide (a = b))) H) : rNeA K (.str (S a)) (.str (S b)) H Q := Rd.neS (by rw [dec_S]; exact q)
theorem ix {K : PySem.W.Frag} {c : Nat} (h : l.length ≤ 1000) (h2 : atI l i = some c) (q : Q (.str (S [c])) H) : rIx K (.str (S l)) (.int i) H Q := Rd.ixS (len_S h) h2 q
theorem upper (h : l.all (· < 128) = true) (hl : l.length ≤ 1000) (q : Q (.str (S (l.map PyProof.Rows.up1))) H) : rUpper (.str (S l)) [] H Q := ⟨_, rfl, rfl, by
  show l.toArray.size ≤ _
  rw [List.size_toArray]; omega, by rw [SX.upper_S h]; exact q⟩
theorem len {K : PySem.W.Frag} (h : l.length ≤ 1000) (q : Q (.int l.length) H) : rLenA K [.str (S l)] H Q := Rd.lenS (len_S h) (by
  have e : (S l).length = l.length := SX.S_len l
  rw [e]; exact q)
end RS
end Fw

namespace Fw
open PySem PySem.Spec L2
/-- an own error class over ValueError, its __init__ one that stores its argument as fld -/
structure Er (K : PySem.W.Frag) (mg : Str → Option Value) (nm qual fld : Str) (st : Stmt) where
  C : Addr
  f : Addr
  fd : FuncData
  T : OexC K C
  iC : PySem.W.findIn K (.ref C) "__init__" = some (some (.ref f))
  tI : PySem.W.typeIn K (.ref f) = some (.type "function")
  g : mg nm = some (.ref C)
  no : PySem.W.findIn K (.ref C) fld = some none
  F : Fun K "__init__" qual st f fd
  b : Binds K fd ["self", fld] []
  xf : XfC K C
  xc : ExcC K C
  te : PySem.W.exmOne K (.ref C) (.ref C) = some true
/-- what such an __init__ keeps -/
def spErI (C : Addr) (fld : Str) : Sp := fun vs H Q _ => ∃ (a : Addr) (v : V), vs = [.ref a, v] ∧ H a = some (exo a C none) ∧ ∀ dx, H dx = none → dx ≠ a → Q .non (upd (upd H dx (exd dx [(fld, v)])) a (exo a C (some dx)))
theorem kost {X : Cx} (K : PySem.W.Frag) {o e : Expr} {to te : TE} {f : Str} {p' pos : Pos} (ho : PE X o to) (he : PE X e te) (h : X.K = K := by rfl) (hs : swapsWith e (some (.Attribute o f p')) pos.line X.env = pure false := by rfl) : PS X (.Assign [.Attribute o f p'] e pos) (tOst K f to te) := by
  subst h; exact ps_ost ho he hs
section
variable {X : Cx}
theorem pmk_er {P : Program} {w : World} {K : PySem.W.Frag} {mg : Str → Option Value} {base : Heap} {nm qual fld : Str} {st : Stmt} {k : Nat} {e : Expr} {es : List Expr} {ta : TA} {p pos : Pos} (r : Er K mg nm qual fld st) (F1 : FnOk P w K mg base CX0 k r.f r.fd ["self", fld] (spErI r.C fld)) (hr : Room (k + 1) X.A) (ha : PA X (e :: es) ta)
    (h1 : X.prog = P := by rfl) (h2 : X.w = w := by rfl) (h3 : X.K = K := by rfl) (h4 : X.mg = mg := by rfl) (h5 : X.base = base := by rfl) (hg : Gl X nm := by rfl)
    (hdb : (nm == ("__debug__" : Str)) = false := by decide) (he : starEach (e :: es) X.env = (false, eval e X.env) :: starEach es X.env := by rfl) (hpl : (backTo pos (starEach es X.env)).any (·.1) = false := by rfl) :
    PMk X (.Call (.Name nm p) (e :: es) [] pos) (tMkO r.C (spErI r.C fld) [] ta) := by
  subst h1 h2 h3 h4 h5
  exact pmk_oex (pos := pos) (p := p) r.T r.iC r.tI F1 hr r.b .nil pass0 hg r.g ha hdb he hpl
end
/-- what is left of raise C(v) -/
def ErGo (C : Addr) (fld : Str) (vs : List V) (H1 : Hp) (Q : XK) : Prop := vs.length ≤ 1000 ∧ ∀ a, H1 a = none → spErI C fld (.ref a :: (vs ++ [])) (upd H1 a (exo a C none))
  (fun v H2 => v = .non ∧ ∃ (d : Addr) (fs : List (Str × V)), H2 a = some (exo a C (some d)) ∧ H2 d = some (exd d fs) ∧ H1 d = none ∧ Q (.ref C) (some d) (upd (del H2 a) d (.xd fs))) (fun _ _ _ => False)
namespace Rd
theorem raise {t : St → Hp → XK → Prop} {W : WX} {σ : St} {H : Hp} {N : St → Hp → Prop} {r : VK} {bk ct : St → Hp → Prop} (h : t σ H fun cls d H' => W cls d σ H') : (fun (_ : Ends) (σ : St) (H : Hp) => t σ H fun cls d H' => W cls d σ H') (Ends.mk N r bk ct) σ H := h
theorem mko {C : Addr} {fld : Str} {ta : TA} {σ : St} {H : Hp} {Q : XK} (h : ta σ H fun vs H1 => ErGo C fld vs H1 Q) : tMkO C (spErI C fld) [] ta σ H Q := h
theorem erGo {C : Addr} {fld : Str} {v : V} {H1 : Hp} {Q : XK} (q : ∀ d, H1 d = none → Q (.ref C) (some d) (upd H1 d (.xd [(fld, v)]))) : ErGo C fld [v] H1 Q := by
  refine ⟨Nat.succ_le_succ (Nat.zero_le _), fun a ha => ⟨a, v, rfl, upd_same, fun dx hx ne => ⟨rfl, dx, [(fld, v)], upd_same, by rw [upd_ne ne]; exact upd_same, ?_, ?_⟩⟩⟩
  · rw [upd_ne ne] at hx; exact hx
  · rw [upd_ne ne] at hx
    have e2 : upd (del (upd (upd (upd H1 a (exo a C none)) dx (exd dx [(fld, v)])) a (exo a C (some dx))) a) dx (.xd [(fld, v)]) = upd H1 dx (.xd [(fld, v)]) := by
      funext b
      by_cases hb : b = dx
      · rw [hb, upd_same, upd_same]
      · rw [upd_ne hb, upd_ne hb]
        by_cases hb2 : b = a
        · rw [hb2, del_same, ha]
        · rw [del_ne hb2, upd_ne hb2, upd_ne hb, upd_ne hb2]
    rw [e2]
    exact q dx hx
/-- self.f = v in such an __init__ -/
theorem ost {K : PySem.W.Frag} {f : Str} {to te : TE} {σ : St} {H : Hp} {N : St → Hp → Prop} {r : VK} {bk ct : St → Hp → Prop} (h : te σ H fun y H1 => to σ H1 fun x H2 => ∃ a C : Addr, x = .ref a ∧ OexC K C ∧ PySem.W.findIn K (.ref C) f = some none ∧
  ((H2 a = some (exo a C none) ∧ ∀ dx, H2 dx = none → dx ≠ a → N σ (upd (upd H2 dx (exd dx [(f, y)])) a (exo a C (some dx)))) ∨
    ∃ (dx : Addr) (fs : List (Str × V)), H2 a = some (exo a C (some dx)) ∧ H2 dx = some (exd dx fs) ∧ fs.length ≤ 900 ∧ N σ (upd H2 dx (exd dx ((f, y) :: fs))))) : tOst K f to te (Ends.mk N r bk ct) σ H := h
theorem leC {H : Hp} {Q : VK} {a b : Nat} (q : Q (.bl (decide (a ≤ b))) H) : rLeA (.str (S [a])) (.str (S [b])) H Q := by
  refine Rd.leS ?_
  have e : (!decide ((S [b]).cps.toList < (S [a]).cps.toList)) = decide (a ≤ b) := by
    show (!decide ([b] < [a])) = decide (a ≤ b)
    by_cases h : a ≤ b
    · have n : ¬ [b] < [a] := by
        intro z
        cases z with
        | rel z => have z' : b < a := z; omega
        | cons z => cases z
      rw [decide_eq_true h, decide_eq_false n]; rfl
    · have n : [b] < [a] := List.Lex.rel (show b < a by omega)
      rw [decide_eq_false h, decide_eq_true n]; rfl
  rw [e]; exact q
end Rd
end Fw

namespace Fw
open PySem PySem.Spec L2
/-- what is left of C(..) -/
def MkGo (C : Addr) (sp : Sp) (vs : List V) (H1 : Hp) (Q : VK) (E : XK) : Prop := ∀ x dx, H1 x = none → H1 dx = none → dx ≠ x → sp (.ref x :: (vs ++ [])) (upd (upd H1 dx (.own x)) x (.ins C dx [])) (fun v H2 => v = .non ∧ Q (.ref x) H2) E

namespace Rd
variable {K : PySem.W.Frag} {σ : St} {H : Hp} {Q : VK} {te to ta tv : TE} {t : TA} {N : St → Hp → Prop} {r : VK} {bk ct : St → Hp → Prop}
theorem make {C : Addr} {sp : Sp} {E : XK} (h : t σ H fun vs H1 => MkGo C sp vs H1 Q E) : tMake C sp [] E t σ H Q := h
theorem meth {C : Addr} {m : Str} {sp : Sp} {E : XK} (h : ta σ H fun x H1 => ∃ a dx fs, x = .ref a ∧ H1 a = some (.ins C dx fs) ∧ fs.lookup m = none ∧ t σ H1 fun vs H2 => sp (x :: (vs ++ [])) H2 Q E) : tMeth C m sp [] E ta t σ H Q := h
theorem sfld {f : Str} (h : tv σ H fun y H1 => ta σ H1 fun x H2 => ∃ a C dx fs, x = .ref a ∧ H2 a = some (.ins C dx fs) ∧ Cls K C ∧ NoAttr K C f ∧ fs.length < 1000 ∧ N σ (upd H2 a (.ins C dx (putF f y fs)))) : sFld K ta tv f (Ends.mk N r bk ct) σ H := h
theorem con_ {f : Str} (h : ta σ H fun x H1 => ∃ a C dx fs v u, x = .ref a ∧ H1 a = some (.ins C dx fs) ∧ Cls K C ∧ Con K C f v u ∧ fs.lookup f = none ∧ Q v H1) : tCon K ta f σ H Q := h
end Rd
section
variable {X : Cx}
theorem kset {K : PySem.W.Frag} {o value : Expr} {f : Str} {ta tv : TE} {pos pos' : Pos} (ha : PE X o ta) (hv : PE X value tv) (h : X.K = K := by rfl) (hs : swapsWith value (some (.Attribute o f pos')) pos.line X.env = pure false := by rfl) : PS X (.Assign [.Attribute o f pos'] value pos) (sFld K ta tv f) := by
  subst h; exact ps_fld ha hv hs
theorem pe_mk {P : Program} {w : World} {K : PySem.W.Frag} {mg : Str → Option Value} {base : Heap} {CX : CXT} {x qual : Str} {st : Stmt} {C : Addr} {k : Nat} {ps : List Str} {sp : Sp} {E : XK} {e : Expr} {es : List Expr} {t : TA} {p pos : Pos} (d : Mf K "__init__" qual st ps) (M : Mk K C d.f) (hm : mg x = some (.ref C)) (F : FnOk P w K mg base CX k d.f d.fd ps sp) (hr : Room (k + 1) X.A) (hx : Passes CX X E) (ha : PA X (e :: es) t)
    (h1 : X.prog = P := by rfl) (h2 : X.w = w := by rfl) (h3 : X.K = K := by rfl) (h4 : X.mg = mg := by rfl) (h5 : X.base = base := by rfl) (hg : Gl X x := by rfl)
    (hdb : (x == ("__debug__" : Str)) = false := by decide) (he : starEach (e :: es) X.env = (false, eval e X.env) :: starEach es X.env := by rfl) (hpl : (backTo pos (starEach es X.env)).any (·.1) = false := by rfl) :
    PE X (.Call (.Name x p) (e :: es) [] pos) (tMake C sp [] E t) := by
  subst h1 h2 h3 h4 h5
  exact pe_make M F hr hg hm d.b .nil hx ha hdb he hpl
/-- o.m() on an instance of the class at C -/
theorem pe_m00 {pl : Sem Bool} {P : Program} {w : World} {K : PySem.W.Frag} {mg : Str → Option Value} {base : Heap} {CX : CXT} {m qual : Str} {st : Stmt} {C : Addr} {k : Nat} {ps : List Str} {sp : Sp} {E : XK} {o : Expr} {ta : TE} {apos pos : Pos} {nm : Str} (he : PE X o ta) (c : Cls K C) (d : Mf K nm qual st ps) (hm : Meth K C m d.f) (F : FnOk P w K mg base CX k d.f d.fd ps sp) (hr : Room k X.A) (hx : Passes CX X E)
    (h1 : X.prog = P := by rfl) (h2 : X.w = w := by rfl) (h3 : X.K = K := by rfl) (h4 : X.mg = mg := by rfl) (h5 : X.base = base := by rfl)
    (ht : eval (.Call (.Attribute o m apos) [] [] pos) X.env = (do
      let ov ← eval o X.env
      standAt apos.atName
      let (f, first) ← holding [ov] (getMethod ov m pl)
      callWith pos f first (backTo pos (starEach [] X.env)) (backToKw pos (keywordEach [] X.env))) := by rfl) :
    PE X (.Call (.Attribute o m apos) [] [] pos) (tMeth C m sp [] E ta tNil) := by
  subst h1 h2 h3 h4 h5
  exact pe_meth0 (pl := pl) he c hm F hr d.b .nil hx ht
end
end Fw

namespace Fw
open PySem PySem.Spec L2
section
open PySem.W PySem.Calls PyProof.Rows
variable {prog : Program} {w : World} {A : Around} {E : Value → Shared → Prop} {s : Shared} {K : PySem.W.Frag} {x D : Addr} {ox od : Obj}
/-- the class of a caught error that has a dict -/
theorem class_ofX {Q : Option Value → Shared → Prop} (T : ExcC K D) (X : K.In s.heap) (I : InstAt s.heap x ox D (some od)) (h : Q (some (.ref D)) { s with toks := s.toks + 1 }) : wpAny (model prog w) A (getAttr? (.ref x) "__class__") Q E s := by
  have hsome : (clsIn K D).isSome = true := by obtain ⟨c0, hc0, _⟩ := any_some T.hd; rw [hc0]; rfl
  have found : findObj K D (some od) "__class__" = some (.bind (.builtin "getset_descriptor.__get__") (.builtin "object.__class__")) := findObj_data hsome T.ha T.hn T.ht
  obtain ⟨hp, g, d, t, os⟩ := s
  have ly := I.type (M := model prog w)
  have lga := looks_findIn (M := model prog w) X T.hg
  have lgt := looks_findIn (M := model prog w) X T.hk
  have lfd := looks_find (M := model prog w) X I found
  have lsb : Looks (model prog w) hp (isInstance (.ref x) (.type "BaseException")) true := ly.andThen (looks_subIn X T.hs)
  have ne0 : (Value.builtin "BaseException.__getattribute__" == Value.builtin "object.__getattribute__") = false := by decide +kernel
  have nb0 : (onTheHeap (Value.ref D) && Value.builtin "BaseException.__getattribute__" == Value.builtin "object.__getattribute__") = false := by rw [ne0]; rfl
  unfold getAttr? getAttrBy? getAttrBy; refine wpAny_bind (wpAny_mkText (wpAny_bind (wpAny_attempt (wpAny_holding (wpAny_bind (ly.at (wpAny_bind (lga.at ?_))))))))
  show wpAny _ _ (if (onTheHeap (Value.ref D) && Value.builtin "BaseException.__getattribute__" == Value.builtin "object.__getattribute__") = true then _ else _) _ _ _; rw [nb0, if_neg Bool.false_ne_true]
  unfold getAttrByItsOwn hookBefore; refine wpAny_bind ?_; rw [if_pos (show onTheHeap (Value.ref D) = true from rfl)]
  refine lgt.at ?_; refine wpAny_bind (wpAny_attempt (wpAny_holding ?_))
  unfold callGetattribute boundAndCalled; rw [show (false && onTheHeap (Value.builtin "BaseException.__getattribute__")) = false from rfl, if_neg Bool.false_ne_true]
  rw [PySem.F.excAttr_ValueError.ga.bind (.ref x)]; refine wpAny_bind (wpAny_pure ?_)
  show wpAny _ _ (call (.builtin "BaseException.__getattribute__") [.ref x, .str "__class__" t]) _ _ _; refine wpAny_call (codeAny_call_builtin PySem.F.excAttr_ValueError.ga.plain PySem.F.entry_bexc_ga ?_)
  refine @check_slot (model prog w) _ _ ⟨hp, g, d, t + 1, os⟩ "BaseException.__getattribute__" "BaseException" "__getattribute__" (.ref x) [.str "__class__" t] [] _ (by decide +kernel) (by decide +kernel) lsb (PySem.F.args_bexc_ga (.ref x) (.str "__class__" t)) ?_
  unfold Builtin.«object.__getattribute__»; refine wpAny_bind (wpAny_of_eq (a := ((Value.ref x : Value), [Value.str "__class__" t])) (by first | rfl | (simp only [slotArgs]; rfl)) ?_)
  refine wpAny_bind (wpAny_pure (wpAny_bind (ly.at (wpAny_bind (lfd.at ?_)))))
  show wpAny _ _ (holding [Value.builtin "object.__class__"] (call (.builtin "getset_descriptor.__get__") [.builtin "object.__class__", .ref x, .ref D]) >>= ret) _ _ _
  refine wpAny_bind (wpAny_holding (wpAny_call (class_get (s := ⟨hp, g, d, t + 1, os⟩) (ox := ox) (od := some od) X I T.hm ?_))); refine wpAny_pure ?_
  show wpAny _ _ (handedOut (.ref D)) _ _ _; rw [handedOut_of (v := .ref D) rfl]
  first | exact wpAny_pure (wpAny_pure h) | exact wpAny_pure h | exact wpAny_pure (wpAny_bind (wpAny_pure (wpAny_pure h)))
theorem kitX (T : ExcC K D) : KitX K (.ref x) (.ref D) (fun h => InstAt h x ox D (some od)) where
  ty := fun _ _ _ I => I.type
  it := fun M h X _ => by
    obtain ⟨c0, hc0, _⟩ := any_some T.hd
    unfold clsIn at hc0; split at hc0
    · next ho =>
      intro A' Q' E' s' k q
      obtain ⟨h1, g1, d1, t1, o1⟩ := s'
      exact ks_wpAny_isType_cls (k _ _ (X _ _ ho)) rfl q
    · cases hc0
  ne := fun h tp dd its n sl X htp => by
    obtain ⟨c0, hc0, _⟩ := any_some T.hd
    unfold clsIn at hc0; split at hc0
    · next ho =>
      refine Bool.eq_false_iff.mpr fun q => ?_
      have e := Value.ref.inj (beq_iff_eq.mp q)
      rw [← e, X _ _ ho] at htp; cases htp
    · cases hc0
  ca := fun X I k => class_ofX T X I k
end
/-- isinstance(e, c), e the error that the suite holds, with its dict -/
def rIsX (K : PySem.W.Frag) (D a : Addr) (cls : Value) (d : Option Addr) : List V → Hp → VK → Prop := fun xs H Q => ∃ (c : V) (cv : Value) (b : Bool) (dd : Addr) (fs : List (Str × V)), xs = [.ref a, c] ∧ (∀ u, RelV c u → u = cv) ∧ cls = .ref D ∧ d = some dd ∧ H dd = some (.xd fs) ∧ PySem.W.kitOne K (.ref D) cv = some b ∧ Q (.bl b) H
theorem call_isX {X : Cx} {K : PySem.W.Frag} {a D : Addr} {oe : Obj} {cls : Value} {d : Option Addr} {pn : List (Addr × Obj)} (C : ExcC K D) (hz : Zc cls d oe) (hf : ∃ vs, oe.data = .fields vs) (hK : X.K = K := by rfl) : CallR (X.suite a ((a, oe) :: pn)) (.builtin "isinstance") (rIsX K D a cls d) := by
  subst hK
  intro pins s σ H xs us Q I r h
  obtain ⟨c, cv, b, dd, fs, rfl, hcv, rfl, rfl, hd, e, q⟩ := h
  obtain ⟨u1, u2, rfl, r1, r2⟩ := vals2 r
  cases r1
  have ec := hcv _ r2
  subst ec
  obtain ⟨hget, _⟩ := I.pin (a, oe) (List.mem_append.mpr (.inl List.mem_cons_self))
  obtain ⟨vs, hv⟩ := hf
  obtain ⟨mA, ⟨o0, es, ep, ho0, _⟩, _⟩ := (show ObjOk X.prog X.w H s.heap dd (.xd fs) from I.hok dd _ hd)
  have J : PySem.W.InstAt s.heap a oe D (some o0) := ⟨hget, hz.1, by unfold PySem.W.notCls; rw [hv] <;> rfl, by rw [hz.2]; exact ho0⟩
  exact PySem.W.kia_one (kitX C) I.kIn J e (fun z => nomatch z) fun tk => ⟨.bl b, H, I.kept (t' := tk) fun _ _ z => z, rfl, q⟩
/-- e.f in the suite -/
theorem kxf {X : Cx} {K : PySem.W.Frag} {a C : Addr} {oe : Obj} {cls : Value} {d : Option Addr} {pn : List (Addr × Obj)} {e : Expr} {te : TE} {pos : Pos} {n : Str} (T : XfC K C) (hno : PySem.W.findIn K (.ref C) n = some none) (hz : Zc cls d oe) (hf : ∃ vs, oe.data = .fields vs) (he : PE (X.suite a ((a, oe) :: pn)) e te) (hK : X.K = K := by rfl) (hb : attributeBase e n X.env (eval e X.env) = eval e X.env := by rfl) :
    PE (X.suite a ((a, oe) :: pn)) (.Attribute e n pos) (tXf a cls d C n te) := by
  subst hK
  exact pe_xf T hno hz hf he hb
namespace Rd
theorem xf {a : Addr} {cls : Value} {d : Option Addr} {C : Addr} {f : Str} {te : TE} {σ : St} {H : Hp} {Q : VK} (h : te σ H fun x H1 => x = .ref a ∧ cls = .ref C ∧ ∃ (dd : Addr) (fs : List (Str × V)) (v : V), d = some dd ∧ H1 dd = some (.xd fs) ∧ fs.lookup f = some v ∧ Q v H1) : tXf a cls d C f te σ H Q := h
end Rd
end Fw

namespace Fw
open PySem PySem.Spec L2
/-- try: .. except C as n: .. (nothing else leaves) -/
def tTryAs (K : PySem.W.Frag) (c : Value) (i : Nat) (tb : WX → TS) (ts : Addr → Value → Option Addr → TS) : TS := fun D σ H => tb (wAs K c i ts (fun _ _ _ _ => False) D) D σ H
section
variable {X : Cx} {x n : Str} {c : Value} {body suite : List Stmt} {b₀ : Stmt} {np pos pos' : Pos} {tb : WX → TS} {ts : Addr → Value → Option Addr → TS}
theorem ktry_as (K : PySem.W.Frag) (i : Nat) (hN : X.N.Nodup) (hc : Names X x c)
    (hb : ∀ (W : WX) (pn : List (Addr × Obj)) (xe : Value → Shared → Prop), Takes (X.tr pn xe) W → PassesOwn (model X.prog X.w) X.A X.env xe → PSs (X.tr pn xe) body (tb W))
    (hsu : ∀ (a : Addr) (oe : Obj) (cls : Value) (d : Option Addr) (pn : List (Addr × Obj)), Zc cls d oe → (∃ vs, oe.data = .fields vs) → PSs (X.suite a ((a, oe) :: pn)) (b₀ :: suite) (ts a cls d))
    (hK : X.K = K := by rfl) (hs : X.stack = X.env :: X.outer := by rfl) (hf : X.env.frame = some X.env.locals := by rfl) (hi : X.N[i]? = some n := by rfl) (hln : X.env.kindOf n = some .local := by rfl) :
    PS X (.Try body [.ExceptHandler (some (.Name x np)) (some n) (b₀ :: suite) pos'] [] [] pos) (tTryAs K c i tb ts) := by
  subst hK
  exact ps_try_as hs hf hN hi hln hc takes0 hb hsu
/-- a call within a try's body -/
theorem pe_cfS {P : Program} {w : World} {K : PySem.W.Frag} {mg : Str → Option Value} {base : Heap} {nm q : Str} {st : Stmt} {ps : List Str} {k : Nat} {sp : Sp} {W : WX} {e : Expr} {es : List Expr} {t : TA} {p pos : Pos} (d : Df K mg nm q st ps) (F : FnOk P w K mg base (L2.CX P w) k d.f d.fd ps sp) (hr : Room k X.A) (tk : Takes X W)
    (ha : PA X (e :: es) t) (h1 : X.prog = P := by rfl) (h2 : X.w = w := by rfl) (h3 : X.K = K := by rfl) (h4 : X.mg = mg := by rfl) (h5 : X.base = base := by rfl) (hg : Gl X nm := by rfl) (hd : (nm == ("__debug__" : Str)) = false := by decide) (he : starEach (e :: es) X.env = (false, eval e X.env) :: starEach es X.env := by rfl) (hpl : (backTo pos (starEach es X.env)).any (·.1) = false := by rfl) :
    PE X (.Call (.Name nm p) (e :: es) [] pos) (tCallS sp (WE W) t) := by
  subst h1 h2 h3 h4 h5
  exact pe_callS F hr hg d.g d.F.kp d.b (fun σ => passAt tk σ) ha hd he hpl
end
namespace Rd
variable {K : PySem.W.Frag} {σ : St} {H : Hp} {Q : VK} {N : St → Hp → Prop} {r : VK} {bk ct : St → Hp → Prop}
theorem tryAs {c : Value} {i : Nat} {tb : WX → TS} {ts : Addr → Value → Option Addr → TS} (h : tb (wAs K c i ts (fun _ _ _ _ => False) (Ends.mk N r bk ct)) (Ends.mk N r bk ct) σ H) : tTryAs K c i tb ts (Ends.mk N r bk ct) σ H := h
theorem callS {sp : Sp} {E : St → XK} {t : TA} (h : t σ H fun vs H1 => sp vs H1 Q (E σ)) : tCallS sp E t σ H Q := h
/-- the clause takes it -/
theorem wAs_yes {c cls : Value} {d : Option Addr} {i : Nat} {ts : Addr → Value → Option Addr → TS} {Wo : WX} (te : PySem.W.exmOne K cls c = some true) (h : ∀ a, H a = none → ts a cls d (Ends.mk (fun σ' H' => N (σ'.set i none) H') r (fun σ' H' => bk (σ'.set i none) H') (fun σ' H' => ct (σ'.set i none) H')) (σ.set i (some (.ref a))) H) :
    WE (wAs K c i ts Wo (Ends.mk N r bk ct)) σ cls d H := ⟨true, te, fun _ a ha => h a ha, fun q => nomatch q⟩
theorem isX {D a dd : Addr} {cls cv : Value} {d : Option Addr} {c : V} {b : Bool} {fs : List (Str × V)} (hc : ∀ u, RelV c u → u = cv) (e1 : cls = .ref D) (e2 : d = some dd) (hd : H dd = some (.xd fs)) (e : PySem.W.kitOne K (.ref D) cv = some b) (q : Q (.bl b) H) : rIsX K D a cls d [.ref a, c] H Q := ⟨c, cv, b, dd, fs, rfl, hc, e1, e2, hd, e, q⟩
theorem isi {x c : V} {t u : Value} {b : Bool} (k : ClsV c u) (ty : TyX K H x t) (e : PySem.W.kitOne K t u = some b) (q : Q (.bl b) H) : rIsi K [x, c] H Q := ⟨x, c, t, u, b, rfl, k, ty, e, q⟩
end Rd
end Fw
namespace Fw
open PySem PySem.Spec L2
/-! ### lists and tuples of numbers, bools and texts, compared -/
def okV : V → Bool
  | .non => true
  | .bl _ => true
  | .int _ => true
  | .str x => PyData.canLay0 (.str x)
  | _ => false
def dOf : V → PyData
  | .bl b => .bool b
  | .int i => .int i
  | .str x => .str x
  | _ => .none
section
variable {K : PySem.W.Frag} {H : Hp} {Q : VK} {a b : Addr} {xs : List V}
theorem dp_all : ∀ {xs : List V}, xs.all okV = true → DpAll K H xs (xs.map dOf)
  | [], _ => .nil
  | x :: xs, h => by
    rw [List.all_cons, Bool.and_eq_true] at h
    refine .cons ?_ (dp_all h.2)
    cases x with
    | non => exact .non
    | bl b => exact .bl b
    | int i => exact .int i
    | str x => exact .str x
    | byt _ => exact Bool.noConfusion h.1
    | flt _ => exact Bool.noConfusion h.1
    | ref _ => exact Bool.noConfusion h.1
    | ty _ => exact Bool.noConfusion h.1
theorem can_all : ∀ {xs : List V}, xs.all okV = true → PyData.canLayAll0 (xs.map dOf) = true
  | [], _ => rfl
  | x :: xs, h => by
    rw [List.all_cons, Bool.and_eq_true] at h
    show (PyData.canLay0 (dOf x) && PyData.canLayAll0 (xs.map dOf)) = true
    rw [can_all h.2, Bool.and_true]
    cases x with
    | str x => exact h.1
    | _ => first | rfl | exact Bool.noConfusion h.1
theorem depth_all : ∀ xs : List V, PyData.depthAll (xs.map dOf) = 0
  | [] => rfl
  | x :: xs => by
    show max (PyData.depth (dOf x)) (PyData.depthAll (xs.map dOf)) = 0
    rw [depth_all xs]
    cases x <;> rfl
theorem shL (h : xs.all okV = true) : SeqAt.shaped (.list (xs.map dOf)) = true := by
  show (PyData.canLayAll0 (xs.map dOf) && decide (PyData.depthAll (xs.map dOf) + 1 ≤ 64)) = true
  rw [can_all h, depth_all]; rfl
theorem shT (h : xs.all okV = true) : SeqAt.shaped (.tuple (xs.map dOf)) = true := by
  show (PyData.canLayAll0 (xs.map dOf) && decide (PyData.depthAll (xs.map dOf) + 1 ≤ 64)) = true
  rw [can_all h, depth_all]; rfl
theorem reflL (h : xs.all okV = true) : PyData.eqv (.list (xs.map dOf)) (.list (xs.map dOf)) = true := SeqAt.eqv_refl _ (can_all h)
theorem reflT (h : xs.all okV = true) : PyData.eqv (.tuple (xs.map dOf)) (.tuple (xs.map dOf)) = true := SeqAt.eqv_refl _ (can_all h)
namespace Rd
theorem eqLs (h1 : SqL K H a xs) (h2 : SqL K H b xs) (h : xs.all okV = true) (q : Q (.bl true) H) : rEqA K (.ref a) (.ref b) H Q := Rd.eqD (.lst h1 (dp_all h)) (.lst h2 (dp_all h)) (shL h) (shL h) (by rw [reflL h]; exact q)
theorem neLs (h1 : SqL K H a xs) (h2 : SqL K H b xs) (h : xs.all okV = true) (q : Q (.bl false) H) : rNeA K (.ref a) (.ref b) H Q := Rd.neD (.lst h1 (dp_all h)) (.lst h2 (dp_all h)) (shL h) (shL h) (by rw [reflL h]; exact q)
theorem eqTs (h1 : SqT K H a xs) (h2 : SqT K H b xs) (h : xs.all okV = true) (q : Q (.bl true) H) : rEqA K (.ref a) (.ref b) H Q := Rd.eqD (.tup h1 (dp_all h)) (.tup h2 (dp_all h)) (shT h) (shT h) (by rw [reflT h]; exact q)
theorem neTs (h1 : SqT K H a xs) (h2 : SqT K H b xs) (h : xs.all okV = true) (q : Q (.bl false) H) : rNeA K (.ref a) (.ref b) H Q := Rd.neD (.tup h1 (dp_all h)) (.tup h2 (dp_all h)) (shT h) (shT h) (by rw [reflT h]; exact q)
theorem iteBT {b : Bool} {A B : Prop} (hb : b = true) (h : A) : if b = true then A else B := by rw [if_pos hb]; exact h
theorem iteBF {b : Bool} {A B : Prop} (hb : b = false) (h : B) : if b = true then A else B := by rw [hb, if_neg Bool.false_ne_true]; exact h
theorem iteDT {c A B : Prop} [Decidable c] (hc : c) (h : A) : if decide c = true then A else B := by rw [decide_eq_true hc, if_pos rfl]; exact h
theorem iteDF {c A B : Prop} [Decidable c] (hc : ¬ c) (h : B) : if decide c = true then A else B := by rw [decide_eq_false hc, if_neg Bool.false_ne_true]; exact h
theorem iteNDT {c A B : Prop} [Decidable c] (hc : c) (h : B) : if (!decide c) = true then A else B := by rw [decide_eq_true hc]; exact h
theorem iteNDF {c A B : Prop} [Decidable c] (hc : ¬ c) (h : A) : if (!decide c) = true then A else B := by rw [decide_eq_false hc]; exact h
end Rd
end
/-- o.m(), by the facts -/
theorem pe_m0g {X : Cx} {pl : Sem Bool} {P : Program} {w : World} {K : PySem.W.Frag} {mg : Str → Option Value} {base : Heap} {CX : CXT} {m : Str} {C f : Addr} {fd : FuncData} {k : Nat} {ps : List Str} {sp : Sp} {E : XK} {o : Expr} {ta : TE} {apos pos : Pos} (he : PE X o ta) (c : Cls K C) (hm : Meth K C m f) (F : FnOk P w K mg base CX k f fd ps sp) (hr : Room k X.A) (hx : Passes CX X E) (hb : Binds K fd ps [])
    (h1 : X.prog = P := by rfl) (h2 : X.w = w := by rfl) (h3 : X.K = K := by rfl) (h4 : X.mg = mg := by rfl) (h5 : X.base = base := by rfl)
    (ht : eval (.Call (.Attribute o m apos) [] [] pos) X.env = (do let ov ← eval o X.env; standAt apos.atName; let (f, first) ← holding [ov] (getMethod ov m pl); callWith pos f first (backTo pos (starEach [] X.env)) (backToKw pos (keywordEach [] X.env))) := by rfl) :
    PE X (.Call (.Attribute o m apos) [] [] pos) (tMeth C m sp [] E ta tNil) := by
  subst h1 h2 h3 h4 h5
  exact pe_meth0 (pl := pl) he c hm F hr hb .nil hx ht
end Fw

namespace Fw
open PySem PySem.Spec L2
/-- one expression, read in one of several ways (an object of one of several classes) -/
def tAltN (n : Nat) (t : Nat → TE) : TE := fun σ H Q => ∃ m, m < n ∧ t m σ H Q
theorem pe_altN {X : Cx} {e : Expr} {n : Nat} {t : Nat → TE} (h : ∀ m, m < n → PE X e (t m)) : PE X e (tAltN n t) := ⟨fun pins s σ H Q I ⟨m, hm, q⟩ => (h m hm).run pins s σ H Q I q⟩
theorem Rd.alt {n m : Nat} {t : Nat → TE} {σ : St} {H : Hp} {Q : VK} (hm : m < n) (h : t m σ H Q) : tAltN n t σ H Q := ⟨m, hm, h⟩
end Fw

set_option Elab.async false
set_option linter.all false
set_option maxRecDepth 100000
set_option maxHeartbeats 4000000
/-! more readings: enumerate, two for, two except clauses -/
namespace Fw
open PySem PySem.Spec L2
section
variable {X : Cx} (K : PySem.W.Frag)
theorem kenum {e : Expr} {ta : TA} {p pos tpos : Pos} {elts : List Expr} {kk : Nat} (hm : X.mg "enumerate" = none) (ha : PA X [e] ta) (h : X.K = K := by rfl) (hg : Gl X "enumerate" := by rfl) (hs : starEach [e] X.env = [(false, eval e X.env)] := by rfl) :
    PI X (.Tuple elts kk tpos) (.Call (.Name "enumerate" p) [e] [] pos) (iEnum K ta) := by subst h; exact pi_enum hg hm ha hs
theorem kgt2 {e1 e2 : Expr} {k : Nat} {t1 t2 : TG} {pos : Pos} (h1 : PG X e1 t1) (h2 : PG X e2 t2) (hc : X.calm = true := by rfl) (h : X.K = K := by rfl) (hn : (assignEach [e1, e2] X.env).length = 2 := by rfl) (hst : (assignEach [e1, e2] X.env).findIdx? (·.1) = none := by rfl)
    (hs : (assignEach [e1, e2] X.env).map (·.2) = assign e1 X.env :: (assignEach [e2] X.env).map (·.2) := by rfl) (hs2 : (assignEach [e2] X.env).map (·.2) = assign e2 X.env :: (assignEach [] X.env).map (·.2) := by rfl) :
    PG X (.Tuple [e1, e2] k pos) (gTup K 2 (gCons t1 (gCons t2 gNil))) := by
  subst h; exact pg_tup hc (pgs_cons h1 (pgs_cons h2 pgs_nil hs2) hs) hn hst
end
/-- what is left of a comprehension with two for -/
def Lc2Go (J : It) (g : TG) (tt : TT) (wi1 : TI) (g1 : TG) (tt1 : TT) (te : TE) (vs vs1 : List Nat) (σ : St) (H1 : Hp) (Q : VK) : Prop := tLc2 (fun _ H R => R J H) g tt wi1 g1 tt1 te vs vs1 σ H1 Q
namespace Rd
variable {K : PySem.W.Frag} {σ : St} {H : Hp} {Q : VK} {te tl tl1 : TE} {ta : TA} {tt tt1 : TT} {g g1 : TG} {wi1 : TI} {vs vs1 : List Nat} {tb : TS} {D : Ends} {J : It} {n : Nat}
theorem foE (h : ta σ H fun us H1 => ∃ a, us = [.ref a] ∧ (∃ xs, SqL K H1 a xs) ∧ FoGo (Ite K a) g tb D σ H1) : tFor (iEnum K ta) g tb D σ H := by
  unfold tFor iEnum
  have e : (fun us H1 => ∃ a, us = [V.ref a] ∧ (∃ xs, SqL K H1 a xs) ∧ FoGo (Ite K a) g tb D σ H1) = fun us H1 => ∃ a xs, us = [V.ref a] ∧ SqL K H1 a xs ∧ FoGo (Ite K a) g tb D σ H1 := by
    funext us H1
    exact propext ⟨fun ⟨a, e, ⟨xs, h⟩, k⟩ => ⟨a, xs, e, h, k⟩, fun ⟨a, xs, e, h, k⟩ => ⟨a, e, ⟨xs, h⟩, k⟩⟩
  rw [e] at h
  exact h
theorem exlist1 {a : Addr} {xs : List V} {P : Addr → Prop} (hs : SqL K H a xs) (h : P a) : ∃ b, [V.ref a] = [.ref b] ∧ (∃ xs, SqL K H b xs) ∧ P b := ⟨a, rfl, ⟨xs, hs⟩, h⟩
/-- for i, x in enumerate(xs) -/
theorem foP {a : Addr} {xs : List V} {s1 s2 : Nat} {N : St → Hp → Prop} {r : VK} {bk ct : St → Hp → Prop} (Pv : Nat → St → Hp → Prop) (h0 : Pv 0 σ H) (hG : ∀ i σ H, i ≤ xs.length → Pv i σ H → SqL K H a xs)
    (step : ∀ i x σ H T, i < xs.length → xs[i]? = some x → Pv i σ H → H T = none → tb (Ends.mk (Pv (i + 1)) r N (Pv (i + 1))) ((σ.set s1 (some (.int (i : Nat)))).set s2 (some x)) (upd H T (.tup [.int (i : Nat), x]))) (fin : ∀ σ H, Pv xs.length σ H → N σ H) :
    FoGo (Ite K a) (gTup K 2 (gCons (gName s1) (gCons (gName s2) gNil))) tb (Ends.mk N r bk ct) σ H :=
  for_it walk_enum Pv h0 hG (fun i v σ H H' hi p ⟨T, y, x, e1, e2, e3, e4, e5⟩ => by
    cases e4; subst e1; subst e3
    exact ⟨T, _, rfl, SqT.of upd_same, rfl, _, _, rfl, _, _, rfl, rfl, step i x σ H T hi e5 p e2⟩) fin
theorem lc2L (h : tl σ H fun x H1 => ∃ a, x = .ref a ∧ (∃ xs, SqL K H1 a xs) ∧ Lc2Go (Itl K a) g tt wi1 g1 tt1 te vs vs1 σ H1 Q) : tLc2 (iList K tl) g tt wi1 g1 tt1 te vs vs1 σ H Q := h
/-- [e for x in xs for y in ys if t]: Jv by the two turns, items made and heap -/
theorem lc2W {s s1 : Nat} {a b : Addr} {xs ys : List V} (hss : s ≠ s1) (hn : xs.length * ys.length < sizeLine) (Jv : Nat → Nat → List V → Hp → Prop) (h0 : Jv 0 0 [] H)
    (hst : ∀ D, H D = none → ∀ i j acc zs H', (∀ a o, H' a = some (.tup o) → a ≠ D) → Jv i j acc H' → Jv i j acc (upd H' D (.lst zs))) (hG : ∀ i j acc H', Jv i j acc H' → SqL K H' a xs ∧ SqL K H' b ys)
    (hin : ∀ x H', tl1 (((σ.set s1 none).set s none).set s (some x)) H' fun z H1 => z = .ref b ∧ H1 = H') (hmono : ∀ (σ : St) (H : Hp) (Q R : VK), (∀ v H, Q v H → R v H) → tl1 σ H Q → tl1 σ H R)
    (hend : ∀ i acc H', i < xs.length → Jv i ys.length acc H' → Jv (i + 1) 0 acc H')
    (step : ∀ D, H D = none → ∀ i j x y acc H', xs[i]? = some x → ys[j]? = some y → H' D = some (.lst acc) → Jv i j acc H' → ∀ (Kt : V → Hp → Prop) (Kf : Hp → Prop), (∀ z H4, H4 D = some (.lst acc) → Jv i (j + 1) (acc ++ [z]) H4 → Kt z H4) → (∀ H3, H3 D = some (.lst acc) → Jv i (j + 1) acc H3 → Kf H3) →
      tt1 ((((σ.set s1 none).set s none).set s (some x)).set s1 (some y)) H' fun c H3 => if c = true then te ((((σ.set s1 none).set s none).set s (some x)).set s1 (some y)) H3 Kt else Kf H3)
    (fin : ∀ D acc H', H D = none → H' D = some (.lst acc) → acc.length ≤ xs.length * ys.length → Jv xs.length 0 acc H' → Q (.ref D) H') :
    Lc2Go (Itl K a) (gName s) tYes (iList K tl1) (gName s1) tt1 te [s, s1] [s1] σ H Q := by
  intro D hD
  refine ⟨fun i m H' => m = xs.length - i ∧ i ≤ xs.length ∧ ∃ acc, H' D = some (.lst acc) ∧ acc.length ≤ i * ys.length ∧ Jv i 0 acc H', ⟨_, rfl, Nat.zero_le _, [], upd_same, Nat.zero_le _, hst D hD _ _ _ _ _ (fun a o e z => by rw [z, hD] at e; cases e) h0⟩, ?_⟩
  rintro i m H' ⟨rfl, hi, acc, a1, a2, a3⟩
  rcases Nat.lt_or_ge i xs.length with lt | ge
  · refine .inr ⟨⟨xs, xs[i], (hG _ _ _ _ a3).1, List.getElem?_eq_getElem lt⟩, fun H'' => i + 1 ≤ xs.length ∧ ∃ acc, H'' D = some (.lst acc) ∧ acc.length ≤ (i + 1) * ys.length ∧ Jv (i + 1) 0 acc H'', fun H'' q => ⟨xs.length - (i + 1), by omega, rfl, q.1, q.2⟩, ?_⟩
    rintro x H2 ⟨rfl, hx⟩
    have hx' := hx xs (hG _ _ _ _ a3).1
    have w0 : wipe σ [s, s1] = (σ.set s1 none).set s none := rfl
    rw [w0]
    refine ⟨?_, ?_⟩
    · show ((((σ.set s1 none).set s none).set s (some x)).set s1 none).set s none = (σ.set s1 none).set s none
      rw [List.set_set, List.set_comm (some x) none hss, List.set_set, List.set_set]
    · show tl1 _ _ _
      refine hmono _ _ _ _ (fun z H1 ⟨e1, e2⟩ => ?_) (hin x _)
      subst e1 e2
      refine ⟨b, rfl, ⟨ys, (hG _ _ _ _ a3).2⟩, ?_⟩
      refine ⟨fun j k H'' => k = ys.length - j ∧ j ≤ ys.length ∧ ∃ acc, H'' D = some (.lst acc) ∧ acc.length ≤ i * ys.length + j ∧ Jv i j acc H'', ⟨_, rfl, Nat.zero_le _, acc, a1, a2, a3⟩, ?_⟩
      rintro j k H'' ⟨rfl, hj, acc, b1, b2, b3⟩
      rcases Nat.lt_or_ge j ys.length with lt1 | ge1
      · refine .inr ⟨⟨ys, ys[j], (hG _ _ _ _ b3).2, List.getElem?_eq_getElem lt1⟩, fun H3 => j + 1 ≤ ys.length ∧ ∃ acc, H3 D = some (.lst acc) ∧ acc.length ≤ i * ys.length + (j + 1) ∧ Jv i (j + 1) acc H3, fun H3 q => ⟨ys.length - (j + 1), by omega, rfl, q.1, q.2⟩, ?_⟩
        rintro y H3 ⟨rfl, hy⟩
        have hy' := hy ys (hG _ _ _ _ b3).2
        have w1 : wipe ((((σ.set s1 none).set s none).set s (some x))) [s1] = ((σ.set s1 none).set s none).set s (some x) := by
          show (((σ.set s1 none).set s none).set s (some x)).set s1 none = _
          rw [List.set_set, List.set_comm (some x) none hss, List.set_set]
        rw [w1]
        refine ⟨?_, ?_⟩
        · show ((((σ.set s1 none).set s none).set s (some x)).set s1 (some y)).set s1 none = _
          rw [List.set_set]
          exact w1
        · have lt2 : i * ys.length + j < xs.length * ys.length := Nat.lt_of_lt_of_le (show i * ys.length + j < (i + 1) * ys.length by rw [Nat.succ_mul]; omega) (Nat.mul_le_mul_right _ lt)
          refine step D hD i j x y acc _ hx' hy' b1 b3 _ _ (fun z H4 c1 c2 => ⟨acc, c1, by omega, lt1, acc ++ [z], upd_same, by rw [List.length_append, List.length_singleton]; omega, hst D hD _ _ _ _ _ (fun a o e z => by rw [z, c1] at e; cases e) c2⟩) fun H3 c1 c2 => ⟨lt1, acc, c1, by omega, c2⟩
      · have ej : j = ys.length := by omega
        subst ej
        exact .inl ⟨⟨ys, (hG _ _ _ _ b3).2, Nat.le_refl _⟩, lt, acc, b1, by rw [Nat.succ_mul]; exact b2, hend i acc _ lt b3⟩
  · have ei : i = xs.length := by omega
    subst ei
    exact .inl ⟨⟨xs, (hG _ _ _ _ a3).1, Nat.le_refl _⟩, fin D acc _ hD a1 a2 a3⟩
end Rd
end Fw

set_option Elab.async false
set_option linter.all false
set_option maxRecDepth 100000
set_option maxHeartbeats 4000000
/-! a set made of a list, whatever its items: one item after another -/
namespace Sets
open PySem PySem.Spec PyProof.Rows
/-- the set that is under way at S: J i h, it holds the first i items -/
structure Grows (P : Program) (w : World) (B : Around) (S : Addr) (n : Nat) (Pv : Nat → Value → Prop) (wr : List Addr) (J : Nat → Heap → Prop) : Prop where
  keep : ∀ {i : Nat} {h h' : Heap}, J i h → (∀ b o, b ∉ wr → h.get? b = some o → h'.get? b = some o) → J i h'
  add : ∀ {i : Nat} {v : Value} {s : Shared} {E : Value → Shared → Prop} {Q : Bool → Shared → Prop}, i < n → Pv i v → J i s.heap →
    (∀ (b : Bool) (h' : Heap) (tk : Nat), s.toks ≤ tk → Heap.SameBut S s.heap h' → J (i + 1) h' → Q b { s with heap := h', toks := tk }) → wpAny (model P w) B (setAdd S v) Q E s
section
variable {P : Program} {w : World} {A : Around} {R : Result → Shared → Prop} {I S : Addr} {fp wr : List Addr} {G : Array GenState → Array GenState → Prop} {n : Nat} {Pv : Nat → Value → Prop} {St : Nat → Shared → Prop} {J : Nat → Heap → Prop}
theorem grow_loop (W : WalksS P w A.in1 I fp wr G n Pv St) (hS : S ∉ fp) (g : Grows P w A.in1 S n Pv wr J) (d : Nat) :
    ∀ (i : Nat) (s : Shared), i + d = n → St i s → J i s.heap → (∀ z, Moved (S :: wr) G s z → J n z.heap → R (.ok (.ret .none)) z) → codeAny (model P w) A (.builtin "set.update.loop" ⟨[.ref S, .ref I], []⟩) R s := by
  have more : ∀ b, b ∈ wr → b ∈ S :: wr := fun b m => List.mem_cons.mpr (.inr m)
  induction d with
  | zero =>
    intro i s e st j k
    have e' : i = n := e
    subst e'
    refine codeAny_builtin F.entry_set_update_loop ?_; rw [Around.under_plainId F.plain_set_update_loop _]
    refine wpAny_bind (m := pyNext (.ref I)) (W.done s _ _ st fun z mv => ?_)
    exact wpAny_pure (M := model P w) (k z (mv.mono more) (g.keep j fun b o nb q => mv.heap b o nb q))
  | succ d ih =>
    intro i s e st j k
    refine codeAny_builtin F.entry_set_update_loop ?_; rw [Around.under_plainId F.plain_set_update_loop _]
    refine wpAny_bind (m := pyNext (.ref I)) (W.item i s _ _ (by omega) st fun v z pv st' mv => ?_)
    refine wpAny_bind (m := holding [v] (setAdd S v)) (wpAny_holding (g.add (by omega) pv (g.keep j fun b o nb q => mv.heap b o nb q) fun r h' tk ht sb j' => ?_))
    have far : ∀ b, b ≠ S → ∀ o, z.heap.get? b = some o → h'.get? b = some o := fun b nb o q => (sb.2 b nb).trans q
    refine wpAny_pure ⟨plainId_quiet F.plain_set_update_loop _, ih (i + 1) _ (by omega) (W.frame _ z _ _ st' ht fun b m o q => far b (fun x => hS (x ▸ m)) o q) j' fun z' mv' j'' => ?_⟩
    exact k z' (Moved.trans W.gtrans ((mv.mono more).then_heap ht fun b o nb q => far b (fun x => nb (x ▸ List.mem_cons_self)) o q) mv') j''
end
/-- a set just made -/
abbrev newSet0 (led : Bool) : Obj := { cls := .type "set", dict := none, data := .set #[] 0 (.fresh 0 0 led) }
section
variable {P : Program} {w : World} {A : Around} {E : Value → Shared → Prop} {s : Shared} {J : Nat → Heap → Prop} {l : Addr} {items : Array Value} {Q : Value → Shared → Prop}
/-- set(xs), xs a list -/
theorem set_of (hh : A.handled = none) (hl : s.heap.IsList l items) (h0 : ∀ led : Bool, (w.params.followText "set-order" = true ∨ led = true) → J 0 (s.heap.push (newSet0 led)))
    (g : Grows P w A.in1.in1.in1 s.heap.objs.size items.size (fun i v => items[i]? = some v) [s.heap.objs.size + 1] J)
    (k : ∀ (h' : Heap) (tk : Nat), J items.size h' → (∀ b o, b < s.heap.objs.size → s.heap.get? b = some o → h'.get? b = some o) → Q (.ref s.heap.objs.size) { s with heap := h', toks := tk }) :
    wpAny (model P w) A (call (.type "set") [.ref l]) Q E s := by
  obtain ⟨c, tl, q_mro⟩ := PySem.F.called_set.mro
  have q_made := PySem.F.called_set.made
  have q_sub := PySem.F.called_set.sub; have q_nt := PySem.F.called_set.notType
  have q_can := PySem.F.called_set.canCreate; have q_tc := PySem.F.typeCall_set_1 (.ref l)
  refine wpAny_call (codeAny_of_tree ?_)
  refine wpAny_pure (M := model P w) ⟨Code.quiet_builtin _ (by decide +kernel), codeAny_builtin PySem.F.entry_type_call ?_⟩
  rw [Around.under_plain (weight_type_call_type "set" [.ref l] []) rfl]
  repeat (any_goals (first | assumption | wp_step))
  refine codeAny_mono (L2.code_set_led1 (.ref l) (E := E) (Q₁ := fun x z => ∃ led : Bool, (w.params.followText "set-order" = true ∨ led = true) ∧ x = .ref s.heap.objs.size ∧ z = { s with heap := s.heap.push (newSet0 led) }) ⟨_, by cases w.params.followText "set-order" <;> simp, rfl, rfl⟩) fun r s₁ hr => ?_
  match r, hr with
  | .error e, hr => exact hr
  | .ok (.ret obj), hr =>
    obtain ⟨led, hled, rfl, rfl⟩ := hr
    have q_at : (s.heap.push (newSet0 led)).get? s.heap.objs.size = some (newSet0 led) := Heap.get?_push_size _ rfl
    have q_ty : Shared.TypeIs { s with heap := s.heap.push (newSet0 led) } (.ref s.heap.objs.size) "set" := ⟨_, q_at, rfl⟩
    have q_il := PySem.F.called_set.init.lookup
    have q_ib := PySem.F.called_set.init.bind (.ref s.heap.objs.size)
    repeat (any_goals (first | assumption | wp_step))
    refine codeAny_mono (codeAny_call_builtin (R := wants (fun x z => x = .none ∧ ∃ h' tk, z = { s with heap := h', toks := tk } ∧ J items.size h' ∧ (∀ b o, b < s.heap.objs.size → s.heap.get? b = some o → h'.get? b = some o)) E)
      PySem.F.called_set.init.plain PySem.F.entry_set_init (check_set_init_1 q_ty ?_)) fun r₂ s₂ hr₂ => ?_
    · obtain ⟨⟨oc, od, oD, os⟩, q_ol, q_c, q_n, q_d⟩ := hl
      simp only at q_c q_d
      subst q_c; subst q_d
      have q_ol' : (s.heap.push (newSet0 led)).get? l = some ⟨.type "list", od, .seq items q_n, os⟩ := Heap.get?_push_of_some _ q_ol
      have q_s1 := PySem.F.sub_list_set; have q_s2 := PySem.F.sub_list_frozenset
      have q_ne : (Value.type "list" == Value.type "dict") = false := by decide
      have q_il2 : (s.heap.push (newSet0 led)).IsList l items := ⟨_, q_ol', rfl, q_n, rfl⟩
      unfold Builtin.«set.__init__» noKeywords Builtin.Frozenset.updateFrom
      generalize q_pi : pyIter = PI
      wp_walk
      subst q_pi
      refine wpAny_pyIter_list q_il2 ?_; refine wpAny_bind (wpAny_runValue ?_)
      have lt : l < s.heap.objs.size := Heap.lt_size q_ol
      have z1 : (s.heap.push (newSet0 led)).objs.size = s.heap.objs.size + 1 := Heap.size_push ..
      have n1 : l ≠ s.heap.objs.size + 1 := Nat.ne_of_lt (Nat.lt_succ_of_lt lt)
      have n2 : ¬ s.heap.objs.size = s.heap.objs.size + 1 := Nat.ne_of_lt (Nat.lt_succ_self _)
      have n3 : ¬ s.heap.objs.size = l := Nat.ne_of_gt lt
      have far1 : ∀ b o, s.heap.get? b = some o → ((s.heap.push (newSet0 led)).push { cls := .type "list_iterator", data := .fields #[.ref l, .int 0 0] }).get? b = some o := fun b o e => Heap.get?_push_of_some _ (Heap.get?_push_of_some _ e)
      refine grow_loop ((Walks.list (I := (s.heap.push (newSet0 led)).objs.size) (by simp [hh]) l (z1.symm ▸ n1) items).toS) (S := s.heap.objs.size) (z1.symm ▸ fun m => (List.mem_cons.mp m).elim n2 fun m => n3 (List.mem_singleton.mp m)) (z1.symm ▸ g) items.size 0 _ (by omega)
        ⟨⟨_, Heap.get?_push_size _ rfl, rfl, rfl⟩, q_il2.push _⟩ (g.keep (h0 led hled) fun b o _ e => Heap.get?_push_of_some _ e) fun z mv j => ?_
      obtain ⟨h', g', d', tk', os'⟩ := z
      have eg : g' = s.gens := mv.gens
      have ed : d' = s.drawn := mv.drawn
      have eo : os' = s.os := mv.os
      subst eg ed eo
      show wpAny _ _ _ _ _ _
      refine wpAny_pure ?_
      refine wpAny_pure (M := model P w) ⟨rfl, h', tk', rfl, j, fun b o lb e => mv.heap b o (fun m => ?_) (far1 b o e)⟩
      have lb' : ∀ c, s.heap.objs.size ≤ c → b ≠ c := fun c q => Nat.ne_of_lt (Nat.lt_of_lt_of_le lb q)
      rcases List.mem_cons.mp m with e1 | e1
      · exact lb' _ (Nat.le_refl _) e1
      · exact lb' _ (by rw [z1]; exact Nat.le_succ _) (List.mem_singleton.mp e1)
    · match r₂, hr₂ with
      | .error e, hr₂ => exact hr₂
      | .ok (.ret x), hr₂ =>
        obtain ⟨rfl, h', tk, rfl, j, kp⟩ := hr₂
        repeat (any_goals (first | assumption | wp_step))
        exact k _ _ j kp
      | .ok .next, hr₂ => exact hr₂.elim
end
end Sets

set_option Elab.async false
set_option linter.all false
set_option maxRecDepth 100000
set_option maxHeartbeats 4000000
/-! len(set(xs)), xs a list of texts -/
namespace Sets
open PySem PySem.Spec PyProof.Rows L2
/-- the set at S holds the first i texts -/
def HasT (P : Program) (w : World) (S : Addr) (xs : List Str) (i : Nat) (h : Heap) : Prop :=
  ∃ m, h.SetOf (strKind P w) S (fun k => (xs.take i).any (· == k)) m ∧ m ≤ i ∧ (m = i ↔ (xs.take i).Nodup)
theorem any_next {xs : List Str} {i : Nat} {x : Str} (hx : xs[i]? = some x) (k : Str) : ((xs.take i).any (· == k) || decide (k = x)) = (xs.take (i + 1)).any (· == k) := by
  rw [List.take_add_one, hx, List.any_append]
  congr 1
  show decide (k = x) = ((x == k) || false)
  rw [Bool.or_false]
  by_cases e : k = x
  · subst e; simp
  · rw [decide_eq_false e]; exact (beq_eq_false_iff_ne.mpr fun q => e q.symm).symm
theorem nodup_next {xs : List Str} {i : Nat} {x : Str} (hx : xs[i]? = some x) : (xs.take (i + 1)).Nodup ↔ (xs.take i).Nodup ∧ (xs.take i).any (· == x) = false := by
  rw [List.take_add_one, hx]
  show (xs.take i ++ [x]).Nodup ↔ _
  rw [List.nodup_append]
  constructor
  · rintro ⟨a, _, c⟩
    exact ⟨a, List.any_eq_false.mpr fun y hy e => c y hy x (List.mem_singleton.mpr rfl) (eq_of_beq e)⟩
  · rintro ⟨a, b⟩
    refine ⟨a, by simp, fun y hy z hz e => ?_⟩
    have := List.any_eq_false.mp b y hy
    rw [List.mem_singleton] at hz
    subst e hz
    exact this (beq_self_eq_true _)
theorem grows_texts {P : Program} {w : World} {B : Around} {S I : Addr} {xs : List Str} {n : Nat} {Pv : Nat → Value → Prop} (hn : n ≤ xs.length) (hb : xs.length ≤ 4000) (hSI : S ≠ I) (hv : ∀ i v, Pv i v → ∃ t, v = .str (xs.getD i Str.empty) t) : Grows P w B S n Pv [I] (HasT P w S xs) where
  keep := fun {i h h'} ⟨m, ⟨o, es, ep, t, ho, r⟩, q⟩ k => ⟨m, ⟨o, es, ep, t, k S o (fun z => hSI (List.mem_singleton.mp z)) ho, r⟩, q⟩
  add := fun {i v s E Q} hi pv ⟨m, hS, hm, hd⟩ k => by
    obtain ⟨t, rfl⟩ := hv i v pv
    have hx : xs[i]? = some (xs.getD i Str.empty) := by
      have : i < xs.length := by omega
      simp [List.getD, this]
    generalize xs.getD i Str.empty = x at hx ⊢
    unfold setAdd
    refine wpAny_holding (wpAny_bind ((strKind P w).pyHash (k := x) (strKind_is _ _ _ _) ?_))
    refine wpAny_setAddHashed_of (s := { s with toks := s.toks + 1 }) (knd := strKind P w) (strKind_is _ _ _ _) rfl hS (by unfold scanBound; omega) fun h' sb hS' => ?_
    refine k _ h' _ (Nat.le_succ _) sb ⟨_, SetOf_congr hS' (any_next hx) rfl, ?_, ?_⟩
    · split <;> omega
    · rw [nodup_next hx, ← hd]
      try dsimp only
      cases (xs.take i).any (· == x)
      · simp only [Bool.false_eq_true, if_false]
        constructor
        · intro q; exact ⟨by omega, by simp⟩
        · intro q; omega
      · simp only [if_true]
        constructor
        · intro q; omega
        · intro q; exact absurd q.2 (by simp)
def tLenSetT (K : PySem.W.Frag) (ta : TE) : TE := fun σ H Q => ta σ H fun x H1 => ∃ (l : Addr) (xs : List Str), x = .ref l ∧ SqL K H1 l (xs.map V.str) ∧ xs.length ≤ 4000 ∧ ∀ m : Nat, m ≤ xs.length → (m = xs.length ↔ xs.Nodup) → Q (.int m) H1
theorem pe_lenSetT {X : Cx} {a : Expr} {ta : TE} {p p2 q pos : Pos} (hg : Gl X "len") (hm : X.mg "len" = none) (hg2 : Gl X "set") (hm2 : X.mg "set" = none) (ha : PE X a ta) (hc : X.calm = true := by rfl)
    (na : starEach [a] X.env = (false, eval a X.env) :: starEach [] X.env := by rfl) : PE X (.Call (.Name "len" p) [.Call (.Name "set" p2) [a] [] q] [] pos) (tLenSetT X.K ta) := by
  constructor
  intro pins s σ H Q I h
  refine Call_ (ld_blt I hg hm boot_len (callWith_builtin1 (args_cons ?_ rfl) rfl rfl))
  refine Call_ (ld_blt I hg2 hm2 boot_set (callWith_type1 (args_cons (thn (ha.run pins s σ H _ I h) fun v z ⟨x, H1, I1, r1, q1⟩ => args_nil ?_) na) na rfl))
  obtain ⟨l, xs, rfl, hq, hl, q1⟩ := q1
  cases r1
  obtain ⟨its, r, pl, _⟩ := I1.list hq
  have sa := Vals.strs r
  have hlen : its.toArray.size = xs.length := by rw [List.size_toArray, ← r.length, List.length_map]
  have hv : ∀ (i : Nat) (v : Value), its.toArray[i]? = some v → ∃ t, v = .str (xs.getD i Str.empty) t := fun i v e => SS.strs_at sa i v (by simpa using e)
  refine set_of (J := HasT X.prog X.w z.heap.objs.size xs) (I1.ok.hd hc) pl.isList (fun led _ => ⟨0, ?_, Nat.le_refl _, by simp⟩) (grows_texts (by omega) hl (Nat.ne_of_lt (Nat.lt_succ_self _)) hv) fun h' tk ⟨m, hS, hm', hd⟩ kp => ?_
  · exact SetOf_congr ((setObjOf_fresh (knd := strKind X.prog X.w) led).setOf (Heap.get?_push_size _ rfl) (by unfold scanBound; omega)) (fun _ => rfl) rfl
  · refine args_nil ?_
    rw [hlen, List.take_length] at hd
    rw [hlen] at hm'
    obtain ⟨o, es, ep, t, ho, ex, dt, _, _, _, hf, hn⟩ := hS
    have I2 : Inv X pins σ H1 { z with heap := h', toks := tk } := I1.kept fun b o e => kp b o (Heap.lt_size e) e
    exact call_len_set ho ex dt hf (by rw [hn]; omega) ⟨.int m, H1, I2.tok _, ⟨_, by rw [hn]⟩, q1 m (by omega) (by rw [← hd])⟩
end Sets
namespace Rd
open PySem PySem.Spec L2
theorem lenSetT {K : PySem.W.Frag} {ta : TE} {σ : St} {H : Hp} {Q : VK} (h : ta σ H fun x H1 => ∃ (l : Addr) (xs : List Str), x = .ref l ∧ SqL K H1 l (xs.map V.str) ∧ xs.length ≤ 4000 ∧ ∀ m : Nat, m ≤ xs.length → (m = xs.length ↔ xs.Nodup) → Q (.int m) H1) : Sets.tLenSetT K ta σ H Q := h
end Rd

set_option Elab.async false
set_option linter.all false
set_option maxRecDepth 100000
set_option maxHeartbeats 4000000
/-! sorted(set(xs)), xs a list of texts -/
namespace Sets
open PySem PySem.Spec PyProof.Rows L2
def tkey (e : Int × Value) : Str := match e.2 with | .str x _ => x | _ => Str.empty
/-- what a set of texts is made of: S its texts, at most n -/
structure TxBody (P : Program) (w : World) (S : Str → Bool) (n : Nat) (es : Array (Int × Value)) (t : SetTable) : Prop where
  good : ∀ e ∈ es.toList, ∃ x tk, e.2 = Value.str x tk ∧ e.1 = (strKind P w).hash x
  nd : (es.toList.map tkey).Nodup
  mem : ∀ k, S k = true ↔ k ∈ es.toList.map tkey
  most : es.size ≤ n
  few : n < scanBound
  fits : t.fits es.size = true
  ris : Ris t.place.toList
  led : w.params.followText "set-order" = true ∨ t.led = true
def TxSet (P : Program) (w : World) (h : Heap) (a : Addr) (S : Str → Bool) (n : Nat) : Prop := ∃ o es ep t, h.get? a = some o ∧ o.ExactSet ∧ o.data = .set es ep t ∧ TxBody P w S n es t
section
variable {P : Program} {w : World} {A : Around} {E : Value → Shared → Prop} {s : Shared} {a : Addr} {S : Str → Bool} {n : Nat} {es : Array (Int × Value)} {t : SetTable}
theorem TxSet.at {h h' : Heap} (R : TxSet P w h a S n) (k : ∀ o, h.get? a = some o → h'.get? a = some o) : TxSet P w h' a S n := by
  obtain ⟨o, es, ep, t, ho, r⟩ := R
  exact ⟨o, es, ep, t, k o ho, r⟩
theorem TxBody.elems (B : TxBody P w S n es t) : ElemsOf (strKind P w) es.toList := fun e he => by
  obtain ⟨x, tk, e2, e1⟩ := B.good e he
  rw [e2]
  exact ⟨⟨x, strKind_is P w x tk, e1⟩, rfl⟩
theorem TxBody.is (B : TxBody P w S n es t) {k : Str} : (∃ e ∈ es.toList, (strKind P w).is k e.2 = true) ↔ k ∈ es.toList.map tkey := by
  constructor
  · rintro ⟨e, he, q⟩
    obtain ⟨x, tk, e2, _⟩ := B.good e he
    rw [e2] at q
    have := (strKind P w).inj _ _ _ q (strKind_is P w x tk)
    exact List.mem_map.mpr ⟨e, he, by unfold tkey; rw [e2, this]⟩
  · intro q
    obtain ⟨e, he, z⟩ := List.mem_map.mp q
    obtain ⟨x, tk, e2, _⟩ := B.good e he
    have ex : x = k := by rw [← z]; unfold tkey; rw [e2]
    exact ⟨e, he, by rw [e2, ex]; exact strKind_is P w k tk⟩
theorem TxBody.perm (B : TxBody P w S n es t) {es' : Array (Int × Value)} {t' : SetTable} (p : es'.toList.Perm es.toList) (f : t'.fits es'.size = true) (r : Ris t'.place.toList) (l : t'.led = t.led) : TxBody P w S n es' t' := by
  have pk := p.map tkey
  have sz : es'.size = es.size := by rw [← Array.length_toList, p.length_eq, Array.length_toList]
  exact ⟨fun e he => B.good e (p.mem_iff.mp he), pk.nodup_iff.mpr B.nd, fun k => (B.mem k).trans pk.mem_iff.symm, by rw [sz]; exact B.most, B.few, f, r, B.led.imp id fun z => by rw [l]; exact z⟩
theorem TxBody.more (B : TxBody P w S n es t) {es' : Array (Int × Value)} {t' : SetTable} {k : Str} {tk : Tok} (hk : S k = false) (p : es'.toList.Perm (es.toList ++ [((strKind P w).hash k, Value.str k tk)])) (f : t'.fits es'.size = true) (r : Ris t'.place.toList) (l : t'.led = t.led) (hn : n + 1 < scanBound) :
    TxBody P w (fun j => S j || decide (j = k)) (n + 1) es' t' := by
  have pc := p.trans (List.perm_append_singleton _ _)
  have pk : (es'.toList.map tkey).Perm (k :: es.toList.map tkey) := pc.map tkey
  have sz : es'.size = es.size + 1 := by rw [← Array.length_toList, pc.length_eq, List.length_cons, Array.length_toList]
  refine ⟨fun e he => ?_, pk.nodup_iff.mpr (List.nodup_cons.mpr ⟨fun z => ?_, B.nd⟩), fun j => ?_, by have := B.most; omega, hn, f, r, B.led.imp id fun z => by rw [l]; exact z⟩
  · rcases List.mem_cons.mp (pc.mem_iff.mp he) with z | z
    · exact ⟨k, tk, by rw [z], by rw [z]⟩
    · exact B.good e z
  · rw [(B.mem k).mpr z] at hk; cases hk
  · rw [pk.mem_iff, List.mem_cons, ← B.mem j, Bool.or_eq_true, decide_eq_true_eq]
    exact Or.comm
theorem TxBody.same (B : TxBody P w S n es t) {k : Str} (hk : S k = true) (hn : n + 1 < scanBound) : TxBody P w (fun j => S j || decide (j = k)) (n + 1) es t :=
  ⟨B.good, B.nd, fun j => by rw [Bool.or_eq_true, decide_eq_true_eq, ← B.mem j]; exact ⟨fun z => z.elim id fun e => e ▸ hk, .inl⟩, Nat.le_succ_of_le B.most, hn, B.fits, B.ris, B.led⟩
theorem kept_at {h : Heap} {o : Obj} {es' : Array (Int × Value)} {ep : Nat} {t' : SetTable} (ho : h.get? a = some o) (hd : o.data = .set es ep t) : (h.update a (Obj.putSet es' t')).get? a = some { o with data := .set es' (ep + 1) t' } := L2.store_at ho hd
/-- one text more -/
theorem tx_add {k : Str} {tk : Tok} {Q : Bool → Shared → Prop} (R : TxSet P w s.heap a S n) (room : n + 1 < scanBound)
    (q : ∀ (b : Bool) h', Heap.SameBut a s.heap h' → TxSet P w h' a (fun j => S j || decide (j = k)) (n + 1) → Q b { s with heap := h' }) : wpAny (model P w) A (setAddHashed a (.str k tk) ((strKind P w).hash k)) Q E s := by
  obtain ⟨o, es, ep, t, ho, ex, hd, B⟩ := R
  have few : es.size < scanBound := Nat.lt_of_le_of_lt B.most B.few
  unfold setAddHashed setAddHashedIn
  refine wpAny_holding (wpAny_bind (wpAny_setState_of ho hd B.fits ?_)); dsimp only
  rw [byScan_of rfl few B.elems]; simp only [↓reduceIte]
  unfold setAddByScan
  refine wpAny_bind (wpAny_bind (wpAny_rule (wpAny_bind (wpAny_setScan_of (strKind_is P w k tk) ho hd B.fits B.elems ?_))))
  cases found : List.findIdx? (fun e => (strKind P w).is k e.2) es.toList with
  | some j =>
    obtain ⟨hj, pj, _⟩ := List.findIdx?_eq_some_iff_getElem.mp found
    have yes : S k = true := (B.mem k).mpr (B.is.mp ⟨es.toList[j], List.getElem_mem hj, pj⟩)
    exact wpAny_pure (wpAny_pure (q false s.heap (Heap.SameBut.refl a s.heap) ⟨o, es, ep, t, ho, ex, hd, B.same yes room⟩))
  | none =>
    have no : S k = false := by
      cases z : S k with
      | false => rfl
      | true =>
        obtain ⟨e, he, y⟩ := B.is.mpr ((B.mem k).mp z)
        have c := List.findIdx?_eq_none_iff.mp found e he
        rw [y] at c; cases c
    dsimp only
    have p1 := layNew_perm t es ((strKind P w).hash k) (.str k tk)
    have f1 := layNew_fits t es ((strKind P w).hash k) (.str k tk)
    have r1 := L2.layNew_ris t es ((strKind P w).hash k) (.str k tk) B.ris
    have l1 := L2.layNew_led t es ((strKind P w).hash k) (.str k tk)
    generalize layNew t es ((strKind P w).hash k) (.str k tk) = Z at p1 f1 r1 l1 ⊢
    obtain ⟨es1, t1, dmy, gave⟩ := Z
    dsimp only at p1 f1 r1 l1 ⊢
    rw [Array.toList_push] at p1
    have give : ∀ (b : Bool) {z : Shared} {Q' : Unit → Shared → Prop}, Q' () z → wpAny (model P w) A (match b with | true => rule "set.scan.the-table-gave-way" | false => pure ()) Q' E z := fun b z Q' y => by
      cases b
      · exact wpAny_pure y
      · exact wpAny_rule y
    refine wpAny_bind (give _ ?_)
    -- the store, and the laying anew
    have tail : ∀ t2 : SetTable, t2.fits es1.size = true → Ris t2.place.toList → t2.led = t.led → ∀ (g : Bool → Sem Unit), (∀ (b : Bool) (z : Shared) (Q' : Unit → Shared → Prop), Q' () z → wpAny (model P w) A (g b) Q' E z) → ∀ (W : Option Bool → Shared → Prop),
        (∀ h', Heap.SameBut a s.heap h' → TxSet P w h' a (fun j => S j || decide (j = k)) (n + 1) → W (some true) { s with heap := h' }) →
        wpAny (model P w) A (do
          storeSet a es1 t2
          if (!dmy && t2.tooFull) = true then do
            g (relayAll t2 es1 (SetTable.grown es1.size)).2.2; storeSet a (relayAll t2 es1 (SetTable.grown es1.size)).1 (relayAll t2 es1 (SetTable.grown es1.size)).2.1; pure (some true)
          else pure (some true)) W E s := by
      intro t2 f2 r2 l2 g hg W hW
      have B2 : TxBody P w (fun j => S j || decide (j = k)) (n + 1) es1 t2 := B.more no p1 f2 r2 l2 room
      have few2 : es1.size < scanBound := Nat.lt_of_le_of_lt B2.most room
      refine wpAny_bind (wpAny_storeSet_of ho hd ?_ (fits_of_scanBound few2))
      have o1 := kept_at (es' := es1) (t' := t2) ho hd
      have sb := Heap.SameBut.update s.heap a (Obj.putSet es1 t2)
      split
      · have p3 := relayAll_perm t2 es1 (SetTable.grown es1.size)
        have f3 := relayAll_fits t2 es1 (SetTable.grown es1.size)
        have r3 := L2.relayAll_ris t2 es1 (SetTable.grown es1.size)
        have l3 := L2.relayAll_led t2 es1 (SetTable.grown es1.size)
        generalize relayAll t2 es1 (SetTable.grown es1.size) = Y at p3 f3 r3 l3 ⊢
        obtain ⟨es3, t3, gave3⟩ := Y
        dsimp only at p3 f3 r3 l3 ⊢
        have B3 := B2.perm p3 f3 r3 l3
        refine wpAny_bind (hg _ _ _ (wpAny_bind (wpAny_storeSet_of o1 rfl ?_ (fits_of_scanBound (Nat.lt_of_le_of_lt B3.most room)))))
        exact wpAny_pure (hW _ (sb.trans (Heap.SameBut.update _ a _)) ⟨_, es3, _, t3, kept_at o1 rfl, ex, rfl, B3⟩)
      · exact wpAny_pure (hW _ sb ⟨_, es1, _, t2, o1, ex, rfl, B2⟩)
    have done : ∀ h', Heap.SameBut a s.heap h' → TxSet P w h' a (fun j => S j || decide (j = k)) (n + 1) → Q true { s with heap := h' } := fun h' sb r => q true h' sb r
    have gv : ∀ (b : Bool) (z : Shared) (Q' : Unit → Shared → Prop), Q' () z → wpAny (model P w) A (match b with | true => rule "set.scan.the-table-gave-way" | false => pure ()) Q' E z := fun b z Q' y => give b y
    split
    · rw [hashByValue_scannable 8 rfl]
      refine wpAny_bind (wpAny_pure ?_)
      refine tail _ ?_ ?_ ?_ _ (fun b z Q' y => by cases b <;> first | exact wpAny_pure y | exact wpAny_rule y) _ fun h' sb r => wpAny_pure (done h' sb r)
      · split
        · exact f1
        · exact SetTable.fits_plain_off f1
      · split <;> exact r1
      · split <;> exact l1
    · refine wpAny_bind (wpAny_pure ?_)
      simp only [↓reduceIte]
      exact tail _ f1 r1 l1 _ (fun b z Q' y => by cases b <;> first | exact wpAny_pure y | exact wpAny_rule y) _ fun h' sb r => wpAny_pure (done h' sb r)
end
end Sets

set_option Elab.async false
set_option linter.all false
set_option maxRecDepth 100000
set_option maxHeartbeats 4000000
/-! sorted(set(xs)), xs a list of texts: the rule -/
namespace Sets
open PySem PySem.Spec PyProof.Rows L2
section
variable {P : Program} {w : World} {A : Around} {E : Value → Shared → Prop} {s : Shared} {a : Addr} {S : Str → Bool} {n : Nat}
theorem strs_vals (es : List (Int × Value)) (h : ∀ e ∈ es, ∃ x tk, e.2 = Value.str x tk) : StrsAre (es.map (·.2)) (es.map tkey) := by
  induction es with
  | nil => exact .nil
  | cons e es ih =>
    obtain ⟨x, tk, q⟩ := h e List.mem_cons_self
    have k : tkey e = x := by unfold tkey; rw [q]
    show StrsAre (e.2 :: es.map (·.2)) (tkey e :: es.map tkey)
    rw [k, q]
    exact .cons x tk (ih fun e he => h e (List.mem_cons_of_mem _ he))
def vkey (v : Value) : Str := match v with | .str x _ => x | _ => Str.empty
theorem strs_of (l : List Value) (h : ∀ v ∈ l, ∃ x tk, v = Value.str x tk) : StrsAre l (l.map vkey) := by
  induction l with
  | nil => exact .nil
  | cons v l ih =>
    obtain ⟨x, tk, rfl⟩ := h v List.mem_cons_self
    exact .cons x tk (ih fun v hv => h v (List.mem_cons_of_mem _ hv))
/-- sorted(the set at a) -/
theorem tx_sorted {Q : Value → Shared → Prop} (R : TxSet P w s.heap a S n) (hh : A.handled = none) (h64 : n < 64)
    (q : ∀ z p (out : Array Value) (c : Nat) (ks : List Str), (∀ b o, s.heap.get? b = some o → z.heap.get? b = some o) → z.gens = s.gens → z.os = s.os → s.heap.objs.size ≤ p →
      z.heap.get? p = some (seqObj "list" out c) → StrsAre out.toList ks → sortedS ks = true → ks.Nodup → (∀ k, k ∈ ks ↔ S k = true) → ks.length ≤ n → Q (.ref p) z) : wpAny (model P w) A (call (.builtin "sorted") [.ref a]) Q E s := by
  obtain ⟨o, es, ep, t, ho, ex, hd, B⟩ := R
  have few : es.size < scanBound := Nat.lt_of_le_of_lt B.most B.few
  refine Calls.call_function_entry kind_sorted plain_sorted entry_sorted (args_sorted1 _) ?_
  unfold Builtin.«sorted»
  refine wpAny_bind (m := checkCount "sorted" 1 1 _) (wpAny_pure (wpAny_bind (collect_set (A := A.in1) hh ⟨o, ho, ex.1, hd⟩ B.fits few B.ris B.led fun z vs kp hz hg hos pm => ?_)))
  have lv : vs.length ≤ n := by rw [pm.length_eq, List.length_map, Array.length_toList]; exact B.most
  have hS : StrsAre vs (vs.map vkey) := strs_of vs fun v hv => by
    obtain ⟨e, he, y⟩ := List.mem_map.mp (pm.mem_iff.mp hv)
    obtain ⟨x, tk, h1, _⟩ := B.good e he
    exact ⟨x, tk, y ▸ h1⟩
  have pk : (vs.map vkey).Perm (es.toList.map tkey) := by
    have y := pm.map vkey
    rw [List.map_map] at y
    exact y
  refine wpAny_bind (wpAny_newList ?_ (by rw [sizeLine_eq]; omega))
  have oL : (z.heap.push (seqObj "list" vs.toArray 0)).get? z.heap.objs.size = some (seqObj "list" vs.toArray 0) := Heap.get?_push_size _ rfl
  refine wpAny_bind (wpAny_holding (wpAny_call_entry slot_list_sort ⟨_, oL, rfl⟩ entry_list_sort (list_sort_treeK strKind_oneLt oL hS.keysOf (fun v₁ v₂ rest e => keyKind_strs (by rw [← e]; exact hS)) (by omega) fun st' hp hs => ⟨_, rfl, ?_⟩) (args_list_sort _)))
  obtain ⟨ks, k1, k2, k3⟩ := sorted_out_str hS hp hs
  obtain ⟨c, hc⟩ := sortedHeap_at (vs := vs) (out := (arrOf st').map (·.2)) oL
  have pn := k2.trans pk
  refine wpAny_pure ⟨_, rfl, q _ z.heap.objs.size _ c ks (fun b u e => ?_) hg hos hz hc k1 k3 (pn.nodup_iff.mpr B.nd) (fun k => by rw [pn.mem_iff, ← B.mem k]) (by rw [pn.length_eq, List.length_map, Array.length_toList]; exact B.most)⟩
  have y := kp b u e
  have lt := Heap.lt_size y
  show (sortedHeap (z.heap.push (seqObj "list" vs.toArray 0)) z.heap.objs.size vs _).get? b = some u
  rw [sortedHeap_old (Nat.ne_of_lt lt) (by rw [size_push']; exact Nat.lt_succ_of_lt lt)]
  exact Heap.get?_push_of_some _ y
end
/-- the set at S holds the first i texts -/
def HasW (P : Program) (w : World) (a : Addr) (xs : List Str) (i : Nat) (h : Heap) : Prop := TxSet P w h a (fun k => (xs.take i).any (· == k)) i
theorem TxSet.congr {P : Program} {w : World} {h : Heap} {a : Addr} {S S' : Str → Bool} {n : Nat} (R : TxSet P w h a S n) (e : ∀ k, S k = S' k) : TxSet P w h a S' n := by
  have : S = S' := funext e
  subst this
  exact R
theorem grows_tx {P : Program} {w : World} {B : Around} {a I : Addr} {xs : List Str} {n : Nat} {Pv : Nat → Value → Prop} (hn : n ≤ xs.length) (hb : xs.length ≤ 4000) (hSI : a ≠ I) (hv : ∀ i v, Pv i v → ∃ t, v = .str (xs.getD i Str.empty) t) : Grows P w B a n Pv [I] (HasW P w a xs) where
  keep := fun {i h h'} R k => R.at fun o e => k a o (fun z => hSI (List.mem_singleton.mp z)) e
  add := fun {i v s E Q} hi pv R k => by
    obtain ⟨t, rfl⟩ := hv i v pv
    have hx : xs[i]? = some (xs.getD i Str.empty) := by
      have : i < xs.length := by omega
      simp [List.getD, this]
    generalize xs.getD i Str.empty = x at hx ⊢
    unfold setAdd
    refine wpAny_holding (wpAny_bind ((strKind P w).pyHash (k := x) (strKind_is _ _ _ _) ?_))
    refine tx_add (s := { s with toks := s.toks + 1 }) R (by unfold scanBound; omega) fun b h' sb R' => ?_
    exact k b h' _ (Nat.le_succ _) sb (R'.congr (any_next hx))
theorem tx_fresh {P : Program} {w : World} {h : Heap} {led : Bool} (hl : w.params.followText "set-order" = true ∨ led = true) : TxSet P w (h.push (newSet0 led)) h.objs.size (fun _ => false) 0 :=
  ⟨_, #[], 0, _, Heap.get?_push_size _ rfl, ⟨rfl, rfl, rfl⟩, rfl, fun e he => by simp at he, List.nodup_nil, fun k => by simp, Nat.le_refl _, by unfold scanBound; omega, rfl, List.Pairwise.nil, hl⟩
def tSortSetT (K : PySem.W.Frag) (ta : TE) : TE := fun σ H Q => ta σ H fun x H1 => ∃ (l : Addr) (xs : List Str), x = .ref l ∧ SqL K H1 l (xs.map V.str) ∧ xs.length < 64 ∧ ∀ (ks : List Str) p, sortedS ks = true → ks.Nodup → (∀ k, k ∈ ks ↔ k ∈ xs) → H1 p = none → Q (.ref p) (upd H1 p (.lst (ks.map V.str)))
theorem pe_sortSetT {X : Cx} {a : Expr} {ta : TE} {p p2 q pos : Pos} (hg : Gl X "sorted") (hm : X.mg "sorted" = none) (hg2 : Gl X "set") (hm2 : X.mg "set" = none) (ha : PE X a ta) (hc : X.calm = true := by rfl)
    (na : starEach [a] X.env = (false, eval a X.env) :: starEach [] X.env := by rfl) : PE X (.Call (.Name "sorted" p) [.Call (.Name "set" p2) [a] [] q] [] pos) (tSortSetT X.K ta) := by
  constructor
  intro pins s σ H Q I h
  refine Call_ (ld_blt I hg hm boot_sorted (callWith_builtin1 (args_cons ?_ rfl) rfl rfl))
  refine Call_ (ld_blt I hg2 hm2 boot_set (callWith_type1 (args_cons (thn (ha.run pins s σ H _ I h) fun v z ⟨x, H1, I1, r1, q1⟩ => args_nil ?_) na) na rfl))
  obtain ⟨l, xs, rfl, hq, hl, q1⟩ := q1
  cases r1
  obtain ⟨its, r, pl, _⟩ := I1.list hq
  have sa := Vals.strs r
  have hlen : its.toArray.size = xs.length := by rw [List.size_toArray, ← r.length, List.length_map]
  have hv : ∀ (i : Nat) (v : Value), its.toArray[i]? = some v → ∃ t, v = .str (xs.getD i Str.empty) t := fun i v e => SS.strs_at sa i v (by simpa using e)
  refine set_of (J := HasW X.prog X.w z.heap.objs.size xs) (I1.ok.hd hc) pl.isList (fun led hled => (tx_fresh hled).congr fun k => rfl) (grows_tx (by omega) (by omega) (Nat.ne_of_lt (Nat.lt_succ_self _)) hv) fun h' tk R kp => ?_
  refine args_nil ?_
  have R1 : TxSet X.prog X.w h' z.heap.objs.size (fun k => (xs.take its.toArray.size).any (· == k)) its.toArray.size := R
  rw [hlen, List.take_length] at R1
  have I2 : Inv X pins σ H1 { z with heap := h', toks := tk } := I1.kept fun b o e => kp b o (Heap.lt_size e) e
  refine tx_sorted (s := { z with heap := h', toks := tk }) R1 (I1.ok.hd hc) hl fun z2 p2 out c ks k1 g1 o1 hp2 hobj hks srt nd mem len => ?_
  have free : H1 p2 = none := I2.hok.fresh hp2
  have J : Inv X pins σ (upd H1 p2 (.lst (ks.map V.str))) { z with heap := z2.heap, gens := z2.gens, drawn := z2.drawn, toks := z2.toks } :=
    Inv.call (s := { z with heap := h', toks := tk }) I2 (ch := []) (Un.laid k1 hp2 free) (I2.hok.laid k1 hp2 ⟨by rw [List.length_map, sizeLine_eq]; omega, out.toList, c, vals_of_strs hks, hobj⟩) (by rw [g1]; exact I2.bare) (fun _ y => nomatch y)
  have ez : z2 = { z with heap := z2.heap, gens := z2.gens, drawn := z2.drawn, toks := z2.toks } := by
    obtain ⟨_, _, _, _, _⟩ := z2
    cases o1
    rfl
  rw [ez]
  refine ⟨.ref p2, _, J, rfl, q1 ks p2 srt nd (fun k => (mem k).trans ?_) free⟩
  rw [List.any_eq_true]
  constructor
  · rintro ⟨x, hx, e⟩
    rw [← eq_of_beq e]; exact hx
  · intro hx
    exact ⟨k, hx, beq_self_eq_true k⟩
end Sets
namespace Rd
open PySem PySem.Spec L2
theorem sortSetT {K : PySem.W.Frag} {ta : TE} {σ : St} {H : Hp} {Q : VK} (h : ta σ H fun x H1 => ∃ (l : Addr) (xs : List Str), x = .ref l ∧ SqL K H1 l (xs.map V.str) ∧ xs.length < 64 ∧ ∀ (ks : List Str) p, PyProof.Rows.sortedS ks = true → ks.Nodup → (∀ k, k ∈ ks ↔ k ∈ xs) → H1 p = none → Q (.ref p) (upd H1 p (.lst (ks.map V.str)))) : Sets.tSortSetT K ta σ H Q := h
end Rd

set_option Elab.async false
set_option linter.all false
set_option maxRecDepth 100000
set_option maxHeartbeats 4000000
/-! len(o), o of an own class with __len__ -/
namespace Fw
open PySem PySem.Spec PyProof.Rows L2
section
variable {X : Cx} {pins : List (Addr × Obj)} {σ : L2.St} {H : Hp} {s : Shared} {n : Nat} {a f C : Addr} {fd : FuncData} {sp : Sp}
/-- a method without arguments, called by a built-in -/
theorem own_run {A1 : Around} {Q : VK} {ps : List Str} (sb : Sub X n A1) (F : FnOk X.prog X.w X.K X.mg X.base CX0 n f fd ps sp) (b : Binds X.K fd ps []) (I : Inv X pins σ H s) (h : sp [.ref a] H Q E0) :
    wpAny (model X.prog X.w) A1 (call (.ref f) [.ref a]) (EP X pins σ Q) X.xe s := by
  have e := I.env0
  have e1 : Env0 X.prog X.w X.K X.mg X.base A1 X.stack s H := ⟨by rw [sb.fr]; exact e.frames, e.mod, e.bs, e.bsz, e.funs, e.frf, e.hok, e.bare⟩
  have hl := F.len _ _ _ _ h
  have bd := b s [.ref a] I.kIn (by rw [List.append_nil]; exact hl)
  rw [List.append_nil] at bd
  refine wpAny_call (codeAny_mono (F.run A1 X.stack s H ⟨[.ref a], []⟩ [.ref a] [.ref a] Q E0 sb.room e1 bd (.cons rfl .nil) h) fun r z hq => ?_)
  match r, hq with
  | .error e, hq => exact pass0 pins σ H s e z I hq
  | .ok (.ret u), hq => exact I.after hq
  | .ok .next, hq => exact hq.elim
  | .ok .brk, hq => exact hq.elim
  | .ok .cont, hq => exact hq.elim
/-- len(o) -/
def rLenO (K : PySem.W.Frag) (C : Addr) (sp : Sp) : List V → Hp → VK → Prop := fun xs H Q => ∃ (a dx : Addr) (fs : List (Str × V)), xs = [.ref a] ∧ H a = some (.ins C dx fs) ∧ sp [.ref a] H (fun v H' => ∃ i : Nat, v = .int i ∧ i < 1000000 ∧ Q (.int i) H') E0
theorem call_lenO {ps : List Str} (hs : PySem.W.findIn X.K (.ref C) "__len__" = some (some (.ref f))) (hf : PySem.W.isFn X.K (.ref f) = true) (F : FnOk X.prog X.w X.K X.mg X.base CX0 n f fd ps sp) (b : Binds X.K fd ps []) (hr : Room (n + 1) X.A) : CallR X (.builtin "len") (rLenO X.K C sp) := by
  intro pins s σ H xs us Q I r h
  obtain ⟨a, dx, fs, rfl, ha, h⟩ := h
  rw [Vals.ref1 r]
  obtain ⟨mA, J, _⟩ := ins_get I.hok ha
  obtain ⟨od, J, _⟩ := J.look
  obtain ⟨m0, hF⟩ := I.fr
  have sb : Sub X n X.A.in1 := ⟨hr.in1, rfl⟩
  refine Calls.call_function_entry kind_len plain_len entry_len (args_len1 _) ?_
  unfold Builtin.«len»
  refine wpAny_bind (m := oneArg "len" _) (wpAny_pure ?_)
  refine wpAny_bind (m := callSpecial? (.ref a) (PySem.Str.ofString "__len__")) ?_
  simp only [callSpecial?]
  refine wpAny_bind (wpAny_bind (J.type.here ((PySem.W.looks_findIn I.kIn hs).here ?_)))
  refine wpAny_holding (wpAny_bind ((PySem.W.bind_fn I.kIn _ (beq_iff_eq.mp hf)).here ?_))
  refine wpAny_bind (wpAny_mono (own_run sb F b I h) (fun u z hz => ?_) fun _ _ y => y)
  obtain ⟨v, H', I', rv, i, rfl, hi, q⟩ := hz
  obtain ⟨tk, rfl⟩ := rv
  refine wpAny_pure ?_
  refine wpAny_bind (wpAny_holding (wpAny_pure ?_))
  refine wpAny_bind (wpAny_letGo ?_)
  show wpAny _ _ (if ((i : Nat) : Int) < 0 then _ else _) _ _ _
  rw [if_neg (by omega)]
  show wpAny _ _ (if ((i : Nat) : Int) ≥ 2 ^ 63 then _ else _) _ _ _
  rw [if_neg (by omega)]
  exact wpAny_bind (wpAny_mkInt (wpAny_pure ⟨_, rfl, ⟨.int i, H', I'.tok _, ⟨_, rfl⟩, q⟩⟩))
end
end Fw

set_option Elab.async false
set_option linter.all false
set_option maxRecDepth 100000
set_option maxHeartbeats 4000000
/-! iter(tuple); for x in o, o of an own class whose __iter__ gives such an iterator -/
namespace Fw
open PySem PySem.Spec PyProof.Rows L2
/-- at it an iterator over the tuple at l, not yet asked -/
def TitO (l it : Addr) : HO := .ext fun h => h.IsTupleIter it l 0
theorem titO_ok {P : Program} {w : World} {H : Hp} {h : Heap} {l it : Addr} (e : h.IsTupleIter it l 0) : ObjOk P w H h it (TitO l it) := by
  obtain ⟨o, e1, e2, e3⟩ := e
  exact ⟨⟨o, e1, e2, e3⟩, ⟨o, e1⟩, fun h1 h2 ⟨u, a, b, c⟩ k => ⟨u, k u a, b, c⟩⟩
def rIterT (K : PySem.W.Frag) (n : Nat) : List V → Hp → VK → Prop := fun xs H Q => ∃ (l : Addr) (zs : List V), xs = [.ref l] ∧ SqT K H l zs ∧ ∀ it, H it = none → n ≤ it → Q (.ref it) (upd H it (TitO l it))
section
variable {X : Cx}
theorem call_iterT : CallR X (.builtin "iter") (rIterT X.K X.s_0.heap.objs.size) := by
  intro pins s σ H xs us Q I r h
  obtain ⟨l, zs, rfl, hq, q⟩ := h
  rw [Vals.ref1 r]
  obtain ⟨its, rv, pl, hz⟩ := I.tuple hq
  refine Calls.call_function_entry (by decide +kernel) (by decide +kernel) PySem.W.kdk_entry_iter (PySem.W.kdk_args_iter _) ?_
  unfold Builtin.«iter»
  refine wpAny_bind (m := someArgs "iter" 1 2 _) (wpAny_of_eq (a := [Value.ref l]) (by first | rfl | kernel_rfl!) ?_)
  refine wpAny_bind (m := pyIter (.ref l)) (wpAny_pyIter_tuple (show s.heap.IsTuple l its.toArray from pl) ?_)
  have new : (s.heap.push { cls := .type "tuple_iterator", data := .fields #[.ref l, .int 0 0] }).IsTupleIter s.heap.objs.size l 0 := ⟨_, Heap.get?_push_size _ rfl, rfl, rfl⟩
  exact wpAny_pure ⟨_, rfl, .ref s.heap.objs.size, _, I.laid (t' := s.toks) (fun b u e => Heap.get?_push_of_some _ e) (Nat.le_refl _) (titO_ok new), rfl, q _ (I.hok.fresh (Nat.le_refl _)) I.sz⟩
variable {n : Nat} {f C : Addr} {fd : FuncData} {sp : Sp}
theorem own_runE {pins : List (Addr × Obj)} {σ : L2.St} {H : Hp} {s : Shared} {a : Addr} {A1 : Around} {Q : VK} {ps : List Str} (sb : Sub X n A1) (F : FnOk X.prog X.w X.K X.mg X.base CX0 n f fd ps sp) (b : Binds X.K fd ps []) (I : Inv X pins σ H s) (h : sp [.ref a] H Q E0) :
    wpAny (model X.prog X.w) A1 (call (.ref f) [.ref a]) (CE X.stack X.prog X.w H s Q) X.xe s := by
  have e := I.env0
  have e1 : Env0 X.prog X.w X.K X.mg X.base A1 X.stack s H := ⟨by rw [sb.fr]; exact e.frames, e.mod, e.bs, e.bsz, e.funs, e.frf, e.hok, e.bare⟩
  have hl := F.len _ _ _ _ h
  have bd := b s [.ref a] I.kIn (by rw [List.append_nil]; exact hl)
  rw [List.append_nil] at bd
  refine wpAny_call (codeAny_mono (F.run A1 X.stack s H ⟨[.ref a], []⟩ [.ref a] [.ref a] Q E0 sb.room e1 bd (.cons rfl .nil) h) fun r z hq => ?_)
  match r, hq with
  | .error e, hq => exact pass0 pins σ H s e z I hq
  | .ok (.ret u), hq => exact hq
  | .ok .next, hq => exact hq.elim
  | .ok .brk, hq => exact hq.elim
  | .ok .cont, hq => exact hq.elim
end
end Fw

set_option Elab.async false
set_option linter.all false
set_option maxRecDepth 100000
set_option maxHeartbeats 4000000
/-! a def's contract that may speak of the state at its start; for x in o by an own __iter__ -/
namespace Fw
open PySem PySem.Spec PyProof.Rows L2
abbrev SpY := Shared → List V → Hp → VK → Prop
structure FnY (P : Program) (w : World) (K : PySem.W.Frag) (mg : Str → Option Value) (base : Heap) (k : Nat) (f : Addr) (fd : FuncData) (ps : List Str) (sp : SpY) : Prop where
  len : ∀ s vs H Q, sp s vs H Q → vs.length = ps.length
  run : ∀ (A : Around) (outer : List Env) (s : Shared) (H : Hp) (args : Args) (us : List Value) (vs : List V) (Q : VK), Room k A → Env0 P w K mg base A outer s H → BindsTo s fd args (ps.zip us) → Vals vs us → sp s vs H Q →
    codeAny (model P w) A (.call (.ref f) args) (CR CX0 outer P w H s Q E0) s
theorem Fun.okY {P : Program} {w : World} {K : PySem.W.Frag} {mg : Str → Option Value} {base : Heap} {x qual : Str} {st : Stmt} {f : Addr} {fd : FuncData} {N ps : List Str} {k : Nat} {sp : SpY} (F : Fun K x qual st f fd) (S : FnScope N ps (defScope st)) (len : ∀ s vs H Q, sp s vs H Q → vs.length = ps.length)
    (hb : ∀ (cdv : Value) (A : Around) (outer : List Env) (s : Shared) (H : Hp) (vs : List V) (Q : VK), Room k (A.deeper (envOfC qual (defScope st) s.heap.objs.size f cdv)) → sp s vs H Q →
      ∃ t, PSs (cxOf CX0 P w K mg base N qual (defScope st) f cdv A outer s H E0).nox (defBody st) t ∧ t { nx := fun _ H' => Q .non H', rt := Q } (start N vs) H) : FnY P w K mg base (k + 1) f fd ps sp := by
  obtain ⟨_, _, _, _, _, _, cdv, _, _, rfl, lk, hcd⟩ := F.ex
  constructor
  · exact len
  intro A outer s H args us vs Q hr e0 bnd r h
  have In1 : K.In s.heap := e0.mod.kin.keeps fun b o e => (e0.bs b o e).1
  have kinds : ∀ y ∈ ps.zip us, (defScope st).names.lookup y.1 = some .local ∨ ((defScope st).names.lookup y.1 = some .cell ∧ ((cellsFrom (s.heap.objs.size + 1) (defScope st).names []).lookup y.1).isSome = true) := by
    rintro ⟨n, v⟩ hy
    exact (S.par n (List.of_mem_zip hy).1).imp id fun q => ⟨q, PySem.W.cellsFrom_some _ _ _ (.inl q)⟩
  refine codeAny_call_function hr.depth (In1 _ _ lk) rfl S.co S.gen rfl (PySem.W.codeRec_of In1 hcd) (bnd _ _ _ _ (wpAny_newFunctionEnv_cells S.kind kinds fun env he s1 y => ?_))
  subst he
  obtain ⟨t, ht, q⟩ := hb cdv A outer s H vs Q (hr.deeper _) h
  have nolim : s.heap.NoLimit := e0.mod.nolimit.keeps fun b o e => (e0.bs b o e).1
  have J : Inv (cxOf CX0 P w K mg base N qual (defScope st) f cdv A outer s H E0) [] (start N vs) H s1 := inv_start S hr.hd e0 (len _ _ _ _ h) r y
  have out : ∀ {σ : L2.St} {H' : Hp} {v : V} {u : Value} {z : Shared}, Inv (cxOf CX0 P w K mg base N qual (defScope st) f cdv A outer s H E0) [] σ H' z → RelV v u → Q v H' → CE outer P w H s Q u z := fun I rv q => ⟨_, _, I.os, I.bare, I.base, I.hok, rv, q⟩
  refine ⟨nolim.keeps y.toInCall.keep, codeAny_func (wpAny_mono (ht.nox.run [] s1 (start N vs) H _ J q) (fun fl z hz => ?_) fun e z hz => hz)⟩
  match fl, hz with
  | .ret u, ⟨_, _, _, I, rv, q⟩ => exact out I rv q
  | .next, ⟨_, _, I, q⟩ => exact out (v := V.non) (u := Value.none) I rfl q
  | .brk, ⟨_, _, _, q⟩ => exact q.elim
  | .cont, ⟨_, _, _, q⟩ => exact q.elim
section
variable {X : Cx} {n : Nat} {f C : Addr} {fd : FuncData}
/-- what such an __iter__ gives: a new iterator over the tuple at l -/
def spIterT (L : Hp → Addr → Addr → Prop) : SpY := fun s vs H Q => ∃ a l, vs = [.ref a] ∧ L H a l ∧ ∀ it, H it = none → s.heap.objs.size ≤ it → Q (.ref it) (upd H it (TitO l it))
/-- for x in o -/
def iOwn (C : Addr) (L : Hp → Addr → Addr → Prop) (K : PySem.W.Frag) (te : TE) : TI := fun σ H R => te σ H fun x H1 => ∃ (a dx : Addr) (fs : List (Str × V)) (l : Addr), x = .ref a ∧ H1 a = some (.ins C dx fs) ∧ L H1 a l ∧ R (Itt K l) H1
theorem pi_own {L : Hp → Addr → Addr → Prop} {tg o : Expr} {te : TE} {ps : List Str} (he : PE X o te) (hs : PySem.W.findIn X.K (.ref C) "__iter__" = some (some (.ref f))) (hf : PySem.W.isFn X.K (.ref f) = true) (F : FnY X.prog X.w X.K X.mg X.base n f fd ps (spIterT L)) (b : Binds X.K fd ps []) (hr : Room n X.A) :
    PI X tg o (iOwn C L X.K te) := by
  refine ⟨fun pins s σ H R I h => ?_⟩
  refine thn (he.run pins s σ H _ I h) fun v s1 ⟨x, H1, I1, r1, a, dx, fs, l, ex, ha, hL, q⟩ => ?_
  subst ex
  cases r1
  obtain ⟨mA, J, _⟩ := ins_get I1.hok ha
  obtain ⟨od, J, _⟩ := J.look
  obtain ⟨m0, hF⟩ := I1.fr
  refine PySem.W.owit_iter hF I1.ok.mod.kin J hs hf ?_
  have e := I1.env0
  let QQ : VK := fun v H2 => ∃ it, v = .ref it ∧ H1 it = none ∧ s1.heap.objs.size ≤ it ∧ H2 = upd H1 it (TitO l it)
  have hsp : spIterT L s1 [.ref a] H1 QQ := ⟨a, l, rfl, hL, fun it hn hy => ⟨it, rfl, hn, hy, rfl⟩⟩
  have hl := F.len _ _ _ _ hsp
  have bd := b s1 [.ref a] I1.kIn (by rw [List.append_nil]; exact hl)
  rw [List.append_nil] at bd
  refine wpAny_call (codeAny_mono (F.run X.A X.stack s1 H1 ⟨[.ref a], []⟩ [.ref a] [.ref a] QQ hr e bd (.cons rfl .nil) hsp) fun r z hq => ?_)
  match r, hq with
  | .error e, hq => exact pass0 pins σ H1 s1 e z I1 hq
  | .ok .next, hq => exact hq.elim
  | .ok .brk, hq => exact hq.elim
  | .ok .cont, hq => exact hq.elim
  | .ok (.ret u), hq =>
    obtain ⟨v2, H2, I2, rv, it, rfl, hn, hy, rfl⟩ := I1.after hq
    cases rv
    have hit : z.heap.IsTupleIter it l 0 := (show ObjOk X.prog X.w _ z.heap it (TitO l it) from I2.hok it _ upd_same).1
    obtain ⟨oi, g1, g2, _⟩ := id hit
    have I3 := ItX.inv_drop I2 (show (upd H1 it (TitO l it)) it = some (.ext _) from upd_same)
    rw [ItX.dropH_upd hn] at I3
    refine wpAny_specialOf (T := "tuple_iterator") ⟨oi, g1, g2⟩ PySem.F.slot_tuple_iterator_next.lookup ?_
    exact ⟨it, [it], _, Itt X.K l, _, rfl, I3, turn_tuple l it, hit, fun b hb => by rw [List.mem_singleton.mp hb]; exact I1.fpOk hy hn, q⟩
end
end Fw

set_option Elab.async false
set_option linter.all false
set_option maxRecDepth 100000
set_option maxHeartbeats 4000000
/-! several clauses 'except C as n'; calls of classes and methods in a try -/
namespace Fw
open PySem PySem.Spec PyProof.Rows L2
abbrev Cl := Value × (Addr → Value → Option Addr → TS)
/-- what the clauses wish of an error of the body -/
def wAsN (K : PySem.W.Frag) (i : Nat) (Wout : WX) (D : Ends) : List Cl → WX
  | [] => Wout
  | q :: r => wAs K q.1 i q.2 (wAsN K i Wout D r) D
inductive ClsOk (X : Cx) (n : Str) : List ExceptHandler → List Cl → Prop
  | nil : ClsOk X n [] []
  | cons {x : Str} {c : Value} {ts : Addr → Value → Option Addr → TS} {b : Stmt} {bs : List Stmt} {p p' : Pos} {hds : List ExceptHandler} {l : List Cl} (hc : Names X x c)
      (k : ∀ (a : Addr) (oe : Obj) (cls : Value) (d : Option Addr) (pn : List (Addr × Obj)), Zc cls d oe → (∃ vs, oe.data = .fields vs) → PSs (X.suite a ((a, oe) :: pn)) (b :: bs) (ts a cls d)) (r : ClsOk X n hds l) :
      ClsOk X n (.ExceptHandler (some (.Name x p)) (some n) (b :: bs) p' :: hds) ((c, ts) :: l)
section
variable {X : Cx} {n : Str} {i : Nat} {body : List Stmt} {h₀ : ExceptHandler} {hds : List ExceptHandler} {l : List Cl} {pos : Pos} {tb : WX → TS} {Wout : WX}
theorem ps_try_asN (hs : X.stack = X.env :: X.outer) (hf : X.env.frame = some X.env.locals) (hN : X.N.Nodup) (hi : X.N[i]? = some n) (hln : X.env.kindOf n = some .local) (tk : Takes X Wout)
    (hb : ∀ (W : WX) (pn : List (Addr × Obj)) (xe : Value → Shared → Prop), Takes (X.tr pn xe) W → PassesOwn (model X.prog X.w) X.A X.env xe → PSs (X.tr pn xe) body (tb W)) (hh : ClsOk X n (h₀ :: hds) l) :
    PS X (.Try body (h₀ :: hds) [] [] pos) (fun D σ H => tb (wAsN X.K i Wout D l) D σ H) := by
  constructor
  intro pins s σ H D I h
  have q_ok := I.ok
  have q_fr : X.A.frames = some (X.env :: X.outer) := hs ▸ q_ok.frames
  refine wpAny_Try_except (wpAny_mono ((hb (wAsN X.K i Wout D l) (X.pn ++ pins) (fun e z => wpAny (model X.prog X.w) X.A (noteFrame e X.env) (fun _ z => wpAny (model X.prog X.w) X.A (setFlight e none)
    (fun _ z => wpAny (model X.prog X.w) X.A (handleBy e X.env (h₀ :: hds)) (SP X pins D) X.xe z) X.xe z) X.xe z) (fun u z xx => ?_) PassesOwn.looking).run [] s σ H D (I.toTry _) h) (fun f z hsp => ?_) fun e z he => he)
  · obtain ⟨a, B, sI, pins', σ', H', cls, d, rfl, J', nb, up, sky, na, os, ag, wish⟩ := xx
    have J : Inv X pins σ' H' sI := J'.ofTry q_ok
    rw [hs] at sky
    refine Sky.land (M := model X.prog X.w) Zc.steady q_fr hf sky fun h3 fl3 up3 => ?_
    have J3 : Inv X pins σ' H' { z with heap := h3 } := J.landed nb fl3.1 (up.trans up3) os ag
    obtain ⟨o3, v3, at3, zc3, da3⟩ := fl3.there
    have away : a ∉ frs (X.env :: X.outer) := fun m => by
      obtain ⟨_, o', e', no⟩ := fl3.2.2.1.mem m
      rw [at3] at e'; cases e'
      exact no _ da3
    have nL : a ≠ X.env.locals := fun e => away (List.mem_filterMap.mpr ⟨X.env, List.mem_cons.mpr (.inl rfl), by rw [hf, e]⟩)
    have nF : a ∉ X.fs := fun m => let ⟨e, he, q⟩ := List.mem_filterMap.mp m; away (List.mem_filterMap.mpr ⟨e, List.mem_cons.mpr (.inr he), q⟩)
    have S3 := J3.suite at3 da3 na nL nF
    have all : ∀ {hds' : List ExceptHandler} {l' : List Cl}, ClsOk X n hds' l' → wAsN X.K i Wout D l' cls d σ' H' → wpAny (model X.prog X.w) X.A (handleBy (.ref a) X.env hds') (SP X pins D) X.xe { z with heap := h3 } := by
      intro hds' l' ok
      induction ok with
      | nil =>
        intro wish
        obtain ⟨_, _, _, oe, vs, T, oT, ts', at_, _, da, f1, _⟩ := id fl3
        have go : wpAny (model X.prog X.w) X.A (setFlight (.ref a) X.env.frame) (fun _ z => wpAny (model X.prog X.w) X.A (throw (.ref a) : Sem Flow) (SP X pins D) X.xe z) X.xe { z with heap := h3 } := by
          rw [hf]
          exact HandSPX.setFlight_upZ fl3 fun h4 fl4 up4 => wpAny_throw (tk _ _ ⟨a, B, sI, pins, σ', H', cls, d, rfl, J, nb, (up.trans up3).trans up4, .inr (.inr (hs ▸ fl4)), na, os, ag, wish⟩)
        refine wpAny_handleBy_nil ?_
        unfold PySem.passOn
        refine wpAny_bind (wpAny_field at_ da f1 ?_)
        rw [if_neg (by simp)]
        first | exact wpAny_bind go | exact wpAny_bind (wpAny_pure (wpAny_bind go))
      | @cons x c ts b bs p p' hds2 l2 hc k r ih =>
        rintro ⟨yes, te, w1, w2⟩
        have LM := PySem.W.exm_one (M := model X.prog X.w) J3.kIn (fun A Q E s k q => wpAny_typeOf_ref (k _ _ at3) (by rw [zc3.1]; exact q)) te
        have named : ∀ {Q : Value → Shared → Prop} {E : Value → Shared → Prop}, Q c { z with heap := h3 } → wpAny (model X.prog X.w) (X.A.mark (some (.ref a))) (eval (.Name x p) X.env) Q E { z with heap := h3 } := by
          intro Q E q
          rcases hc with ⟨g, db, m | ⟨m, v, nn⟩⟩
          · exact ld_glob (X := X.suite a ((a, o3) :: (X.pn ++ pins))) S3 g m q db
          · exact ld_blt (X := X.suite a ((a, o3) :: (X.pn ++ pins))) S3 g m v q nn db
        refine wpAny_handleBy_cons (codeAny_handlers_test (named (LM.here ?_))) (fun e => by cases e)
        match yes, w1, w2 with
        | false, _, w2 => exact ih (w2 rfl)
        | true, w1, _ =>
          refine codeAny_handlers_suite_as (HandSPX.lands_againZ fl3 fun h4 fl4 up4 => ?_)
          have J4 : Inv X pins σ' H' { z with heap := h4 } := J.landed nb fl4.1 ((up.trans up3).trans up4) os ag
          obtain ⟨o4, v4, at4, zc4, da4⟩ := fl4.there
          refine store_ok (X := X.suite a ((a, o4) :: (X.pn ++ pins))) (v := .ref a) (J4.suite at4 da4 na nL nF) hN hi (.inl hln) rfl (fun s5 S5 => ?_) (.inr hln)
          refine wpAny_mono ((k a o4 cls d (X.pn ++ pins) zc4 ⟨_, da4⟩).run [] s5 _ H' _ S5 (w1 rfl a na)) (fun f s6 hsp => ?_) fun _ _ e => e.elim
          have close : ∀ {σ6 : L2.St} {H6 : Hp} {Q : Shared → Prop}, Inv (X.suite a ((a, o4) :: (X.pn ++ pins))) [] σ6 H6 s6 → (∀ s7, Inv X pins (σ6.set i none) H6 s7 → Q s7) →
              wpAny (model X.prog X.w) X.A (do bindName X.env n .none; unbindBehindTheSuite X.env n p') (fun _ s7 => Q s7) X.xe s6 := fun S6 q => gone_ok (S6.unsuite q_ok) hN hi hln q
          match f, hsp with
          | .next, ⟨_, _, S6, q6⟩ => exact close S6 fun _ J7 => ⟨_, _, J7, q6⟩
          | .brk, ⟨_, _, S6, q6⟩ => exact close S6 fun _ J7 => ⟨_, _, J7, q6⟩
          | .cont, ⟨_, _, S6, q6⟩ => exact close S6 fun _ J7 => ⟨_, _, J7, q6⟩
          | .ret u, ⟨_, _, _, S6, r6, q6⟩ => exact close S6 fun _ J7 => ⟨_, _, _, J7, r6, q6⟩
    exact all hh wish
  · match f, hsp with
    | .next, ⟨_, _, J', q⟩ => exact wpAny_execs_nil ⟨_, _, J'.ofTry q_ok, q⟩
    | .brk, ⟨_, _, J', q⟩ => exact ⟨_, _, J'.ofTry q_ok, q⟩
    | .cont, ⟨_, _, J', q⟩ => exact ⟨_, _, J'.ofTry q_ok, q⟩
    | .ret u, ⟨_, _, _, J', r, q⟩ => exact ⟨_, _, _, J'.ofTry q_ok, r, q⟩
end
end Fw

set_option Elab.async false
set_option linter.all false
set_option maxRecDepth 100000
set_option maxHeartbeats 4000000
/-! C(..) and o.m(..) in a try's body -/
namespace Fw
open PySem PySem.Spec PyProof.Rows L2
section
variable {X : Cx} {CX : CXT} {k : Nat} {f C : Addr} {fd : FuncData} {ps : List Str} {sp : Sp} {E : L2.St → XK} {x m : Str} {p pos apos : Pos} {e o : Expr} {es : List Expr} {ta : TE} {t : TA}
theorem run_makeS {pins : List (Addr × Obj)} {σ : L2.St} {H : Hp} {s : Shared} {Q : VK} {us : List Value} {vs : List V} (M : Mk X.K C f) (F : FnOk X.prog X.w X.K X.mg X.base CX k f fd ps sp) (hr : Room (k + 1) X.A) (hb : Binds X.K fd ps []) (hx : PassesAt CX X σ (E σ)) (I : Inv X pins σ H s) (r : Vals vs us)
    (h : ∀ x dx, H x = none → H dx = none → dx ≠ x → sp (.ref x :: vs) (upd (upd H dx (.own x)) x (.ins C dx [])) (fun v H2 => v = .non ∧ Q (.ref x) H2) (E σ)) : wpAny (model X.prog X.w) X.A (call (.ref C) us) (EP X pins σ Q) X.xe s := by
  have q := h (s.heap.objs.size + 1) s.heap.objs.size (I.hok.fresh (Nat.le_succ _)) (I.hok.fresh (Nat.le_refl _)) (Nat.ne_of_lt (Nat.lt_succ_self _))
  have J := Inv.made (C := C) I
  have rr : Vals (V.ref (s.heap.objs.size + 1) :: vs) (Value.ref (s.heap.objs.size + 1) :: us) := .cons rfl r
  have len : (Value.ref (s.heap.objs.size + 1) :: us).length = ps.length := rr.length.symm.trans (F.len _ _ _ _ q)
  have bnd := hb _ (Value.ref (s.heap.objs.size + 1) :: us) J.kIn (by rw [List.append_nil]; exact len)
  rw [List.append_nil] at bnd
  refine wpAny_call (make_map (f := f) I.kIn M.makes M.init (beq_iff_eq.mp M.fn) (codeAny_mono (F.run _ X.stack _ _ ⟨_, []⟩ _ _ _ (E σ) (hr.make C us []) (J.env0.make C us []) bnd rr q) fun r z hq => ?_))
  match r, hq with
  | .error e, hq => exact hx pins _ _ e z J hq
  | .ok (.ret u), hq =>
    obtain ⟨v, G, I3, rv, ev, q3⟩ := J.after hq
    cases ev
    exact ⟨rv, V.ref _, G, I3, rfl, q3⟩
  | .ok .next, hq => exact hq.elim
  | .ok .brk, hq => exact hq.elim
  | .ok .cont, hq => exact hq.elim
def tMakeT (C : Addr) (sp : Sp) (E : L2.St → XK) (t : TA) : TE := fun σ H Q => t σ H fun vs H1 => MkGo C (fun us => sp us) vs H1 Q (E σ)
theorem pe_makeT (M : Mk X.K C f) (F : FnOk X.prog X.w X.K X.mg X.base CX k f fd ps sp) (hr : Room (k + 1) X.A) (hg : Gl X x) (hm : X.mg x = some (.ref C)) (hb : Binds X.K fd ps []) (hx : ∀ σ, PassesAt CX X σ (E σ))
    (ha : PA X (e :: es) t) (hdb : (x == ("__debug__" : Str)) = false := by decide) (he : starEach (e :: es) X.env = (false, eval e X.env) :: starEach es X.env := by rfl) (hpl : (backTo pos (starEach es X.env)).any (·.1) = false := by rfl) :
    PE X (.Call (.Name x p) (e :: es) [] pos) (tMakeT C sp E t) := by
  constructor
  intro pins s σ H Q I h
  refine wpAny_Call_Name_kw (ld_glob I hg hm (PySem.W.callWith_K (h₀ := X.base) I.ok.mod.kin M.kp (thn (ha.run pos pins s σ H _ I h) fun us s1 ⟨vs, H1, I1, r, q⟩ => ⟨I1.kIn, ?_⟩) he hpl) hdb)
  refine run_makeS M F hr hb (hx σ) I1 r fun x dx a b c => ?_
  have z := q x dx a b c
  rw [List.append_nil] at z
  exact z
def tMethT (C : Addr) (m : Str) (sp : Sp) (E : L2.St → XK) (ta : TE) (t : TA) : TE := fun σ H Q => ta σ H fun x H1 => ∃ a dx fs, x = .ref a ∧ H1 a = some (.ins C dx fs) ∧ fs.lookup m = none ∧ t σ H1 fun vs H2 => sp (x :: vs) H2 Q (E σ)
theorem pe_methT {pl : Sem Bool} (he : PE X o ta) (c : Cls X.K C) (hm : Meth X.K C m f) (F : FnOk X.prog X.w X.K X.mg X.base CX k f fd ps sp) (hr : Room k X.A) (hb : Binds X.K fd ps []) (hx : ∀ σ, PassesAt CX X σ (E σ)) (ha : PA X (e :: es) t)
    (hst : starEach (e :: es) X.env = (false, eval e X.env) :: starEach es X.env := by rfl) (hpl : (backTo pos (starEach es X.env)).any (·.1) = false := by rfl)
    (ht : eval (.Call (.Attribute o m apos) (e :: es) [] pos) X.env = (do let ov ← eval o X.env; standAt apos.atName; let (f, first) ← holding [ov] (getMethod ov m pl); callWith pos f first (backTo pos (starEach (e :: es) X.env)) (backToKw pos (keywordEach [] X.env))) := by rfl) :
    PE X (.Call (.Attribute o m apos) (e :: es) [] pos) (tMethT C m sp E ta t) := by
  constructor
  intro pins s σ H Q I h
  refine PySem.W.methodCall_KW (pl := pl) (thn (he.run pins s σ H _ I h) fun u s1 ⟨x, H1, I1, rx, a, dx, fs, ex, ea, l, q⟩ => ?_) ht
  subst ex
  cases rx
  refine getmeth_ok I1 ea c hm l (PySem.W.callWith_K (first := [.ref a]) (h₀ := X.base) I.ok.mod.kin hm.kp (thn (ha.run pos pins s1 σ H1 _ I1 q) fun us s2 ⟨vs, H2, I2, r, q2⟩ => ⟨I2.kIn, ?_⟩) hst hpl)
  exact run_fnS (us := .ref a :: us) (vs := .ref a :: vs) F hr hb (hx σ) I2 (.cons rfl r) q2
/-- K-explicit: C(..) in a try's body -/
theorem pe_mkT {P : Program} {w : World} {K : PySem.W.Frag} {mg : Str → Option Value} {base : Heap} {qual : Str} {st : Stmt} {W : WX} (d : Mf K "__init__" qual st ps) (M : Mk K C d.f) (hm : mg x = some (.ref C)) (F : FnOk P w K mg base (L2.CX P w) k d.f d.fd ps sp) (hr : Room (k + 1) X.A) (tk : Takes X W) (ha : PA X (e :: es) t)
    (h1 : X.prog = P := by rfl) (h2 : X.w = w := by rfl) (h3 : X.K = K := by rfl) (h4 : X.mg = mg := by rfl) (h5 : X.base = base := by rfl) (hg : Gl X x := by rfl)
    (hdb : (x == ("__debug__" : Str)) = false := by decide) (he : starEach (e :: es) X.env = (false, eval e X.env) :: starEach es X.env := by rfl) (hpl : (backTo pos (starEach es X.env)).any (·.1) = false := by rfl) :
    PE X (.Call (.Name x p) (e :: es) [] pos) (tMakeT C sp (WE W) t) := by
  subst h1 h2 h3 h4 h5
  exact pe_makeT M F hr hg hm d.b (fun σ => passAt tk σ) ha hdb he hpl
/-- o.m(..) in a try's body -/
theorem pe_mT {pl : Sem Bool} {P : Program} {w : World} {K : PySem.W.Frag} {mg : Str → Option Value} {base : Heap} {nm qual : Str} {st : Stmt} {W : WX} (he : PE X o ta) (c : Cls K C) (d : Mf K nm qual st ps) (hm : Meth K C m d.f) (F : FnOk P w K mg base (L2.CX P w) k d.f d.fd ps sp) (hr : Room k X.A) (tk : Takes X W) (ha : PA X (e :: es) t)
    (h1 : X.prog = P := by rfl) (h2 : X.w = w := by rfl) (h3 : X.K = K := by rfl) (h4 : X.mg = mg := by rfl) (h5 : X.base = base := by rfl)
    (hst : starEach (e :: es) X.env = (false, eval e X.env) :: starEach es X.env := by rfl) (hpl : (backTo pos (starEach es X.env)).any (·.1) = false := by rfl)
    (ht : eval (.Call (.Attribute o m apos) (e :: es) [] pos) X.env = (do let ov ← eval o X.env; standAt apos.atName; let (f, first) ← holding [ov] (getMethod ov m pl); callWith pos f first (backTo pos (starEach (e :: es) X.env)) (backToKw pos (keywordEach [] X.env))) := by rfl) :
    PE X (.Call (.Attribute o m apos) (e :: es) [] pos) (tMethT C m sp (WE W) ta t) := by
  subst h1 h2 h3 h4 h5
  exact pe_methT (pl := pl) he c hm F hr d.b (fun σ => passAt tk σ) ha hst hpl ht
/-- o.m(..), the errors passing on -/
theorem pe_mA {pl : Sem Bool} {P : Program} {w : World} {K : PySem.W.Frag} {mg : Str → Option Value} {base : Heap} {nm qual : Str} {st : Stmt} {E : XK} (he : PE X o ta) (c : Cls K C) (d : Mf K nm qual st ps) (hm : Meth K C m d.f) (F : FnOk P w K mg base CX k d.f d.fd ps sp) (hr : Room k X.A) (hx : Passes CX X E) (ha : PA X (e :: es) t)
    (h1 : X.prog = P := by rfl) (h2 : X.w = w := by rfl) (h3 : X.K = K := by rfl) (h4 : X.mg = mg := by rfl) (h5 : X.base = base := by rfl)
    (hst : starEach (e :: es) X.env = (false, eval e X.env) :: starEach es X.env := by rfl) (hpl : (backTo pos (starEach es X.env)).any (·.1) = false := by rfl)
    (ht : eval (.Call (.Attribute o m apos) (e :: es) [] pos) X.env = (do let ov ← eval o X.env; standAt apos.atName; let (f, first) ← holding [ov] (getMethod ov m pl); callWith pos f first (backTo pos (starEach (e :: es) X.env)) (backToKw pos (keywordEach [] X.env))) := by rfl) :
    PE X (.Call (.Attribute o m apos) (e :: es) [] pos) (tMeth C m sp [] E ta t) := by
  subst h1 h2 h3 h4 h5
  exact pe_meth (pl := pl) he c hm F hr d.b .nil hx ha hst hpl ht
/-- try: .. except C as n: .. except C2 as n: .. -/
def tTryAsN (K : PySem.W.Frag) (i : Nat) (tb : WX → TS) (l : List Cl) : TS := fun D σ H => tb (wAsN K i (fun _ _ _ _ => False) D l) D σ H
theorem ktry_asN (K : PySem.W.Frag) (i : Nat) {n : Str} {body : List Stmt} {h₀ : ExceptHandler} {hds : List ExceptHandler} {l : List Cl} {tb : WX → TS} (hN : X.N.Nodup)
    (hb : ∀ (W : WX) (pn : List (Addr × Obj)) (xe : Value → Shared → Prop), Takes (X.tr pn xe) W → PassesOwn (model X.prog X.w) X.A X.env xe → PSs (X.tr pn xe) body (tb W)) (hh : ClsOk X n (h₀ :: hds) l)
    (hK : X.K = K := by rfl) (hs : X.stack = X.env :: X.outer := by rfl) (hf : X.env.frame = some X.env.locals := by rfl) (hi : X.N[i]? = some n := by rfl) (hln : X.env.kindOf n = some .local := by rfl) :
    PS X (.Try body (h₀ :: hds) [] [] pos) (tTryAsN K i tb l) := by
  subst hK
  exact ps_try_asN hs hf hN hi hln takes0 hb hh
end
namespace Rd
variable {K : PySem.W.Frag} {σ : L2.St} {H : Hp} {Q : VK} {N : L2.St → Hp → Prop} {r : VK} {bk ct : L2.St → Hp → Prop}
theorem tryAsN {i : Nat} {tb : WX → TS} {l : List Cl} (h : tb (wAsN K i (fun _ _ _ _ => False) (Ends.mk N r bk ct) l) (Ends.mk N r bk ct) σ H) : tTryAsN K i tb l (Ends.mk N r bk ct) σ H := h
theorem makeT {C : Addr} {sp : Sp} {E : L2.St → XK} {t : TA} (h : t σ H fun vs H1 => MkGo C sp vs H1 Q (E σ)) : tMakeT C sp E t σ H Q := h
theorem methT {C : Addr} {m : Str} {sp : Sp} {E : L2.St → XK} {ta : TE} {t : TA} (h : ta σ H fun x H1 => ∃ a dx fs, x = .ref a ∧ H1 a = some (.ins C dx fs) ∧ fs.lookup m = none ∧ t σ H1 fun vs H2 => sp (x :: vs) H2 Q (E σ)) : tMethT C m sp E ta t σ H Q := h
/-- the next clause is asked -/
theorem wAs_no {c cls : Value} {d : Option Addr} {i : Nat} {ts : Addr → Value → Option Addr → TS} {Wo : WX} {D : Ends} (te : PySem.W.exmOne K cls c = some false) (h : WE Wo σ cls d H) : WE (wAs K c i ts Wo D) σ cls d H := ⟨false, te, fun q => (nomatch q), fun _ => h⟩
end Rd
end Fw

set_option Elab.async false
set_option linter.all false
set_option maxRecDepth 100000
set_option maxHeartbeats 4000000
/-! [e for x in xs for y in f(x) if t], what the inner for walks depending on x -/
namespace Fw
open PySem PySem.Spec L2
namespace Rd
variable {σ : St} {H : Hp} {Q : VK} {te : TE} {tt1 : TT} {wi1 : TI} {J : It} {n : Nat} {G : Hp → Prop} {Itm : Nat → V → Prop}
theorem lc2D {s s1 M : Nat} (w : Walk J n G (Flat Itm)) (J1 : Nat → It) (m : Nat → Nat) (G1 : Nat → Hp → Prop) (Itm1 : Nat → Nat → V → Prop) (w1 : ∀ i, i < n → Walk (J1 i) (m i) (G1 i) (Flat (Itm1 i))) (hm : ∀ i, i < n → m i ≤ M) (hss : s ≠ s1) (hn : n * M < sizeLine)
    (Jv : Nat → Nat → List V → Hp → Prop) (h0 : Jv 0 0 [] H) (hst : ∀ D, H D = none → ∀ i j acc zs H', (∀ o, H' D = some o → ∃ ys, o = .lst ys) → Jv i j acc H' → Jv i j acc (upd H' D (.lst zs)))
    (hG : ∀ i acc H', i ≤ n → Jv i 0 acc H' → G H') (hG1 : ∀ i j acc H', i < n → j ≤ m i → Jv i j acc H' → G1 i H')
    (hin : ∀ i x acc H', i < n → Itm i x → Jv i 0 acc H' → ∀ R : It → Hp → Prop, R (J1 i) H' → wi1 (((σ.set s1 none).set s none).set s (some x)) H' R)
    (hend : ∀ i acc H', i < n → Jv i (m i) acc H' → Jv (i + 1) 0 acc H')
    (step : ∀ D, H D = none → ∀ i j x y acc H', i < n → j < m i → Itm i x → Itm1 i j y → H' D = some (.lst acc) → Jv i j acc H' → ∀ (Kt : V → Hp → Prop) (Kf : Hp → Prop), (∀ z H4, H4 D = some (.lst acc) → Jv i (j + 1) (acc ++ [z]) H4 → Kt z H4) → (∀ H3, H3 D = some (.lst acc) → Jv i (j + 1) acc H3 → Kf H3) →
      tt1 ((((σ.set s1 none).set s none).set s (some x)).set s1 (some y)) H' fun c H3 => if c = true then te ((((σ.set s1 none).set s none).set s (some x)).set s1 (some y)) H3 Kt else Kf H3)
    (fin : ∀ D acc H', H D = none → H' D = some (.lst acc) → acc.length ≤ n * M → Jv n 0 acc H' → Q (.ref D) H') :
    Lc2Go J (gName s) tYes wi1 (gName s1) tt1 te [s, s1] [s1] σ H Q := by
  intro D hD
  refine ⟨fun i k H' => k = n - i ∧ i ≤ n ∧ ∃ acc, H' D = some (.lst acc) ∧ acc.length ≤ i * M ∧ Jv i 0 acc H', ⟨_, rfl, Nat.zero_le _, [], upd_same, Nat.zero_le _, hst D hD _ _ _ _ _ (fun o e => by rw [hD] at e; cases e) h0⟩, ?_⟩
  rintro i k H' ⟨rfl, hi, acc, a1, a2, a3⟩
  rcases Nat.lt_or_ge i n with lt | ge
  · refine .inr ⟨w.goes i H' lt (hG _ _ _ hi a3), fun H'' => i + 1 ≤ n ∧ ∃ acc, H'' D = some (.lst acc) ∧ acc.length ≤ (i + 1) * M ∧ Jv (i + 1) 0 acc H'', fun H'' q => ⟨n - (i + 1), by omega, rfl, q.1, q.2⟩, ?_⟩
    intro x H2 yl
    obtain ⟨rfl, hx⟩ := w.yields i _ x H2 lt (hG _ _ _ hi a3) yl
    have w0 : wipe σ [s, s1] = (σ.set s1 none).set s none := rfl
    rw [w0]
    refine ⟨?_, ?_⟩
    · show ((((σ.set s1 none).set s none).set s (some x)).set s1 none).set s none = (σ.set s1 none).set s none
      rw [List.set_set, List.set_comm (some x) none hss, List.set_set, List.set_set]
    · refine hin i x acc _ lt hx a3 _ ?_
      refine ⟨fun j k H'' => k = m i - j ∧ j ≤ m i ∧ ∃ acc, H'' D = some (.lst acc) ∧ acc.length ≤ i * M + j ∧ Jv i j acc H'', ⟨_, rfl, Nat.zero_le _, acc, a1, a2, a3⟩, ?_⟩
      rintro j k H'' ⟨rfl, hj, acc, b1, b2, b3⟩
      have hmi := hm i lt
      rcases Nat.lt_or_ge j (m i) with lt1 | ge1
      · refine .inr ⟨(w1 i lt).goes j H'' lt1 (hG1 _ _ _ _ lt hj b3), fun H3 => j + 1 ≤ m i ∧ ∃ acc, H3 D = some (.lst acc) ∧ acc.length ≤ i * M + (j + 1) ∧ Jv i (j + 1) acc H3, fun H3 q => ⟨m i - (j + 1), by omega, rfl, q.1, q.2⟩, ?_⟩
        intro y H3 yl1
        obtain ⟨rfl, hy⟩ := (w1 i lt).yields j _ y H3 lt1 (hG1 _ _ _ _ lt hj b3) yl1
        have w2 : wipe (((σ.set s1 none).set s none).set s (some x)) [s1] = ((σ.set s1 none).set s none).set s (some x) := by
          show (((σ.set s1 none).set s none).set s (some x)).set s1 none = _
          rw [List.set_set, List.set_comm (some x) none hss, List.set_set]
        rw [w2]
        refine ⟨?_, ?_⟩
        · show ((((σ.set s1 none).set s none).set s (some x)).set s1 (some y)).set s1 none = _
          rw [List.set_set]
          exact w2
        · have lt2 : i * M + j < n * M := Nat.lt_of_lt_of_le (show i * M + j < (i + 1) * M by rw [Nat.succ_mul]; omega) (Nat.mul_le_mul_right _ lt)
          exact step D hD i j x y acc _ lt lt1 hx hy b1 b3 _ _ (fun z H4 c1 c2 => ⟨acc, c1, by omega, lt1, acc ++ [z], upd_same, by rw [List.length_append, List.length_singleton]; omega, hst D hD _ _ _ _ _ (fun o e => by rw [c1] at e; cases e; exact ⟨_, rfl⟩) c2⟩) fun H3 c1 c2 => ⟨lt1, acc, c1, by omega, c2⟩
      · have ej : j = m i := by omega
        subst ej
        exact .inl ⟨(w1 i lt).stops _ (hG1 _ _ _ _ lt (Nat.le_refl _) b3), lt, acc, b1, by rw [Nat.succ_mul]; omega, hend i acc _ lt b3⟩
  · have ei : i = n := by omega
    subst ei
    exact .inl ⟨w.stops _ (hG _ _ _ (Nat.le_refl _) a3), fin D acc _ hD a1 a2 a3⟩
end Rd
end Fw

set_option Elab.async false
set_option linter.all false
set_option maxRecDepth 100000
set_option maxHeartbeats 4000000
/-! more readings: list.insert, list.clear, comprehensions that name their own list, rising lists -/
namespace Fw
open PySem PySem.Spec L2
def rInsert : V → List V → Hp → VK → Prop := fun x vs H Q => ∃ (l : Addr) (xs : List V) (i : Int) (y : V), x = .ref l ∧ vs = [.int i, y] ∧ H l = some (.lst xs) ∧ xs.length < sizeLine ∧ 0 ≤ i ∧ i < 2 ^ 63 ∧
    Q .non (upd H l (.lst (xs.take i.toNat ++ [y] ++ xs.drop i.toNat)))
theorem kins {X : Cx} (K : PySem.W.Frag) {o e e2 : Expr} {to : TE} {t : TA} {apos cpos : Pos} (ho : PE X o to) (ha : PA X [e, e2] t) (h : X.K = K := by rfl)
    (hbase : attributeBase o "insert" X.env (eval o X.env) = eval o X.env := by rfl)
    (hfew : ((backTo cpos (starEach [e, e2] X.env)).all (fun x => !x.1) && (backToKw cpos (keywordEach [] X.env)).all (fun x => x.1.isSome)
      && decide (([e, e2] : List Expr).length + ([] : List Keyword).length + (if ([] : List Keyword).isEmpty then 0 else 1) < 30)) = true := by rfl)
    (hline : (apos.endLine == cpos.line) = true := by rfl) (hs : starEach [e, e2] X.env = (false, eval e X.env) :: starEach [e2] X.env := by rfl) (hplain : (backTo cpos (starEach [e2] X.env)).any (·.1) = false := by rfl) :
    PE X (.Call (.Attribute o "insert" apos) [e, e2] [] cpos) (tBM K "list" rInsert to t) := by
  subst h
  exact pe_bm PySem.F.plainAttrs_list PySem.F.slot_list_insert PySem.F.type_list_insert mt_insert ho ha hbase hfew hline hs hplain
theorem kclear {X : Cx} (K : PySem.W.Frag) {o : Expr} {to : TE} {apos cpos : Pos} (ho : PE X o to) (h : X.K = K := by rfl) (hbase : attributeBase o "clear" X.env (eval o X.env) = eval o X.env := by rfl) (hline : (apos.endLine == cpos.line) = true := by rfl) :
    PE X (.Call (.Attribute o "clear" apos) [] [] cpos) (tBM0 K "list" rClear to) := by
  subst h
  exact pe_bm0 PySem.F.plainAttrs_list PySem.F.slot_list_clear PySem.F.type_list_clear mt_clear ho hbase hline
namespace Rd
variable {K : PySem.W.Frag} {σ : St} {H : Hp} {Q : VK} {te : TE} {tt : TT} {J : It} {n : Nat} {G : Hp → Prop} {Itm : Nat → V → Prop}
theorem insert {p : Addr} {xs : List V} {i : Nat} {y : V} (h : H p = some (.lst xs)) (hl : xs.length < sizeLine) (hi : i < 100000) (q : Q .non (upd H p (.lst (xs.take i ++ [y] ++ xs.drop i)))) : rInsert (.ref p) [.int (i : Nat), y] H Q :=
  ⟨p, xs, (i : Nat), y, rfl, rfl, h, hl, by omega, by omega, by rw [Int.toNat_natCast]; exact q⟩
theorem clear {p : Addr} {xs : List V} (h : H p = some (.lst xs)) (q : Q .non (upd H p (.lst []))) : rClear (.ref p) [] H Q := ⟨p, xs, rfl, rfl, h, q⟩
theorem bm0 {T : String} {r : V → List V → Hp → VK → Prop} {to : TE} (h : to σ H fun x H1 => tyV K T x H1 ∧ r x [] H1 Q) : tBM0 K T r to σ H Q := h
theorem lcO {C : Addr} {L : Hp → Addr → Addr → Prop} {tl : TE} {g : TG} {vs : List Nat} (h : tl σ H fun x H1 => ∃ (a dx : Addr) (fs : List (Str × V)) (l : Addr), x = .ref a ∧ H1 a = some (.ins C dx fs) ∧ L H1 a l ∧ LcGo (Itt K l) g tt te vs σ H1 Q) : tLc (iOwn C L K tl) g tt te vs σ H Q := h
theorem foO {C : Addr} {L : Hp → Addr → Addr → Prop} {tl : TE} {g : TG} {tb : TS} {D : Ends} (h : tl σ H fun x H1 => ∃ (a dx : Addr) (fs : List (Str × V)) (l : Addr), x = .ref a ∧ H1 a = some (.ins C dx fs) ∧ L H1 a l ∧ FoGo (Itt K l) g tb D σ H1) : tFor (iOwn C L K tl) g tb D σ H := h
/-- an assertion between two statements -/
theorem mid {t : TS} {N : St → Hp → Prop} {r : VK} {bk ct : St → Hp → Prop} (Mid : St → Hp → Prop) (hN : ∀ σ H, Mid σ H → N σ H) (h : ∀ N', (∀ σ H, Mid σ H → N' σ H) → t (Ends.mk N' r bk ct) σ H) : t (Ends.mk N r bk ct) σ H := h N hN
/-- while: W by measure, slots and heap -/
theorem whW {c : TT} {tb : TS} {N : St → Hp → Prop} {r : VK} {bk ct : St → Hp → Prop} (W : Nat → St → Hp → Prop) (m : Nat) (h0 : W m σ H)
    (step : ∀ m σ H, W m σ H → c σ H fun b H1 => if b = true then ∃ N' : St → Hp → Prop, (∀ σ' H', N' σ' H' → ∃ m', m' < m ∧ W m' σ' H') ∧ tb (Ends.mk N' r N N') σ H1 else N σ H1) : tWhile c tb (Ends.mk N r bk ct) σ H :=
  ⟨W, ⟨m, h0⟩, step⟩
theorem whGo {m : Nat} {W : Nat → St → Hp → Prop} {P : (St → Hp → Prop) → Prop} (h : P fun σ' H' => ∃ m', m' < m ∧ W m' σ' H') : ∃ N' : St → Hp → Prop, (∀ σ' H', N' σ' H' → ∃ m', m' < m ∧ W m' σ' H') ∧ P N' := ⟨_, fun _ _ h => h, h⟩
/-- a comprehension whose word knows its own list, at D -/
theorem lcZ {s : Nat} (w : Walk J n G (Flat Itm)) (hn : n < sizeLine) (Jv : Addr → Nat → List V → Hp → Prop) (h0 : ∀ D, H D = none → Jv D 0 [] (upd H D (.lst []))) (hG : ∀ D i acc H', i ≤ n → Jv D i acc H' → G H')
    (step : ∀ D, H D = none → ∀ i x acc H', i < n → Itm i x → H' D = some (.lst acc) → acc.length ≤ i → Jv D i acc H' → ∀ (Kt : V → Hp → Prop) (Kf : Hp → Prop), (∀ y H4, H4 D = some (.lst acc) → Jv D (i + 1) (acc ++ [y]) (upd H4 D (.lst (acc ++ [y]))) → Kt y H4) → (∀ H3, H3 D = some (.lst acc) → Jv D (i + 1) acc H3 → Kf H3) →
      tt ((σ.set s none).set s (some x)) H' fun b H3 => if b = true then te ((σ.set s none).set s (some x)) H3 Kt else Kf H3)
    (fin : ∀ D acc H', H D = none → H' D = some (.lst acc) → acc.length ≤ n → Jv D n acc H' → Q (.ref D) H') : LcGo J (gName s) tt te [s] σ H Q := by
  intro D hD
  refine lc_it w (fun i H' => ∃ acc, H' D = some (.lst acc) ∧ acc.length ≤ i ∧ Jv D i acc H') ⟨[], upd_same, Nat.le_refl _, h0 D hD⟩ (fun i H' hi ⟨acc, _, _, j⟩ => hG D i acc H' hi j) ?_ (fun H' ⟨acc, a1, a2, a3⟩ => fin D acc H' hD a1 a2 a3)
  rintro i x H' H2 hi ⟨acc, a1, a2, a3⟩ ⟨rfl, hx⟩
  refine ⟨?_, ?_⟩
  · show ((σ.set s none).set s (some x)).set s none = σ.set s none
    rw [List.set_set, List.set_set]
  · exact step D hD i x acc _ hi hx a1 a2 a3 _ _
      (fun y H4 b1 b2 => ⟨acc, b1, Nat.lt_of_le_of_lt a2 (Nat.lt_trans hi hn), acc ++ [y], upd_same, by rw [List.length_append, List.length_singleton]; omega, b2⟩)
      (fun H3 b1 b2 => ⟨acc, b1, Nat.le_succ_of_le a2, b2⟩)
end Rd
/-! ### data of any depth under growing heaps -/
mutual
theorem Dp.mono {K : PySem.W.Frag} {H H' : Hp} (e : Same H H') : ∀ (d : PyData) {v : V}, Dp K H v d → Dp K H' v d
  | .none, _, h => by cases h; exact .non
  | .bool _, _, h => by cases h; exact .bl _
  | .int _, _, h => by cases h; exact .int _
  | .str _, _, h => by cases h; exact .str _
  | .list ds, _, h => by
    cases h with
    | lst h1 h2 => exact .lst (e.seq h1) (DpAll.mono e ds h2)
  | .tuple ds, _, h => by
    cases h with
    | tup h1 h2 => exact .tup (Fw.Same.sqt e h1) (DpAll.mono e ds h2)
  | .dict _, _, h => nomatch h
theorem DpAll.mono {K : PySem.W.Frag} {H H' : Hp} (e : Same H H') : ∀ (ds : List PyData) {vs : List V}, DpAll K H vs ds → DpAll K H' vs ds
  | [], _, h => by cases h; exact .nil
  | d :: ds, _, h => by
    cases h with
    | cons h1 h2 => exact .cons (Dp.mono e d h1) (DpAll.mono e ds h2)
end
/-! ### strictly rising lists -/
section
variable {α : Type} {lt : α → α → Prop}
theorem rise_ext (irr : ∀ x, ¬ lt x x) (tr : ∀ x y z, lt x y → lt y z → lt x z) : ∀ {xs ys : List α}, xs.Pairwise lt → ys.Pairwise lt → (∀ x, x ∈ xs ↔ x ∈ ys) → xs = ys
  | [], [], _, _, _ => rfl
  | [], y :: ys, _, _, h => absurd ((h y).mpr List.mem_cons_self) List.not_mem_nil
  | x :: xs, [], _, _, h => absurd ((h x).mp List.mem_cons_self) List.not_mem_nil
  | x :: xs, y :: ys, hx, hy, h => by
    rw [List.pairwise_cons] at hx hy
    have e : x = y := by
      rcases List.mem_cons.mp ((h x).mp List.mem_cons_self) with e | e
      · exact e
      · rcases List.mem_cons.mp ((h y).mpr List.mem_cons_self) with e' | e'
        · exact e'.symm
        · exact absurd (tr _ _ _ (hy.1 _ e) (hx.1 _ e')) (irr _)
    subst e
    rw [rise_ext irr tr hx.2 hy.2 fun z => ⟨fun hz => ?_, fun hz => ?_⟩]
    · rcases List.mem_cons.mp ((h z).mp (List.mem_cons_of_mem _ hz)) with e | e
      · rw [e] at hz; exact absurd (hx.1 _ hz) (irr _)
      · exact e
    · rcases List.mem_cons.mp ((h z).mpr (List.mem_cons_of_mem _ hz)) with e | e
      · rw [e] at hz; exact absurd (hy.1 _ hz) (irr _)
      · exact e
end
end Fw

set_option Elab.async false
set_option linter.all false
set_option maxRecDepth 100000
set_option maxHeartbeats 4000000
/-! dicts whose keys are tuples of any depth, held as abstract objects -/
namespace ND
open PySem PySem.Spec PyProof.Rows L2
mutual
/-- the value is such a key -/
inductive NkAt (H : Hp) : V → NestedKey → Prop
  | int (i : Int) : NkAt H (.int i) (.num i)
  | str (x : Str) : NkAt H (.str x) (.text x)
  | tup {a : Addr} {xs : List V} {ks : List NestedKey} : H a = some (.tup xs) → NkAll H xs ks → NkAt H (.ref a) (.tup ks)
inductive NkAll (H : Hp) : List V → List NestedKey → Prop
  | nil : NkAll H [] []
  | cons {v : V} {k : NestedKey} {vs : List V} {ks : List NestedKey} : NkAt H v k → NkAll H vs ks → NkAll H (v :: vs) (k :: ks)
end
mutual
theorem NkAt.mono {H H' : Hp} (e : ∀ a xs, H a = some (.tup xs) → H' a = some (.tup xs)) : ∀ (k : NestedKey) {v : V}, NkAt H v k → NkAt H' v k
  | .none, _, h => nomatch h
  | .num _, _, h => by cases h; exact .int _
  | .text _, _, h => by cases h; exact .str _
  | .tup ks, _, h => by
    cases h with
    | tup h1 h2 => exact .tup (e _ _ h1) (NkAll.mono e ks h2)
theorem NkAll.mono {H H' : Hp} (e : ∀ a xs, H a = some (.tup xs) → H' a = some (.tup xs)) : ∀ (ks : List NestedKey) {vs : List V}, NkAll H vs ks → NkAll H' vs ks
  | [], _, h => by cases h; exact .nil
  | k :: ks, _, h => by
    cases h with
    | cons h1 h2 => exact .cons (NkAt.mono e k h1) (NkAll.mono e ks h2)
end
section
variable {P : Program} {w : World} {H : Hp} {h : Heap}
mutual
theorem nk_is (ok : HOk P w H h) : ∀ (k : NestedKey) {v : V} {u : Value}, NkAt H v k → RelV v u → NestedIs h k u
  | .none, _, _, h, _ => nomatch h
  | .num i, _, _, h, r => by
    cases h
    obtain ⟨t, rfl⟩ := r
    exact .int i t
  | .text x, _, _, h, r => by
    cases h
    obtain ⟨t, rfl⟩ := r
    exact .text x t
  | .tup ks, _, _, h, r => by
    cases h with
    | @tup a xs _ h1 h2 =>
      cases r
      obtain ⟨_, its, r, o, e1, e2, n, e3⟩ := (show ObjOk P w H _ a (.tup xs) from ok a _ h1)
      exact .tup e1 e2 e3 (by simpa using nk_all ok ks h2 r)
theorem nk_all (ok : HOk P w H h) : ∀ (ks : List NestedKey) {vs : List V} {us : List Value}, NkAll H vs ks → Vals vs us → NestedAll h ks us
  | [], _, _, h, r => by
    cases h
    cases r
    exact .nil
  | k :: ks, _, _, h, r => by
    cases h with
    | cons h1 h2 =>
      cases r with
      | cons r1 r2 => exact .cons (nk_is ok k h1 r1) (nk_all ok ks h2 r2)
end
end
abbrev Row := NestedKey × Addr × V
def RelRows : List Row → List (NestedKey × Addr × Value) → Prop := Paired fun p q => p.1 = q.1 ∧ p.2.1 = q.2.1 ∧ RelV p.2.2 q.2.2
/-- the dict at d: its rows, in order -/
def DctO (P : Program) (w : World) (d : Addr) (xs : List Row) : HO := .ext fun h => xs.length ≤ sizeLine ∧ (d == sysModules) = false ∧ ∃ rows, RelRows xs rows ∧
  ∃ o es ep, h.get? d = some o ∧ o.ExactDict ∧ o.data = .dict es ep ∧ es.toList = rows.map (entryOfKey (nestedKind P w))
def RowsOk (H : Hp) (xs : List Row) : Prop := (∀ p ∈ xs, NkAt H (.ref p.2.1) p.1 ∧ p.1.depth ≤ 8) ∧ (xs.map (·.1)).Nodup
def atN (xs : List Row) (k : NestedKey) : Option V := (xs.find? fun p => decide (p.1 = k)).map (·.2.2)
def putN (xs : List Row) (k : NestedKey) (b : Addr) (v : V) : List Row := if (atN xs k).isSome then xs.map (fun p => if p.1 = k then (p.1, p.2.1, v) else p) else xs ++ [(k, b, v)]
theorem RelRows.keys {xs : List Row} {rows : List (NestedKey × Addr × Value)} (r : RelRows xs rows) : rows.map (·.1) = xs.map (·.1) := by
  unfold RelRows at r
  induction r with
  | nil => rfl
  | cons h _ ih => rw [List.map_cons, List.map_cons, ih, h.1]
theorem RelRows.at {xs : List Row} {rows : List (NestedKey × Addr × Value)} (r : RelRows xs rows) (k : NestedKey) : RelO (atN xs k) ((atKey rows k).map (·.2)) := by
  unfold RelRows at r
  unfold atN atKey
  induction r with
  | nil => exact True.intro
  | @cons p q ps qs h _ ih =>
    rw [List.find?_cons, List.find?_cons, ← h.1]
    by_cases e : p.1 = k
    · rw [decide_eq_true e]
      exact h.2.2
    · rw [decide_eq_false e]
      exact ih
theorem relO_isSome {a : Option V} {b : Option Value} (h : RelO a b) : b.isSome = a.isSome := by
  cases a <;> cases b <;> first | rfl | exact h.elim
theorem RelRows.isSome {xs : List Row} {rows : List (NestedKey × Addr × Value)} (r : RelRows xs rows) (k : NestedKey) : (atKey rows k).isSome = (atN xs k).isSome := by
  have := relO_isSome (r.at k)
  rw [Option.isSome_map] at this
  exact this
theorem RelRows.put {xs : List Row} {rows : List (NestedKey × Addr × Value)} (r : RelRows xs rows) (k : NestedKey) (b : Addr) {v : V} {u : Value} (rv : RelV v u) : RelRows (putN xs k b v) (storedH rows k b u) := by
  unfold putN storedH
  rw [r.isSome k]
  split
  · rename_i hsome
    clear hsome
    unfold RelRows at r ⊢
    induction r with
    | nil => exact .nil
    | @cons p q ps qs h _ ih =>
      rw [List.map_cons, List.map_cons]
      refine .cons ?_ ih
      unfold putAt
      rw [← h.1]
      by_cases e : p.1 = k
      · rw [if_pos e, if_pos e]; exact ⟨rfl, h.2.1, rv⟩
      · rw [if_neg e, if_neg e]; exact h
  · exact Paired.snoc r ⟨rfl, rfl, rv⟩
theorem RelRows.is {P : Program} {w : World} {H : Hp} {h : Heap} {xs : List Row} {rows : List (NestedKey × Addr × Value)} (ok : HOk P w H h) (r : RelRows xs rows) (g : ∀ p ∈ xs, NkAt H (.ref p.2.1) p.1 ∧ p.1.depth ≤ 8) : ∀ x ∈ rows, (nestedKind P w).is h x.1 x.2.1 := by
  unfold RelRows at r
  induction r with
  | nil => intro x hx; exact nomatch hx
  | @cons p q ps qs hq _ ih =>
    intro x hx
    rcases List.mem_cons.mp hx with e | hx
    · subst e
      have := g p List.mem_cons_self
      rw [hq.1, hq.2.1] at this
      exact ⟨nk_is ok _ this.1 rfl, this.2⟩
    · exact ih (fun y hy => g y (List.mem_cons_of_mem _ hy)) x hx
section
variable {X : Cx} {pins : List (Addr × Obj)} {σ : L2.St} {H : Hp} {s : Shared} {d b : Addr} {xs : List Row} {k : NestedKey} {A : Around} {E : Value → Shared → Prop}
theorem dct_of (I : Inv X pins σ H s) (e : H d = some (DctO X.prog X.w d xs)) (g : RowsOk H xs) : xs.length ≤ sizeLine ∧ (d == sysModules) = false ∧ ∃ rows, RelRows xs rows ∧ s.heap.DictOfH (nestedKind X.prog X.w) d rows := by
  obtain ⟨⟨z, hd, rows, r, o, es, ep, h1, h2, h3, h4⟩, _⟩ := (show ObjOk X.prog X.w H s.heap d (DctO X.prog X.w d xs) from I.hok d _ e)
  exact ⟨z, hd, rows, r, o, es, ep, h1, h2, h3, h4, r.is I.hok g.1, by rw [r.keys]; exact g.2⟩
theorem dct_new {P : Program} {w : World} {H' : Hp} {h' : Heap} {rows : List (NestedKey × Addr × Value)} (z : xs.length ≤ sizeLine) (hd : (d == sysModules) = false) (r : RelRows xs rows) (dd : h'.DictOfH (nestedKind P w) d rows) : ObjOk P w H' h' d (DctO P w d xs) := by
  obtain ⟨o, es, ep, h1, h2, h3, h4, _, _⟩ := dd
  exact ⟨⟨z, hd, rows, r, o, es, ep, h1, h2, h3, h4⟩, ⟨o, h1⟩, fun a b ⟨z, hd, rows, r, o, es, ep, h1, q⟩ k => ⟨z, hd, rows, r, o, es, ep, k o h1, q⟩⟩
theorem room_of (hu : X.A.units + 64 < cLine) : (nestedKind X.prog X.w).room X.A.in1 := by
  show X.A.in1.units + 8 < cLine
  rw [Around.in1_units]
  omega
/-- {} -/
def tDNew (P : Program) (w : World) : TE := fun _ H Q => ∀ p, H p = none → Q (.ref p) (upd H p (DctO P w p []))
theorem pe_dnew {pos : Pos} : PE X (.Dict [] [] pos) (tDNew X.prog X.w) := ⟨fun pins s σ H Q I h =>
  wpAny_Dict_empty ⟨.ref s.heap.objs.size, _, I.laid (a := s.heap.objs.size) (o := DctO X.prog X.w s.heap.objs.size []) (t' := s.toks) (fun _ _ q => Heap.get?_push_of_some _ q) (Nat.le_refl _)
    (dct_new (rows := []) (Nat.zero_le _) (beq_eq_false_iff_ne.mpr (Ne.symm (Nat.ne_of_lt I.big))) .nil (Heap.DictOfH.new s.heap)), rfl, h _ (I.hok.fresh (Nat.le_refl _))⟩⟩
/-- a key in the dict, not in it -/
def rNIn (P : Program) (w : World) (neg : Bool) : R2 := fun x y H Q => ∃ (d b : Addr) (xs : List Row) (k : NestedKey), y = .ref d ∧ x = .ref b ∧ H d = some (DctO P w d xs) ∧ RowsOk H xs ∧ NkAt H (.ref b) k ∧ k.depth ≤ 8 ∧ Q (.bl (if neg then !(atN xs k).isSome else (atN xs k).isSome)) H
theorem op_nin (hu : X.A.units + 64 < cLine) : OpR X (compareOp .In) (rNIn X.prog X.w false) := by
  intro pins s σ H x y v u Q I rx ry h
  obtain ⟨d, b, xs, k, rfl, rfl, e, g, hk, hdp, q⟩ := h
  cases rx
  cases ry
  obtain ⟨z, hd, rows, r, dd⟩ := dct_of I e g
  refine wpAny_in_heap (room_of hu) ⟨nk_is I.hok k hk rfl, hdp⟩ hd dd ?_
  rw [r.isSome]
  exact ⟨.bl _, H, I.tok _, rfl, q⟩
theorem op_nnotin (hu : X.A.units + 64 < cLine) : OpR X (compareOp .NotIn) (rNIn X.prog X.w true) := by
  intro pins s σ H x y v u Q I rx ry h
  obtain ⟨d, b, xs, k, rfl, rfl, e, g, hk, hdp, q⟩ := h
  cases rx
  cases ry
  obtain ⟨z, hd, rows, r, dd⟩ := dct_of I e g
  refine wpAny_notIn_heap (room_of hu) ⟨nk_is I.hok k hk rfl, hdp⟩ hd dd ?_
  rw [r.isSome]
  exact ⟨.bl _, H, I.tok _, rfl, q⟩
/-- d[k], there -/
def rNGet (P : Program) (w : World) : R2 := fun x y H Q => ∃ (d b : Addr) (xs : List Row) (k : NestedKey) (v : V), x = .ref d ∧ y = .ref b ∧ H d = some (DctO P w d xs) ∧ RowsOk H xs ∧ NkAt H (.ref b) k ∧ k.depth ≤ 8 ∧ atN xs k = some v ∧ Q v H
theorem ix_nget (hu : X.A.units + 64 < cLine) : IxR X (rNGet X.prog X.w) := by
  intro value slice pins s σ H x y v u Q I rx ry h hs
  obtain ⟨d, b, xs, k, z, rfl, rfl, e, g, hk, hdp, hv, q⟩ := h
  cases rx
  cases ry
  obtain ⟨_, hd, rows, r, dd⟩ := dct_of I e g
  obtain ⟨w', hw, rw'⟩ := RelO.some_of (v := z) (o := (atKey rows k).map (·.2)) (by rw [← hv]; exact r.at k)
  obtain ⟨p, hp, hp2⟩ := Option.map_eq_some_iff.mp hw
  refine subscriptTail_builtinR (x := w') dd.typeIs PySem.F.slot_dict_getitem.lookup (wpAny_getItem_heap (room_of hu) ⟨nk_is I.hok k hk rfl, hdp⟩ dd hp ?_) hs
  rw [hp2]
  exact ⟨rfl, z, H, I.tok _, rw', q⟩
/-- d[k] = v -/
def rNPut (P : Program) (w : World) : TSet := fun o i v H Q => ∃ (d b : Addr) (xs : List Row) (k : NestedKey), o = .ref d ∧ i = .ref b ∧ H d = some (DctO P w d xs) ∧ RowsOk H xs ∧ NkAt H (.ref b) k ∧ k.depth ≤ 8 ∧ xs.length < sizeLine ∧ Q (upd H d (DctO P w d (putN xs k b v)))
theorem putN_len (xs : List Row) (k : NestedKey) (b : Addr) (v : V) : (putN xs k b v).length ≤ xs.length + 1 := by
  unfold putN
  split
  · rw [List.length_map]; exact Nat.le_succ _
  · rw [List.length_append]; exact Nat.le_refl _
theorem set_nput (hu : X.A.units + 64 < cLine) : PSet X (rNPut X.prog X.w) := by
  intro pins s σ H o i v ov iv u Q I ro ri rv h
  obtain ⟨d, b, xs, k, rfl, rfl, e, g, hk, hdp, hl, q⟩ := h
  cases ro
  cases ri
  obtain ⟨_, hd, rows, r, dd⟩ := dct_of I e g
  have hz : rows.length ≤ sizeLine := by rw [← Paired.length r]; omega
  refine wpAny_setItem_heap (hsz := hz) (room_of hu) ⟨nk_is I.hok k hk rfl, hdp⟩ dd fun h' dd' hs => ⟨_, ?_, q⟩
  have he : ∃ o, h'.get? d = some o := let ⟨o, _, _, ho, _⟩ := dd'; ⟨o, ho⟩
  exact d_write I (by rw [e]; exact True.intro) hs he (dct_new (by have := putN_len xs k b v; omega) hd (r.put k b rv) dd')
end
section
variable {X : Cx} (P : Program) (w : World)
theorem knin_ (hu : X.A.units + 64 < cLine) (h : X.prog = P := by rfl) (h2 : X.w = w := by rfl) : OpR X (compareOp .In) (rNIn P w false) := by subst h h2; exact op_nin hu
theorem knnot (hu : X.A.units + 64 < cLine) (h : X.prog = P := by rfl) (h2 : X.w = w := by rfl) : OpR X (compareOp .NotIn) (rNIn P w true) := by subst h h2; exact op_nnotin hu
theorem knget (hu : X.A.units + 64 < cLine) (h : X.prog = P := by rfl) (h2 : X.w = w := by rfl) : IxR X (rNGet P w) := by subst h h2; exact ix_nget hu
theorem knput (hu : X.A.units + 64 < cLine) (h : X.prog = P := by rfl) (h2 : X.w = w := by rfl) : PSet X (rNPut P w) := by subst h h2; exact set_nput hu
theorem kdnew {pos : Pos} (h : X.prog = P := by rfl) (h2 : X.w = w := by rfl) : PE X (.Dict [] [] pos) (tDNew P w) := by subst h h2; exact pe_dnew
end
end ND

set_option Elab.async false
set_option linter.all false
set_option maxRecDepth 100000
set_option maxHeartbeats 4000000
/-! more readings: the sign, x in l and l.index(x) of data -/
namespace Fw
open PySem PySem.Spec L2
section
variable {X : Cx} (K : PySem.W.Frag)
theorem kinD (hu : X.A.units + 64 < cLine) (hu2 : X.A.units + 65 < cLine) (h : X.K = K := by rfl) : OpR X (compareOp .In) (rInD K) := by subst h; exact op_inD hu2
theorem kninD (hu : X.A.units + 64 < cLine) (hu2 : X.A.units + 65 < cLine) (h : X.K = K := by rfl) : OpR X (compareOp .NotIn) (rNotInD K) := by subst h; exact op_notInD hu2
theorem kindex {o e : Expr} {to : TE} {t : TA} {apos cpos : Pos} (hu2 : X.A.units + 65 < cLine) (ho : PE X o to) (ha : PA X [e] t) (h : X.K = K := by rfl)
    (hbase : attributeBase o "index" X.env (eval o X.env) = eval o X.env := by rfl)
    (hfew : ((backTo cpos (starEach [e] X.env)).all (fun x => !x.1) && (backToKw cpos (keywordEach [] X.env)).all (fun x => x.1.isSome)
      && decide (([e] : List Expr).length + ([] : List Keyword).length + (if ([] : List Keyword).isEmpty then 0 else 1) < 30)) = true := by rfl)
    (hline : (apos.endLine == cpos.line) = true := by rfl) (hs : starEach [e] X.env = (false, eval e X.env) :: starEach [] X.env := by rfl) (hplain : (backTo cpos (starEach [] X.env)).any (·.1) = false := by rfl) :
    PE X (.Call (.Attribute o "index" apos) [e] [] cpos) (tBM K "list" (rIndexD K) to t) := by
  subst h
  exact pe_bm PySem.F.plainAttrs_list PySem.F.slot_list_index PySem.F.type_list_index (mt_indexD hu2) ho ha hbase hfew hline hs hplain
end
namespace Rd
variable {K : PySem.W.Frag} {σ : St} {H : Hp} {Q : VK} {ta : TE}
theorem un {r : V → Hp → VK → Prop} (h : ta σ H fun x H1 => r x H1 Q) : tUn r ta σ H Q := h
theorem negI {i : Int} (q : Q (.int (-i)) H) : rU (fun i => V.int (-i)) (.int i) H Q := ⟨i, rfl, q⟩
end Rd
end Fw
namespace Fw
open PySem PySem.Spec L2
theorem pe_mk0 {X : Cx} {P : Program} {w : World} {K : PySem.W.Frag} {mg : Str → Option Value} {base : Heap} {CX : CXT} {x qual : Str} {st : Stmt} {C : Addr} {k : Nat} {ps : List Str} {sp : Sp} {E : XK} {p pos : Pos} (d : Mf K "__init__" qual st ps) (M : Mk K C d.f) (hm : mg x = some (.ref C)) (F : FnOk P w K mg base CX k d.f d.fd ps sp) (hr : Room (k + 1) X.A) (hx : Passes CX X E)
    (h1 : X.prog = P := by rfl) (h2 : X.w = w := by rfl) (h3 : X.K = K := by rfl) (h4 : X.mg = mg := by rfl) (h5 : X.base = base := by rfl) (hg : Gl X x := by rfl)
    (hdb : (x == ("__debug__" : Str)) = false := by decide) :
    PE X (.Call (.Name x p) [] [] pos) (tMake C sp [] E tNil) := by
  subst h1 h2 h3 h4 h5
  exact pe_make0 M F hr hg hm d.b .nil hx hdb
theorem klenO {X : Cx} (K : PySem.W.Frag) {n : Nat} {f C : Addr} {fd : FuncData} {sp : Sp} {ps : List Str} (hs : PySem.W.findIn K (.ref C) "__len__" = some (some (.ref f))) (hf : PySem.W.isFn K (.ref f) = true) (F : FnOk X.prog X.w K X.mg X.base CX0 n f fd ps sp) (b : Binds K fd ps []) (hr : Room (n + 1) X.A) (h : X.K = K := by rfl) : CallR X (.builtin "len") (rLenO K C sp) := by
  subst h; exact call_lenO hs hf F b hr
theorem u65 {k : Nat} {A : Around} (r : Room (k + 1) A) : A.units + 65 < cLine := by have := r.un; omega
end Fw

set_option Elab.async false
set_option linter.all false
set_option maxRecDepth 100000
set_option maxHeartbeats 4000000
/-! enumerate over a tuple; zip in walks; loops over pairs -/
namespace Fw
open PySem PySem.Spec PyProof.Rows L2
open Sem (wp)
open AutoSeq1 (wpAny_loadPart')
section
variable {prog : Program} {w : World} {A : Around} {E : Value → Shared → Prop} {s : Shared}
theorem enT_item {e it l : Addr} {i : Nat} {items : Array Value} {x old : Value} {Q : Value → Shared → Prop}
    (he : IsEnum s.heap e it i old) (hit : s.heap.IsTupleIter it l i) (hl : s.heap.IsTuple l items) (hx : items[i]? = some x) (hne : e ≠ it)
    (hQ : ∀ h', IsEnumOut h' e it ((i : Int) + 1) x s.heap.objs.size → h'.IsTupleIter it l (i + 1) →
      h'.get? s.heap.objs.size = some { cls := .type "tuple", data := .seq #[.int i s.toks, x] } → h'.objs.size = s.heap.objs.size + 1 →
      (∀ b o, b ≠ e → b ≠ it → s.heap.get? b = some o → h'.get? b = some o) → Q (.ref s.heap.objs.size) { s with heap := h', toks := s.toks + 1 }) :
    wpAny (model prog w) A (Builtin.«enumerate.__next__» ⟨[.ref e], []⟩) (fun fin s' => ∃ v, fin = .done (.ret v) ∧ Q v s') E s := by
  obtain ⟨hp, g, d, tk, os⟩ := s
  show wpAny _ _ (field (.ref e) 2 >>= _) _ _ _
  refine wpAny_bind (wpAny_field he rfl (x := .ref it) rfl ?_)
  refine wpAny_bind (RZ.nextOf_tuple_item hit hl hx fun h₁ hit₁ hs₁ => ?_)
  replace hs₁ : Heap.SameBut it hp h₁ := hs₁
  have he₁ : IsEnum h₁ e it i old := (hs₁.2 e hne).trans he
  show wpAny _ _ (field (.ref e) 3 >>= _) _ _ ⟨h₁, g, d, tk, os⟩
  refine wpAny_bind (wpAny_field he₁ rfl (x := rawInt i) rfl ?_)
  show wpAny _ _ (field (.ref e) 4 >>= _) _ _ ⟨h₁, g, d, tk, os⟩
  refine wpAny_bind (wpAny_field he₁ rfl (x := .none) rfl ?_)
  show wpAny _ _ (mkInt i >>= _) _ _ ⟨h₁, g, d, tk, os⟩
  refine wpAny_bind (wpAny_mkInt ?_)
  show wpAny _ _ (setField (.ref e) 3 (rawInt ((i : Int) + 1)) >>= _) _ _ ⟨h₁, g, d, tk + 1, os⟩
  refine wpAny_bind (wpAny_setField_rec he₁ (by simp) fun h₂ he₂ hs₂ => ?_)
  replace hs₂ : Heap.SameBut e h₁ h₂ := hs₂
  replace he₂ : IsEnum h₂ e it ((i : Int) + 1) old := he₂
  show wpAny _ _ (setField (.ref e) 4 .none >>= _) _ _ ⟨h₂, g, d, tk + 1, os⟩
  refine wpAny_bind (wpAny_setField_rec he₂ (by simp) fun h₃ he₃ hs₃ => ?_)
  replace hs₃ : Heap.SameBut e h₂ h₃ := hs₃
  replace he₃ : IsEnum h₃ e it ((i : Int) + 1) old := he₃
  show wpAny _ _ (newTuple [.int i tk, x] >>= _) _ _ ⟨h₃, g, d, tk + 1, os⟩
  refine wpAny_bind (wpAny_newTuple ?_)
  have hsz : h₃.objs.size = hp.objs.size := by rw [hs₃.1, hs₂.1, hs₁.1]
  have hel : e < hp.objs.size := Heap.lt_size he
  have step : ∃ h₄ : Heap, h₄ = h₃.push { cls := .type "tuple", data := .seq #[.int i tk, x] } := ⟨_, rfl⟩
  obtain ⟨h₄, e₄⟩ := step
  rw [← e₄]
  have he₄ : IsEnum h₄ e it ((i : Int) + 1) old := by rw [e₄]; exact Heap.get?_push_of_some _ he₃
  have ht₄ : h₄.get? hp.objs.size = some { cls := .type "tuple", data := .seq #[.int i tk, x] } := by rw [e₄, ← hsz]; exact Heap.get?_push_size _ rfl
  have hz₄ : h₄.objs.size = hp.objs.size + 1 := by rw [e₄, Heap.size_push, hsz]
  have hk₄ : ∀ b o, b ≠ e → b ≠ it → hp.get? b = some o → h₄.get? b = some o := fun b o hbe hbi hb => by
    rw [e₄]; exact Heap.get?_push_of_some _ (hs₃.extBut b o hbe (hs₂.extBut b o hbe (hs₁.extBut b o hbi hb)))
  have hit₄ : h₄.IsTupleIter it l (i + 1) := by
    obtain ⟨o, ho, r⟩ := hit₁
    exact ⟨o, by rw [e₄]; exact Heap.get?_push_of_some _ (hs₃.extBut _ _ (Ne.symm hne) (hs₂.extBut _ _ (Ne.symm hne) ho)), r⟩
  show wpAny _ _ (Builtin.SmallTypes.ownedTupleIsFree (.ref e) >>= _) _ _ ⟨h₄, g, d, tk + 1, os⟩
  rw [hsz]
  clear e₄ he₃ hs₃ he₂ hs₂ he₁ hs₁ hit₁ hsz h₃ h₂ h₁
  refine wpAny_bind ?_
  unfold Builtin.SmallTypes.ownedTupleIsFree
  refine wpAny_bind (wpAny_field he₄ rfl (x := .none) rfl (wpAny_pure ?_))
  simp only [if_true]
  refine wpAny_bind (wpAny_rule ?_)
  refine wpAny_bind (wpAny_field he₄ rfl (x := old) rfl ?_)
  refine wpAny_bind (wpAny_setField_rec he₄ (by simp) fun h₅ he₅ hs₅ => ?_)
  replace hs₅ : Heap.SameBut e h₄ h₅ := hs₅
  replace he₅ : IsEnum h₅ e it ((i : Int) + 1) x := he₅
  show wpAny _ _ (Builtin.SmallTypes.ownedTupleHandOut (.ref e) (.ref hp.objs.size) >>= _) _ _ ⟨h₅, g, d, tk + 1, os⟩
  refine wpAny_bind ?_
  unfold Builtin.SmallTypes.ownedTupleHandOut
  refine wpAny_bind (wpAny_setField_rec he₅ (by simp) fun h₆ he₆ hs₆ => ?_)
  replace hs₆ : Heap.SameBut e h₅ h₆ := hs₆
  replace he₆ : IsEnumOut h₆ e it ((i : Int) + 1) x hp.objs.size := he₆
  refine wpAny_setField_rec he₆ (by simp) fun h₇ he₇ hs₇ => ?_
  replace hs₇ : Heap.SameBut e h₆ h₇ := hs₇
  replace he₇ : IsEnumOut h₇ e it ((i : Int) + 1) x hp.objs.size := he₇
  have up : ∀ b o, b ≠ e → h₄.get? b = some o → h₇.get? b = some o := fun b o n q => hs₇.extBut b o n (hs₆.extBut b o n (hs₅.extBut b o n q))
  refine wpAny_bind (wpAny_letGo (wpAny_pure ⟨_, rfl, hQ h₇ he₇ ?_ (up _ _ (Nat.ne_of_gt hel) ht₄) (by rw [hs₇.1, hs₆.1, hs₅.1, hz₄]) fun b o hbe hbi hb => up b o hbe (hk₄ b o hbe hbi hb)⟩))
  obtain ⟨o, ho, r⟩ := hit₄
  exact ⟨o, up _ _ (Ne.symm hne) ho, r⟩
theorem nextT_item {e it l : Addr} {i : Nat} {items : Array Value} {x old : Value} {Q : Option Value → Shared → Prop}
    (he : IsEnum s.heap e it i old) (hit : s.heap.IsTupleIter it l i) (hl : s.heap.IsTuple l items) (hx : items[i]? = some x) (hne : e ≠ it)
    (hQ : ∀ h', IsEnumOut h' e it ((i : Int) + 1) x s.heap.objs.size → h'.IsTupleIter it l (i + 1) →
      h'.get? s.heap.objs.size = some { cls := .type "tuple", data := .seq #[.int i s.toks, x] } → h'.objs.size = s.heap.objs.size + 1 →
      (∀ b o, b ≠ e → b ≠ it → s.heap.get? b = some o → h'.get? b = some o) → Q (some (.ref s.heap.objs.size)) { s with heap := h', toks := s.toks + 1 }) :
    wpAny (model prog w) A (pyNext (.ref e)) Q E s := by
  have hT : s.TypeIs (.ref e) "enumerate" := ⟨_, he, rfl⟩
  unfold pyNext
  exact wpAny_bind (wpAny_attempt (wpAny_callSpecial?_slot (name := Str.ofString "__next__") hT F.slot_enumerate_next
    (wpAny_call_entry F.slot_enumerate_next hT F.entry_enumerate_next
      (enT_item he hit hl hx hne fun h' a b c d k => wpAny_pure (hQ h' a b c d k)) (F.args_enumerate_next_1 _))))
theorem nextT_end {e it l : Addr} {i : Nat} {items : Array Value} {old : Value} {Q : Option Value → Shared → Prop} (hh : A.handled = none)
    (he : IsEnum s.heap e it i old) (hit : s.heap.IsTupleIter it l i) (hl : s.heap.IsTuple l items) (hx : items[i]? = none)
    (hQ : ∀ h', Heap.ExtBut it s.heap h' → Q none { s with heap := h' }) : wpAny (model prog w) A (pyNext (.ref e)) Q E s := by
  have hT : s.TypeIs (.ref e) "enumerate" := ⟨_, he, rfl⟩
  unfold pyNext
  refine wpAny_bind (wpAny_attempt (wpAny_callSpecial?_slot (name := Str.ofString "__next__") hT F.slot_enumerate_next
    (wpAny_call_entry F.slot_enumerate_next hT F.entry_enumerate_next ?_ (F.args_enumerate_next_1 _))))
  show wpAny _ _ (field (.ref e) 2 >>= _) _ _ _
  refine wpAny_bind (wpAny_field he rfl (x := .ref it) rfl ?_)
  refine wpAny_bind (RZ.nextOf_tuple_end hh hit hl hx fun h' x he' hx' => ?_)
  obtain ⟨o, ho, hc⟩ := hx'
  refine wpAny_bind (wpAny_isInstance (T := "StopIteration") (b := true) ⟨o, ho, hc⟩ isSubtype_stop ?_)
  exact wpAny_pure (hQ _ he')
end
theorem meets_enT (l : Addr) (items : Array Value) (n : Nat) (dct : Option Addr) (sl : Array (Option Value)) :
    Meets (Builtin.«enumerate.__new__» ⟨[.type "enumerate", .ref l], []⟩) (fun _ R s => s.heap.get? l = some { cls := .type "tuple", dict := dct, data := .seq items n, slots := sl } ∧
      R (.ok (.ret (.ref (s.heap.push { cls := .type "tuple_iterator", data := .fields #[.ref l, .int 0 0] }).objs.size)))
        { s with heap := (s.heap.push { cls := .type "tuple_iterator", data := .fields #[.ref l, .int 0 0] }).push { cls := .type "enumerate", data := .fields #[.none, .bool false, .ref s.heap.objs.size, rawInt 0, .none, .none] } }) :=
  .of_wp fun prog w A R s h => by
    obtain ⟨hp, g, d, tk, os⟩ := s; obtain ⟨hl, h⟩ := h
    have hsub := sub_enumerate
    have hL : Heap.IsTuple (Shared.heap ⟨hp, g, d, tk, os⟩) l items := ⟨_, hl, rfl, n, rfl⟩
    wp_walk using wpAny_loadPart' hl
    refine wpAny_stack_any fun st => wpAny_pure ?_
    split
    · rename_i c _ _ _ _ _
      cases (c == Value.type "enumerate")
      · wp_walk using wpAny_loadPart' hl, wpAny_pyIter_tuple hL
        exact ⟨_, rfl, h⟩
      · wp_walk using wpAny_loadPart' hl, wpAny_pyIter_tuple hL
        exact ⟨_, rfl, h⟩
    · wp_walk using wpAny_loadPart' hl, wpAny_pyIter_tuple hL
      exact ⟨_, rfl, h⟩
section
variable {prog : Program} {w : World} {A : Around} {E : Value → Shared → Prop} {s : Shared}
theorem call_enT {l : Addr} {items : Array Value} {Q : Value → Shared → Prop} (hL : s.heap.IsTuple l items)
    (h : ∀ h', IsEnum h' (s.heap.objs.size + 1) s.heap.objs.size 0 .none → h'.IsTupleIter s.heap.objs.size l 0 →
      (∀ b o, s.heap.get? b = some o → h'.get? b = some o) → Q (.ref (s.heap.objs.size + 1)) { s with heap := h' }) :
    wpAny (model prog w) A (call (.type "enumerate") [.ref l]) Q E s := by
  obtain ⟨⟨c, dct, dt, sl⟩, hl, hc, n, hd⟩ := hL
  replace hc : c = .type "tuple" := hc
  replace hd : dt = .seq items n := hd
  subst hc hd
  refine callType_new F.called_enumerate (by decide) (F.typeCall_enumerate_1 _) (F.newCall_enumerate_1 _) (fun obj => F.args_object_init_2 obj _) F.entry_enumerate_new
    (meets_enT l items n dct sl) ⟨hl, ?_⟩
  have hz : (s.heap.push { cls := .type "tuple_iterator", data := .fields #[.ref l, .int 0 0] }).objs.size = s.heap.objs.size + 1 := Heap.size_push ..
  show _ ∧ _
  rw [hz]
  have he : IsEnum ((s.heap.push { cls := .type "tuple_iterator", data := .fields #[.ref l, .int 0 0] }).push
      { cls := .type "enumerate", data := .fields #[.none, .bool false, .ref s.heap.objs.size, rawInt 0, .none, .none] }) (s.heap.objs.size + 1) s.heap.objs.size 0 .none := by
    have q := Heap.get?_push_size (s.heap.push { cls := .type "tuple_iterator", data := .fields #[.ref l, .int 0 0] })
      (o := { cls := .type "enumerate", data := .fields #[.none, .bool false, .ref s.heap.objs.size, rawInt 0, .none, .none] }) rfl
    rw [hz] at q; exact q
  exact ⟨⟨_, he, rfl⟩, h _ he ⟨_, Heap.get?_push_of_some _ (Heap.get?_push_size _ rfl), rfl, rfl⟩ fun b o x => Heap.get?_push_of_some _ (Heap.get?_push_of_some _ x)⟩
end
/-! ### in walks -/
def Itet (K : PySem.W.Frag) (a : Addr) : It :=
  ⟨fun i H => ∃ (xs : List V) (x : V), SqT K H a xs ∧ xs[i]? = some x, fun i H v H' => ∃ T x, v = .ref T ∧ H T = none ∧ H' = upd H T (.tup [.int (i : Nat), x]) ∧ ∀ xs, SqT K H a xs → xs[i]? = some x, fun i H => ∃ xs : List V, SqT K H a xs ∧ xs.length ≤ i⟩
theorem turn_enumT {P : Program} {w : World} {K : PySem.W.Frag} {elts : List Expr} {kk : Nat} {tpos : Pos} (a e it : Addr) :
    Turn P w K (.Tuple elts kk tpos) (Itet K a) [e, it] e (fun i h => (∃ old, IsEnum h e it ((i : Nat) : Int) old) ∧ h.IsTupleIter it a i ∧ e ≠ it) where
  mem := by simp
  obj := fun i h st b hb => by
    obtain ⟨⟨old, he⟩, ⟨o, ho, hc, hd⟩, _⟩ := st
    rcases (show b = e ∨ b = it by simpa using hb) with z | z
    · rw [z]; exact ⟨_, he, fun v q => nomatch q⟩
    · rw [z]; exact ⟨o, ho, fun v q => by rw [hd] at q; cases q⟩
  keep := fun i h h' st k => let ⟨⟨old, he⟩, hi, hne⟩ := st; ⟨⟨old, k e (by simp) _ he⟩, hi.at fun o q => k it (by simp) o q, hne⟩
  item := by
    intro X hP hw hK hc i pins s σ H E I hf st hg
    subst hP hw hK
    obtain ⟨⟨old, he⟩, hit, hne⟩ := st
    obtain ⟨xs, x, hq, hx⟩ := hg
    obtain ⟨its, rv, p, hz⟩ := I.tuple hq
    obtain ⟨u, hu, ru⟩ := rv.get hx
    have hel : e < s.heap.objs.size := Heap.lt_size he
    have hil : it < s.heap.objs.size := by obtain ⟨_, q, _⟩ := hit; exact Heap.lt_size q
    refine nextT_item he hit p (x := u) (by simpa using hu) hne fun h' ho hit' hT hsz hk => ?_
    refine ⟨_, rfl, wpAny_letOwnedTupleGo_enum (s := { s with heap := h', toks := s.toks + 1 }) ho fun h'' he' sb => ?_⟩
    have hT2 : h''.get? s.heap.objs.size = some { cls := .type "tuple", data := .seq #[.int i s.toks, u] } := (sb.2 _ (Nat.ne_of_gt hel)).trans hT
    have new : ObjOk X.prog X.w (upd H s.heap.objs.size (.tup [.int (i : Nat), x])) h'' s.heap.objs.size (.tup [.int (i : Nat), x]) :=
      ⟨by show 2 ≤ sizeLine; decide, [.int i s.toks, u], .cons ⟨_, rfl⟩ (.cons ru .nil), ⟨_, hT2, rfl, _, rfl⟩⟩
    have I1 : Inv X pins σ (upd H s.heap.objs.size (.tup [.int (i : Nat), x])) { s with heap := h'', toks := s.toks + 1 } :=
      I.turnedNew (ch := [e, it]) (fun b ob hb q => (sb.2 b (fun z => hb (by simp [z]))).trans (hk b ob (fun z => hb (by simp [z])) (fun z => hb (by simp [z])) q)) hf (Nat.le_refl _) new
    refine ⟨.ref s.heap.objs.size, _, I1, rfl, ⟨_, x, rfl, I.hok.fresh (Nat.le_refl _), rfl, fun ys hy => by rw [I.tuple_inj hy hq]; exact hx⟩, ⟨⟨u, ?_⟩, hit'.at fun o q => (sb.2 it (Ne.symm hne)).trans q, hne⟩, fun b hb => ?_⟩
    · have e1 : ((i + 1 : Nat) : Int) = (i : Int) + 1 := by omega
      rw [e1]; exact he'
    · have hb' : b < s.heap.objs.size := by
        rcases (show b = e ∨ b = it by simpa using hb) with z | z
        · rw [z]; exact hel
        · rw [z]; exact hil
      rw [upd_ne (Nat.ne_of_lt hb')]
      exact (hf b hb).1
  done := by
    intro X hP hw hK hc i pins s σ H E I hf st hg
    subst hP hw hK
    obtain ⟨⟨old, he⟩, hit, hne⟩ := st
    obtain ⟨xs, hq, hx⟩ := hg
    obtain ⟨its, rv, p, hz⟩ := I.tuple hq
    obtain ⟨f0, f1, f2, f3, f4, f5⟩ := hf it (by simp)
    have hl := rv.length
    exact nextT_end (I.ok.hd hc) he hit p (by simp; omega) fun h' eb => ⟨rfl, I.turned (t' := s.toks) (fun b o hb q => eb b o hb q) f0 f1 f3 f4 f5⟩
  self := fun A i s Q E st h => let ⟨⟨_, he⟩, _⟩ := st; wpAny_pyIter_enum he h
/-- a list or a tuple -/
def SqX (K : PySem.W.Frag) (b : Bool) (H : Hp) (a : Addr) (xs : List V) : Prop := if b = true then SqT K H a xs else SqL K H a xs
def ItX (K : PySem.W.Frag) (b : Bool) (a : Addr) : It := if b = true then Itet K a else Ite K a
def iEnumX (K : PySem.W.Frag) (ta : TA) : TI := fun σ H R => ta σ H fun vs H1 => ∃ b a xs, vs = [.ref a] ∧ SqX K b H1 a xs ∧ R (ItX K b a) H1
theorem pi_enumX {X : Cx} {e : Expr} {ta : TA} {p pos tpos : Pos} {elts : List Expr} {kk : Nat} (hg : Gl X "enumerate") (hm : X.mg "enumerate" = none) (ha : PA X [e] ta) (hs : starEach [e] X.env = [(false, eval e X.env)] := by rfl) :
    PI X (.Tuple elts kk tpos) (.Call (.Name "enumerate" p) [e] [] pos) (iEnumX X.K ta) := by
  refine ⟨fun pins s σ H R I h => ?_⟩
  refine Call_ (ld_blt I hg hm boot_enumerate (PyProof.Rows.callWith_type1 (thn (ha.run pos pins s σ H _ I h) fun us s1 ⟨vs, H1, I1, r1, q1⟩ => ?_) hs rfl))
  obtain ⟨b, a, xs, ex, hq, q⟩ := q1
  subst ex
  cases r1 with
  | cons r rr =>
    cases rr
    cases r
    have fp : ∀ c ∈ [s1.heap.objs.size + 1, s1.heap.objs.size], FpOk X pins H1 c := fun c hc => by
      have hle : s1.heap.objs.size ≤ c := by
        rcases (show c = s1.heap.objs.size + 1 ∨ c = s1.heap.objs.size by simpa using hc) with z | z
        · rw [z]; exact Nat.le_add_right _ _
        · rw [z]; exact Nat.le_refl _
      exact I1.fpOk hle (I1.hok.fresh hle)
    cases b with
    | false =>
      have hq : SqL X.K H1 a xs := hq
      obtain ⟨its, rv, p', hz⟩ := I1.list hq
      refine call_enumerate_list p'.isList fun h' he hit hsz hk => wpAny_pyIter_enum he ?_
      have I2 : Inv X pins σ H1 { s1 with heap := h' } := I1.kept (t' := s1.toks) hk
      exact ⟨s1.heap.objs.size + 1, [s1.heap.objs.size + 1, s1.heap.objs.size], _, _, H1, rfl, I2, turn_enum a (s1.heap.objs.size + 1) s1.heap.objs.size, ⟨⟨.none, he⟩, hit, Nat.succ_ne_self _⟩, fp, q⟩
    | true =>
      have hq : SqT X.K H1 a xs := hq
      obtain ⟨its, rv, p', hz⟩ := I1.tuple hq
      refine call_enT (show s1.heap.IsTuple a its.toArray from p') fun h' he hit hk => wpAny_pyIter_enum he ?_
      have I2 : Inv X pins σ H1 { s1 with heap := h' } := I1.kept (t' := s1.toks) hk
      exact ⟨s1.heap.objs.size + 1, [s1.heap.objs.size + 1, s1.heap.objs.size], _, _, H1, rfl, I2, turn_enumT a (s1.heap.objs.size + 1) s1.heap.objs.size, ⟨⟨.none, he⟩, hit, Nat.succ_ne_self _⟩, fp, q⟩
section
variable {X : Cx} (K : PySem.W.Frag)
theorem kenumX {e : Expr} {ta : TA} {p pos tpos : Pos} {elts : List Expr} {kk : Nat} (hm : X.mg "enumerate" = none) (ha : PA X [e] ta) (h : X.K = K := by rfl) (hg : Gl X "enumerate" := by rfl) (hs : starEach [e] X.env = [(false, eval e X.env)] := by rfl) :
    PI X (.Tuple elts kk tpos) (.Call (.Name "enumerate" p) [e] [] pos) (iEnumX K ta) := by subst h; exact pi_enumX hg hm ha hs
theorem kzip {e e2 : Expr} {ta : TA} {p pos tpos : Pos} {elts : List Expr} {kk : Nat} (hm : X.mg "zip" = none) (ha : PA X [e, e2] ta) (h : X.K = K := by rfl) (hg : Gl X "zip" := by rfl)
    (hs : starEach [e, e2] X.env = (false, eval e X.env) :: starEach [e2] X.env := by rfl) (hpl : (backTo pos (starEach [e2] X.env)).any (·.1) = false := by rfl) :
    PI X (.Tuple elts kk tpos) (.Call (.Name "zip" p) [e, e2] [] pos) (RZ.iZipA K ta) := by subst h; exact RZ.pi_zipA hg hm ha hs hpl
end
section
variable {K : PySem.W.Frag} {a b : Addr} {xs ys : List V}
theorem walk_enumX {t : Bool} : Walk (ItX K t a) xs.length (fun H => SqX K t H a xs) (YPair (fun i => some (.int (i : Nat))) (fun i => xs[i]?)) := by
  cases t with
  | false => exact walk_enum
  | true =>
    refine ⟨fun i _ hi q => ⟨xs, xs[i], q, by simp [hi]⟩, fun _ q => ⟨xs, q, Nat.le_refl _⟩, fun i H v H' _ q y => ?_⟩
    obtain ⟨T, x, h1, h2, h3, h4⟩ := y
    exact ⟨T, .int (i : Nat), x, h1, h2, h3, rfl, h4 xs q⟩
theorem walk_zipT {n : Nat} (hx : n = xs.length) (hy : n = ys.length) : Walk (RZ.ItzT K a b) n (fun H => SqT K H a xs ∧ SqT K H b ys) (YPair (fun i => xs[i]?) (fun i => ys[i]?)) := by
  refine ⟨fun i _ hi q => ?_, fun _ q => ⟨xs, ys, q.1, q.2, by omega⟩, fun i H v H' _ q y => ?_⟩
  · have h1 : i < xs.length := by omega
    have h2 : i < ys.length := by omega
    exact ⟨xs, ys, xs[i], ys[i], q.1, q.2, by simp [h1], by simp [h2]⟩
  · obtain ⟨T, x, z, h1, h2, h3, h4, h5⟩ := y
    exact ⟨T, x, z, h1, h2, h3, h4 xs q.1, h5 ys q.2⟩
end
namespace Rd
variable {K : PySem.W.Frag} {σ : L2.St} {H : Hp} {Q : VK} {te : TE} {ta : TA} {tt : TT} {g : TG} {vs : List Nat} {tb : TS} {D : Ends}
theorem foEX (h : ta σ H fun us H1 => ∃ b a xs, us = [.ref a] ∧ SqX K b H1 a xs ∧ FoGo (ItX K b a) g tb D σ H1) : tFor (iEnumX K ta) g tb D σ H := h
theorem foZ (h : ta σ H fun us H1 => ∃ a b xs ys, us = [.ref a, .ref b] ∧ ((SqL K H1 a xs ∧ SqL K H1 b ys ∧ FoGo (Itz K a b) g tb D σ H1) ∨ (SqT K H1 a xs ∧ SqT K H1 b ys ∧ FoGo (RZ.ItzT K a b) g tb D σ H1))) : tFor (RZ.iZipA K ta) g tb D σ H := h
theorem lcZp (h : ta σ H fun us H1 => ∃ a b xs ys, us = [.ref a, .ref b] ∧ ((SqL K H1 a xs ∧ SqL K H1 b ys ∧ LcGo (Itz K a b) g tt te vs σ H1 Q) ∨ (SqT K H1 a xs ∧ SqT K H1 b ys ∧ LcGo (RZ.ItzT K a b) g tt te vs σ H1 Q))) : tLc (RZ.iZipA K ta) g tt te vs σ H Q := h
/-- for i, (u, v) in enumerate(xs) -/
theorem foN {t : Bool} {a : Addr} {xs : List V} {s1 s2 s3 : Nat} {N : L2.St → Hp → Prop} {r : VK} {bk ct : L2.St → Hp → Prop} (Pv : Nat → L2.St → Hp → Prop) (h0 : Pv 0 σ H) (hG : ∀ i σ H, i ≤ xs.length → Pv i σ H → SqX K t H a xs)
    (hE : ∀ i x σ H, xs[i]? = some x → Pv i σ H → ∃ p u v, x = .ref p ∧ H p = some (.tup [u, v]))
    (step : ∀ i p u v σ H T, i < xs.length → xs[i]? = some (.ref p) → H p = some (.tup [u, v]) → Pv i σ H → H T = none → tb (Ends.mk (Pv (i + 1)) r N (Pv (i + 1))) (((σ.set s1 (some (.int (i : Nat)))).set s2 (some u)).set s3 (some v)) (upd H T (.tup [.int (i : Nat), .ref p]))) (fin : ∀ σ H, Pv xs.length σ H → N σ H) :
    FoGo (ItX K t a) (gTup K 2 (gCons (gName s1) (gCons (gTup K 2 (gCons (gName s2) (gCons (gName s3) gNil))) gNil))) tb (Ends.mk N r bk ct) σ H :=
  for_it walk_enumX Pv h0 hG (fun i w σ H H' hi q ⟨T, y, x, e1, e2, e3, e4, e5⟩ => by
    cases e4; subst e1; subst e3
    obtain ⟨p, u, v, rfl, hp⟩ := hE i x σ H e5 q
    have hp' : upd H T (.tup [.int (i : Nat), .ref p]) p = some (.tup [u, v]) := by rw [upd_ne (fun z => by rw [z, e2] at hp; cases hp)]; exact hp
    exact ⟨T, _, rfl, SqT.of upd_same, rfl, _, _, rfl, _, _, rfl, p, _, rfl, SqT.of hp', rfl, _, _, rfl, _, _, rfl, rfl, rfl, step i p u v σ H T hi e5 hp q e2⟩) fin
/-- for x, y in zip(xs, ys), of tuples -/
theorem foZT {a b : Addr} {xs ys : List V} {n s1 s2 : Nat} {N : L2.St → Hp → Prop} {r : VK} {bk ct : L2.St → Hp → Prop} (hx : n = xs.length) (hy : n = ys.length) (Pv : Nat → L2.St → Hp → Prop) (h0 : Pv 0 σ H) (hG : ∀ i σ H, i ≤ n → Pv i σ H → SqT K H a xs ∧ SqT K H b ys)
    (step : ∀ i x y σ H T, i < n → xs[i]? = some x → ys[i]? = some y → Pv i σ H → H T = none → tb (Ends.mk (Pv (i + 1)) r N (Pv (i + 1))) ((σ.set s1 (some x)).set s2 (some y)) (upd H T (.tup [x, y]))) (fin : ∀ σ H, Pv n σ H → N σ H) :
    FoGo (RZ.ItzT K a b) (gTup K 2 (gCons (gName s1) (gCons (gName s2) gNil))) tb (Ends.mk N r bk ct) σ H :=
  for_it (walk_zipT hx hy) Pv h0 hG (fun i w σ H H' hi q ⟨T, x, y, e1, e2, e3, e4, e5⟩ => by
    subst e1; subst e3
    exact ⟨T, _, rfl, SqT.of upd_same, rfl, _, _, rfl, _, _, rfl, rfl, step i x y σ H T hi e4 e5 q e2⟩) fin
/-- [e for x, y in zip(xs, ys) if t], of tuples -/
theorem lcZT {a b : Addr} {xs ys : List V} {n s1 s2 : Nat} (hss : s1 ≠ s2) (hx : n = xs.length) (hy : n = ys.length) (hn : n < sizeLine) (Jv : Nat → List V → Hp → Prop) (h0 : Jv 0 [] H)
    (hst : ∀ D, H D = none → ∀ i acc zs H', Jv i acc H' → Jv i acc (upd H' D (.lst zs))) (hG : ∀ i acc H', i ≤ n → Jv i acc H' → SqT K H' a xs ∧ SqT K H' b ys)
    (step : ∀ D, H D = none → ∀ i x y acc H' T, i < n → xs[i]? = some x → ys[i]? = some y → H' D = some (.lst acc) → acc.length ≤ i → Jv i acc H' → H' T = none → T ≠ D → ∀ (Kt : V → Hp → Prop) (Kf : Hp → Prop), (∀ z H4, H4 D = some (.lst acc) → Jv (i + 1) (acc ++ [z]) H4 → Kt z H4) → (∀ H3, H3 D = some (.lst acc) → Jv (i + 1) acc H3 → Kf H3) →
      tt ((((σ.set s2 none).set s1 none).set s1 (some x)).set s2 (some y)) (upd H' T (.tup [x, y])) fun c H3 => if c = true then te ((((σ.set s2 none).set s1 none).set s1 (some x)).set s2 (some y)) H3 Kt else Kf H3)
    (fin : ∀ D acc H', H D = none → H' D = some (.lst acc) → acc.length ≤ n → Jv n acc H' → Q (.ref D) H') :
    LcGo (RZ.ItzT K a b) (gTup K 2 (gCons (gName s1) (gCons (gName s2) gNil))) tt te [s1, s2] σ H Q := by
  intro D hD
  refine lc_it (walk_zipT hx hy) (fun i H' => ∃ acc, H' D = some (.lst acc) ∧ acc.length ≤ i ∧ Jv i acc H') ⟨[], upd_same, Nat.le_refl _, hst D hD _ _ _ _ h0⟩ (fun i H' hi ⟨acc, _, _, j⟩ => hG i acc H' hi j) ?_ (fun H' ⟨acc, a1, a2, a3⟩ => fin D acc H' hD a1 a2 a3)
  rintro i w H' H2 hi ⟨acc, a1, a2, a3⟩ ⟨T, x, y, rfl, hT, rfl, hx', hy'⟩
  refine ⟨T, _, rfl, SqT.of upd_same, rfl, _, _, rfl, _, _, rfl, rfl, ?_, ?_⟩
  · show (((((σ.set s2 none).set s1 none).set s1 (some x)).set s2 (some y)).set s2 none).set s1 none = (σ.set s2 none).set s1 none
    rw [List.set_set, List.set_set, List.set_comm (some x) none hss, List.set_set, List.set_set]
  · exact step D hD i x y acc _ T hi hx' hy' a1 a2 a3 hT (fun z => by rw [z, a1] at hT; cases hT) _ _
      (fun z H4 b1 b2 => ⟨acc, b1, Nat.lt_of_le_of_lt a2 (Nat.lt_trans hi hn), acc ++ [z], upd_same, by rw [List.length_append, List.length_singleton]; omega, hst D hD _ _ _ _ b2⟩)
      (fun H3 b1 b2 => ⟨acc, b1, Nat.le_succ_of_le a2, b2⟩)
end Rd
end Fw

set_option Elab.async false
set_option linter.all false
set_option maxRecDepth 100000
set_option maxHeartbeats 4000000
/-! d.setdefault(k, x), the keys tuples of any depth -/
namespace ND
open PySem PySem.Spec PyProof.Rows L2
def tDSet (P : Program) (w : World) (to : TE) (ta : TA) : TE := fun σ H Q => to σ H fun x H1 => ∃ d, x = .ref d ∧ (∃ xs, H1 d = some (DctO P w d xs)) ∧ ta σ H1 fun vs H2 => ∃ (b : Addr) (v : V) (ys : List Row) (k : NestedKey), vs = [.ref b, v] ∧
  H2 d = some (DctO P w d ys) ∧ RowsOk H2 ys ∧ NkAt H2 (.ref b) k ∧ k.depth ≤ 8 ∧ ys.length < sizeLine ∧ (∀ z, atN ys k = some z → Q z H2) ∧ (atN ys k = none → Q v (upd H2 d (DctO P w d (putN ys k b v))))
theorem pe_dset {X : Cx} {o e e2 : Expr} {to : TE} {t : TA} {apos cpos : Pos} (hu : X.A.units + 64 < cLine) (ho : PE X o to) (ha : PA X [e, e2] t)
    (hbase : attributeBase o "setdefault" X.env (eval o X.env) = eval o X.env := by rfl)
    (hfew : ((backTo cpos (starEach [e, e2] X.env)).all (fun x => !x.1) && (backToKw cpos (keywordEach [] X.env)).all (fun x => x.1.isSome)
      && decide (([e, e2] : List Expr).length + ([] : List Keyword).length + (if ([] : List Keyword).isEmpty then 0 else 1) < 30)) = true := by rfl)
    (hline : (apos.endLine == cpos.line) = true := by rfl) (hs : starEach [e, e2] X.env = (false, eval e X.env) :: starEach [e2] X.env := by rfl) (hplain : (backTo cpos (starEach [e2] X.env)).any (·.1) = false := by rfl) :
    PE X (.Call (.Attribute o "setdefault" apos) [e, e2] [] cpos) (tDSet X.prog X.w to t) := by
  refine ⟨fun pins s σ H Q I h => ?_⟩
  refine wpAny_Call_method_late hbase hfew hline rfl (thn (ho.run pins s σ H _ I h) fun v s1 ⟨x, H1, I1, r1, d, ex, ⟨xs, hd⟩, q1⟩ => ?_)
  subst ex
  cases r1
  obtain ⟨⟨z, hsys, rows, r, o', es, ep, h1, h2, h3, h4⟩, _⟩ := (show ObjOk X.prog X.w H1 s1.heap d (DctO X.prog X.w d xs) from I1.hok d _ hd)
  refine ⟨"dict", "dict.setdefault", F.plainAttrs_dict, F.slot_dict_setdefault, F.type_dict_setdefault, ⟨o', h1, h2.1⟩, fun a ea => ?_, ?_⟩
  · cases ea
    exact ⟨o', h1, h2.2.1⟩
  have hA := ha.run cpos pins s1 σ H1 _ I1 q1
  rw [hs] at hA ⊢
  refine Calls.callWith_builtin (by show (false || (backTo cpos (starEach [e2] X.env)).any (·.1)) = false; rw [hplain] <;> rfl) (Calls.evalArgs_plain ?_)
  refine thn hA fun us s2 ⟨vs, H2, I2, r2, b, v, ys, k, ev, hd2, g, hk, hdp, hl, q2, q3⟩ => ?_
  subst ev
  obtain ⟨u1, u2, rfl, r3, r4⟩ := r2.two
  cases r3
  obtain ⟨_, _, rows2, rr, dd⟩ := dct_of I2 hd2 g
  have hz : rows2.length ≤ sizeLine := by rw [← Paired.length rr]; omega
  refine call_setdefault_heap (hsz := hz) (room_of hu) ⟨nk_is I2.hok k hk rfl, hdp⟩ hsys dd (fun p hp => ?_) fun hn h' dd' hs' => ?_
  · obtain ⟨z', hz1, hz2⟩ : ∃ z', atN ys k = some z' ∧ RelV z' p.2 := by
      have e := rr.at k
      rw [hp] at e
      cases hc : atN ys k with
      | none => rw [hc] at e; exact e.elim
      | some z' => rw [hc] at e; exact ⟨z', rfl, e⟩
    exact ⟨z', H2, I2.tok _, hz2, q2 z' hz1⟩
  · have hn' : atN ys k = none := by
      have e := rr.isSome k
      rw [hn] at e
      cases hc : atN ys k with
      | none => rfl
      | some z' => rw [hc] at e; cases e
    have he : ∃ o, h'.get? d = some o := let ⟨o, _, _, ho, _⟩ := dd'; ⟨o, ho⟩
    exact ⟨v, _, d_write I2 (by rw [hd2]; exact True.intro) hs' he (dct_new (by have := putN_len ys k b v; omega) hsys (rr.put k b r4) dd'), r4, q3 hn'⟩
theorem kdset {X : Cx} (P : Program) (w : World) {o e e2 : Expr} {to : TE} {t : TA} {apos cpos : Pos} (hu : X.A.units + 64 < cLine) (ho : PE X o to) (ha : PA X [e, e2] t) (h : X.prog = P := by rfl) (h2 : X.w = w := by rfl)
    (hbase : attributeBase o "setdefault" X.env (eval o X.env) = eval o X.env := by rfl)
    (hfew : ((backTo cpos (starEach [e, e2] X.env)).all (fun x => !x.1) && (backToKw cpos (keywordEach [] X.env)).all (fun x => x.1.isSome)
      && decide (([e, e2] : List Expr).length + ([] : List Keyword).length + (if ([] : List Keyword).isEmpty then 0 else 1) < 30)) = true := by rfl)
    (hline : (apos.endLine == cpos.line) = true := by rfl) (hs : starEach [e, e2] X.env = (false, eval e X.env) :: starEach [e2] X.env := by rfl) (hplain : (backTo cpos (starEach [e2] X.env)).any (·.1) = false := by rfl) :
    PE X (.Call (.Attribute o "setdefault" apos) [e, e2] [] cpos) (tDSet P w to t) := by
  subst h h2
  exact pe_dset hu ho ha hbase hfew hline hs hplain
theorem Rd_dset {P : Program} {w : World} {to : TE} {t : TA} {σ : L2.St} {H : Hp} {Q : VK} (h : to σ H fun x H1 => ∃ d, x = .ref d ∧ (∃ xs, H1 d = some (DctO P w d xs)) ∧ t σ H1 fun vs H2 => ∃ (b : Addr) (v : V) (ys : List Row) (k : NestedKey), vs = [.ref b, v] ∧
  H2 d = some (DctO P w d ys) ∧ RowsOk H2 ys ∧ NkAt H2 (.ref b) k ∧ k.depth ≤ 8 ∧ ys.length < sizeLine ∧ (∀ z, atN ys k = some z → Q z H2) ∧ (atN ys k = none → Q v (upd H2 d (DctO P w d (putN ys k b v))))) : tDSet P w to t σ H Q := h
end ND

set_option Elab.async false
set_option linter.all false
set_option maxRecDepth 100000
set_option maxHeartbeats 4000000
/-! a list or a tuple: slices from the left, `in` of data -/
namespace Fw
open PySem PySem.Spec L2
def rSlX (K : PySem.W.Frag) : V → Option Int → Option Int → Hp → VK → Prop := fun x lo hi H Q => rSlA K x lo hi H Q ∨ rSlT K x lo hi H Q
def rInT (K : PySem.W.Frag) : R2 := fun x y H Q => ∃ d ds, Dp K H x d ∧ Dp K H y (.tuple ds) ∧ SeqAt.shaped d = true ∧ SeqAt.shaped (.tuple ds) = true ∧ Q (.bl (ds.any fun z => PyData.eqv z d)) H
def rInX (K : PySem.W.Frag) : R2 := fun x y H Q => rInD K x y H Q ∨ rInT K x y H Q
section
variable {X : Cx}
theorem op_inT (hu : X.A.units + 65 < cLine) : OpR X (compareOp .In) (rInT X.K) := by
  intro pins s σ H x y v u Q I rx ry h
  obtain ⟨d, ds, hd, he, sd, se, q⟩ := h
  obtain ⟨as, r1⟩ := Dp.reads I d x v hd rx
  obtain ⟨bs, r2⟩ := Dp.reads I (.tuple ds) y u he ry
  exact SeqAt.in_tuple_reads r2 r1 (SeqAt.canLay_of_shaped se) (SeqAt.canLay_of_shaped sd) (PyProof.Rows.room_in_shaped sd hu) ⟨.bl _, H, I, rfl, q⟩
variable (K : PySem.W.Frag)
theorem kinX (hu : X.A.units + 65 < cLine) (h : X.K = K := by rfl) : OpR X (compareOp .In) (rInX K) := by subst h; exact (op_inD hu).or (op_inT hu)
theorem kslX (h : X.K = K := by rfl) : SlR X (rSlX K) := by subst h; exact sl_any.or sl_tup
end
/-- a list or a tuple as it lies -/
def seqO (b : Bool) (xs : List V) : HO := if b = true then .tup xs else .lst xs
section
variable {K : PySem.W.Frag} {H : Hp} {Q : VK} {a : Addr} {xs : List V}
theorem SqX.of {b : Bool} (h : H a = some (seqO b xs)) : SqX K b H a xs := by
  cases b with
  | true => exact SqT.of h
  | false => exact SqL.of h
theorem Same.sqx {H' : Hp} (e : Same H H') {b : Bool} (h : SqX K b H a xs) : SqX K b H' a xs := by
  cases b with
  | true => exact Fw.Same.sqt e h
  | false => exact e.seq h
theorem cutV_to' (xs : List V) (i : Nat) : cutV xs none (some (i : Nat)) = xs.take i := by
  unfold cutV
  rw [HT.sIx_none, HT.sIx_nat, List.drop_zero, Nat.sub_zero]
  rcases Nat.le_total i xs.length with h | h
  · rw [Nat.min_eq_left h]
  · rw [Nat.min_eq_right h, List.take_of_length_le (Nat.le_refl _), List.take_of_length_le h]
namespace Rd
theorem slX {b : Bool} {i : Nat} (h : SqX K b H a xs) (hi : i < xs.length) (q : ∀ p, H p = none → Q (.ref p) (upd H p (seqO b (xs.take i)))) : rSlX K (.ref a) none (some (i : Nat)) H Q := by
  cases b with
  | false => exact .inl (slL h fun p hp => by rw [cutV_to']; exact q p hp)
  | true =>
    refine .inr ⟨a, xs, rfl, h, fun z => ?_, fun p hp => by rw [cutV_to']; exact q p hp⟩
    have e := z.2
    rw [HT.sIx_nat] at e
    omega
theorem inX {b : Bool} {x : V} {d : PyData} {ds : List PyData} (hx : Dp K H x d) (h : SqX K b H a xs) (hd : DpAll K H xs ds) (s1 : SeqAt.shaped d = true) (s2 : SeqAt.shaped (.list ds) = true) (q : Q (.bl (ds.any fun z => PyData.eqv z d)) H) : rInX K x (.ref a) H Q := by
  cases b with
  | false => exact .inl ⟨d, ds, hx, .lst h hd, s1, s2, q⟩
  | true => exact .inr ⟨d, ds, hx, .tup h hd, s1, s2, q⟩
theorem lenX {b : Bool} (h : SqX K b H a xs) (q : Q (.int (xs.length : Nat)) H) : rLenA K [.ref a] H Q := by
  cases b with
  | false => exact lenL h q
  | true => exact lenT h q
theorem ixX {b : Bool} {i : Int} {v : V} (h : SqX K b H a xs) (h2 : atI xs i = some v) (q : Q v H) : rIx K (.ref a) (.int i) H Q := by
  cases b with
  | false => exact ixL h h2 q
  | true => exact ixT h h2 q
end Rd
end
end Fw

set_option Elab.async false
set_option linter.all false
set_option maxRecDepth 100000
set_option maxHeartbeats 4000000
/-! own error classes that keep two arguments -/
namespace Fw
open PySem PySem.Spec L2
structure Er2 (K : PySem.W.Frag) (mg : Str → Option Value) (nm qual f1 f2 : Str) (st : Stmt) where
  C : Addr
  f : Addr
  fd : FuncData
  T : OexC K C
  iC : PySem.W.findIn K (.ref C) "__init__" = some (some (.ref f))
  tI : PySem.W.typeIn K (.ref f) = some (.type "function")
  g : mg nm = some (.ref C)
  no1 : PySem.W.findIn K (.ref C) f1 = some none
  no2 : PySem.W.findIn K (.ref C) f2 = some none
  F : Fun K "__init__" qual st f fd
  b : Binds K fd ["self", f1, f2] []
  xf : XfC K C
  xc : ExcC K C
  te : PySem.W.exmOne K (.ref C) (.ref C) = some true
def spErI2 (C : Addr) (f1 f2 : Str) : Sp := fun vs H Q _ => ∃ (a : Addr) (v1 v2 : V), vs = [.ref a, v1, v2] ∧ H a = some (exo a C none) ∧ ∀ dx, H dx = none → dx ≠ a → Q .non (upd (upd (upd H dx (exd dx [(f1, v1)])) a (exo a C (some dx))) dx (exd dx [(f2, v2), (f1, v1)]))
section
variable {X : Cx}
theorem pmk_er2 {P : Program} {w : World} {K : PySem.W.Frag} {mg : Str → Option Value} {base : Heap} {nm qual f1 f2 : Str} {st : Stmt} {k : Nat} {e : Expr} {es : List Expr} {ta : TA} {p pos : Pos} (r : Er2 K mg nm qual f1 f2 st) (F1 : FnOk P w K mg base CX0 k r.f r.fd ["self", f1, f2] (spErI2 r.C f1 f2)) (hr : Room (k + 1) X.A) (ha : PA X (e :: es) ta)
    (h1 : X.prog = P := by rfl) (h2 : X.w = w := by rfl) (h3 : X.K = K := by rfl) (h4 : X.mg = mg := by rfl) (h5 : X.base = base := by rfl) (hg : Gl X nm := by rfl)
    (hdb : (nm == ("__debug__" : Str)) = false := by decide) (he : starEach (e :: es) X.env = (false, eval e X.env) :: starEach es X.env := by rfl) (hpl : (backTo pos (starEach es X.env)).any (·.1) = false := by rfl) :
    PMk X (.Call (.Name nm p) (e :: es) [] pos) (tMkO r.C (spErI2 r.C f1 f2) [] ta) := by
  subst h1 h2 h3 h4 h5
  exact pmk_oex (pos := pos) (p := p) r.T r.iC r.tI F1 hr r.b .nil pass0 hg r.g ha hdb he hpl
end
def ErGo2 (C : Addr) (f1 f2 : Str) (vs : List V) (H1 : Hp) (Q : XK) : Prop := vs.length ≤ 1000 ∧ ∀ a, H1 a = none → spErI2 C f1 f2 (.ref a :: (vs ++ [])) (upd H1 a (exo a C none))
  (fun v H2 => v = .non ∧ ∃ (d : Addr) (fs : List (Str × V)), H2 a = some (exo a C (some d)) ∧ H2 d = some (exd d fs) ∧ H1 d = none ∧ Q (.ref C) (some d) (upd (del H2 a) d (.xd fs))) (fun _ _ _ => False)
namespace Rd
theorem mko2 {C : Addr} {f1 f2 : Str} {ta : TA} {σ : St} {H : Hp} {Q : XK} (h : ta σ H fun vs H1 => ErGo2 C f1 f2 vs H1 Q) : tMkO C (spErI2 C f1 f2) [] ta σ H Q := h
theorem erGo2 {C : Addr} {f1 f2 : Str} {v1 v2 : V} {H1 : Hp} {Q : XK} (q : ∀ d, H1 d = none → Q (.ref C) (some d) (upd H1 d (.xd [(f2, v2), (f1, v1)]))) : ErGo2 C f1 f2 [v1, v2] H1 Q := by
  refine ⟨Nat.succ_le_succ (Nat.succ_le_succ (Nat.zero_le _)), fun a ha => ⟨a, v1, v2, rfl, upd_same, fun dx hx ne => ⟨rfl, dx, [(f2, v2), (f1, v1)], ?_, upd_same, ?_, ?_⟩⟩⟩
  · rw [upd_ne (Ne.symm ne), upd_same]
  · rw [upd_ne ne] at hx; exact hx
  · rw [upd_ne ne] at hx
    have e2 : upd (del (upd (upd (upd (upd H1 a (exo a C none)) dx (exd dx [(f1, v1)])) a (exo a C (some dx))) dx (exd dx [(f2, v2), (f1, v1)])) a) dx (.xd [(f2, v2), (f1, v1)]) = upd H1 dx (.xd [(f2, v2), (f1, v1)]) := by
      funext b
      by_cases hb : b = dx
      · rw [hb, upd_same, upd_same]
      · rw [upd_ne hb, upd_ne hb]
        by_cases hb2 : b = a
        · rw [hb2, del_same, ha]
        · rw [del_ne hb2, upd_ne hb, upd_ne hb2, upd_ne hb, upd_ne hb2]
    rw [e2]
    exact q dx hx
end Rd
end Fw

set_option Elab.async false
set_option linter.all false
set_option maxRecDepth 100000
set_option maxHeartbeats 4000000
/-! o[i], o of an own class with __getitem__ -/
namespace Fw
open PySem PySem.Spec PyProof.Rows L2
structure IxC (K : PySem.W.Frag) (C f : Addr) : Prop where
  get : PySem.W.findIn K (.ref C) "__getitem__" = some (some (.ref f))
  fi : PySem.W.fnIn K f = true
  fn : PySem.W.isFn K (.ref f) = true
/-- the slice is one index -/
def NoSlT (i : Expr) : Prop := ∀ (x : Addr) (u : Value), subscripted i true (.ref x) u = runValue (.builtin "lifetime.subscript" ⟨[.ref x, u], []⟩)
section
variable {X : Cx} {CX : CXT} {k : Nat} {f C : Addr} {fd : FuncData} {ps : List Str} {sp : Sp} {E : L2.St → XK} {o e : Expr} {to te : TE} {pos : Pos}
theorem run_in {A1 : Around} {pins : List (Addr × Obj)} {σ : L2.St} {H : Hp} {s : Shared} {Q : VK} {us : List Value} {vs : List V} (sb : Sub X k A1) (F : FnOk X.prog X.w X.K X.mg X.base CX k f fd ps sp) (hb : Binds X.K fd ps []) (hx : PassesAt CX X σ (E σ))
    (I : Inv X pins σ H s) (r : Vals vs us) (h : sp vs H Q (E σ)) : wpAny (model X.prog X.w) A1 (call (.ref f) us) (EP X pins σ Q) X.xe s := by
  have e := I.env0
  have e1 : Env0 X.prog X.w X.K X.mg X.base A1 X.stack s H := ⟨by rw [sb.fr]; exact e.frames, e.mod, e.bs, e.bsz, e.funs, e.frf, e.hok, e.bare⟩
  have hl : us.length = ps.length := by rw [← r.length]; exact F.len _ _ _ _ h
  have bd := hb s us I.kIn (by rw [List.append_nil]; exact hl)
  rw [List.append_nil] at bd
  refine wpAny_call (codeAny_mono (F.run A1 X.stack s H ⟨us, []⟩ us vs Q (E σ) sb.room e1 bd r h) fun r z hq => ?_)
  match r, hq with
  | .error e, hq => exact hx pins H s e z I hq
  | .ok (.ret u), hq => exact I.after hq
  | .ok .next, hq => exact hq.elim
  | .ok .brk, hq => exact hq.elim
  | .ok .cont, hq => exact hq.elim
theorem tail_own {value slice : Expr} {pins : List (Addr × Obj)} {σ : L2.St} {H : Hp} {s : Shared} {a dx : Addr} {fs : List (Str × V)} {y : V} {u : Value} {Q : VK} (c : IxC X.K C f) (F : FnOk X.prog X.w X.K X.mg X.base CX k f fd ps sp) (hr : Room (k + 1) X.A) (hb : Binds X.K fd ps []) (hx : PassesAt CX X σ (E σ)) (I : Inv X pins σ H s) (ha : H a = some (.ins C dx fs)) (ry : RelV y u) (h : sp [.ref a, y] H Q (E σ)) (hs : NoSlT slice) :
    wpAny (model X.prog X.w) X.A (subscriptTail value slice (.ref a) u) (EP X pins σ Q) X.xe s := by
  obtain ⟨mA, J, _⟩ := ins_get I.hok ha
  obtain ⟨od, J, _⟩ := J.look
  have sb : Sub X k X.A.in1 := ⟨hr.in1, rfl⟩
  obtain ⟨m0, hF⟩ := I.fr
  exact PySem.W.sub_K hF I.ok.mod.kin J c.get c.fi c.fn (run_in (us := [.ref a, u]) (vs := [.ref a, y]) sb F hb hx I (.cons rfl (.cons ry .nil)) h) (hs a u)
def tIxO (C : Addr) (sp : Sp) (E : L2.St → XK) (to te : TE) : TE := fun σ H Q => to σ H fun x H1 => te σ H1 fun y H2 => ∃ a dx fs, x = .ref a ∧ H2 a = some (.ins C dx fs) ∧ sp [.ref a, y] H2 Q (E σ)
theorem pe_ixOE (c : IxC X.K C f) (F : FnOk X.prog X.w X.K X.mg X.base CX k f fd ps sp) (hr : Room (k + 1) X.A) (hb : Binds X.K fd ps []) (hx : ∀ σ, PassesAt CX X σ (E σ)) (ho : PE X o to) (he : PE X e te) (hs : NoSlT e := by intro _ _; with_unfolding_all rfl) : PE X (.Subscript o e pos) (tIxO C sp E to te) := by
  constructor
  intro pins s σ H Q I h
  refine Subscript_ (thn (ho.run pins s σ H _ I h) fun v s1 ⟨x, H1, I1, r1, q1⟩ => thn (he.run pins s1 σ H1 _ I1 q1) fun u s2 ⟨y, H2, I2, r2, a, dx, fs, ex, ha, q2⟩ => ?_)
  subst ex
  cases r1
  exact tail_own c F hr hb (hx σ) I2 ha r2 q2 hs
/-- K-explicit: o[e] in a try's body -/
theorem pe_ixT {P : Program} {w : World} {K : PySem.W.Frag} {mg : Str → Option Value} {base : Heap} {nm qual : Str} {st : Stmt} {W : WX} (d : Mf K nm qual st ps) (c : IxC K C d.f) (F : FnOk P w K mg base (L2.CX P w) k d.f d.fd ps sp) (hr : Room (k + 1) X.A) (tk : Takes X W) (ho : PE X o to) (he : PE X e te)
    (h1 : X.prog = P := by rfl) (h2 : X.w = w := by rfl) (h3 : X.K = K := by rfl) (h4 : X.mg = mg := by rfl) (h5 : X.base = base := by rfl) (hs : NoSlT e := by intro _ _; with_unfolding_all rfl) : PE X (.Subscript o e pos) (tIxO C sp (WE W) to te) := by
  subst h1 h2 h3 h4 h5
  exact pe_ixOE c F hr d.b (fun σ => passAt tk σ) ho he hs
/-- o[e], the errors passing on -/
theorem pe_ixA {P : Program} {w : World} {K : PySem.W.Frag} {mg : Str → Option Value} {base : Heap} {nm qual : Str} {st : Stmt} {E1 : XK} (d : Mf K nm qual st ps) (c : IxC K C d.f) (F : FnOk P w K mg base CX k d.f d.fd ps sp) (hr : Room (k + 1) X.A) (hx : Passes CX X E1) (ho : PE X o to) (he : PE X e te)
    (h1 : X.prog = P := by rfl) (h2 : X.w = w := by rfl) (h3 : X.K = K := by rfl) (h4 : X.mg = mg := by rfl) (h5 : X.base = base := by rfl) (hs : NoSlT e := by intro _ _; with_unfolding_all rfl) : PE X (.Subscript o e pos) (tIxO C sp (fun _ => E1) to te) := by
  subst h1 h2 h3 h4 h5
  exact pe_ixOE c F hr d.b (fun σ => fun pins H s v z I h => hx pins σ H s v z I h) ho he hs
end
namespace Rd
variable {C : Addr} {sp : Sp} {E : L2.St → XK} {to te : TE} {σ : L2.St} {H : Hp} {Q : VK}
theorem ixO (h : to σ H fun x H1 => te σ H1 fun y H2 => ∃ a dx fs, x = .ref a ∧ H2 a = some (.ins C dx fs) ∧ sp [.ref a, y] H2 Q (E σ)) : tIxO C sp E to te σ H Q := h
end Rd
end Fw

set_option Elab.async false
set_option linter.all false
set_option maxRecDepth 100000
set_option maxHeartbeats 4000000
/-! iter(list) given by an own __iter__; for x in o -/
namespace Fw
open PySem PySem.Spec PyProof.Rows L2
def LitO (l it : Addr) : HO := .ext fun h => h.IsListIter it l 0
theorem litO_ok {P : Program} {w : World} {H : Hp} {h : Heap} {l it : Addr} (e : h.IsListIter it l 0) : ObjOk P w H h it (LitO l it) := by
  obtain ⟨o, e1, e2, e3⟩ := e
  exact ⟨⟨o, e1, e2, e3⟩, ⟨o, e1⟩, fun h1 h2 ⟨u, a, b, c⟩ k => ⟨u, k u a, b, c⟩⟩
def rIterL (K : PySem.W.Frag) (n : Nat) : List V → Hp → VK → Prop := fun xs H Q => ∃ (l : Addr) (zs : List V), xs = [.ref l] ∧ SqL K H l zs ∧ ∀ it, H it = none → n ≤ it → Q (.ref it) (upd H it (LitO l it))
section
variable {X : Cx}
theorem call_iterL : CallR X (.builtin "iter") (rIterL X.K X.s_0.heap.objs.size) := by
  intro pins s σ H xs us Q I r h
  obtain ⟨l, zs, rfl, hq, q⟩ := h
  rw [Vals.ref1 r]
  obtain ⟨its, rv, pl, hz⟩ := I.list hq
  refine Calls.call_function_entry (by decide +kernel) (by decide +kernel) PySem.W.kdk_entry_iter (PySem.W.kdk_args_iter _) ?_
  unfold Builtin.«iter»
  refine wpAny_bind (m := someArgs "iter" 1 2 _) (wpAny_of_eq (a := [Value.ref l]) (by first | rfl | kernel_rfl!) ?_)
  refine wpAny_bind (m := pyIter (.ref l)) (wpAny_pyIter_list (show s.heap.IsList l its.toArray from pl.isList) ?_)
  have new : (s.heap.push { cls := .type "list_iterator", data := .fields #[.ref l, .int 0 0] }).IsListIter s.heap.objs.size l 0 := ⟨_, Heap.get?_push_size _ rfl, rfl, rfl⟩
  exact wpAny_pure ⟨_, rfl, .ref s.heap.objs.size, _, I.laid (t' := s.toks) (fun b u e => Heap.get?_push_of_some _ e) (Nat.le_refl _) (litO_ok new), rfl, q _ (I.hok.fresh (Nat.le_refl _)) I.sz⟩
theorem kiterL (K : PySem.W.Frag) (h : X.K = K := by rfl) : CallR X (.builtin "iter") (rIterL K X.s_0.heap.objs.size) := by subst h; exact call_iterL
variable {n : Nat} {f C : Addr} {fd : FuncData}
def spIterL (L : Hp → Addr → Addr → Prop) : SpY := fun s vs H Q => ∃ a l, vs = [.ref a] ∧ L H a l ∧ ∀ it, H it = none → s.heap.objs.size ≤ it → Q (.ref it) (upd H it (LitO l it))
def iOwnL (C : Addr) (L : Hp → Addr → Addr → Prop) (K : PySem.W.Frag) (te : TE) : TI := fun σ H R => te σ H fun x H1 => ∃ (a dx : Addr) (fs : List (Str × V)) (l : Addr), x = .ref a ∧ H1 a = some (.ins C dx fs) ∧ L H1 a l ∧ R (Itl K l) H1
theorem pi_ownL {L : Hp → Addr → Addr → Prop} {tg o : Expr} {te : TE} {ps : List Str} (he : PE X o te) (hs : PySem.W.findIn X.K (.ref C) "__iter__" = some (some (.ref f))) (hf : PySem.W.isFn X.K (.ref f) = true) (F : FnY X.prog X.w X.K X.mg X.base n f fd ps (spIterL L)) (b : Binds X.K fd ps []) (hr : Room n X.A) :
    PI X tg o (iOwnL C L X.K te) := by
  refine ⟨fun pins s σ H R I h => ?_⟩
  refine thn (he.run pins s σ H _ I h) fun v s1 ⟨x, H1, I1, r1, a, dx, fs, l, ex, ha, hL, q⟩ => ?_
  subst ex
  cases r1
  obtain ⟨mA, J, _⟩ := ins_get I1.hok ha
  obtain ⟨od, J, _⟩ := J.look
  obtain ⟨m0, hF⟩ := I1.fr
  refine PySem.W.owit_iter hF I1.ok.mod.kin J hs hf ?_
  have e := I1.env0
  let QQ : VK := fun v H2 => ∃ it, v = .ref it ∧ H1 it = none ∧ s1.heap.objs.size ≤ it ∧ H2 = upd H1 it (LitO l it)
  have hsp : spIterL L s1 [.ref a] H1 QQ := ⟨a, l, rfl, hL, fun it hn hy => ⟨it, rfl, hn, hy, rfl⟩⟩
  have hl := F.len _ _ _ _ hsp
  have bd := b s1 [.ref a] I1.kIn (by rw [List.append_nil]; exact hl)
  rw [List.append_nil] at bd
  refine wpAny_call (codeAny_mono (F.run X.A X.stack s1 H1 ⟨[.ref a], []⟩ [.ref a] [.ref a] QQ hr e bd (.cons rfl .nil) hsp) fun r z hq => ?_)
  match r, hq with
  | .error e, hq => exact pass0 pins σ H1 s1 e z I1 hq
  | .ok .next, hq => exact hq.elim
  | .ok .brk, hq => exact hq.elim
  | .ok .cont, hq => exact hq.elim
  | .ok (.ret u), hq =>
    obtain ⟨v2, H2, I2, rv, it, rfl, hn, hy, rfl⟩ := I1.after hq
    cases rv
    have hit : z.heap.IsListIter it l 0 := (show ObjOk X.prog X.w _ z.heap it (LitO l it) from I2.hok it _ upd_same).1
    obtain ⟨oi, g1, g2, _⟩ := id hit
    have I3 := _root_.ItX.inv_drop I2 (show (upd H1 it (LitO l it)) it = some (.ext _) from upd_same)
    rw [_root_.ItX.dropH_upd hn] at I3
    refine wpAny_specialOf (T := "list_iterator") ⟨oi, g1, g2⟩ PySem.slot_listiter_next.lookup ?_
    exact ⟨it, [it], _, Itl X.K l, _, rfl, I3, turn_list l it, hit, fun b hb => by rw [List.mem_singleton.mp hb]; exact I1.fpOk hy hn, q⟩
end
namespace Rd
variable {K : PySem.W.Frag} {σ : L2.St} {H : Hp} {Q : VK} {te : TE} {tt : TT}
theorem lcOL {C : Addr} {L : Hp → Addr → Addr → Prop} {tl : TE} {g : TG} {vs : List Nat} (h : tl σ H fun x H1 => ∃ (a dx : Addr) (fs : List (Str × V)) (l : Addr), x = .ref a ∧ H1 a = some (.ins C dx fs) ∧ L H1 a l ∧ LcGo (Itl K l) g tt te vs σ H1 Q) : tLc (iOwnL C L K tl) g tt te vs σ H Q := h
end Rd
end Fw

set_option Elab.async false
set_option linter.all false
set_option maxRecDepth 100000
set_option maxHeartbeats 4000000
/-! list(range(..)), read at its walk -/
namespace Fw
open PySem PySem.Spec PyProof.Rows L2
namespace Rd
variable {σ : L2.St} {H : Hp} {Q : VK} {ta tb : TE} {te : L2.St → Hp → (Int → Int → Hp → Prop) → Prop}
theorem lrg (h : te σ H fun a b H1 => RgOk a b ∧ ∀ q, H1 q = none → Q (.ref q) (upd H1 q (.lst (rgV a b)))) : tLstRg te σ H Q := h
theorem rg1 {R : Int → Int → Hp → Prop} (h : ta σ H fun x H1 => ∃ n, x = .int n ∧ R 0 n H1) : tRg1 ta σ H R := h
theorem rg2 {R : Int → Int → Hp → Prop} (h : ta σ H fun x H1 => tb σ H1 fun y H2 => ∃ i j, x = .int i ∧ y = .int j ∧ R i j H2) : tRg2 ta tb σ H R := h
end Rd
end Fw

set_option Elab.async false
set_option linter.all false
set_option maxRecDepth 100000
set_option maxHeartbeats 4000000
/-! f-string fields with a width -/
namespace Fw
open PySem PySem.Spec PyProof.Rows L2
open Builtin Builtin.Str Builtin.Int Builtin.Float
theorem sub_all (x : PySem.Str) : strSub x 0 x.length = x := by
  unfold strSub
  have e : x.cps.extract 0 x.length = x.cps := Array.extract_size
  rw [e]
theorem ebind {α β : Type} (a : α) (f : α → Except String β) : (Except.ok a >>= f) = f a := rfl
theorem epure {α : Type} (a : α) : (pure a : Except String α) = .ok a := rfl
theorem gives_ljust (x : PySem.Str) (t : Tok) (spec : PySem.Str) (n : Nat) (hne : (spec.length == 0) = false)
    (hasc : ((spec.cps.toList.drop 1).any (· ≥ 128) || (spec.cps.getD 0 0 ≥ 128 && !([60, 62, 61, 94] : List Nat).contains (spec.cps.getD 1 0))) = false)
    (hp : parseFormatSpec spec.cps.toList "str" 60 = .ok { fill := 32, align := 60, width := some n }) (hn : tooLong n = false) (hl : (Txt.ljust x n).length ≤ sizeLine) (hb : (spec.cps.back? == some 0) = false) :
    ∀ u, Meets («str.__format__» ⟨[.str x t, .str spec u], []⟩) (fun _ R s => ∀ t' k, R (.ok (.ret (.str (Txt.ljust x n) t'))) { s with toks := k }) := by
  intro _
  apply PySem.W.KPc.meets_of
  intro _ _ _ _ _ _ h
  unfold Builtin.«str.__format__»
  refine wpAny_bind (wpAny_of_eq (a := (_, _, _)) rfl ?_)
  refine wpAny_bind (wpAny_of_eq (a := some _) rfl ?_)
  dsimp only
  rw [if_neg (by rw [hne]; exact Bool.false_ne_true), if_neg (by rw [hasc]; exact Bool.false_ne_true)]
  refine wpAny_bind (PySem.W.KXf.cut_str ?_)
  rw [hp]
  by_cases c : n ≤ x.length
  · have e : Txt.ljust x n = x := by unfold Txt.ljust; rw [if_pos (by omega)]
    have q : strField x { fill := 32, align := 60, width := some n } "str" = .ok none := by
      show (if (decide (n ≤ x.length) && true) = true then Except.ok none else _) = _
      rw [if_pos (by rw [decide_eq_true c]; rfl)]
    simp only [ebind, epure, hb, Option.isNone_none, Bool.and_false, Bool.false_eq_true, if_false, Option.getD_some, hn, q]
    refine wpAny_bind (wpAny_rule ?_)
    rw [e] at h
    exact PySem.W.KXf.ret_same rfl h
  · have e : Txt.ljust x n = padded x 0 (n - x.length) 32 := by
      unfold Txt.ljust
      rw [if_neg (by omega)]
      rfl
    have q : strField x { fill := 32, align := 60, width := some n } "str" = .ok (some (padded x 0 (n - x.length) 32)) := by
      show (if (decide (n ≤ x.length) && true) = true then Except.ok none else Except.ok (some (padded (strSub x 0 x.length) 0 (n - (strSub x 0 x.length).length - 0) 32))) = _
      rw [if_neg (by rw [decide_eq_false c]; exact Bool.false_ne_true), sub_all, Nat.sub_zero]
    simp only [ebind, epure, hb, Option.isNone_none, Bool.and_false, Bool.false_eq_true, if_false, Option.getD_some, hn, q]
    rw [← e]
    exact PySem.W.KXf.ret_text rfl hl h
def rj (n : Nat) (w : Nat) : PySem.Str := Txt.rjust (PySem.Str.ofString (toString (n : Int))) w
theorem int_rjust {f : FormatSpec} {n w : Nat} (hf : f = { fill := 32, align := 62, width := some w }) : PyProof.Rows.intSpecText f (n : Int) = rj n w := by
  subst hf
  unfold PyProof.Rows.intSpecText rj
  rw [show ((n : Nat) : Int) = Int.ofNat n from rfl, text_ofNat]
  unfold Txt.rjust
  have nn : decide (Int.ofNat n < 0) = false := decide_eq_false (show ¬ ((n : Nat) : Int) < 0 by omega)
  have na : (Int.ofNat n).natAbs = n := rfl
  have mp : List.map (fun c => (if ((100 : Nat) == 88) = true then Char.toUpper c else c).toNat) (Nat.toDigits 10 n) = List.map Char.toNat (Nat.toDigits 10 n) := rfl
  rw [nn, na, mp]
  have ne : (List.map Char.toNat (Nat.toDigits 10 n)).isEmpty = false := by
    have := tDigits_len_ge 10 n
    cases h : Nat.toDigits 10 n with
    | nil => rw [h] at this; exact absurd this (by decide)
    | cons a b => rfl
  generalize List.map Char.toNat (Nat.toDigits 10 n) = D at ne
  have e1 : (PySem.Str.mk D.toArray).length = D.length := rfl
  rw [e1]
  have q : intField' { fill := 32, align := 62, width := some w } false [] D [] 3 = ⟨(List.replicate ((w : Int) - 0 - (D.length : Int)).toNat 32 ++ D).toArray⟩ := by
    unfold intField'
    have h1 : ((62 : Nat) == 60) = false := rfl
    have h2 : ((62 : Nat) == 94) = false := rfl
    have h3 : ((62 : Nat) == 61) = false := rfl
    have h4 : ((32 : Nat) == 48) = false := rfl
    have h5 : ((w : Int) - (((0 : Nat) : Int) + ((0 : Nat) : Int) + ((0 : Nat) : Int))) = (w : Int) - 0 := by omega
    simp only [ne, h1, h2, h3, h4, Bool.and_false, Bool.false_and, Bool.false_eq_true, if_false, Int.toNat_zero, Nat.zero_sub, List.replicate_zero, List.nil_append, List.append_nil, List.length_nil, h5]
  rw [q]
  by_cases c : (w : Int) ≤ D.length
  · rw [if_pos c]
    have z : ((w : Int) - 0 - (D.length : Int)).toNat = 0 := by omega
    rw [z]
    rfl
  · rw [if_neg c]
    have z : ((w : Int) - 0 - (D.length : Int)).toNat = (w : Int).toNat - D.length := by omega
    rw [z]
    unfold padded
    congr 1
    simp
theorem gives_rjust4 (n : Nat) (t : Tok) (hd : (n : Int).natAbs.log2 < 1920) (hl : (rj n 4).length ≤ sizeLine) :
    ∀ u, Meets («int.__format__» ⟨[.int n t, .str (⟨#[62, 52]⟩ : PySem.Str) u], []⟩) (fun _ R s => ∀ t' k, R (.ok (.ret (.str (rj n 4) t'))) { s with toks := k }) := by
  intro _
  apply PySem.W.KPc.meets_of
  intro _ _ _ _ _ _ h
  unfold Builtin.«int.__format__»
  refine wpAny_bind (wpAny_of_eq (a := (_, _)) rfl ?_)
  refine wpAny_bind (wpAny_of_eq (a := _) rfl ?_)
  kxf_if
  refine wpAny_bind (wpAny_typeNameOf (T := "str") (typeIs_str _ _ _) (by decide) fun _ => ?_)
  refine wpAny_bind (wpAny_of_eq (a := some _) rfl ?_)
  kxf_if
  kxf_if
  refine wpAny_bind (wpAny_typeNameOfCut_int ?_)
  have hp : parseFormatSpec (⟨#[62, 52]⟩ : PySem.Str).cps.toList "int" 62 = .ok { fill := 32, align := 62, width := some 4 } := by rfl
  rw [hp]
  have hty : (if ((⟨#[62, 52]⟩ : PySem.Str).cps.back? == some 0) = true then 0 else 100) = 100 := by decide
  simp only [hty, Option.getD_none]
  rw [if_pos (by decide)]
  show wpAny _ _ (do let r ← Builtin.overDigitLimit? (n : Int); _) _ _ _
  rw [PySem.overDigitLimit_small hd]
  show wpAny _ _ (retStr _) _ _ _
  have e := int_rjust (f := { fill := 32, align := 62, width := some 4 }) (n := n) (w := 4) rfl
  refine (fun eX => PySem.W.KXf.ret_text (T := rj n 4) eX (by rw [eX]; exact hl) h) ?_
  rw [← e]
  simp only [show ((10 : Nat) == 10) = true by decide, if_true, Bool.false_eq_true, if_false]
  conv => lhs; whnf
  unfold PyProof.Rows.intSpecText PyProof.Rows.intField'
  rfl
theorem small_log {n : Nat} (h : n < 1000000) : (n : Int).natAbs.log2 < 1920 := by
  have e : (n : Int).natAbs = n := rfl
  rw [e]
  by_cases z : n = 0
  · rw [z]; decide
  · rw [Nat.log2_lt z]
    exact Nat.lt_of_lt_of_le h (Nat.le_trans (show 1000000 ≤ 2 ^ 20 by decide) (Nat.pow_le_pow_right (n := 2) (i := 20) (j := 1920) (by decide) (by decide)))
theorem rj_len {n : Nat} (h : n < 1000000) : (rj n 4).length ≤ 10 := by
  have e := int_rjust (f := { fill := 32, align := 62, width := some 4 }) (n := n) (w := 4) rfl
  rw [← e, intSpecText_length (n : Int) rfl rfl, if_neg (by omega)]
  have d := digits10_le (k := 6) (n := n) (by decide) (by omega)
  have e2 : (n : Int).natAbs = n := rfl
  rw [e2]
  show max 4 _ ≤ 10
  omega
section
variable {X : Cx} {e sp : Expr} {te : TE} {pos : Pos}
/-- {e:<n} of a text -/
def tFmtL (n : Nat) (te : TE) : TE := fun σ H Q => te σ H fun x H1 => ∃ y : PySem.Str, x = .str y ∧ (Txt.ljust y n).length ≤ sizeLine ∧ Q (.str (Txt.ljust y n)) H1
theorem pe_fmtL (n : Nat) (spec : PySem.Str) (he : PE X e te) (hs : PE X sp (tC (.str spec))) (hne : (spec.length == 0) = false)
    (hasc : ((spec.cps.toList.drop 1).any (· ≥ 128) || (spec.cps.getD 0 0 ≥ 128 && !([60, 62, 61, 94] : List Nat).contains (spec.cps.getD 1 0))) = false)
    (hp : parseFormatSpec spec.cps.toList "str" 60 = .ok { fill := 32, align := 60, width := some n }) (hn : tooLong n = false) (hb : (spec.cps.back? == some 0) = false) (hsz : spec.length ≤ sizeLine) : PE X (.FormattedValue e (-1) (some sp) pos) (tFmtL n te) := by
  refine ⟨fun pins s σ H Q I h => ?_⟩
  refine wpAny_FormattedValue_spec (thn (he.run pins s σ H _ I h) fun v s1 hv => ?_)
  obtain ⟨x, H1, I1, r1, y, rfl, hl, q⟩ := hv
  obtain ⟨t, rfl⟩ := r1
  refine thn (hs.run pins s1 σ H1 (fun z H2 => z = .str spec ∧ H2 = H1) I1 ⟨rfl, rfl⟩) fun r s2 hr => ?_
  obtain ⟨z, H2, I2, r2, rfl, rfl⟩ := hr
  obtain ⟨t2, rfl⟩ := r2
  refine ⟨spec, t2, rfl, ?_⟩
  exact PySem.W.KXf.field_str rfl rfl hne hsz (gives_ljust y t spec n hne hasc hp hn hl hb) fun t' k => ⟨.str (Txt.ljust y n), H2, I2.tok _, ⟨_, rfl⟩, q⟩
/-- {e:>4} of a number -/
def tFmtR4 (te : TE) : TE := fun σ H Q => te σ H fun x H1 => ∃ n : Nat, x = .int n ∧ n < 1000000 ∧ Q (.str (rj n 4)) H1
theorem pe_fmtR4 (he : PE X e te) (hs : PE X sp (tC (.str (⟨#[62, 52]⟩ : PySem.Str)))) : PE X (.FormattedValue e (-1) (some sp) pos) (tFmtR4 te) := by
  refine ⟨fun pins s σ H Q I h => ?_⟩
  refine wpAny_FormattedValue_spec (thn (he.run pins s σ H _ I h) fun v s1 hv => ?_)
  obtain ⟨x, H1, I1, r1, n, rfl, hl, q⟩ := hv
  obtain ⟨t, rfl⟩ := r1
  refine thn (hs.run pins s1 σ H1 (fun z H2 => z = .str (⟨#[62, 52]⟩ : PySem.Str) ∧ H2 = H1) I1 ⟨rfl, rfl⟩) fun r s2 hr => ?_
  obtain ⟨z, H2, I2, r2, rfl, rfl⟩ := hr
  obtain ⟨t2, rfl⟩ := r2
  refine ⟨_, t2, rfl, ?_⟩
  exact PySem.W.KXf.field_int rfl (by decide) (by decide) (gives_rjust4 n t (small_log hl) (Nat.le_trans (rj_len hl) (by rw [sizeLine_eq]; decide))) fun t' k => ⟨.str (rj n 4), H2, I2.tok _, ⟨_, rfl⟩, q⟩
end
namespace Rd
variable {σ : L2.St} {H : Hp} {Q : VK} {te : TE}
theorem fmtL {n : Nat} (h : te σ H fun x H1 => ∃ y : PySem.Str, x = .str y ∧ (Txt.ljust y n).length ≤ sizeLine ∧ Q (.str (Txt.ljust y n)) H1) : tFmtL n te σ H Q := h
theorem fmtR4 (h : te σ H fun x H1 => ∃ n : Nat, x = .int n ∧ n < 1000000 ∧ Q (.str (rj n 4)) H1) : tFmtR4 te σ H Q := h
end Rd
end Fw
namespace Fw
open PySem PySem.Spec PyProof.Rows L2
open Builtin Builtin.Str
/-! texts as lists of signs -/
def dgs (n : Nat) : List Nat := (Nat.toDigits 10 n).map Char.toNat
def rjL (w : Nat) (l : List Nat) : List Nat := List.replicate (w - l.length) 32 ++ l
def ljL (w : Nat) (l : List Nat) : List Nat := l ++ List.replicate (w - l.length) 32
theorem text_nat (n : Nat) : PySem.Str.ofString (toString (n : Int)) = S (dgs n) := text_ofNat n
theorem S_len (l : List Nat) : (S l).length = l.length := rfl
theorem pad_S (l : List Nat) (a b : Nat) : padded (S l) a b 32 = S (List.replicate a 32 ++ l ++ List.replicate b 32) := by
  unfold padded S
  congr 1
  simp
theorem ljust_S (w : Nat) (l : List Nat) : Txt.ljust (S l) (w : Int) = S (ljL w l) := by
  unfold Txt.ljust ljL
  rw [S_len]
  by_cases c : w ≤ l.length
  · rw [if_pos (by omega), Nat.sub_eq_zero_of_le c]
    simp
  · rw [if_neg (by omega), pad_S]
    rfl
theorem rjust_S (w : Nat) (l : List Nat) : Txt.rjust (S l) (w : Int) = S (rjL w l) := by
  unfold Txt.rjust rjL
  rw [S_len]
  by_cases c : w ≤ l.length
  · rw [if_pos (by omega), Nat.sub_eq_zero_of_le c]
    simp
  · rw [if_neg (by omega), pad_S]
    simp
theorem rj_S (n : Nat) : rj n 4 = S (rjL 4 (dgs n)) := by
  unfold rj
  rw [text_nat]
  exact rjust_S 4 _
theorem ljL_len (w : Nat) (l : List Nat) : (ljL w l).length = max w l.length := by unfold ljL; simp; omega
theorem rjL_len (w : Nat) (l : List Nat) : (rjL w l).length = max w l.length := by unfold rjL; simp; omega
theorem dgs_len {n : Nat} (h : n < 1000000) : (dgs n).length ≤ 6 := by
  unfold dgs
  rw [List.length_map]
  exact digits10_le (by decide) (by omega)
theorem S_app (a b : List Nat) : S a ++ S b = S (a ++ b) := by
  show PySem.Str.mk (a.toArray ++ b.toArray) = _
  simp
def rLj : V → List V → Hp → VK → Prop := fun x xs H Q => ∃ (a : PySem.Str) (i : Int), x = .str a ∧ xs = [.int i] ∧ PadOk i = true ∧ Q (.str (Txt.ljust a i)) H
def rRj : V → List V → Hp → VK → Prop := fun x xs H Q => ∃ (a : PySem.Str) (i : Int), x = .str a ∧ xs = [.int i] ∧ PadOk i = true ∧ Q (.str (Txt.rjust a i)) H
def rRs : V → List V → Hp → VK → Prop := fun x xs H Q => ∃ a : PySem.Str, x = .str a ∧ xs = [] ∧ a.length ≤ sizeLine ∧ Q (.str (Txt.rstrip a)) H
def rStrI : List V → Hp → VK → Prop := fun xs H Q => ∃ i : Int, xs = [.int i] ∧ i.natAbs.log2 < 1920 ∧ Q (.str (toString i)) H
section
variable {X : Cx} {o e : Expr} {to te ta tb : TE} {apos pos : Pos}
theorem kljust (ho : PE X o to) (he : PE X e te) (hs : starEach [e] X.env = [(false, eval e X.env)] := by rfl) (hbase : attributeBase o "ljust" X.env (eval o X.env) = eval o X.env := by rfl) (hline : (apos.endLine == pos.line) = true := by rfl) :
    PE X (.Call (.Attribute o "ljust" apos) [e] [] pos) (tM1 rLj to te) := pe_m1 PySem.F.slot_str_ljust PySem.F.type_str_ljust mt_ljust ho he hs hbase hline
theorem krjust (ho : PE X o to) (he : PE X e te) (hs : starEach [e] X.env = [(false, eval e X.env)] := by rfl) (hbase : attributeBase o "rjust" X.env (eval o X.env) = eval o X.env := by rfl) (hline : (apos.endLine == pos.line) = true := by rfl) :
    PE X (.Call (.Attribute o "rjust" apos) [e] [] pos) (tM1 rRj to te) := pe_m1 PySem.F.slot_str_rjust PySem.F.type_str_rjust mt_rjust ho he hs hbase hline
theorem krstrip (ho : PE X o to) (hbase : attributeBase o "rstrip" X.env (eval o X.env) = eval o X.env := by rfl) (hline : (apos.endLine == pos.line) = true := by rfl) :
    PE X (.Call (.Attribute o "rstrip" apos) [] [] pos) (tM0 rRs to) := pe_m0 PySem.F.slot_str_rstrip PySem.F.type_str_rstrip mt_rstrip ho hbase hline
theorem kstrI : CallR X (.type "str") rStrI := call_str_int
/-- f'..' -/
def tJn (ts : List TE) : TE := fun σ H Q => tJs ts Str.empty σ H fun out H1 => Q (.str out) H1
theorem pe_jn {v1 v2 : Expr} {rest : List Expr} {ts : List TE} (h : PJ X (v1 :: v2 :: rest) ts) : PE X (.JoinedStr (v1 :: v2 :: rest) pos) (tJn ts) := pe_joined h
/-- xs * n -/
def rMulL : V → V → Hp → VK → Prop := rRep
theorem kmulL : OpR X (binaryOp .Mult) rMulL := op_rep
end
namespace Rd
variable {σ : L2.St} {H : Hp} {Q : VK} {te : TE} {l : List Nat}
theorem ljust {w : Nat} (hp : PadOk w = true) (q : Q (.str (S (ljL w l))) H) : rLj (.str (S l)) [.int w] H Q := ⟨_, _, rfl, rfl, hp, by rw [ljust_S]; exact q⟩
theorem rjust {w : Nat} (hp : PadOk w = true) (q : Q (.str (S (rjL w l))) H) : rRj (.str (S l)) [.int w] H Q := ⟨_, _, rfl, rfl, hp, by rw [rjust_S]; exact q⟩
theorem rstrip (hl : l.length ≤ 1000000) (q : Q (.str (Txt.rstrip (S l))) H) : rRs (.str (S l)) [] H Q := ⟨_, rfl, rfl, by rw [S_len, sizeLine_eq]; omega, q⟩
theorem strI {n : Nat} (hn : n < 1000000) (q : Q (.str (S (dgs n))) H) : rStrI [.int (n : Nat)] H Q := ⟨_, rfl, small_log hn, by rw [text_nat]; exact q⟩
theorem len_S (h : l.length ≤ 1000100) : (S l).length ≤ sizeLine := by rw [S_len, sizeLine_eq]; omega
theorem tfL {n : Nat} (h : te σ H fun x H1 => ∃ y : PySem.Str, x = .str y ∧ (Txt.ljust y n).length ≤ sizeLine ∧ Q (.str (Txt.ljust y n)) H1) : tFmtL n te σ H Q := h
theorem tfR (h : te σ H fun x H1 => ∃ n : Nat, x = .int n ∧ n < 1000000 ∧ Q (.str (rj n 4)) H1) : tFmtR4 te σ H Q := h
theorem tf (h : te σ H fun x H1 => (∃ y : PySem.Str, x = .str y ∧ y.length ≤ sizeLine ∧ Q (.str y) H1) ∨ ∃ i : Int, x = .int i ∧ i.natAbs.log2 < 1920 ∧ Q (.str (toString i)) H1) : tFmt te σ H Q := h
theorem fjL {n : Nat} {R : PySem.Str → Prop} (hn : n ≤ 100) (hl : l.length ≤ 1000000) (q : R (S l)) : ∃ y : PySem.Str, V.str (S l) = .str y ∧ (Txt.ljust y n).length ≤ sizeLine ∧ R y :=
  ⟨S l, rfl, by rw [ljust_S]; exact len_S (by rw [ljL_len]; omega), q⟩
theorem fjR {n : Nat} {R : Nat → Prop} (hn : n < 1000000) (q : R n) : ∃ m : Nat, V.int (n : Nat) = .int m ∧ m < 1000000 ∧ R m := ⟨n, rfl, hn, q⟩
theorem fmS {R : PySem.Str → Prop} {R2 : Int → Prop} (hl : l.length ≤ 1000000) (q : R (S l)) : (∃ y : PySem.Str, V.str (S l) = .str y ∧ y.length ≤ sizeLine ∧ R y) ∨ ∃ i : Int, V.str (S l) = .int i ∧ R2 i := .inl ⟨S l, rfl, len_S (by omega), q⟩
theorem fmI {n : Nat} {R : Int → Prop} {R2 : PySem.Str → Prop} (hn : n < 1000000) (q : R (n : Nat)) : (∃ y : PySem.Str, V.int (n : Nat) = .str y ∧ R2 y) ∨ ∃ i : Int, V.int (n : Nat) = .int i ∧ i.natAbs.log2 < 1920 ∧ R i := .inr ⟨n, rfl, small_log hn, q⟩
theorem jc {t : TE} {ts : List TE} {acc : PySem.Str} {R : PySem.Str → Hp → Prop} (h : t σ H fun x H1 => ∃ y : PySem.Str, x = .str y ∧ (acc ++ y).length ≤ sizeLine ∧ tJs ts (acc ++ y) σ H1 R) : tJs (t :: ts) acc σ H R := h
theorem jcS {ts : List TE} {a : List Nat} {R : PySem.Str → Hp → Prop} (hl : a.length + l.length ≤ 1000000) (q : tJs ts (S (a ++ l)) σ H R) : ∃ y : PySem.Str, V.str (S l) = .str y ∧ (S a ++ y).length ≤ sizeLine ∧ tJs ts (S a ++ y) σ H R :=
  ⟨S l, rfl, by rw [S_app]; exact len_S (by rw [List.length_append]; omega), by rw [S_app]; exact q⟩
theorem mulL {a : Addr} {xs : List V} {k : Int} (h : H a = some (.lst xs)) (k0 : 0 ≤ k) (k1 : k ≤ 100) (hl : xs.length ≤ 1000) (q : ∀ p, H p = none → Q (.ref p) (upd H p (.lst (List.replicate k.toNat xs).flatten))) : rMulL (.ref a) (.int k) H Q :=
  ⟨a, k, xs, rfl, rfl, h, by omega, by omega, by rw [sizeLine_eq]; exact Nat.le_trans (Nat.mul_le_mul hl (show k.toNat ≤ 100 by omega)) (by decide), q⟩
theorem jn {ts : List TE} (h : tJs ts (S []) σ H fun out H1 => Q (.str out) H1) : tJn ts σ H Q := h
theorem jsN {l : List Nat} {R : Str → Hp → Prop} (h : R (S l) H) : tJs [] (S l) σ H R := h
theorem asgG {σ : L2.St} {H : Hp} {te : TE} {K : PySem.W.Frag} {n : Nat} {gs : TGs} {N : L2.St → Hp → Prop} {r : VK} {bk ct : L2.St → Hp → Prop} (h : te σ H fun x H1 => gTup K n gs x σ H1 N) : tAsg te (gTup K n gs) (Ends.mk N r bk ct) σ H := h
theorem gT2 {K : PySem.W.Frag} {σ : L2.St} {H : Hp} {N : L2.St → Hp → Prop} {i j : Nat} {t : Addr} {u v : V} (h : H t = some (.tup [u, v])) (q : N ((σ.set i (some u)).set j (some v)) H) :
    gTup K 2 (gCons (gName i) (gCons (gName j) gNil)) (.ref t) σ H N := ⟨t, _, rfl, SqT.of h, rfl, _, _, rfl, _, _, rfl, rfl, q⟩
theorem rj4 (q : Q (.str (S (rjL 4 l))) H) : rRj (.str (S l)) [.int 4] H Q := rjust (w := 4) rfl q
theorem lj2 (q : Q (.str (S (ljL 2 l))) H) : rLj (.str (S l)) [.int 2] H Q := ljust (w := 2) rfl q
theorem lj8 (q : Q (.str (S (ljL 8 l))) H) : rLj (.str (S l)) [.int 8] H Q := ljust (w := 8) rfl q
theorem lj13 (q : Q (.str (S (ljL 13 l))) H) : rLj (.str (S l)) [.int 13] H Q := ljust (w := 13) rfl q
end Rd
end Fw

set_option Elab.async false
set_option linter.all false
set_option maxRecDepth 100000
set_option maxHeartbeats 4000000
/-! o.m(e, .., k = v), and x, *ys = a tuple -/
namespace Fw
open PySem PySem.Spec PyProof.Rows L2
section
variable {X : Cx} {CX : CXT} {k : Nat} {f C : Addr} {fd : FuncData} {ps ks : List Str} {sp : Sp} {E : XK} {m : Str} {pos apos : Pos} {o e : Expr} {es : List Expr} {kws : List Keyword} {ta : TE} {t tk : TA} {n : Nat} {g : List Value → List Value → List Value} {gV : List V → List V → List V}
def tMethKw (C : Addr) (n j : Nat) (m : Str) (sp : Sp) (gV : List V → List V → List V) (E : XK) (ta : TE) (t tk : TA) : TE := fun σ H Q => ta σ H fun x H1 => ∃ a dx fs, x = .ref a ∧ H1 a = some (.ins C dx fs) ∧ fs.lookup m = none ∧ t σ H1 fun vs H2 => tk σ H2 fun zs H3 => vs.length + 1 = n ∧ zs.length = j ∧ sp (gV (.ref a :: vs) zs) H3 Q E
theorem pe_methKw {pl : Sem Bool} (he : PE X o ta) (c : Cls X.K C) (hm : Meth X.K C m f) (F : FnOk X.prog X.w X.K X.mg X.base CX k f fd ps sp) (hr : Room k X.A) (hb : KBn X.K fd ps n ks g gV) (hx : Passes CX X E) (ha : PA X (e :: es) t) (hkw : PK X kws tk)
    (hall : (backToKw pos (keywordEach kws X.env)).all (·.1.isSome) = true := by rfl) (hks : (backToKw pos (keywordEach kws X.env)).filterMap (·.1) = ks := by rfl)
    (hst : starEach (e :: es) X.env = (false, eval e X.env) :: starEach es X.env := by rfl)
    (hpl : ((backTo pos (starEach (e :: es) X.env)).any (·.1) || (backToKw pos (keywordEach kws X.env)).any (·.1.isNone)) = false := by rfl)
    (ht : eval (.Call (.Attribute o m apos) (e :: es) kws pos) X.env = (do
      let ov ← eval o X.env
      standAt apos.atName
      let (f, first) ← holding [ov] (getMethod ov m pl)
      callWith pos f first (backTo pos (starEach (e :: es) X.env)) (backToKw pos (keywordEach kws X.env))) := by rfl) :
    PE X (.Call (.Attribute o m apos) (e :: es) kws pos) (tMethKw C n ks.length m sp gV E ta t tk) := by
  constructor
  intro pins s σ H Q I h
  refine PySem.W.methodCall_KW (pl := pl) (thn (he.run pins s σ H _ I h) fun u s1 hv => ?_) ht
  obtain ⟨x, H1, I1, rx, a, dx, fs, ex, ea, l, q⟩ := hv
  subst ex
  obtain rfl : u = Value.ref a := rx
  refine getmeth_ok I1 ea c hm l ?_
  refine PySem.W.callWith_KW (first := [.ref a]) (h₀ := X.base) I.ok.mod.kin hm.kp hall (thn (ha.run pos pins s1 σ H1 _ I1 q) fun us s2 hv => ?_) hpl hst
  obtain ⟨vs, H2, I2, r, q2⟩ := hv
  refine thn (hkw.run pos pins s2 σ H2 _ I2 q2) fun ws s3 hv => ?_
  obtain ⟨zs, H3, I3, rz, l1, l2, q3⟩ := hv
  refine ⟨I3.kIn, ?_⟩
  rw [hks]
  exact run_fnN (us := .ref a :: us) (vs := .ref a :: vs) F hr hb hx I3 (.cons rfl r) rz l1 l2 q3
end
section
variable {X : Cx} {CX : CXT} {k n : Nat} {f C : Addr} {fd : FuncData} {ps ks : List Str} {sp : Sp} {E : XK} {m : Str} {pos apos : Pos} {o e : Expr} {es : List Expr} {kws : List Keyword} {ta : TE} {t tk : TA} {g : List Value → List Value → List Value} {gV : List V → List V → List V}
variable {P : Program} {w : World} {K : PySem.W.Frag} {mg : Str → Option Value} {base : Heap} {ds : List Value} {dvs : List V}
/-- K-explicit: o.m(e, .., k = v) -/
theorem pe_mK {pl : Sem Bool} (he : PE X o ta) (c : Cls K C) (hm : Meth K C m f) (F : FnOk P w K mg base CX k f fd ps sp) (hr : Room k X.A) (hb : KBn K fd ps n ks g gV) (hx : Passes CX X E) (ha : PA X (e :: es) t) (hkw : PK X kws tk)
    (h1 : X.prog = P := by rfl) (h2 : X.w = w := by rfl) (h3 : X.K = K := by rfl) (h4 : X.mg = mg := by rfl) (h5 : X.base = base := by rfl)
    (hall : (backToKw pos (keywordEach kws X.env)).all (·.1.isSome) = true := by rfl) (hks : (backToKw pos (keywordEach kws X.env)).filterMap (·.1) = ks := by rfl)
    (hst : starEach (e :: es) X.env = (false, eval e X.env) :: starEach es X.env := by rfl)
    (hpl : ((backTo pos (starEach (e :: es) X.env)).any (·.1) || (backToKw pos (keywordEach kws X.env)).any (·.1.isNone)) = false := by rfl)
    (ht : eval (.Call (.Attribute o m apos) (e :: es) kws pos) X.env = (do let ov ← eval o X.env; standAt apos.atName; let (f, first) ← holding [ov] (getMethod ov m pl); callWith pos f first (backTo pos (starEach (e :: es) X.env)) (backToKw pos (keywordEach kws X.env))) := by rfl) :
    PE X (.Call (.Attribute o m apos) (e :: es) kws pos) (tMethKw C n ks.length m sp gV E ta t tk) := by
  subst h1 h2 h3 h4 h5
  exact pe_methKw (pl := pl) he c hm F hr hb hx ha hkw hall hks hst hpl ht
/-- K-explicit: o.m(e, ..), the rest by defaults -/
theorem pe_mD {pl : Sem Bool} (he : PE X o ta) (c : Cls K C) (hm : Meth K C m f) (F : FnOk P w K mg base CX k f fd ps sp) (hr : Room k X.A) (hb : Binds K fd ps ds) (hd : Vals dvs ds) (hx : Passes CX X E) (ha : PA X (e :: es) t)
    (h1 : X.prog = P := by rfl) (h2 : X.w = w := by rfl) (h3 : X.K = K := by rfl) (h4 : X.mg = mg := by rfl) (h5 : X.base = base := by rfl)
    (hst : starEach (e :: es) X.env = (false, eval e X.env) :: starEach es X.env := by rfl) (hpl : (backTo pos (starEach es X.env)).any (·.1) = false := by rfl)
    (ht : eval (.Call (.Attribute o m apos) (e :: es) [] pos) X.env = (do let ov ← eval o X.env; standAt apos.atName; let (f, first) ← holding [ov] (getMethod ov m pl); callWith pos f first (backTo pos (starEach (e :: es) X.env)) (backToKw pos (keywordEach [] X.env))) := by rfl) :
    PE X (.Call (.Attribute o m apos) (e :: es) [] pos) (tMeth C m sp dvs E ta t) := by
  subst h1 h2 h3 h4 h5
  exact pe_meth (pl := pl) he c hm F hr hb hd hx ha hst hpl ht
end
section
variable {X : Cx} {CX : CXT} {k : Nat} {f C : Addr} {fd : FuncData} {ps : List Str} {sp : Sp} {m : Str} {pos apos : Pos} {o e : Expr} {es : List Expr} {ta : TE} {t : TA} {ds : List Value} {dvs : List V} {E : L2.St → XK}
/-- o.m(e, ..) with defaults, in a try's body -/
def tMethD (C : Addr) (m : Str) (sp : Sp) (dvs : List V) (E : L2.St → XK) (ta : TE) (t : TA) : TE := fun σ H Q => ta σ H fun x H1 => ∃ a dx fs, x = .ref a ∧ H1 a = some (.ins C dx fs) ∧ fs.lookup m = none ∧ t σ H1 fun vs H2 => sp (x :: vs ++ dvs) H2 Q (E σ)
theorem pe_methD {pl : Sem Bool} (he : PE X o ta) (c : Cls X.K C) (hm : Meth X.K C m f) (F : FnOk X.prog X.w X.K X.mg X.base CX k f fd ps sp) (hr : Room k X.A) (hb : Binds X.K fd ps ds) (hd : Vals dvs ds) (hx : ∀ σ, PassesAt CX X σ (E σ)) (ha : PA X (e :: es) t)
    (hst : starEach (e :: es) X.env = (false, eval e X.env) :: starEach es X.env := by rfl) (hpl : (backTo pos (starEach es X.env)).any (·.1) = false := by rfl)
    (ht : eval (.Call (.Attribute o m apos) (e :: es) [] pos) X.env = (do let ov ← eval o X.env; standAt apos.atName; let (f, first) ← holding [ov] (getMethod ov m pl); callWith pos f first (backTo pos (starEach (e :: es) X.env)) (backToKw pos (keywordEach [] X.env))) := by rfl) :
    PE X (.Call (.Attribute o m apos) (e :: es) [] pos) (tMethD C m sp dvs E ta t) := by
  constructor
  intro pins s σ H Q I h
  refine PySem.W.methodCall_KW (pl := pl) (thn (he.run pins s σ H _ I h) fun u s1 hv => ?_) ht
  obtain ⟨x, H1, I1, rx, a, dx, fs, ex, ea, l, q⟩ := hv
  subst ex
  cases rx
  refine getmeth_ok I1 ea c hm l (PySem.W.callWith_K (first := [.ref a]) (h₀ := X.base) I.ok.mod.kin hm.kp (thn (ha.run pos pins s1 σ H1 _ I1 q) fun us s2 hv => ?_) hst hpl)
  obtain ⟨vs, H2, I2, r, q2⟩ := hv
  refine ⟨I2.kIn, ?_⟩
  have r1 : Vals (V.ref a :: vs) (Value.ref a :: us) := .cons rfl r
  have r2 : Vals (V.ref a :: vs ++ dvs) (Value.ref a :: us ++ ds) := r1.append hd
  have hl : (Value.ref a :: us ++ ds).length = ps.length := by rw [← r2.length]; exact F.len _ _ _ _ q2
  refine wpAny_call (codeAny_mono (F.run X.A X.stack s2 H2 ⟨Value.ref a :: us, []⟩ _ _ Q (E σ) hr I2.env0 (hb s2 (Value.ref a :: us) I2.kIn hl) r2 q2) fun r z hq => ?_)
  match r, hq with
  | .error e, hq => exact hx σ pins H2 s2 e z I2 hq
  | .ok (.ret u), hq => exact I2.after hq
  | .ok .next, hq => exact hq.elim
  | .ok .brk, hq => exact hq.elim
  | .ok .cont, hq => exact hq.elim
theorem pe_mTD {pl : Sem Bool} {P : Program} {w : World} {K : PySem.W.Frag} {mg : Str → Option Value} {base : Heap} {W : WX} (he : PE X o ta) (c : Cls K C) (hm : Meth K C m f) (F : FnOk P w K mg base (L2.CX P w) k f fd ps sp) (hr : Room k X.A) (hb : Binds K fd ps ds) (hd : Vals dvs ds) (tk : Takes X W) (ha : PA X (e :: es) t)
    (h1 : X.prog = P := by rfl) (h2 : X.w = w := by rfl) (h3 : X.K = K := by rfl) (h4 : X.mg = mg := by rfl) (h5 : X.base = base := by rfl)
    (hst : starEach (e :: es) X.env = (false, eval e X.env) :: starEach es X.env := by rfl) (hpl : (backTo pos (starEach es X.env)).any (·.1) = false := by rfl)
    (ht : eval (.Call (.Attribute o m apos) (e :: es) [] pos) X.env = (do let ov ← eval o X.env; standAt apos.atName; let (f, first) ← holding [ov] (getMethod ov m pl); callWith pos f first (backTo pos (starEach (e :: es) X.env)) (backToKw pos (keywordEach [] X.env))) := by rfl) :
    PE X (.Call (.Attribute o m apos) (e :: es) [] pos) (tMethD C m sp dvs (WE W) ta t) := by
  subst h1 h2 h3 h4 h5
  exact pe_methD (pl := pl) he c hm F hr hb hd (fun σ => passAt tk σ) ha hst hpl ht
end
/-- x, *ys = a tuple -/
def gStar (K : PySem.W.Frag) (g1 g2 : TG) : TG := fun v σ H Q => ∃ a x xs, v = .ref a ∧ SqT K H a (x :: xs) ∧ xs.length ≤ 1000 ∧ ∀ l, H l = none → g1 x σ (upd H l (.lst xs)) fun σ1 H1 => g2 (.ref l) σ1 H1 Q
section
variable {prog : Program} {w : World} {A : Around} {E : Value → Shared → Prop} {s : Shared}
theorem star_items {l : Addr} {v : Value} {vs : List Value} {Q : List Value → Shared → Prop} (hl : IsTup s.heap l (v :: vs).toArray) (hh : A.handled = none) (hz : vs.length ≤ 1000)
    (h : ∀ (h' : PySem.Heap) (tk : Nat), (∀ b o, b ≠ s.heap.objs.size → s.heap.get? b = some o → h'.get? b = some o) → Q [v, .ref h'.objs.size] { s with heap := h'.push { cls := .type "list", data := .seq vs.toArray }, toks := tk }) :
    wpAny (model prog w) A (unpackItems (.ref l) 2 (some 1)) Q E s := by
  have far : l ≠ s.heap.objs.size := by obtain ⟨o, ho, _⟩ := hl; exact Nat.ne_of_lt (Heap.lt_size ho)
  unfold unpackItems
  refine wpAny_bind ?_
  unfold notIterableAtAll
  refine wpAny_bind (wpAny_specialOf hl.typeIs slot_tuple_iter.lookup (wpAny_pure ?_))
  simp only [Bool.false_eq_true, if_false]
  refine wpAny_bind (wpAny_holding (iter_tuple hl ?_))
  have sz : (v :: vs).toArray.size = vs.length + 1 := by rw [List.size_toArray, List.length_cons]
  refine wpAny_bind (wpAny_holding (draw_tuple far 1 0 _ _ ⟨_, Heap.get?_push_size _ rfl, rfl, rfl⟩ (hl.push _) (by rw [sz]; omega) fun g1 it1 sb => ?_))
  have hl1 : IsTup g1 l (v :: vs).toArray := (hl.push _).extBut sb.extBut far
  rw [Nat.zero_add] at it1
  obtain ⟨oi, hoi, _⟩ := id it1
  obtain ⟨ol, hol, _⟩ := id hl1
  have f1 : List.take 1 (List.drop 0 (v :: vs).toArray.toList) = [v] := rfl
  rw [f1]
  rw [if_neg (show ¬ ([v] : List Value).length < 1 from Nat.lt_irrefl 1)]
  refine wpAny_bind (wpAny_holding (PySem.W.kun_collect (s := { s with heap := g1 }) (T := "tuple_iterator") (.inr (.inr (.inr rfl))) (Walks.tuple (A := A.in1) hh s.heap.objs.size l far (v :: vs).toArray) (fun j u st => st.1.typeIs) (k := 1) (by rw [sz]; omega) ⟨it1, hl1⟩
    (Heap.lt_size hoi) (Heap.lt_size hol) (fun g2 tk kp => ?_) (by rw [sz, sizeLine_eq]; omega)))
  have f2 : List.drop 1 (v :: vs).toArray.toList = vs := rfl
  rw [f2, if_neg (by omega : ¬ vs.length < 2 - 1 - 1)]
  have f3 : List.take (vs.length - (2 - 1 - 1)) vs = vs := List.take_of_length_le (by omega)
  have f4 : List.drop (vs.length - (2 - 1 - 1)) vs = [] := List.drop_of_length_le (by omega)
  rw [f3, f4]
  refine wpAny_bind (wpAny_newList ?_ (by rw [sizeLine_eq]; omega))
  refine wpAny_pure ?_
  show Q [v, .ref g2.objs.size] _
  exact h g2 tk fun b o nb e => kp b o nb (sb.extBut b o nb (Heap.get?_push_of_some _ e))
end
theorem pg_star {X : Cx} {e1 e2 : Expr} {k : Nat} {g1 g2 : TG} {pos p2 : Pos} (h1 : PG X e1 g1) (h2 : PG X e2 g2) (hc : X.calm = true := by rfl) (hn : (assignEach [e1, .Starred e2 p2] X.env).length = 2 := by rfl)
    (hst : (assignEach [e1, .Starred e2 p2] X.env).findIdx? (·.1) = some 1 := by rfl) (hs : (assignEach [e1, .Starred e2 p2] X.env).map (·.2) = [assign e1 X.env, assign e2 X.env] := by rfl) :
    PG X (.Tuple [e1, .Starred e2 p2] k pos) (gStar X.K g1 g2) := by
  constructor
  intro pins s σ H v u Q I r hw
  obtain ⟨a, x, xs, e1, hq, hl, hw⟩ := hw
  subst e1
  cases r
  obtain ⟨its, rv, ht, hz⟩ := I.tuple hq
  cases rv with
  | @cons _ u0 _ us r0 rs =>
    have lu : us.length ≤ 1000 := by rw [← rs.length]; exact hl
    rw [assign_Tuple]
    refine wpAny_bind (wpAny_standAt ?_)
    unfold unpack
    rw [hn, hst]
    refine wpAny_bind (wpAny_holding (star_items ht (I.ok.hd hc) lu fun g tk kp => ?_))
    have I1 : Inv X pins σ H { s with heap := g, toks := tk } := I.kept fun b o e => kp b o (Nat.ne_of_lt (Heap.lt_size e)) e
    have free := I1.hok.fresh (Nat.le_refl g.objs.size)
    have I2 : Inv X pins σ (upd H g.objs.size (.lst xs)) { s with heap := g.push { cls := .type "list", data := .seq us.toArray }, toks := tk } :=
      I1.laid (a := g.objs.size) (t' := tk) (fun _ _ q => Heap.get?_push_of_some _ q) (Nat.le_refl _) ⟨by rw [sizeLine_eq]; omega, us, 0, rs, Heap.get?_push_size _ rfl⟩
    show wpAny _ _ (assignInOrder _ _) _ _ _
    rw [hs]
    refine assignInOrder_cons (thn (h1.run pins _ σ _ _ _ _ I2 r0 (hw _ free)) fun _ s1 hv => ?_)
    obtain ⟨σ1, H1, I3, q1⟩ := hv
    refine assignInOrder_cons (thn (h2.run pins s1 σ1 H1 (V.ref g.objs.size) _ Q I3 rfl q1) fun _ s2 hv => ?_)
    exact assignInOrder_nil hv
theorem kstar {X : Cx} (K : PySem.W.Frag) {e1 e2 : Expr} {k : Nat} {g1 g2 : TG} {pos p2 : Pos} (h1 : PG X e1 g1) (h2 : PG X e2 g2) (h : X.K = K := by rfl) (hc : X.calm = true := by rfl) (hn : (assignEach [e1, .Starred e2 p2] X.env).length = 2 := by rfl)
    (hst : (assignEach [e1, .Starred e2 p2] X.env).findIdx? (·.1) = some 1 := by rfl) (hs : (assignEach [e1, .Starred e2 p2] X.env).map (·.2) = [assign e1 X.env, assign e2 X.env] := by rfl) :
    PG X (.Tuple [e1, .Starred e2 p2] k pos) (gStar K g1 g2) := by subst h; exact pg_star h1 h2 hc hn hst hs
/-- the truth of a value -/
def tTr (K : PySem.W.Frag) (te : TE) : TT := fun σ H Q => te σ H fun x H' => ∃ k, TruV K x H' k ∧ Q k H'
theorem ktru {X : Cx} (K : PySem.W.Frag) {a : Expr} {ta : TE} (ha : PE X a ta) (h : X.K = K := by rfl) (he : ∀ whole, isTrue a X.env whole = (do let v ← whole; standAt a.pos; holding [v] (truthy v)) := by intro _; rfl) : PT X a (tTr K ta) := by subst h; exact pt_truth ha he
namespace Rd
variable {K : PySem.W.Frag} {σ : L2.St} {H : Hp} {te : TE} {N : L2.St → Hp → Prop} {r : VK} {bk ct : L2.St → Hp → Prop} {i j : Nat}
theorem asgSt {g1 g2 : TG} (h : te σ H fun x H1 => gStar K g1 g2 x σ H1 N) : tAsg te (gStar K g1 g2) (Ends.mk N r bk ct) σ H := h
theorem gSt {t : Addr} {u : V} {us : List V} (h : H t = some (.tup (u :: us))) (hl : us.length ≤ 1000) (q : ∀ l, H l = none → N ((σ.set i (some u)).set j (some (.ref l))) (upd H l (.lst us))) : gStar K (gName i) (gName j) (.ref t) σ H N :=
  ⟨t, u, us, rfl, SqT.of h, hl, q⟩
theorem methKw {C : Addr} {n j : Nat} {m : Str} {sp : Sp} {gV : List V → List V → List V} {E : XK} {ta : TE} {t tk : TA} {Q : VK} (h : ta σ H fun x H1 => ∃ a dx fs, x = .ref a ∧ H1 a = some (.ins C dx fs) ∧ fs.lookup m = none ∧ t σ H1 fun vs H2 => tk σ H2 fun zs H3 => vs.length + 1 = n ∧ zs.length = j ∧ sp (gV (.ref a :: vs) zs) H3 Q E) : tMethKw C n j m sp gV E ta t tk σ H Q := h
theorem tr {Q : Bool → Hp → Prop} (h : te σ H fun x H' => ∃ k, TruV K x H' k ∧ Q k H') : tTr K te σ H Q := h
theorem trT {t : Addr} {xs : List V} {Q : Bool → Prop} (h : H t = some (.tup xs)) (q : Q (!xs.isEmpty)) : ∃ k, TruV K (.ref t) H k ∧ Q k := ⟨_, .inr (.inl ⟨xs, SqT.of h, rfl⟩), q⟩
theorem addB {a b : List Nat} {Q : VK} (h : a.length + b.length ≤ 1000000) (q : Q (.str (S (a ++ b))) H) : rAddA (.str (S a)) (.str (S b)) H Q := by
  refine Rd.addS (by rw [S_len, S_len, sizeLine_eq]; omega) ?_
  rw [S_app]
  exact q
theorem methD {C : Addr} {m : Str} {sp : Sp} {dvs : List V} {E : L2.St → XK} {ta : TE} {t : TA} {Q : VK} (h : ta σ H fun x H1 => ∃ a dx fs, x = .ref a ∧ H1 a = some (.ins C dx fs) ∧ fs.lookup m = none ∧ t σ H1 fun vs H2 => sp (x :: vs ++ dvs) H2 Q (E σ)) : tMethD C m sp dvs E ta t σ H Q := h
end Rd
end Fw

set_option Elab.async false
set_option linter.all false
set_option maxRecDepth 100000
set_option maxHeartbeats 4000000
/-! sets whose items are tuples of any depth -/
namespace NS
open PySem PySem.Spec PyProof.Rows L2
/-! ### masks -/
structure MkG (m : Nat) : Prop where
  odd : m % 2 = 1
  big : m ≤ 1000
  meet : ∀ (h : Int) (j : Nat), j ≤ m → ∃ k, k < 10 * SetTable.turns m ∧ way m h k = j
  runs : ∀ (h : Int) (j : Nat), j ≤ m → ∃ n, n ≤ m + 12 ∧ runI m (SetTable.bits h) n = j
theorem MkG.of {m : Nat} (hm : MaskOk m) : MkG m := ⟨mask_odd hm, by rcases hm with e | e | e <;> omega, fun h j hj => nth_meets hm h hj, fun h j hj => run_meets hm h hj⟩
theorem round_of {m : Nat} (h0 : ∀ j, j ≤ m → ∃ b, b ≤ m ∧ lcgN m b = j) (h1 : lcgN m (m + 1) = 0) {i j : Nat} (hi : i ≤ m) (hj : j ≤ m) : ∃ k, k ≤ m ∧ lcgI m i k = j := by
  have per : ∀ k, lcgN m (m + 1 + k) = lcgN m k := by
    intro k
    induction k with
    | zero => exact h1
    | succ k ih => exact congrArg (fun z => (z * 5 + 1) % (m + 1)) ih
  obtain ⟨a, ha, rfl⟩ := h0 i hi
  obtain ⟨b, hb, rfl⟩ := h0 j hj
  by_cases c : a ≤ b
  · exact ⟨b - a, by omega, by rw [lcgN_add, Nat.add_sub_cancel' c]⟩
  · exact ⟨m + 1 + b - a, by omega, by rw [lcgN_add, show a + (m + 1 + b - a) = m + 1 + b by omega, per]⟩
theorem MkG.of3 {m : Nat} (od : m % 2 = 1) (bg : m ≤ 1000) (h2 : ∀ j, j ≤ m → ∃ b, b ≤ m ∧ lcgN m b = j) (h1 : lcgN m (m + 1) = 0) : MkG m := by
  have rn : ∀ (h : Int) (j : Nat), j ≤ m → ∃ k, k ≤ m ∧ runI m (SetTable.bits h) (12 + k) = j := fun h j hj => by
    obtain ⟨k, hk, e⟩ := round_of h2 h1 (runI_le m (SetTable.bits h) 12) hj
    exact ⟨k, hk, (runI_tail (bits_lt h) k).trans e⟩
  refine ⟨od, bg, fun h j hj => ?_, fun h j hj => ?_⟩
  · obtain ⟨k, hk, e⟩ := rn h j hj
    obtain ⟨n, hn, e2⟩ := run_nth m (SetTable.bits h) (12 + k)
    refine ⟨n, by unfold SetTable.turns; omega, ?_⟩
    show (nth m (runAt m _ _) n).j = j
    rw [e2, ← e]
    rfl
  · obtain ⟨k, hk, e⟩ := rn h j hj
    exact ⟨12 + k, by omega, e⟩
theorem MkG.of2 {m : Nat} (od : m % 2 = 1) (bg : m ≤ 1000) (h0 : ((List.range (m + 1)).all fun j => (List.range (m + 1)).any fun b => lcgN m b == j) = true) (h1 : lcgN m (m + 1) = 0) : MkG m :=
  MkG.of3 od bg (fun j hj => by
    obtain ⟨b, hb, e⟩ := List.any_eq_true.mp (List.all_eq_true.mp h0 j (List.mem_range.mpr (by omega)))
    exact ⟨b, by have := List.mem_range.mp hb; omega, eq_of_beq e⟩) h1
/-- the places met, as one number's bits -/
def seen (m : Nat) : Nat → Nat → Nat → Nat
  | 0, _, acc => acc
  | n + 1, x, acc => seen m n ((x * 5 + 1) % (m + 1)) (acc ||| 2 ^ x)
theorem seen_bit (m j : Nat) : ∀ (n b acc : Nat), (seen m n (lcgN m b) acc).testBit j = true → acc.testBit j = true ∨ ∃ c, b ≤ c ∧ c < b + n ∧ lcgN m c = j
  | 0, _, _, h => .inl h
  | n + 1, b, acc, h => by
    rcases seen_bit m j n (b + 1) _ h with z | ⟨c, c1, c2, c3⟩
    · rw [Nat.testBit_or, Bool.or_eq_true] at z
      rcases z with z | z
      · exact .inl z
      · refine .inr ⟨b, Nat.le_refl _, by omega, ?_⟩
        rw [Nat.testBit_two_pow] at z
        simpa using z
    · exact .inr ⟨c, by omega, by omega, c3⟩
theorem MkG.of4 {m : Nat} (od : m % 2 = 1) (bg : m ≤ 1000) (h0 : seen m (m + 1) 0 0 = 2 ^ (m + 1) - 1) (h1 : lcgN m (m + 1) = 0) : MkG m :=
  MkG.of3 od bg (fun j hj => by
    have z : (seen m (m + 1) (lcgN m 0) 0).testBit j = true := by
      show (seen m (m + 1) 0 0).testBit j = true
      rw [h0, Nat.testBit_two_pow_sub_one]
      simp; omega
    rcases seen_bit m j _ _ _ z with y | ⟨c, _, c2, c3⟩
    · simp at y
    · exact ⟨c, by omega, c3⟩) h1
theorem mk15 : MkG 15 := MkG.of2 (by decide) (by decide) (by decide +kernel) (by decide +kernel)
theorem mk63 : MkG 63 := MkG.of2 (by decide) (by decide) (by decide +kernel) (by decide +kernel)
theorem mk511 : MkG 511 := MkG.of4 (by decide) (by decide) (by decide +kernel) (by decide +kernel)
theorem way_in {m : Nat} {h : Int} {k : Nat} : way m h k ≤ m := by
  have hi : SetTable.bits h % (m + 1) ≤ m := Nat.le_of_lt_succ (Nat.mod_lt _ (Nat.succ_pos _))
  have q := nth_in (m := m) k (runAt m (SetTable.bits h % (m + 1)) (SetTable.bits h)) (by
    have r := runEnd_bd hi
    show SetTable.bits h % (m + 1) + (SetTable.runEnd m (SetTable.bits h % (m + 1)) - SetTable.bits h % (m + 1)) ≤ m
    omega)
  exact Nat.le_trans (Nat.le_add_right _ _) q
/-! ### tables -/
structure TabG (t : SetTable) (hs : List Int) : Prop where
  ris : Ris t.place.toList
  dm : t.dummies = #[]
  sz : t.place.size = hs.length
  msk : MkG t.mask
  inn : ∀ x ∈ t.place.toList, x ≤ t.mask
  reach : ∀ (i : Nat) (h : Int) (j : Nat), hs[i]? = some h → t.place.toList[i]? = some j → ∃ k, way t.mask h k = j ∧ ∀ c, c < k → way t.mask h c ∈ t.place.toList
theorem TabG.of {t : SetTable} {hs : List Int} (T : TabOk t hs) : TabG t hs := ⟨T.ris, T.dm, T.sz, MkG.of T.mok, T.bd, T.reach⟩
theorem TabG.gap {t : SetTable} {hs : List Int} (T : TabG t hs) (hl : hs.length ≤ t.mask) (h : Int) : ∃ K, K < 10 * SetTable.turns t.mask ∧ ¬ way t.mask h K ∈ t.place.toList ∧ ∀ c, c < K → way t.mask h c ∈ t.place.toList := by
  have few : t.place.toList.length < t.mask + 1 := by
    have := T.sz
    simp only [Array.length_toList]
    omega
  obtain ⟨j, hj, nj⟩ := st_missing _ _ few
  obtain ⟨k, hk, rfl⟩ := T.msk.meet h j (by omega)
  obtain ⟨K, le, out, low⟩ := st_least (p := fun c => ¬ way t.mask h c ∈ t.place.toList) k nj
  exact ⟨K, by omega, out, fun c hc => Classical.byContradiction fun z => low c hc z⟩
theorem TabG.ahead {t : SetTable} {hs : List Int} (T : TabG t hs) {h : Int} {K i j : Nat} (hK : ¬ way t.mask h K ∈ t.place.toList) (hi : hs[i]? = some h) (hj : t.place.toList[i]? = some j) : ∃ c, c < K ∧ way t.mask h c = j := by
  obtain ⟨c, e, z⟩ := T.reach i h j hi hj
  refine ⟨c, Nat.lt_of_not_le fun le => ?_, e⟩
  rcases Nat.lt_or_eq_of_le le with lt | eq
  · exact hK (z K lt)
  · exact hK (by rw [eq, e]; exact List.mem_of_getElem? hj)
theorem TabG.putIn {t : SetTable} {hs : List Int} (T : TabG t hs) {h : Int} {K : Nat} (hK : ¬ way t.mask h K ∈ t.place.toList) (hb : ∀ c, c < K → way t.mask h c ∈ t.place.toList) :
    ∃ t' p, t.put (way t.mask h K) = (t', p) ∧ p ≤ hs.length ∧ TabG t' (hs.take p ++ h :: hs.drop p) ∧ t'.mask = t.mask ∧ t'.led = t.led ∧ t'.fill = hs.length + 1 := by
  have into : way t.mask h K ≤ t.mask := way_in
  generalize hw : way t.mask h K = j at hK into
  obtain ⟨cut, _, _⟩ := below_cut T.ris j
  have lp : t.place.toList.length = hs.length := by rw [Array.length_toList]; exact T.sz
  have c1 : SetTable.below t.place j ≤ t.place.toList.length := by rw [Array.length_toList]; exact cut
  have c2 : SetTable.below t.place j ≤ hs.length := by rw [← lp]; exact c1
  have fresh : t.place[SetTable.below t.place j]? ≠ some j := fun e => hK (List.mem_of_getElem? (by rw [Array.getElem?_toList]; exact e))
  have pl := put_place t j
  have sz : (t.put j).1.place.size = hs.length + 1 := by rw [← Array.length_toList, pl, len_ins _ c1, lp]
  refine ⟨(t.put j).1, (t.put j).2, rfl, c2, ⟨ris_insert T.ris fresh, put_dm T.dm j, ?_, T.msk, fun x hx => ?_, fun i g y hi hy => ?_⟩, rfl, rfl, ?_⟩
  · rw [sz]; exact (len_ins _ c2 _).symm
  · rw [pl] at hx
    rcases mem_ins.1 hx with rfl | hx
    · exact into
    · exact T.inn x hx
  · have up : ∀ {x : Nat}, x ∈ t.place.toList → x ∈ (t.put j).1.place.toList := fun hx => by rw [pl]; exact mem_ins.2 (.inr hx)
    rw [show (t.put j).2 = SetTable.below t.place j from rfl, tins_get hs c2] at hi
    rw [pl, tins_get _ c1] at hy
    show ∃ k, way t.mask g k = y ∧ ∀ c, c < k → way t.mask g c ∈ (t.put j).1.place.toList
    have old : ∀ i', hs[i']? = some g → t.place.toList[i']? = some y → ∃ k, way t.mask g k = y ∧ ∀ c, c < k → way t.mask g c ∈ (t.put j).1.place.toList := fun i' a b => by
      obtain ⟨k, e, z⟩ := T.reach i' g y a b
      exact ⟨k, e, fun c hc => up (z c hc)⟩
    split at hi
    · rename_i lt
      rw [if_pos lt] at hy
      exact old _ hi hy
    · rename_i nlt
      rw [if_neg nlt] at hy
      split at hi
      · rename_i eq
        rw [if_pos eq] at hy
        cases hi
        cases hy
        exact ⟨K, hw, fun c hc => up (hb c hc)⟩
      · rename_i neq
        rw [if_neg neq] at hy
        exact old _ hi hy
  · show (t.put j).1.place.size + (t.put j).1.dummies.size = hs.length + 1
    rw [sz, put_dm T.dm j]
    rfl
/-! ### a table laid anew, whatever its mask -/
theorem spot_of {m : Nat} (g : MkG m) (o : Array (Option Nat)) (h : Int) {j : Nat} (hj : j ≤ m) (hf : oAt o j = none) :
    ∃ K, SetTable.layClean.free m o (SetTable.turns m) (SetTable.bits h % (m + 1)) (SetTable.bits h) = some (way m h K) ∧ oAt o (way m h K) = none ∧ ∀ c, c < K → oAt o (way m h c) ≠ none := by
  obtain ⟨n, hn, e⟩ := g.runs h j hj
  have q := nth_off m n (SetTable.bits h % (m + 1)) (SetTable.bits h)
  rw [itL_run] at q
  have at_n : way m h (off m (SetTable.bits h % (m + 1)) (SetTable.bits h) n) = j := (congrArg SetTable.Probe.j q).trans e
  have some_free : (fun c => oAt o (way m h c) = none) (off m (SetTable.bits h % (m + 1)) (SetTable.bits h) n) := by
    dsimp only
    rw [at_n]; exact hf
  obtain ⟨K, kle, fr, occ⟩ := st_least (p := fun c => oAt o (way m h c) = none) _ some_free
  refine ⟨K, free_spec m o _ n _ _ K (by unfold SetTable.turns; omega) kle (fun c lt => ?_) (Option.isNone_iff_eq_none.mpr fr), fr, occ⟩
  have z := occ c lt
  show (oAt o (way m h c)).isNone = false
  cases y : oAt o (way m h c) with
  | none => exact absurd y z
  | some _ => rfl
theorem seat_of {m : Nat} (g : MkG m) {ds : List Int} {o : Array (Option Nat)} (W : Own m ds o) (room : ds.length ≤ m) (h : Int) :
    ∃ j, SetTable.layClean.free m o (SetTable.turns m) (SetTable.bits h % (m + 1)) (SetTable.bits h) = some j ∧ Own m (ds ++ [h]) (o.setIfInBounds j (some ds.length)) := by
  obtain ⟨taken, lt, cov⟩ := W.ps
  obtain ⟨j0, l0, n0⟩ := st_missing taken (m + 1) (by omega)
  have f0 : oAt o j0 = none := Classical.byContradiction fun z => n0 (cov j0 (by omega) z)
  obtain ⟨K, e1, e2, e3⟩ := spot_of g o h (show j0 ≤ m by omega) f0
  have le : way m h K ≤ m := way_in
  generalize hw : way m h K = p at e1 e2 le
  have me := oAt_set_self (owner := o) (some ds.length) (show p < o.size by rw [W.sz]; omega)
  have oth : ∀ {i : Nat}, i ≠ p → oAt (o.setIfInBounds p (some ds.length)) i = oAt o i := fun ne => oAt_set_ne _ ne
  have up : ∀ i, oAt o i ≠ none → oAt (o.setIfInBounds p (some ds.length)) i ≠ none := fun i hi => by
    rcases Classical.em (i = p) with rfl | ne
    · rw [me]; simp
    · rw [oth ne]; exact hi
  refine ⟨p, e1, by rw [Array.size_setIfInBounds, W.sz], fun i k hi e => ?_, fun k hk => ?_, p :: taken, by simp [lt], fun i hi e => ?_⟩
  · rcases Classical.em (i = p) with rfl | ne
    · rw [me] at e
      cases e
      exact ⟨h, K, by simp, hw, fun c hc => up _ (e3 c hc)⟩
    · rw [oth ne] at e
      obtain ⟨g', c', a1, a2, a3⟩ := W.at_ i k hi e
      exact ⟨g', c', by rw [List.getElem?_append_left (List.getElem?_eq_some_iff.mp a1).1, a1], a2, fun c hc => up _ (a3 c hc)⟩
  · rcases Nat.lt_or_ge k ds.length with c | c
    · obtain ⟨i, hi, e⟩ := W.all k c
      refine ⟨i, hi, ?_⟩
      have ne : i ≠ p := fun z => by
        rw [z, e2] at e
        cases e
      rw [oth ne, e]
    · have ek : k = ds.length := by simp at hk; omega
      exact ⟨p, le, by rw [ek, me]⟩
  · rcases Classical.em (i = p) with rfl | ne
    · exact List.mem_cons_self
    · rw [oth ne] at e
      exact List.mem_cons_of_mem _ (cov i hi e)
theorem seats_of {m : Nat} (g : MkG m) : ∀ (rs ds : List Int) (o : Array (Option Nat)), Own m ds o → ds.length + rs.length ≤ m → ∃ o', rs.foldl (stepF m) (some (o, ds.length)) = some (o', (ds ++ rs).length) ∧ Own m (ds ++ rs) o'
  | [], ds, o, W, _ => ⟨o, by rw [List.append_nil]; rfl, by rw [List.append_nil]; exact W⟩
  | h :: rs, ds, o, W, hl => by
    simp only [List.length_cons] at hl
    obtain ⟨j, e, W1⟩ := seat_of g W (by omega) h
    have l1 : (ds ++ [h]).length = ds.length + 1 := by simp
    obtain ⟨o', f, W2⟩ := seats_of g rs (ds ++ [h]) _ W1 (by omega)
    rw [List.append_assoc, List.singleton_append, l1] at f
    rw [List.append_assoc, List.singleton_append] at W2
    exact ⟨o', by rw [List.foldl_cons, stepF_some e, f], W2⟩
theorem relaid_of (t : SetTable) {hs : Array Int} {wanted M : Nat} (hw : SetTable.sizeAbove wanted - 1 = M) (g : MkG M) (hn : hs.size ≤ M) :
    ∃ t' order, t.relaid hs wanted = some (t', order) ∧ order.toList.Perm (List.range hs.size) ∧ TabG t' (order.toList.map fun i => hs.getD i 0) ∧ t'.mask = M ∧ t'.led = t.led := by
  obtain ⟨o, f, W⟩ := seats_of g hs.toList [] _ (Own.init M) (by simp; exact hn)
  rw [List.nil_append] at f W
  have er : t.relaid hs wanted = some (tabOf t M o, ((liveOf M o).map (·.2)).toArray) := by
    rw [relaid_eq, hw, layClean_eq]
    exact congrArg (fun z => (Option.map (·.1) z).bind _) f
  have lv : ∀ {j k : Nat}, (j, k) ∈ liveOf M o ↔ j ≤ M ∧ oAt o j = some k := mem_live W.sz
  obtain ⟨ri, rin⟩ := ris_live (fun j => o.getD j none) (List.range (M + 1)) List.pairwise_lt_range
  replace ri : Ris ((liveOf M o).map (·.1)) := ri
  have nd : ((liveOf M o).map (·.1)).Nodup := ri.imp fun z => Nat.ne_of_lt z
  have full : ∀ k, k < hs.size → k ∈ (liveOf M o).map (·.2) := fun k hk => by
    obtain ⟨j, b1, b2⟩ := W.all k (by rw [Array.length_toList]; exact hk)
    exact List.mem_map.mpr ⟨(j, k), lv.2 ⟨b1, b2⟩, rfl⟩
  have len : (liveOf M o).length = hs.size := by
    obtain ⟨taken, p1, p2⟩ := W.ps
    have p1 : taken.length = hs.size := by rw [p1, Array.length_toList]
    have a := nat_nodup_len _ taken nd fun x hx => by
      obtain ⟨⟨y, k⟩, hq, ey⟩ := List.mem_map.mp hx
      obtain ⟨b1, b2⟩ := lv.1 hq
      exact ey ▸ p2 y b1 (by rw [b2]; simp)
    have b := nat_nodup_len (List.range hs.size) _ List.nodup_range fun k hk => full k (List.mem_range.mp hk)
    simp only [List.length_map, List.length_range] at a b
    omega
  refine ⟨tabOf t M o, _, er, perm_range _ _ (by simp [len]) full, ⟨ri, rfl, by simp [tabOf], g, fun x hx => ?_, fun i h j hi hj => ?_⟩, rfl, rfl⟩
  · obtain ⟨⟨y, k⟩, hq, ey⟩ := List.mem_map.mp (show x ∈ (liveOf M o).map (·.1) from hx)
    exact ey ▸ (lv.1 hq).1
  · have hi2 : (((liveOf M o).map (·.2)).map fun i => hs.getD i 0)[i]? = some h := hi
    have hj2 : ((liveOf M o).map (·.1))[i]? = some j := hj
    cases hq : (liveOf M o)[i]? with
    | none => simp [hq] at hj2
    | some q =>
      obtain ⟨y, k⟩ := q
      simp only [List.getElem?_map, hq, Option.map_some, Option.some.injEq] at hi2 hj2
      subst hj2
      obtain ⟨b1, b2⟩ := lv.1 (List.mem_of_getElem? hq)
      obtain ⟨g', K, a1, a2, a3⟩ := W.at_ y k b1 b2
      have eg : h = g' := by
        rw [← hi2, Array.getD_eq_getD_getElem?, ← Array.getElem?_toList, a1]
        rfl
      refine ⟨K, eg ▸ a2, fun c hc => ?_⟩
      show way M h c ∈ (liveOf M o).map (·.1)
      rw [eg]
      cases z : oAt o (way M g' c) with
      | none => exact absurd z (a3 c hc)
      | some u => exact List.mem_map.mpr ⟨(_, u), lv.2 ⟨way_in, z⟩, rfl⟩
end NS

set_option Elab.async false
set_option linter.all false
set_option maxRecDepth 100000
set_option maxHeartbeats 4000000
/-! sets of nested keys: seeking and adding -/
namespace NS
open PySem PySem.Spec PyProof.Rows L2
abbrev IsN (P : Program) (w : World) (h : Heap) (k : NestedKey) (a : Addr) : Prop := (nestedKind P w).is h k a
abbrev Ent := Addr × NestedKey
def rws (w : World) (L : List Ent) : List (Int × Value) := L.map fun q => (q.2.hash w, Value.ref q.1)
structure NTab (P : Program) (w : World) (h : Heap) (a : Addr) (L : List Ent) (es : Array (Int × Value)) (ep : Nat) (t : SetTable) : Prop where
  obj : ∃ o, h.get? a = some o ∧ o.ExactSet ∧ o.data = .set es ep t
  rows : es.toList = rws w L
  tab : TabG t (L.map fun q => q.2.hash w)
  nd : (L.map (·.2)).Nodup
  key : ∀ q ∈ L, IsN P w h q.2 q.1
  led : w.params.followText "set-order" = true ∨ t.led = true
  room : L.length * 5 < t.mask * 3
  few : L.length < 300
section
variable {P : Program} {w : World} {A : Around} {E : Value → Shared → Prop} {s : Shared}
/-! ### what is asked of such tuples -/
mutual
theorem nk_class : ∀ (k : NestedKey) (v : Value) (n : Nat) (s : Shared) (A : Around) (E : Value → Shared → Prop) (Q : Bool → Shared → Prop), NestedIs s.heap k v → k.depth ≤ n → Q false s → wpAny (model P w) A (ofAClassStatement n v) Q E s
  | .none, _, n, s, A, E, Q, x, _, h => by cases x; cases n <;> exact wpAny_pure h
  | .num i, _, n, s, A, E, Q, x, _, h => by cases x <;> cases n <;> exact wpAny_pure h
  | .text y, _, n, s, A, E, Q, x, _, h => by cases x; cases n <;> exact wpAny_pure h
  | .tup ks, _, n, s, A, E, Q, x, hn, h => by
    cases x with
    | @tup b o vs m _ hg hc hd hk =>
      have hT : s.TypeIs (.ref b) "tuple" := ⟨o, hg, hc⟩
      unfold ofAClassStatement
      refine wpAny_bind (wpAny_typeOf hT ?_)
      dsimp only
      rw [show (("tuple" : String) == "tuple") = true from rfl]
      simp only [if_true, Bool.not_true, Bool.false_eq_true, if_false]
      try refine wpAny_bind (wpAny_pure ?_)
      try simp only [Bool.not_true, Bool.false_eq_true, if_false]
      simp only [NestedKey.depth] at hn
      cases n with
      | zero => omega
      | succ n =>
        show wpAny _ _ (seqItems? (.ref b) >>= _) _ _ s
        refine wpAny_bind (wpAny_seqItems hg hd ?_)
        dsimp only
        refine wpAny_bind ?_
        show wpAny _ _ (forIn vs _ _) _ _ s
        rw [← Array.forIn_toList]
        refine wpAny_forIn_list _ (fun rest r z => r.1 = none ∧ z = s ∧ ∀ v ∈ rest, v ∈ vs.toList) _ ?_ ?_ _ _ ⟨rfl, rfl, fun v hv => hv⟩
        · rintro v rest r z ⟨hr, rfl, hall⟩
          refine wpAny_bind (nk_classes ks _ n z A E _ hk (by omega) v (hall v List.mem_cons_self) ?_)
          simp only [Bool.false_eq_true, if_false]
          exact wpAny_pure ⟨rfl, rfl, fun u hu => hall u (List.mem_cons_of_mem _ hu)⟩
        · rintro ⟨r1, r2⟩ z ⟨hr, rfl, _⟩
          simp only at hr
          subst hr
          exact wpAny_pure h
theorem nk_classes : ∀ (ks : List NestedKey) (vs : List Value) (n : Nat) (s : Shared) (A : Around) (E : Value → Shared → Prop) (Q : Bool → Shared → Prop), NestedAll s.heap ks vs → NestedKey.depthAll ks ≤ n → ∀ v ∈ vs, Q false s → wpAny (model P w) A (ofAClassStatement n v) Q E s
  | [], _, n, s, A, E, Q, x, _, v, hv, h => by cases x; cases hv
  | k :: ks, _, n, s, A, E, Q, x, hn, v, hv, h => by
    cases x with
    | cons x1 x2 =>
      simp only [NestedKey.depthAll] at hn
      rcases List.mem_cons.mp hv with e | hv
      · rw [e]; exact nk_class k _ n s A E Q x1 (by omega) h
      · exact nk_classes ks _ n s A E Q x2 (by omega) v hv h
end
mutual
theorem nk_byval : ∀ (k : NestedKey) (v : Value) (n : Nat) (s : Shared) (A : Around) (E : Value → Shared → Prop) (Q : Bool → Shared → Prop), NestedIs s.heap k v → k.depth ≤ n → (∀ b, Q b s) → wpAny (model P w) A (hashByValue n v) Q E s
  | .none, _, n, s, A, E, Q, x, _, h => by cases x; cases n <;> exact wpAny_pure (h _)
  | .num i, _, n, s, A, E, Q, x, _, h => by cases x <;> cases n <;> exact wpAny_pure (h _)
  | .text y, _, n, s, A, E, Q, x, _, h => by cases x; cases n <;> exact wpAny_pure (h _)
  | .tup ks, _, n, s, A, E, Q, x, hn, h => by
    cases x with
    | @tup b o vs m _ hg hc hd hk =>
      have hT : s.TypeIs (.ref b) "tuple" := ⟨o, hg, hc⟩
      simp only [NestedKey.depth] at hn
      cases n with
      | zero => omega
      | succ n =>
        unfold hashByValue
        refine wpAny_bind (wpAny_specialOf hT PySem.F.slot_tuple_hash.lookup ?_)
        show wpAny _ _ (seqItems? (.ref b) >>= _) _ _ s
        refine wpAny_bind (wpAny_seqItems hg hd ?_)
        refine wpAny_bind ?_
        show wpAny _ _ (forIn vs _ _) _ _ s
        rw [← Array.forIn_toList]
        refine wpAny_forIn_list _ (fun rest r z => z = s ∧ ∀ v ∈ rest, v ∈ vs.toList) _ ?_ ?_ _ _ ⟨rfl, fun v hv => hv⟩
        · rintro v rest r z ⟨rfl, hall⟩
          refine wpAny_bind (nk_byvals ks _ n z A E _ hk (by omega) v (hall v List.mem_cons_self) fun b => ?_)
          cases b
          · simp only [Bool.not_false, if_true]
            exact wpAny_pure (wpAny_pure (h _))
          · simp only [Bool.not_true, Bool.false_eq_true, if_false]
            exact wpAny_pure ⟨rfl, fun u hu => hall u (List.mem_cons_of_mem _ hu)⟩
        · rintro ⟨r1, r2⟩ z ⟨rfl, _⟩
          cases r1
          · exact wpAny_pure (h _)
          · exact wpAny_pure (h _)
theorem nk_byvals : ∀ (ks : List NestedKey) (vs : List Value) (n : Nat) (s : Shared) (A : Around) (E : Value → Shared → Prop) (Q : Bool → Shared → Prop), NestedAll s.heap ks vs → NestedKey.depthAll ks ≤ n → ∀ v ∈ vs, (∀ b, Q b s) → wpAny (model P w) A (hashByValue n v) Q E s
  | [], _, n, s, A, E, Q, x, _, v, hv, h => by cases x; cases hv
  | k :: ks, _, n, s, A, E, Q, x, hn, v, hv, h => by
    cases x with
    | cons x1 x2 =>
      simp only [NestedKey.depthAll] at hn
      rcases List.mem_cons.mp hv with e | hv
      · rw [e]; exact nk_byval k _ n s A E Q x1 (by omega) h
      · exact nk_byvals ks _ n s A E Q x2 (by omega) v hv h
end
theorem unseen {k : NestedKey} {b : Addr} {Q : Bool → Shared → Prop} (hk : IsN P w s.heap k b) {ys : List Value} (hy : ∀ y ∈ ys, ∃ k' c, y = Value.ref c ∧ IsN P w s.heap k' c) (h : Q false s) : wpAny (model P w) A (searchCouldBeSeen (.ref b) ys) Q E s := by
  unfold searchCouldBeSeen
  refine wpAny_bind ?_
  refine wpAny_forIn_list _ (fun rest r z => r.1 = none ∧ z = s ∧ ∀ y ∈ rest, y ∈ ys) _ ?_ ?_ _ _ ⟨rfl, rfl, fun y m => m⟩
  · rintro v rest r z ⟨hr, rfl, hall⟩
    obtain ⟨k', c, rfl, hc⟩ := hy v (hall v List.mem_cons_self)
    have on : ∀ y ∈ rest, y ∈ ys := fun u hu => hall u (List.mem_cons_of_mem _ hu)
    dsimp only
    by_cases hv : (b == c || (carriedByValue (.ref b) && carriedByValue (.ref c))) = true
    · exact wp_if_pos hv (wpAny_pure ⟨rfl, rfl, on⟩)
    · refine wp_if_neg hv (wpAny_bind ((nestedKind P w).quiet hk ?_))
      simp only [Bool.not_true, Bool.false_eq_true, if_false]
      refine wpAny_bind ((nestedKind P w).quiet hc ?_)
      simp only [Bool.not_true, Bool.false_eq_true, if_false]
      refine wpAny_bind (nk_class k _ 8 z A E _ hk.1 hk.2 ?_)
      simp only [Bool.false_eq_true, if_false]
      refine wpAny_bind (nk_class k' _ 8 z A E _ hc.1 hc.2 ?_)
      simp only [Bool.false_eq_true, if_false]
      exact wpAny_pure ⟨rfl, rfl, on⟩
  · rintro ⟨r1, r2⟩ z ⟨hr, rfl, _⟩
    simp only at hr
    subst hr
    exact wpAny_pure h
/-! ### seeking -/
variable {a : Addr} {L : List Ent} {es : Array (Int × Value)} {ep : Nat} {t : SetTable}
theorem rws_len {L : List Ent} (h : es.toList = rws w L) : es.size = L.length := by
  rw [← Array.length_toList, h]
  exact List.length_map ..
theorem NTab.fits (R : NTab P w s.heap a L es ep t) : t.fits es.size = true := by
  have z := R.tab.sz
  have r := R.room
  have l := rws_len R.rows
  rw [List.length_map] at z
  unfold SetTable.fits SetTable.fill
  rw [R.tab.dm, Bool.and_eq_true, beq_iff_eq, decide_eq_true_eq]
  refine ⟨by omega, ?_⟩
  show t.place.size + 0 ≤ t.mask
  omega
theorem NTab.ent (R : NTab P w s.heap a L es ep t) {i : Nat} {q : Ent} (h : L[i]? = some q) : es[i]? = some (q.2.hash w, Value.ref q.1) := by
  rw [← Array.getElem?_toList, R.rows]
  unfold rws
  rw [List.getElem?_map, h]
  rfl
theorem NTab.whole (R : NTab P w s.heap a L es ep t) : ¬ t.gaveWay = true := by
  unfold SetTable.gaveWay
  rw [R.tab.msk.odd]
  decide
theorem nth_dm (m : Nat) : ∀ (n : Nat) {p : SetTable.Probe}, p.dummy = none → (nth m p n).dummy = none
  | 0, _, h => h
  | n + 1, p, h => nth_dm m n (by unfold adv; split <;> exact h)
theorem seek (R : NTab P w s.heap a L es ep t) {x : Addr} {k : NestedKey} (hx : IsN P w s.heap k x) (hu : A.units + 8 < cLine) {K : Nat} (hKf : K < 10 * SetTable.turns t.mask)
    (hK : ¬ way t.mask (k.hash w) K ∈ t.place.toList) (hKb : ∀ c, c < K → way t.mask (k.hash w) c ∈ t.place.toList) {Q : SetFound → Shared → Prop}
    (yes : k ∈ L.map (·.2) → Q (.there none) s) (no : k ∉ L.map (·.2) → Q (.free (way t.mask (k.hash w) K) false) s) :
    ∀ (f c : Nat) (st : Option SetTable.Probe), st.getD (t.probeStart (k.hash w)) = nth t.mask (t.probeStart (k.hash w)) c → c ≤ K → K < f + c →
      (∀ (i : Nat) q, L[i]? = some q → q.2 = k → ∃ c', c ≤ c' ∧ c' < K ∧ t.place.toList[i]? = some (way t.mask (k.hash w) c')) →
      wpAny (model P w) A (setSearchFrom a (.ref x) (k.hash w) true f st) Q E s := by
  obtain ⟨o, ho, hex, hd⟩ := R.obj
  have hfit := R.fits
  intro f
  induction f with
  | zero => intro c st _ h1 h2; omega
  | succ f ih =>
    intro c st hst hc hf hre
    rw [setSearchFrom_succ]
    refine wpAny_bind (wpAny_setState_of ho hd hfit ?_)
    dsimp only
    refine wp_if_neg R.whole ?_
    try refine wpAny_bind (wpAny_pure ?_)
    have at_ : ∀ q, nth t.mask (nth t.mask (t.probeStart (k.hash w)) c) q = nth t.mask (t.probeStart (k.hash w)) (c + q) := fun q => (nth_add t.mask c _ q).symm
    have wj : ∀ q, (nth t.mask (nth t.mask (t.probeStart (k.hash w)) c) q).j = way t.mask (k.hash w) (c + q) := fun q => congrArg SetTable.Probe.j (at_ q)
    have hsh : ∀ (i : Nat) q, L[i]? = some q → (fun i => (es[i]?.map (·.1)).getD 0) i = q.2.hash w := fun i q hq => by
      show (es[i]?.map (·.1)).getD 0 = _
      rw [R.ent hq]
      rfl
    have cK : c + (K - c) = K := by omega
    rw [hst]
    rcases go_spec t R.tab.ris R.tab.dm (fun i => (es[i]?.map (·.1)).getD 0) (k.hash w) (10 * SetTable.turns t.mask) (K - c) (nth t.mask (t.probeStart (k.hash w)) c) (nth_dm _ c rfl) (by omega)
      (fun q hq => by rw [wj]; exact hKb _ (by omega)) (by rw [wj, cK]; exact hK) with ⟨q, i, hq, hi, hh, hno, hgo⟩ | ⟨hno, hgo⟩
    · have pr : t.probe (fun i => (es[i]?.map (·.1)).getD 0) (k.hash w) (nth t.mask (t.probeStart (k.hash w)) c) = some (.candidate (way t.mask (k.hash w) (c + q)) i (nth t.mask (t.probeStart (k.hash w)) (c + (q + 1)))) := by
        rw [← wj, ← at_]
        exact hgo
      rw [pr]
      dsimp only
      rw [wj] at hi
      have hil : i < L.length := by
        have h1 : i < t.place.toList.length := (List.getElem?_eq_some_iff.mp hi).1
        have h2 := R.tab.sz
        rw [List.length_map] at h2
        rw [Array.length_toList] at h1
        omega
      obtain ⟨e, he⟩ : ∃ e, L[i]? = some e := ⟨_, List.getElem?_eq_getElem hil⟩
      have hm := List.mem_of_getElem? he
      have behind : wpAny (model P w) A (searchRest a (.ref x) (k.hash w) true f es t (way t.mask (k.hash w) (c + q)) i (nth t.mask (t.probeStart (k.hash w)) (c + (q + 1)))) Q E s := by
        unfold searchRest
        rw [R.ent he]
        dsimp only
        refine wpAny_bind (wpAny_holding ((nestedKind P w).eqBool hu (R.key e hm) hx ?_))
        refine wpAny_bind (wpAny_setState_of ho hd hfit ?_)
        dsimp only
        by_cases same : e.2 = k
        · exact wp_if_pos (by simp [same]) (wpAny_pure (yes (List.mem_map.mpr ⟨e, hm, same⟩)))
        · refine wp_if_neg (by simp [same]) ?_
          try refine wpAny_bind (wpAny_pure ?_)
          rw [sameMem]
          dsimp only
          have live := slot_live R.tab.ris hi
          simp only [if_true, live, R.ent he]
          refine wpAny_bind (wpAny_isSame_ref_self (wpAny_bind (wpAny_pure ?_)))
          simp only [if_true]
          refine wp_if_neg (by simp [same]) ?_
          refine ih (c + (q + 1)) _ rfl (by omega) (by omega) fun i0 e0 h0 k0 => ?_
          obtain ⟨c', a1, a2, a3⟩ := hre i0 e0 h0 k0
          refine ⟨c', ?_, a2, a3⟩
          rcases Nat.lt_trichotomy c' (c + q) with z | z | z
          · exact absurd ((hsh i0 e0 h0).trans (congrArg (NestedKey.hash w) k0)) (hno (c' - c) i0 (by omega) (by rw [wj, show c + (c' - c) = c' by omega]; exact a3))
          · subst z
            have l2 := slot_live R.tab.ris a3
            rw [live] at l2
            injection l2 with l2
            rw [← l2, he] at h0
            exact absurd ((congrArg Prod.snd (Option.some.inj h0)).trans k0) same
          · omega
      by_cases hl : t.led = true
      · refine wp_if_neg (by simp [hl]) ?_
        try refine wpAny_bind (wpAny_pure ?_)
        exact behind
      · refine wp_if_pos (by simp [hl]) (wpAny_bind (unseen hx (fun y hy => ?_) ?_))
        · obtain ⟨u, hu1, rfl⟩ := List.mem_map.mp hy
          have hu2 : u ∈ es.toList := by
            have : u ∈ es ∧ u.1 = k.hash w := by simpa using hu1
            simpa using this.1
          rw [R.rows] at hu2
          obtain ⟨e2, he2, rfl⟩ := List.mem_map.mp hu2
          exact ⟨e2.2, e2.1, rfl, R.key e2 he2⟩
        · refine wp_if_neg (by decide) ?_
          try refine wpAny_bind (wpAny_pure ?_)
          exact behind
    · have pr : t.probe (fun i => (es[i]?.map (·.1)).getD 0) (k.hash w) (nth t.mask (t.probeStart (k.hash w)) c) = some (.empty (way t.mask (k.hash w) K) none) := by
        have e2 := wj (K - c)
        rw [cK] at e2
        rw [← e2]
        exact hgo
      rw [pr]
      dsimp only
      refine wpAny_pure (no fun hm => ?_)
      obtain ⟨e0, h0, k0⟩ := List.mem_map.mp hm
      obtain ⟨i0, h0⟩ := List.mem_iff_getElem?.mp h0
      obtain ⟨c', a1, a2, a3⟩ := hre i0 e0 h0 k0
      exact hno (c' - c) i0 (by omega) (by rw [wj, show c + (c' - c) = c' by omega]; exact a3) ((hsh i0 e0 h0).trans (congrArg (NestedKey.hash w) k0))
theorem seek_at (R : NTab P w s.heap a L es ep t) {x : Addr} {k : NestedKey} (hx : IsN P w s.heap k x) (hu : A.units + 8 < cLine) {Q : SetFound → Shared → Prop} (yes : k ∈ L.map (·.2) → Q (.there none) s)
    (no : ∀ K, k ∉ L.map (·.2) → ¬ way t.mask (k.hash w) K ∈ t.place.toList → (∀ c, c < K → way t.mask (k.hash w) c ∈ t.place.toList) → Q (.free (way t.mask (k.hash w) K) false) s) :
    wpAny (model P w) A (setSearch a (.ref x) (k.hash w) true) Q E s := by
  have rm := R.room
  obtain ⟨K, hKf, hK, hKb⟩ := R.tab.gap (by rw [List.length_map]; omega) (k.hash w)
  have bd : K < 100000 := by
    have := R.tab.msk.big
    unfold SetTable.turns at hKf
    omega
  unfold setSearch
  refine seek R hx hu hKf hK hKb yes (fun hn => no K hn hK hKb) 100000 0 none rfl (Nat.zero_le _) bd fun i q hq hk => ?_
  have h1 : (L.map fun q => q.2.hash w)[i]? = some (k.hash w) := by rw [List.getElem?_map, hq, ← hk]; rfl
  have h2 : i < t.place.toList.length := by
    have h3 : i < L.length := (List.getElem?_eq_some_iff.mp hq).1
    have h4 := R.tab.sz
    rw [List.length_map] at h4
    rw [Array.length_toList]
    omega
  obtain ⟨j, hj⟩ : ∃ j, t.place.toList[i]? = some j := ⟨_, List.getElem?_eq_getElem h2⟩
  obtain ⟨c, lc, e⟩ := R.tab.ahead hK h1 hj
  exact ⟨c, Nat.zero_le _, lc, by rw [hj, e]⟩
end
end NS

set_option Elab.async false
set_option linter.all false
set_option maxRecDepth 100000
set_option maxHeartbeats 4000000
/-! sets of nested keys: adding -/
namespace NS
open PySem PySem.Spec PyProof.Rows L2
section
variable {P : Program} {w : World} {A : Around} {E : Value → Shared → Prop} {s : Shared}
theorem isN_same {h h' : Heap} {k : NestedKey} {a b : Addr} {o : Obj} {es : Array (Int × Value)} {ep : Nat} {t : SetTable} (hb : IsN P w h k b) (ho : h.get? a = some o) (hd : o.data = .set es ep t) (hs : Heap.SameBut a h h') : IsN P w h' k b :=
  ⟨NestedIs.at (fun c u vs n hc hq => (hs.2 c fun e => by
    subst e
    rw [ho] at hc
    cases hc
    rw [hd] at hq
    cases hq).trans hc) k _ hb.1, hb.2⟩
theorem isN_keep {h h' : Heap} {k : NestedKey} {b : Addr} (x : IsN P w h k b) (hk : ∀ c o, h.get? c = some o → h'.get? c = some o) : IsN P w h' k b := ⟨NestedIs.at (fun c u _ _ hc _ => hk c u hc) k _ x.1, x.2⟩
/-- the masks that come of adding one by one -/
def Mk4 (m : Nat) : Prop := m = 7 ∨ m = 31 ∨ m = 127 ∨ m = 511
theorem Mk4.mk {m : Nat} (h : Mk4 m) : MkG m := by
  rcases h with rfl | rfl | rfl | rfl
  · exact MkG.of (.inl rfl)
  · exact MkG.of (.inr (.inl rfl))
  · exact MkG.of (.inr (.inr rfl))
  · exact mk511
theorem size_308 : SetTable.sizeAbove (SetTable.grown 77) = 512 := by decide +kernel
theorem pick_all {α : Type} (L : List α) : ∀ n, n ≤ L.length → (List.range n).filterMap (fun i => L[i]?) = L.take n
  | 0, _ => rfl
  | n + 1, h => by
    rw [List.range_succ, List.filterMap_append, pick_all L n (by omega), List.take_add_one, List.filterMap_cons, List.getElem?_eq_getElem (show n < L.length from h)]
    rfl
theorem relist {L : List Ent} {es : Array (Int × Value)} {order : Array Nat} (hr : es.toList = rws w L) (hp : order.toList.Perm (List.range L.length)) :
    ∃ L2, (order.filterMap (es[·]?)).toList = rws w L2 ∧ L2.Perm L ∧ (L2.map fun q => q.2.hash w) = order.toList.map fun i => (es.map (·.1)).getD i 0 := by
  have ent : ∀ i : Nat, es[i]? = (L[i]?).map (fun q : Ent => (q.2.hash w, Value.ref q.1)) := fun i => by
    rw [← Array.getElem?_toList, hr]
    exact List.getElem?_map ..
  refine ⟨order.toList.filterMap (fun i => L[i]?), ?_, ?_, ?_⟩
  · have e1 : (order.filterMap (es[·]?)).toList = order.toList.filterMap (es[·]?) := by simp
    rw [e1]
    unfold rws
    rw [List.map_filterMap]
    refine congrArg (fun f => List.filterMap f order.toList) (funext fun i => ?_)
    exact ent i
  · have := (hp.filterMap fun i => L[i]?)
    rw [pick_all L _ (Nat.le_refl _), List.take_length] at this
    exact this
  · have lt : ∀ i ∈ order.toList, i < L.length := fun i hi => List.mem_range.mp (hp.mem_iff.mp hi)
    have all : ∀ l : List Nat, (∀ i ∈ l, i < L.length) → ((l.filterMap fun i => L[i]?).map fun q => q.2.hash w) = l.map fun i => (es.map (·.1)).getD i 0 := by
      intro l
      induction l with
      | nil => intro _; rfl
      | cons i l ih =>
        intro hl
        have hi := hl i List.mem_cons_self
        have e2 : (es.map (·.1)).getD i 0 = (L[i]).2.hash w := by
          have e3 : (es.map (·.1))[i]? = some ((L[i]).2.hash w) := by rw [Array.getElem?_map, ent, List.getElem?_eq_getElem hi]; rfl
          simp [Array.getD_eq_getD_getElem?, e3]
        rw [List.filterMap_cons_some (List.getElem?_eq_getElem hi), List.map_cons, List.map_cons, ih fun j hj => hl j (List.mem_cons_of_mem _ hj), e2]
    exact all _ lt
variable {a : Addr} {L : List Ent} {es : Array (Int × Value)} {ep : Nat} {t : SetTable}
theorem relay {o : Obj} (ho : s.heap.get? a = some o) (hex : o.ExactSet) (hd : o.data = .set es ep t) (hr : es.toList = rws w L) (fit : t.fits es.size = true) (nd : (L.map (·.2)).Nodup) (key : ∀ q ∈ L, IsN P w s.heap q.2 q.1)
    (led : w.params.followText "set-order" = true ∨ t.led = true) (few : L.length < 300) {wanted M : Nat} (hw : SetTable.sizeAbove wanted - 1 = M) (hM : MkG M) (hw2 : SetTable.sizeAbove wanted ≤ 512) (rm : L.length * 5 < M * 3) {Q : Unit → Shared → Prop}
    (hQ : ∀ h' L' es' ep' t', Heap.SameBut a s.heap h' → NTab P w h' a L' es' ep' t' → L'.Perm L → t'.mask = M → Q () { s with heap := h' }) : wpAny (model P w) A (setRelay a wanted) Q E s := by
  have ln := rws_len hr
  obtain ⟨t', order, e, hp, T, em, el⟩ := relaid_of t (hs := es.map (·.1)) (wanted := wanted) hw hM (by rw [Array.size_map, ln]; omega)
  rw [Array.size_map, ln] at hp
  obtain ⟨L2, r1, r2, r3⟩ := relist hr hp
  rw [← r3] at T
  have z2 : (order.filterMap (es[·]?)).size = es.size := by rw [rws_len r1, r2.length_eq, ln]
  rw [setRelay_eq]
  refine wpAny_bind (wpAny_setState_of ho hd fit ?_)
  dsimp only
  refine wp_if_neg (by rw [sizeLine_eq]; omega) ?_
  try refine wpAny_bind (wpAny_pure ?_)
  rw [e]
  dsimp only
  refine wpAny_bind (wp_if_neg (by rw [z2]; simp) ?_)
  try refine wpAny_bind (wpAny_pure ?_)
  refine wpAny_pure ?_
  dsimp only
  refine wpAny_storeSet_of ho hd ?_ (by rw [z2, ln, sizeLine_eq]; omega)
  have sb := Heap.SameBut.update s.heap a (Obj.putSet (order.filterMap (es[·]?)) t')
  exact hQ _ L2 (order.filterMap (es[·]?)) (ep + 1) t' sb ⟨⟨_, store_at ho hd, ⟨hex.1, hex.2.1, hex.2.2⟩, rfl⟩, r1, T, (r2.map (·.2)).nodup_iff.mpr nd, fun q hq => isN_same (key q (r2.mem_iff.mp hq)) ho hd sb, by rw [el]; exact led, by rw [r2.length_eq, em]; exact rm, by rw [r2.length_eq]; exact few⟩ r2 em
theorem add_in (R : NTab P w s.heap a L es ep t) {x : Addr} {k : NestedKey} (hx : IsN P w s.heap k x) (hu : A.units + 8 < cLine) (hfew : L.length + 1 < 300) (hm : Mk4 t.mask ∨ (L.length + 1) * 5 < t.mask * 3) {Q : Bool → Shared → Prop}
    (hQ : ∀ b h' L' es' ep' t', Heap.SameBut a s.heap h' → NTab P w h' a L' es' ep' t' → (k ∈ L.map (·.2) → L' = L) → (k ∉ L.map (·.2) → L'.Perm ((x, k) :: L)) → (Mk4 t.mask → Mk4 t'.mask) → t.mask ≤ t'.mask → Q b { s with heap := h' }) :
    wpAny (model P w) A (setAddHashed a (.ref x) (k.hash w)) Q E s := by
  obtain ⟨o, ho, hex, hd⟩ := R.obj
  have ln := rws_len R.rows
  have rm := R.room
  have hfit := R.fits
  unfold setAddHashed
  refine wpAny_holding ?_
  rw [show (100000 : Nat) = 99999 + 1 from rfl, setAddHashedIn_succ]
  refine wpAny_bind (wpAny_setState_of ho hd hfit ?_)
  dsimp only
  refine wp_if_neg (by simp [byScan, Value.scannable]) ?_
  try refine wpAny_bind (wpAny_pure ?_)
  refine wpAny_bind (seek_at R hx hu (fun hin => ?_) fun K hout hK hb => ?_)
  · dsimp only
    exact wpAny_pure (hQ false s.heap L es ep t (Heap.SameBut.refl a s.heap) R (fun _ => rfl) (fun z => absurd hin z) id (Nat.le_refl _))
  · dsimp only
    refine wpAny_bind (wpAny_setState_of ho hd hfit ?_)
    dsimp only
    obtain ⟨t1, p, hp, hple, T1, m1, led1, fill1⟩ := R.tab.putIn hK hb
    rw [List.length_map] at hple fill1
    rw [hp]
    dsimp only
    have rows1 : (SetTable.insertAt es p (k.hash w, Value.ref x)).toList = rws w (L.take p ++ (x, k) :: L.drop p) := by
      rw [SetTable.toList_insertAt, R.rows]
      unfold rws
      rw [List.map_append, List.map_cons, List.map_take, List.map_drop]
    have pm : (L.take p ++ (x, k) :: L.drop p).Perm ((x, k) :: L) := by
      have q := List.perm_middle (a := (x, k)) (l₁ := L.take p) (l₂ := L.drop p)
      rw [List.take_append_drop] at q
      exact q
    have hs1 : (L.take p ++ (x, k) :: L.drop p).map (fun q => q.2.hash w) = (L.map fun q => q.2.hash w).take p ++ k.hash w :: (L.map fun q => q.2.hash w).drop p := by
      rw [List.map_append, List.map_cons, List.map_take, List.map_drop]
    rw [← hs1] at T1
    have n1 := pm.length_eq
    rw [List.length_cons] at n1
    have ln1 := rws_len rows1
    generalize L.take p ++ (x, k) :: L.drop p = L1 at rows1 pm T1 n1 ln1
    generalize SetTable.insertAt es p (k.hash w, Value.ref x) = es1 at rows1 ln1 ⊢
    have nd1 : (L1.map (·.2)).Nodup := (pm.map (·.2)).nodup_iff.mpr (List.nodup_cons.mpr ⟨hout, R.nd⟩)
    -- whatever the table says of itself from here on
    have rest : ∀ t2 : SetTable, TabG t2 (L1.map fun q => q.2.hash w) → t2.mask = t.mask → t2.led = t.led → t2.fill = L.length + 1 →
        wpAny (model P w) A (do
          storeSet a es1 t2
          if (!false && t2.tooFull) = true then do
            setRelay a (SetTable.grown (es.size + 1))
            pure true
          else pure true) Q E s := by
      intro t2 T2 m2 l2 f2
      refine wpAny_bind (wpAny_storeSet_of ho hd ?_ (by rw [ln1, n1, sizeLine_eq]; omega))
      have sb := Heap.SameBut.update s.heap a (Obj.putSet es1 t2)
      have ho1 := store_at (es' := es1) (t' := t2) ho hd
      generalize s.heap.update a (Obj.putSet es1 t2) = h1 at sb ho1 ⊢
      have key1 : ∀ q ∈ L1, IsN P w h1 q.2 q.1 := fun q hq => by
        rcases List.mem_cons.mp (pm.mem_iff.mp hq) with e | hq
        · rw [e]; exact isN_same hx ho hd sb
        · exact isN_same (R.key q hq) ho hd sb
      have ld : w.params.followText "set-order" = true ∨ t2.led = true := by rw [l2]; exact R.led
      by_cases full : t2.tooFull = true
      · refine wp_if_pos (by simp [full]) (wpAny_bind ?_)
        have hfull : (L.length + 1) * 5 ≥ t.mask * 3 := by
          have h := full
          unfold SetTable.tooFull at h
          rw [decide_eq_true_eq, f2, m2] at h
          exact h
        have which : (t.mask = 7 ∧ L.length = 4) ∨ (t.mask = 31 ∧ L.length = 18) ∨ (t.mask = 127 ∧ L.length = 76) := by
          rcases hm with (e | e | e | e) | e <;> omega
        have fit1 : t2.fits es1.size = true := by
          have z := T2.sz
          rw [List.length_map] at z
          unfold SetTable.fits SetTable.fill
          rw [T2.dm, Bool.and_eq_true, beq_iff_eq, decide_eq_true_eq]
          refine ⟨by omega, ?_⟩
          show t2.place.size + 0 ≤ t2.mask
          rw [m2]
          omega
        rw [ln]
        have go : ∀ M, SetTable.sizeAbove (SetTable.grown (L.length + 1)) - 1 = M → Mk4 M → SetTable.sizeAbove (SetTable.grown (L.length + 1)) ≤ 512 → (L.length + 1) * 5 < M * 3 → t.mask ≤ M → wpAny (model P w) A (setRelay a (SetTable.grown (L.length + 1))) (fun _ z => wpAny (model P w) A (pure true) Q E z) E { s with heap := h1 } := fun M e1 e2 e3 e4 e5 =>
          relay (s := { s with heap := h1 }) ho1 ⟨hex.1, hex.2.1, hex.2.2⟩ rfl rows1 fit1 nd1 key1 ld (by omega) e1 e2.mk e3 (by rw [n1]; exact e4) fun h2 L2 es2 ep2 t2' sb2 R2 pm2 mM => wpAny_pure (hQ true h2 L2 es2 ep2 t2' (sb.trans sb2) R2 (fun z => absurd z hout) (fun _ => pm2.trans pm) (fun _ => by rw [mM]; exact e2) (by rw [mM]; exact e5))
        rcases which with ⟨e0, e1⟩ | ⟨e0, e1⟩ | ⟨e0, e1⟩
        · exact go 31 (by rw [e1, size_20]) (.inr (.inl rfl)) (by rw [e1, size_20]; decide) (by omega) (by omega)
        · exact go 127 (by rw [e1, size_76]) (.inr (.inr (.inl rfl))) (by rw [e1, size_76]; decide) (by omega) (by omega)
        · exact go 511 (by rw [e1, size_308]) (.inr (.inr (.inr rfl))) (by rw [e1, size_308]; decide) (by omega) (by omega)
      · refine wp_if_neg (by simp [full]) ?_
        refine wpAny_pure (hQ true h1 L1 es1 (ep + 1) t2 sb ⟨⟨_, ho1, ⟨hex.1, hex.2.1, hex.2.2⟩, rfl⟩, rows1, T2, nd1, key1, ld, ?_, by omega⟩ (fun z => absurd z hout) (fun _ => pm) (fun z => by rw [m2]; exact z) (by rw [m2]; exact Nat.le_refl _))
        have h := full
        unfold SetTable.tooFull at h
        rw [decide_eq_true_eq, f2, m2] at h
        rw [n1, m2]
        omega
    have both : ∀ b : Bool, wpAny (model P w) A (do
          storeSet a es1 (if b = true then t1 else { t1 with plain := false })
          if (!false && (if b = true then t1 else { t1 with plain := false }).tooFull) = true then do
            setRelay a (SetTable.grown (es.size + 1))
            pure true
          else pure true) Q E s := fun b => by
      cases b
      · exact rest { t1 with plain := false } ⟨T1.ris, T1.dm, T1.sz, T1.msk, T1.inn, T1.reach⟩ m1 led1 fill1
      · exact rest t1 T1 m1 led1 fill1
    by_cases pl : t1.plain = true
    · first
        | (refine wpAny_bind (wp_if_pos pl (nk_byval k _ 8 s A E _ hx.1 hx.2 fun b => ?_)); exact both b)
        | (refine wp_if_pos pl (wpAny_bind (nk_byval k _ 8 s A E _ hx.1 hx.2 fun b => ?_)); exact both b)
    · first
        | (refine wpAny_bind (wp_if_neg pl (wpAny_pure ?_)); exact both true)
        | (refine wp_if_neg pl ?_; exact both true)
end
end NS

set_option Elab.async false
set_option linter.all false
set_option maxRecDepth 100000
set_option maxHeartbeats 4000000
/-! sets of nested keys: made of a list, and sorted -/
namespace NS
open PySem PySem.Spec PyProof.Rows L2
section
variable {P : Program} {w : World}
/-- the set at a has got the first i of ks -/
def HasN (P : Program) (w : World) (h0 : Heap) (a : Addr) (ks : List Ent) (i : Nat) (h : Heap) : Prop := (∀ b o, h0.get? b = some o → h.get? b = some o) ∧
  ∃ L es ep t, NTab P w h a L es ep t ∧ Mk4 t.mask ∧ L.length ≤ i ∧ (∀ q ∈ L, q ∈ ks.take i) ∧ ∀ q ∈ ks.take i, q.2 ∈ L.map (·.2)
theorem NTab.keep {h h' : Heap} {a : Addr} {L : List Ent} {es : Array (Int × Value)} {ep : Nat} {t : SetTable} (R : NTab P w h a L es ep t) (ha : ∀ o, h.get? a = some o → h'.get? a = some o) (hk : ∀ q ∈ L, IsN P w h' q.2 q.1) : NTab P w h' a L es ep t := by
  obtain ⟨o, ho, x⟩ := R.obj
  exact ⟨⟨o, ha o ho, x⟩, R.rows, R.tab, R.nd, hk, R.led, R.room, R.few⟩
theorem n_fresh {h : Heap} {led : Bool} (ks : List Ent) (hl : w.params.followText "set-order" = true ∨ led = true) : HasN P w h h.objs.size ks 0 (h.push (Sets.newSet0 led)) := by
  refine ⟨fun b o e => Heap.get?_push_of_some _ e, [], #[], 0, .fresh 0 0 led, ⟨⟨_, Heap.get?_push_size _ rfl, ⟨rfl, rfl, rfl⟩, rfl⟩, rfl, ⟨List.Pairwise.nil, rfl, rfl, MkG.of (.inl rfl), fun x hx => absurd hx List.not_mem_nil, fun i g j hi => by simp at hi⟩, List.nodup_nil, fun q hq => absurd hq List.not_mem_nil, hl, by show 0 * 5 < 7 * 3; decide, by decide⟩, .inl rfl, Nat.le_refl _, fun q hq => absurd hq List.not_mem_nil, fun q hq => by simp at hq⟩
theorem grows_n {B : Around} {h0 : Heap} {a I : Addr} {ks : List Ent} {n : Nat} {Pv : Nat → Value → Prop} (hn : n ≤ ks.length) (hb : ks.length < 300) (hu : B.units + 8 < cLine) (ha : h0.get? a = none) (hI : h0.get? I = none) (hSI : a ≠ I) (hk : ∀ q ∈ ks, IsN P w h0 q.2 q.1)
    (hv : ∀ i v, Pv i v → ∃ q, ks[i]? = some q ∧ v = .ref q.1) : Sets.Grows P w B a n Pv [I] (HasN P w h0 a ks) where
  keep := fun {i h h'} ⟨old, L, es, ep, t, R, rest⟩ k => by
    have old' : ∀ b o, h0.get? b = some o → h'.get? b = some o := fun b o e => k b o (fun z => by rw [List.mem_singleton.mp z, hI] at e; cases e) (old b o e)
    exact ⟨old', L, es, ep, t, R.keep (fun o e => k a o (fun z => hSI (List.mem_singleton.mp z)) e) fun q hq => isN_keep (hk q (List.mem_of_mem_take (rest.2.2.1 q hq))) old', rest⟩
  add := fun {i v s E Q} hi pv ⟨old, L, es, ep, t, R, mo, len, sub, all⟩ kq => by
    obtain ⟨q, hq, rfl⟩ := hv i v pv
    have hqm := List.mem_of_getElem? hq
    have hx : IsN P w s.heap q.2 q.1 := isN_keep (hk q hqm) old
    have nx : ks.take (i + 1) = ks.take i ++ [q] := by rw [List.take_add_one, hq]; rfl
    unfold setAdd
    refine wpAny_holding (wpAny_bind ((nestedKind P w).pyHash hu hx ?_))
    refine add_in (s := { s with toks := s.toks + (nestedKind P w).draws q.2 }) R hx hu (by omega) (.inl mo) fun b h' L' es' ep' t' sb R' c1 c2 mo' _ => ?_
    have old' : ∀ b o, h0.get? b = some o → h'.get? b = some o := fun b o e => (sb.2 b fun z => by rw [z, ha] at e; cases e).trans (old b o e)
    refine kq b h' _ (Nat.le_add_right _ _) sb ⟨old', L', es', ep', t', R', mo' mo, ?_⟩
    rw [nx]
    by_cases c : q.2 ∈ L.map (·.2)
    · rw [c1 c]
      refine ⟨by omega, fun r hr => List.mem_append_left _ (sub r hr), fun r hr => ?_⟩
      rcases List.mem_append.mp hr with z | z
      · exact all r z
      · rw [List.mem_singleton.mp z]; exact c
    · have pm := c2 c
      have pl := pm.length_eq
      rw [List.length_cons] at pl
      refine ⟨by omega, fun r hr => ?_, fun r hr => ?_⟩
      · rcases List.mem_cons.mp (pm.mem_iff.mp hr) with z | z
        · rw [z]; exact List.mem_append_right _ List.mem_cons_self
        · exact List.mem_append_left _ (sub r z)
      · refine ((pm.map (·.2)).mem_iff).mpr ?_
        rw [List.map_cons]
        rcases List.mem_append.mp hr with z | z
        · exact List.mem_cons_of_mem _ (all r z)
        · rw [List.mem_singleton.mp z]; exact List.mem_cons_self
end
/-! ### sorting -/
theorem perm_lift {α β : Type} (f : α → β) {l1 l2 : List β} (h : l1.Perm l2) : ∀ L : List α, l2 = L.map f → ∃ L' : List α, L'.Perm L ∧ l1 = L'.map f := by
  induction h with
  | nil => intro L e; exact ⟨L, .refl _, e⟩
  | cons x _ ih =>
    intro L e
    cases L with
    | nil => cases e
    | cons a L =>
      rw [List.map_cons, List.cons.injEq] at e
      obtain ⟨L', p, e'⟩ := ih L e.2
      exact ⟨a :: L', p.cons a, by rw [List.map_cons, e.1, e']⟩
  | swap x y l =>
    intro L e
    match L, e with
    | a :: b :: L, e =>
      simp only [List.map_cons, List.cons.injEq] at e
      exact ⟨b :: a :: L, .swap .., by simp only [List.map_cons, e.1, e.2.1, e.2.2]⟩
  | trans _ _ ih1 ih2 =>
    intro L e
    obtain ⟨L2, p2, e2⟩ := ih2 L e
    obtain ⟨L1, p1, e1⟩ := ih1 L2 e2
    exact ⟨L1, p1.trans p2, e1⟩
/-- a flat tuple of texts and ints, as its shape says -/
def FlatV (h : Heap) (sh : Nat → Bool) (b : Addr) (l : List (Int ⊕ List Nat)) : Prop := ∃ o vs n f, h.get? b = some o ∧ o.cls = .type "tuple" ∧ o.data = .seq vs n ∧ vs[0]? = some f ∧
  (sh 0 = false → ∃ k t, f = .int k t) ∧ (sh 0 = true → ∃ x t, f = .str x t) ∧ tupItems sh 0 vs.toList = some l
theorem FlatV.keep {h h' : Heap} {sh : Nat → Bool} {b : Addr} {l : List (Int ⊕ List Nat)} (x : FlatV h sh b l) (k : ∀ c o, h.get? c = some o → h'.get? c = some o) : FlatV h' sh b l := by
  obtain ⟨o, vs, n, f, ho, r⟩ := x
  exact ⟨o, vs, n, f, k _ _ ho, r⟩
theorem FlatV.of {h : Heap} {sh : Nat → Bool} {b : Addr} {l : List (Int ⊕ List Nat)} (x : FlatV h sh b l) : G.tupKeyC h sh (.ref b) = some l := by
  obtain ⟨o, vs, n, f, ho, hc, hd, _, _, _, hi⟩ := x
  unfold G.tupKeyC G.isTupObj
  simp only [ho, hc]
  rw [if_pos (by simp)]
  simp only [tupKey, ho, hd]
  exact hi
abbrev leI (a b : List (Int ⊕ List Nat)) : Prop := lexLt itemOrd b a = false
section
variable {P : Program} {w : World} {A : Around} {E : Value → Shared → Prop} {s : Shared}
theorem flats {h : Heap} {sh : Nat → Bool} {lk : Ent → List (Int ⊕ List Nat)} : ∀ {L : List Ent}, (∀ q ∈ L, FlatV h sh q.1 (lk q)) → ∃ fs, TupsOf h sh (L.map fun q => Value.ref q.1) fs
  | [], _ => ⟨[], .nil⟩
  | q :: L, hf => by
    obtain ⟨fs, r⟩ := flats fun x hx => hf x (List.mem_cons_of_mem _ hx)
    obtain ⟨o, vs, n, f, ho, hc, hd, h0, h1, h2, _⟩ := hf q List.mem_cons_self
    exact ⟨f :: fs, .cons ⟨q.1, o, vs, n, rfl, ho, hc, hd, h0, h1, h2⟩ r⟩
theorem sort_flat {sh : Nat → Bool} {lk : Ent → List (Int ⊕ List Nat)} {p : Addr} {L1 : List Ent} {n : Nat} {Q : Value → Shared → Prop} (ho : s.heap.get? p = some (seqObj "list" (L1.map fun q => Value.ref q.1).toArray n)) (hf : ∀ q ∈ L1, FlatV s.heap sh q.1 (lk q)) (hL : L1.length < 4000)
    (h : ∀ (out : Array Value) (L' : List Ent), out.toList = L'.map (fun q => Value.ref q.1) → L'.Perm L1 → L'.Pairwise (fun q r => leI (lk q) (lk r)) → Q .none { s with heap := sortedHeap s.heap p (L1.map fun q => Value.ref q.1) out }) :
    wpAny (model P w) A (call (.builtin "list.sort") [.ref p]) Q E s := by
  obtain ⟨fs, tf⟩ := flats hf
  refine wpAny_call_entry slot_list_sort ⟨_, ho, rfl⟩ entry_list_sort (G.list_sort_tups ho tf (fun v hv => ?_) (by rw [List.length_map, sizeLine_eq]; omega) fun st' hp hs _ => ⟨_, rfl, ?_⟩) (args_list_sort _)
  · obtain ⟨q, hq, rfl⟩ := List.mem_map.mp hv
    exact ⟨_, (hf q hq).of⟩
  · have hp' : (arrOf st').toList.Perm (pairsOf (L1.map fun q => Value.ref q.1)).toList := hp.toList
    rw [pairsOf_toList] at hp'
    have snd : ((arrOf st').map (·.2)).toList.Perm (L1.map fun q => Value.ref q.1) := by
      rw [Array.toList_map]
      have z := hp'.map Prod.snd
      rw [List.map_snd_zip (Nat.le_refl _)] at z
      exact z
    obtain ⟨L', pL, eL⟩ := perm_lift (fun q : Ent => Value.ref q.1) snd L1 rfl
    refine h _ L' eL pL (List.pairwise_iff_getElem.mpr fun i j hi hj lt => ?_)
    have sz : (arrOf st').size = L'.length := by
      have := congrArg List.length eL
      rwa [List.length_map, Array.toList_map, List.length_map, Array.length_toList] at this
    have sz2 : (pairsOf (L1.map fun q => Value.ref q.1)).size = (arrOf st').size := by
      have := hp'.length_eq
      rw [← pairsOf_toList, Array.length_toList, Array.length_toList] at this
      exact this.symm
    have at_ : ∀ i (hi : i < L'.length), KK (G.tupKindC s.heap sh) (arrOf st') i = lk L'[i] := fun i hi => by
      have hia : i < (arrOf st').size := by omega
      have e1 : (arrOf st')[i]? = some (arrOf st')[i] := Array.getElem?_eq_getElem hia
      have m1 : (arrOf st')[i] ∈ (arrOf st').toList := by simp
      obtain ⟨e2, _⟩ := mem_zip_self (hp'.mem_iff.mp m1)
      have e3 : ((arrOf st')[i]).2 = Value.ref (L'[i]).1 := by
        have z : ((arrOf st').map (·.2)).toList[i]? = (L'.map fun q => Value.ref q.1)[i]? := congrArg (·[i]?) eL
        rw [List.getElem?_map, List.getElem?_eq_getElem hi, Array.toList_map, List.getElem?_map, Array.getElem?_toList, e1] at z
        exact Option.some.inj z
      unfold KK
      rw [e1]
      show ((G.tupKindC s.heap sh).keyOf ((arrOf st')[i]).1).getD _ = _
      rw [e2, e3]
      show (G.tupKeyC s.heap sh (.ref (L'[i]).1)).getD _ = _
      rw [(hf _ (pL.mem_iff.mp (List.getElem_mem hi))).of]
      rfl
    have z := hs i j (Nat.le_of_lt lt) (by rw [sz2, sz]; exact hj)
    rw [at_ i hi, at_ j hj] at z
    exact z
/-- sorted(the set at a) -/
theorem n_sorted {a : Addr} {L : List Ent} {es : Array (Int × Value)} {ep : Nat} {t : SetTable} {sh : Nat → Bool} {lk : Ent → List (Int ⊕ List Nat)} {Q : Value → Shared → Prop} (R : NTab P w s.heap a L es ep t) (hh : A.handled = none) (hf : ∀ q ∈ L, FlatV s.heap sh q.1 (lk q))
    (h : ∀ z p (out : Array Value) (c : Nat) (L' : List Ent), (∀ b o, s.heap.get? b = some o → z.heap.get? b = some o) → z.gens = s.gens → z.os = s.os → s.heap.objs.size ≤ p → z.heap.get? p = some (seqObj "list" out c) → out.toList = L'.map (fun q => Value.ref q.1) → L'.Perm L → L'.Pairwise (fun q r => leI (lk q) (lk r)) → Q (.ref p) z) :
    wpAny (model P w) A (call (.builtin "sorted") [.ref a]) Q E s := by
  obtain ⟨o, ho, ex, hd⟩ := R.obj
  have few := R.few
  refine Calls.call_function_entry kind_sorted plain_sorted entry_sorted (args_sorted1 _) ?_
  unfold Builtin.«sorted»
  refine wpAny_bind (m := checkCount "sorted" 1 1 _) (wpAny_pure (wpAny_bind (collect_set (A := A.in1) hh ⟨o, ho, ex.1, hd⟩ R.fits (by rw [rws_len R.rows]; unfold scanBound; omega) R.tab.ris R.led fun z vs kp hz hg hos pm => ?_)))
  have e0 : es.toList.map (·.2) = L.map fun q => Value.ref q.1 := by
    rw [R.rows]
    unfold rws
    rw [List.map_map]
    rfl
  rw [e0] at pm
  obtain ⟨L1, p1, rfl⟩ := perm_lift (fun q : Ent => Value.ref q.1) pm L rfl
  refine wpAny_bind (wpAny_newList ?_ (by rw [List.length_map, p1.length_eq, sizeLine_eq]; omega))
  have oL : (z.heap.push (seqObj "list" (L1.map fun q => Value.ref q.1).toArray 0)).get? z.heap.objs.size = some (seqObj "list" (L1.map fun q => Value.ref q.1).toArray 0) := Heap.get?_push_size _ rfl
  refine wpAny_bind (wpAny_holding (sort_flat (s := { z with heap := z.heap.push (seqObj "list" (L1.map fun q => Value.ref q.1).toArray 0) }) (sh := sh) (lk := lk) oL (fun q hq => (hf q (p1.mem_iff.mp hq)).keep fun c u e => Heap.get?_push_of_some _ (kp c u e)) (by rw [p1.length_eq]; omega) fun out L' eL pL srt => ?_))
  obtain ⟨c, hc⟩ := sortedHeap_at (vs := L1.map fun q => Value.ref q.1) (out := out) oL
  refine wpAny_pure ⟨_, rfl, h _ z.heap.objs.size out c L' (fun b u e => ?_) hg hos hz hc eL (pL.trans p1) srt⟩
  have y := kp b u e
  have lt := Heap.lt_size y
  show (sortedHeap (z.heap.push (seqObj "list" (L1.map fun q => Value.ref q.1).toArray 0)) z.heap.objs.size _ _).get? b = some u
  rw [sortedHeap_old (Nat.ne_of_lt lt) (by rw [size_push']; exact Nat.lt_succ_of_lt lt)]
  exact Heap.get?_push_of_some _ y
end
end NS

set_option Elab.async false
set_option linter.all false
set_option maxRecDepth 100000
set_option maxHeartbeats 4000000
/-! sorted(set(xs)), xs a list of tuples: the rule -/
namespace NS
open PySem PySem.Spec PyProof.Rows L2
/-- the items, each a text or an int as its place says -/
def flV (sh : Nat → Bool) : Nat → List V → Option (List (Int ⊕ List Nat))
  | _, [] => some []
  | i, .int n :: r => if sh i = true then none else (flV sh (i + 1) r).map (Sum.inl n :: ·)
  | i, .str x :: r => if sh i = true then (flV sh (i + 1) r).map (Sum.inr x.cps.toList :: ·) else none
  | _, _ :: _ => none
theorem flV_of {sh : Nat → Bool} : ∀ {i : Nat} {xs : List V} {us : List Value} {l : List (Int ⊕ List Nat)}, Vals xs us → flV sh i xs = some l → tupItems sh i us = some l
  | _, _, _, _, .nil, h => h
  | i, x :: xs, u :: us, l, .cons r rs, h => by
    cases x with
    | int n =>
      obtain ⟨t, rfl⟩ := r
      unfold flV at h
      unfold tupItems
      split at h
      · cases h
      · rename_i e
        rw [if_neg e]
        obtain ⟨m, hm, rfl⟩ := Option.map_eq_some_iff.mp h
        rw [flV_of rs hm]
        rfl
    | str z =>
      obtain ⟨t, rfl⟩ := r
      unfold flV at h
      unfold tupItems
      split at h
      · rename_i e
        rw [if_pos e]
        obtain ⟨m, hm, rfl⟩ := Option.map_eq_some_iff.mp h
        rw [flV_of rs hm]
        rfl
      · cases h
    | _ => unfold flV at h; cases h
def FlatAt (H : Hp) (sh : Nat → Bool) (a : Addr) (l : List (Int ⊕ List Nat)) : Prop := ∃ x xs, H a = some (.tup (x :: xs)) ∧ flV sh 0 (x :: xs) = some l
section
variable {X : Cx}
theorem flat_of {pins : List (Addr × Obj)} {σ : L2.St} {H : Hp} {s : Shared} {sh : Nat → Bool} {a : Addr} {l : List (Int ⊕ List Nat)} (I : Inv X pins σ H s) (h : FlatAt H sh a l) : FlatV s.heap sh a l := by
  obtain ⟨x, xs, ha, hl⟩ := h
  obtain ⟨_, its, r, o, e1, e2, n, e3⟩ := (show ObjOk X.prog X.w H s.heap a (.tup (x :: xs)) from I.hok a _ ha)
  have ti := flV_of r hl
  cases r with
  | @cons _ u _ us r rs =>
    refine ⟨o, _, n, u, e1, e2, e3, rfl, fun z => ?_, fun z => ?_, by simpa using ti⟩
    · obtain ⟨k, t, _, e, _⟩ := tupItems_int z ti
      exact ⟨k, t, e⟩
    · obtain ⟨y, t, _, e, _⟩ := tupItems_str z ti
      exact ⟨y, t, e⟩
theorem refs_vals : ∀ {ks : List Ent} {us : List Value}, Vals (ks.map fun q => V.ref q.1) us → us = ks.map fun q => Value.ref q.1
  | [], _, .nil => rfl
  | q :: ks, _, .cons r rs => by
    obtain rfl := (show _ = Value.ref q.1 from r)
    rw [List.map_cons, refs_vals rs]
theorem vals_refs : ∀ (ks : List Ent), Vals (ks.map fun q => V.ref q.1) (ks.map fun q => Value.ref q.1)
  | [] => .nil
  | q :: ks => .cons rfl (vals_refs ks)
/-- what comes of sorted(set(..)) -/
def SrtGo (sh : Nat → Bool) (ks : List Ent) (lk : Ent → List (Int ⊕ List Nat)) (H1 : Hp) (Q : VK) : Prop := ks.length < 300 ∧ (∀ q ∈ ks, ND.NkAt H1 (.ref q.1) q.2 ∧ q.2.depth ≤ 8 ∧ FlatAt H1 sh q.1 (lk q)) ∧
  ∀ (L : List Ent) p, (L.map (·.2)).Nodup → (∀ q ∈ L, q ∈ ks) → (∀ q ∈ ks, q.2 ∈ L.map (·.2)) → L.Pairwise (fun q r => leI (lk q) (lk r)) → H1 p = none → Q (.ref p) (upd H1 p (.lst (L.map fun q => V.ref q.1)))
def tSortSetN (K : PySem.W.Frag) (sh : Nat → Bool) (ta : TE) : TE := fun σ H Q => ta σ H fun x H1 => ∃ (l : Addr) (ks : List Ent) (lk : Ent → List (Int ⊕ List Nat)), x = .ref l ∧ SqL K H1 l (ks.map fun q => V.ref q.1) ∧ SrtGo sh ks lk H1 Q
/-- behind the set: sorted -/
theorem srt_tail {A : Around} {E : Value → Shared → Prop} {pins : List (Addr × Obj)} {σ : L2.St} {H1 : Hp} {z : Shared} {h' : Heap} {tk : Nat} {S : Addr} {sh : Nat → Bool} {ks : List Ent} {lk : Ent → List (Int ⊕ List Nat)} {Q : VK} (I1 : Inv X pins σ H1 z) (hh : A.handled = none) (kp : ∀ b o, b < z.heap.objs.size → z.heap.get? b = some o → h'.get? b = some o)
    (R : HasN X.prog X.w z.heap S ks ks.length h') (g : SrtGo sh ks lk H1 Q) : wpAny (model X.prog X.w) A (call (.builtin "sorted") [.ref S]) (fun v s' => ∃ x H', Inv X pins σ H' s' ∧ RelV x v ∧ Q x H') E { z with heap := h', toks := tk } := by
  obtain ⟨old, L, es, ep, t, R, _, _, sub, all⟩ := R
  rw [List.take_length] at sub all
  obtain ⟨few, facts, k⟩ := g
  have I2 : Inv X pins σ H1 { z with heap := h', toks := tk } := I1.kept fun b o e => kp b o (Heap.lt_size e) e
  refine n_sorted (s := { z with heap := h', toks := tk }) (sh := sh) (lk := lk) R hh (fun q hq => flat_of I2 (facts q (sub q hq)).2.2) fun z2 p2 out c L' k1 g1 o1 hp2 hobj eL pL srt => ?_
  have free : H1 p2 = none := I2.hok.fresh hp2
  have ln : L'.length < 300 := by rw [pL.length_eq]; exact R.few
  have J : Inv X pins σ (upd H1 p2 (.lst (L'.map fun q => V.ref q.1))) { z with heap := z2.heap, gens := z2.gens, drawn := z2.drawn, toks := z2.toks } :=
    Inv.call (s := { z with heap := h', toks := tk }) I2 (ch := []) (Un.laid k1 hp2 free) (I2.hok.laid k1 hp2 ⟨by rw [List.length_map, sizeLine_eq]; omega, out.toList, c, by rw [eL]; exact vals_refs L', hobj⟩) (by rw [g1]; exact I2.bare) (fun _ y => nomatch y)
  have ez : z2 = { z with heap := z2.heap, gens := z2.gens, drawn := z2.drawn, toks := z2.toks } := by
    obtain ⟨_, _, _, _, _⟩ := z2
    cases o1
    rfl
  rw [ez]
  exact ⟨.ref p2, _, J, rfl, k L' p2 ((pL.map (·.2)).nodup_iff.mpr R.nd) (fun q hq => sub q (pL.mem_iff.mp hq)) (fun q hq => ((pL.map (·.2)).mem_iff).mpr (all q hq)) srt free⟩
theorem pe_sortSetN {a : Expr} {ta : TE} {p p2 q pos : Pos} (sh : Nat → Bool) (hu : X.A.units + 64 < cLine) (hg : Gl X "sorted") (hm : X.mg "sorted" = none) (hg2 : Gl X "set") (hm2 : X.mg "set" = none) (ha : PE X a ta) (hc : X.calm = true := by rfl)
    (na : starEach [a] X.env = (false, eval a X.env) :: starEach [] X.env := by rfl) : PE X (.Call (.Name "sorted" p) [.Call (.Name "set" p2) [a] [] q] [] pos) (tSortSetN X.K sh ta) := by
  constructor
  intro pins s σ H Q I h
  refine Call_ (ld_blt I hg hm boot_sorted (callWith_builtin1 (args_cons ?_ rfl) rfl rfl))
  refine Call_ (ld_blt I hg2 hm2 boot_set (callWith_type1 (args_cons (thn (ha.run pins s σ H _ I h) fun v z ⟨x, H1, I1, r1, q1⟩ => args_nil ?_) na) na rfl))
  obtain ⟨l, ks, lk, rfl, hq, g⟩ := q1
  cases r1
  obtain ⟨its, r, pl, _⟩ := I1.list hq
  have ei := refs_vals r
  have hlen : its.toArray.size = ks.length := by rw [List.size_toArray, ei, List.length_map]
  have hv : ∀ (i : Nat) (v : Value), its.toArray[i]? = some v → ∃ q, ks[i]? = some q ∧ v = .ref q.1 := fun i v e => by
    have e' : its[i]? = some v := by simpa using e
    rw [ei, List.getElem?_map] at e'
    obtain ⟨q, hq, e2⟩ := Option.map_eq_some_iff.mp e'
    exact ⟨q, hq, e2.symm⟩
  have none_at : ∀ b, z.heap.objs.size ≤ b → z.heap.get? b = none := fun b hb => by
    cases e : z.heap.get? b with
    | none => rfl
    | some o => exact absurd (Nat.lt_of_lt_of_le (Heap.lt_size e) hb) (Nat.lt_irrefl _)
  refine Sets.set_of (J := HasN X.prog X.w z.heap z.heap.objs.size ks) (I1.ok.hd hc) pl.isList (fun led hled => n_fresh ks hled) (grows_n (by omega) g.1 (by simp only [Around.in1_units]; omega) (none_at _ (Nat.le_refl _)) (none_at _ (Nat.le_succ _)) (Nat.ne_of_lt (Nat.lt_succ_self _)) (fun q hq => ⟨ND.nk_is I1.hok q.2 (g.2.1 q hq).1 rfl, (g.2.1 q hq).2.1⟩) hv) fun h' tk R kp => ?_
  refine args_nil ?_
  rw [hlen] at R
  exact srt_tail I1 (I1.ok.hd hc) kp R g
end
end NS
namespace Rd
open PySem PySem.Spec L2
theorem sortSetN {K : PySem.W.Frag} {sh : Nat → Bool} {ta : TE} {σ : L2.St} {H : Hp} {Q : VK} (h : ta σ H fun x H1 => ∃ (l : Addr) (ks : List NS.Ent) (lk : NS.Ent → List (Int ⊕ List Nat)), x = .ref l ∧ SqL K H1 l (ks.map fun q => V.ref q.1) ∧ NS.SrtGo sh ks lk H1 Q) : NS.tSortSetN K sh ta σ H Q := h
end Rd

set_option Elab.async false
set_option linter.all false
set_option maxRecDepth 100000
set_option maxHeartbeats 4000000
/-! t < u of tuples of texts and ints -/
namespace NS
open PySem PySem.Spec PyProof.Rows L2
abbrev Itm := Int ⊕ List Nat
def vI (v : V) (x : Itm) : Prop := match v, x with
  | .int n, .inl m => n = m
  | .str z, .inr y => z.cps.toList = y
  | _, _ => False
theorem flV_len {sh : Nat → Bool} : ∀ {i : Nat} {xs : List V} {l : List Itm}, flV sh i xs = some l → l.length = xs.length
  | _, [], l, h => by unfold flV at h; cases h; rfl
  | i, x :: xs, l, h => by
    cases x with
    | int n =>
      unfold flV at h
      split at h
      · cases h
      · obtain ⟨m, hm, rfl⟩ := Option.map_eq_some_iff.mp h
        rw [List.length_cons, List.length_cons, flV_len hm]
    | str z =>
      unfold flV at h
      split at h
      · obtain ⟨m, hm, rfl⟩ := Option.map_eq_some_iff.mp h
        rw [List.length_cons, List.length_cons, flV_len hm]
      · cases h
    | _ => unfold flV at h; cases h
theorem flV_at {sh : Nat → Bool} : ∀ {i j : Nat} {xs : List V} {l : List Itm} {v : V}, flV sh i xs = some l → xs[j]? = some v → (sh (i + j) = false ∧ ∃ n, v = .int n ∧ l[j]? = some (Sum.inl n)) ∨ (sh (i + j) = true ∧ ∃ z, v = .str z ∧ l[j]? = some (Sum.inr z.cps.toList))
  | _, _, [], l, v, _, hj => by simp at hj
  | i, j, x :: xs, l, v, h, hj => by
    cases x with
    | int n =>
      unfold flV at h
      split at h
      · cases h
      · rename_i e
        obtain ⟨m, hm, rfl⟩ := Option.map_eq_some_iff.mp h
        cases j with
        | zero =>
          rw [List.getElem?_cons_zero] at hj
          cases hj
          exact .inl ⟨by simpa using e, n, rfl, rfl⟩
        | succ j =>
          rw [List.getElem?_cons_succ] at hj
          have r := flV_at hm hj
          rw [show i + 1 + j = i + (j + 1) by omega] at r
          rw [List.getElem?_cons_succ]
          exact r
    | str z =>
      unfold flV at h
      split at h
      · rename_i e
        obtain ⟨m, hm, rfl⟩ := Option.map_eq_some_iff.mp h
        cases j with
        | zero =>
          rw [List.getElem?_cons_zero] at hj
          cases hj
          exact .inr ⟨e, z, rfl, rfl⟩
        | succ j =>
          rw [List.getElem?_cons_succ] at hj
          have r := flV_at hm hj
          rw [show i + 1 + j = i + (j + 1) by omega] at r
          rw [List.getElem?_cons_succ]
          exact r
      · cases h
    | _ => unfold flV at h; cases h
theorem lexAt_shift (e r : Nat → Bool) (z : Bool) : ∀ (k i : Nat), Ob.lexAt e r z (i + 1) k = Ob.lexAt (fun j => e (j + 1)) (fun j => r (j + 1)) z i k
  | 0, _ => rfl
  | k + 1, i => by
    rw [Ob.lexAt_succ, Ob.lexAt_succ, lexAt_shift e r z k (i + 1)]
theorem lexAt_lex : ∀ (l m : List Itm), Ob.lexAt (fun j => decide (l.getD j (.inl 0) = m.getD j (.inl 0))) (fun j => itemOrd.blt (l.getD j (.inl 0)) (m.getD j (.inl 0))) (decide (l.length < m.length)) 0 (min l.length m.length) = lexLt itemOrd l m
  | [], [] => rfl
  | [], _ :: _ => by rw [List.length_nil, Nat.zero_min]; rfl
  | _ :: _, [] => by rw [List.length_nil, Nat.min_zero]; rfl
  | x :: l, y :: m => by
    rw [List.length_cons, List.length_cons, show min (l.length + 1) (m.length + 1) = min l.length m.length + 1 by omega, Ob.lexAt_succ, lexAt_shift]
    have ih := lexAt_lex l m
    have e0 : decide (l.length + 1 < m.length + 1) = decide (l.length < m.length) := by congr 1; exact propext (by omega)
    rw [e0]
    show (if decide (x = y) = true then Ob.lexAt (fun j => decide (l.getD j (.inl 0) = m.getD j (.inl 0))) (fun j => itemOrd.blt (l.getD j (.inl 0)) (m.getD j (.inl 0))) (decide (l.length < m.length)) 0 (min l.length m.length) else itemOrd.blt x y) = _
    rw [ih]
    by_cases h : x = y
    · subst h
      rw [if_pos (decide_eq_true rfl), lex_self]
    · rw [if_neg (by rw [decide_eq_true_iff]; exact h), lex_diff (O := itemOrd) h]
def rLtF (K : PySem.W.Frag) : R2 := fun x y H Q => ∃ (a b : Addr) (sh : Nat → Bool) (xs ys : List V) (l m : List Itm), x = .ref a ∧ y = .ref b ∧ SqT K H a xs ∧ SqT K H b ys ∧ flV sh 0 xs = some l ∧ flV sh 0 ys = some m ∧ Q (.bl (lexLt itemOrd l m)) H
theorem op_ltF {X : Cx} (hu : X.A.units < cLine) : OpR X (compareOp .Lt) (rLtF X.K) := by
  intro pins s σ H x y v u Q I rx ry h
  obtain ⟨a, b, sh, xs, ys, l, m, rfl, rfl, ha, hb, fl, fm, q⟩ := h
  cases rx
  cases ry
  obtain ⟨its, r1, p1, _⟩ := I.tuple ha
  obtain ⟨its2, r2, p2, _⟩ := I.tuple hb
  have e1 : its.toArray.size = l.length := by rw [List.size_toArray, ← r1.length, flV_len fl]
  have e2 : its2.toArray.size = m.length := by rw [List.size_toArray, ← r2.length, flV_len fm]
  have at1 : ∀ {xs : List V} {us : List Value} {l : List Itm} (r : Vals xs us) (f : flV sh 0 xs = some l) (j : Nat) (h1 : j < us.length), (sh j = false ∧ ∃ n t, us[j]? = some (.int n t) ∧ l.getD j (.inl 0) = Sum.inl n) ∨ (sh j = true ∧ ∃ z t, us[j]? = some (.str z t) ∧ l.getD j (.inl 0) = Sum.inr z.cps.toList) := fun {xs us l} r f j h1 => by
    have hx : xs[j]? = some (xs[j]'(by rw [r.length]; exact h1)) := List.getElem?_eq_getElem _
    obtain ⟨u, hu', ru⟩ := r.get hx
    rcases flV_at f hx with ⟨c, n, e, g⟩ | ⟨c, z, e, g⟩
    · rw [e] at ru
      obtain ⟨t, rfl⟩ := ru
      exact .inl ⟨by simpa using c, n, t, hu', by simp [List.getD, g]⟩
    · rw [e] at ru
      obtain ⟨t, rfl⟩ := ru
      exact .inr ⟨by simpa using c, z, t, hu', by simp [List.getD, g]⟩
  have R := Ob.RcOp.tuples_lt (A := X.A) (s := s) (e := fun j => decide (l.getD j (.inl 0) = m.getD j (.inl 0))) (r := fun j => itemOrd.blt (l.getD j (.inl 0)) (m.getD j (.inl 0))) p1 p2 hu (fun j h1 h2 => ?_) (fun j h1 h2 _ => ?_)
  · rw [e1, e2, lexAt_lex] at R
    exact R X.prog X.w X.xe (EP X pins σ Q) ⟨.bl _, H, I, rfl, q⟩
  · have h1' : j < its.length := by simpa using h1
    have h2' : j < its2.length := by simpa using h2
    rcases at1 r1 fl j h1' with ⟨c, n, t, g, k⟩ | ⟨c, n, t, g, k⟩
    · rcases at1 r2 fm j h2' with ⟨c', n', t', g', k'⟩ | ⟨c', _⟩
      · rw [List.getElem?_eq_getElem h1'] at g
        rw [List.getElem?_eq_getElem h2'] at g'
        show SeqAt.EqAt X.A.in1 s its.toArray[j] its2.toArray[j] (decide (l.getD j (.inl 0) = m.getD j (.inl 0)))
        rw [List.getElem_toArray, List.getElem_toArray, Option.some.inj g, Option.some.inj g', k, k']
        have z : decide ((Sum.inl n : Itm) = Sum.inl n') = (n == n') := by
          by_cases q : n = n'
          · subst q; simp
          · rw [beq_eq_false_iff_ne.mpr q]; exact decide_eq_false fun e => q (Sum.inl.inj e)
        rw [z]
        exact SeqAt.EqAt.int_int _ _ _ _
      · rw [c] at c'; cases c'
    · rcases at1 r2 fm j h2' with ⟨c', _⟩ | ⟨c', n', t', g', k'⟩
      · rw [c] at c'; cases c'
      · rw [List.getElem?_eq_getElem h1'] at g
        rw [List.getElem?_eq_getElem h2'] at g'
        show SeqAt.EqAt X.A.in1 s its.toArray[j] its2.toArray[j] (decide (l.getD j (.inl 0) = m.getD j (.inl 0)))
        rw [List.getElem_toArray, List.getElem_toArray, Option.some.inj g, Option.some.inj g', k, k']
        have z : decide ((Sum.inr n.cps.toList : Itm) = Sum.inr n'.cps.toList) = (n == n') := by
          by_cases q : n = n'
          · subst q; simp
          · rw [beq_eq_false_iff_ne.mpr q]
            refine decide_eq_false fun e => q ?_
            have e' := Sum.inr.inj e
            obtain ⟨n⟩ := n
            obtain ⟨n'⟩ := n'
            exact congrArg Str.mk (Array.toList_inj.mp e')
        rw [z]
        exact SeqAt.EqAt.str_str _ _ _ _
  · have h1' : j < its.length := by simpa using h1
    have h2' : j < its2.length := by simpa using h2
    rcases at1 r1 fl j h1' with ⟨c, n, t, g, k⟩ | ⟨c, n, t, g, k⟩
    · rcases at1 r2 fm j h2' with ⟨c', n', t', g', k'⟩ | ⟨c', _⟩
      · rw [List.getElem?_eq_getElem h1'] at g
        rw [List.getElem?_eq_getElem h2'] at g'
        show Ob.RcOp .Lt X.A.in1 s its.toArray[j] its2.toArray[j] _
        rw [List.getElem_toArray, List.getElem_toArray, Option.some.inj g, Option.some.inj g', k, k']
        exact Ob.RcOp.lt_int _ _ _ _
      · rw [c] at c'; cases c'
    · rcases at1 r2 fm j h2' with ⟨c', _⟩ | ⟨c', n', t', g', k'⟩
      · rw [c] at c'; cases c'
      · rw [List.getElem?_eq_getElem h1'] at g
        rw [List.getElem?_eq_getElem h2'] at g'
        show Ob.RcOp .Lt X.A.in1 s its.toArray[j] its2.toArray[j] _
        rw [List.getElem_toArray, List.getElem_toArray, Option.some.inj g, Option.some.inj g', k, k']
        exact fun prog w E Q h => lt_str h
end NS

set_option Elab.async false
set_option linter.all false
set_option maxRecDepth 100000
set_option maxHeartbeats 4000000
/-! a set of texts as an object: set(), add, in, not in, sorted -/
namespace Sets
open PySem PySem.Spec PyProof.Rows L2
/-- the set of texts at a: S its members, at most n -/
def SetX (P : Program) (w : World) (a : Addr) (S : Str → Bool) (n : Nat) : HO := .ext fun h => TxSet P w h a S n
theorem TxSet.setOf {P : Program} {w : World} {h : Heap} {a : Addr} {S : Str → Bool} {n : Nat} (R : TxSet P w h a S n) : ∃ m, h.SetOf (strKind P w) a S m := by
  obtain ⟨o, es, ep, t, ho, ex, hd, B⟩ := R
  exact ⟨es.size, o, es, ep, t, ho, ex, hd, B.elems, fun k => (B.mem k).trans B.is.symm, Nat.lt_of_le_of_lt B.most B.few, B.fits, rfl⟩
section
variable {X : Cx}
theorem setX_new {w : World} {P : Program} {H : Hp} {h : Heap} {a : Addr} {S : Str → Bool} {n : Nat} (R : TxSet P w h a S n) : ObjOk P w H h a (SetX P w a S n) := by
  have ⟨o, _, _, _, ho, _⟩ := R
  exact ⟨R, ⟨o, ho⟩, fun h1 h2 p k => TxSet.at p k⟩
theorem setX_get {pins : List (Addr × Obj)} {σ : L2.St} {H : Hp} {s : Shared} {a : Addr} {S : Str → Bool} {n : Nat} (I : Inv X pins σ H s) (ha : H a = some (SetX X.prog X.w a S n)) : TxSet X.prog X.w s.heap a S n := (I.hok a _ ha).1
def rSet0X (P : Program) (w : World) : List V → Hp → VK → Prop := fun xs H Q => xs = [] ∧ ∀ p, H p = none → Q (.ref p) (upd H p (SetX P w p (fun _ => false) 0))
theorem cr_set0X : CallR X (.type "set") (rSet0X X.prog X.w) := by
  intro pins s σ H xs us Q I r h
  obtain ⟨rfl, q⟩ := h
  cases r
  refine setR_new fun _ => ?_
  have led : X.w.params.followText "set-order" = true ∨ (!X.w.params.followText "set-order") = true := by
    cases X.w.params.followText "set-order"
    · exact .inr rfl
    · exact .inl rfl
  exact ⟨.ref _, upd H s.heap.objs.size (SetX X.prog X.w s.heap.objs.size (fun _ => false) 0), I.laid (t' := s.toks) (fun b u e => Heap.get?_push_of_some _ e) (Nat.le_refl _) (setX_new (tx_fresh led)), rfl, q _ (I.hok.fresh (Nat.le_refl _))⟩
/-- found.add(k) -/
theorem setX_add {P : Program} {w : World} {A : Around} {E : Value → Shared → Prop} {s : Shared} {a : Addr} {S : Str → Bool} {n : Nat} {k : Str} {tk : Tok} {Q : Value → Shared → Prop} (R : TxSet P w s.heap a S n) (room : n + 1 < scanBound)
    (hQ : ∀ h', Heap.SameBut a s.heap h' → TxSet P w h' a (fun j => S j || decide (j = k)) (n + 1) → Q .none { s with heap := h', toks := s.toks + 1 }) :
    wpAny (model P w) A (call (.builtin "set.add") [.ref a, .str k tk]) Q E s := by
  obtain ⟨m, hS⟩ := R.setOf
  refine wpAny_call_entry F.slot_set_add hS.typeIs F.entry_set_add ?_ (F.args_set_add_2 _ _)
  unfold Builtin.«set.add» Builtin.Frozenset.oneOther
  simp only [List.isEmpty_nil, bind_assoc]
  unfold Builtin.Frozenset.addrOf setAdd
  refine wpAny_bind (wpAny_pure ?_)
  try dsimp only
  refine wpAny_bind (wpAny_pure ?_)
  try dsimp only
  refine wpAny_bind ?_
  refine wpAny_holding ?_
  refine wpAny_bind ((strKind P w).pyHash (strKind_is P w k tk) ?_)
  refine tx_add (s := { s with toks := s.toks + 1 }) R room fun b h' sb r => ?_
  show wpAny _ _ (ret Value.none) _ _ _
  exact wpAny_pure ⟨_, rfl, hQ h' sb r⟩
def rSAddX (P : Program) (w : World) : V → List V → Hp → VK → Prop := fun x xs H Q => ∃ (a : Addr) (k : Str) (S : Str → Bool) (n : Nat), x = V.ref a ∧ xs = [.str k] ∧ H a = some (SetX P w a S n) ∧ n + 1 < scanBound ∧
  Q .non (upd H a (SetX P w a (fun j => S j || decide (j = k)) (n + 1)))
theorem mt_saddX : MtR X "set.add" (rSAddX X.prog X.w) := by
  intro pins s σ H x xs v us Q I rx rxs h
  obtain ⟨a, k, S, n, rfl, rfl, ha, room, q⟩ := h
  cases rx
  cases rxs with
  | cons ry rt =>
    cases rt
    obtain ⟨tk, rfl⟩ := ry
    refine setX_add (setX_get I ha) room fun h' sb new => ?_
    have he : ∃ u, h'.get? a = some u := by
      have ⟨o, _, _, _, ho, _⟩ := new
      exact ⟨o, ho⟩
    exact ⟨.non, upd H a (SetX X.prog X.w a (fun j => S j || decide (j = k)) (n + 1)), I.write (e := a) (t' := s.toks + 1) (by rw [ha]; trivial) (.inl rfl) (fun b u hb hu => (sb.2 b hb).trans hu) he (setX_new new), rfl, q⟩
def tSAddX (P : Program) (w : World) (to : TE) (t : TA) : TE := fun σ H Q => to σ H fun x H1 => (∃ a S n, x = V.ref a ∧ H1 a = some (SetX P w a S n)) ∧ t σ H1 fun xs H2 => rSAddX P w x xs H2 Q
variable {o e : Expr} {es : List Expr} {to : TE} {t : TA} {apos cpos : Pos}
theorem pe_saddX (ho : PE X o to) (ha : PA X (e :: es) t)
    (hbase : attributeBase o "add" X.env (eval o X.env) = eval o X.env := by rfl)
    (hfew : ((backTo cpos (starEach (e :: es) X.env)).all (fun x => !x.1) && (backToKw cpos (keywordEach [] X.env)).all (fun x => x.1.isSome)
      && decide ((e :: es).length + ([] : List Keyword).length + (if ([] : List Keyword).isEmpty then 0 else 1) < 30)) = true := by rfl)
    (hline : (apos.endLine == cpos.line) = true := by rfl) (hs : starEach (e :: es) X.env = (false, eval e X.env) :: starEach es X.env := by rfl) (hplain : (backTo cpos (starEach es X.env)).any (·.1) = false := by rfl) :
    PE X (.Call (.Attribute o "add" apos) (e :: es) [] cpos) (tSAddX X.prog X.w to t) := by
  refine ⟨fun pins s σ H Q I h => ?_⟩
  refine wpAny_Call_method_late hbase hfew hline rfl (thn (ho.run pins s σ H _ I h) fun v s1 ⟨x, H1, I1, r1, ty, q1⟩ => ?_)
  obtain ⟨a, S, n, rfl, hka⟩ := ty
  obtain ⟨m, hS⟩ := (setX_get I1 hka).setOf
  cases r1
  refine ⟨"set", "set.add", F.plainAttrs_set, F.slot_set_add, F.type_set_add, hS.typeIs, hS.noDict, ?_⟩
  have hA := ha.run cpos pins s1 σ H1 _ I1 q1
  rw [hs] at hA ⊢
  refine Calls.callWith_builtin (by show (false || (backTo cpos (starEach es X.env)).any (·.1)) = false; rw [hplain] <;> rfl) (Calls.evalArgs_plain ?_)
  exact thn hA fun us s2 ⟨vs, H2, I2, r2, q2⟩ => mt_saddX pins s2 σ H2 (.ref a) vs (.ref a) us Q I2 rfl r2 q2
/-- k in found, k not in found -/
def rSInX (P : Program) (w : World) (neg : Bool) : V → V → Hp → VK → Prop := fun x y H Q => ∃ (k : Str) (a : Addr) (S : Str → Bool) (n : Nat), x = .str k ∧ y = V.ref a ∧ H a = some (SetX P w a S n) ∧ Q (.bl (if neg then !S k else S k)) H
theorem or_sinX : OpR X (compareOp .In) (rSInX X.prog X.w false) := by
  intro pins s σ H x y v u Q I rx ry h
  obtain ⟨k, a, S, n, rfl, rfl, ha, q⟩ := h
  obtain ⟨tk, rfl⟩ := rx
  cases ry
  obtain ⟨m, hS⟩ := (setX_get I ha).setOf
  exact wpAny_inSet_of (strKind_is _ _ _ _) rfl hS ⟨.bl (S k), H, I.tok _, rfl, q⟩
theorem or_snotinX : OpR X (compareOp .NotIn) (rSInX X.prog X.w true) := by
  intro pins s σ H x y v u Q I rx ry h
  obtain ⟨k, a, S, n, rfl, rfl, ha, q⟩ := h
  obtain ⟨tk, rfl⟩ := rx
  cases ry
  obtain ⟨m, hS⟩ := (setX_get I ha).setOf
  exact wpAny_notInSet_of (strKind_is _ _ _ _) rfl hS ⟨.bl (!S k), H, I.tok _, rfl, q⟩
/-- sorted(found), fewer than 64 members -/
def rSortedX (P : Program) (w : World) : List V → Hp → VK → Prop := fun vs H Q => ∃ (a : Addr) (S : Str → Bool) (n : Nat), vs = [V.ref a] ∧ H a = some (SetX P w a S n) ∧ n < 64 ∧
  ∀ (ks : List Str) (p : Addr), sortedS ks = true → ks.Nodup → (∀ k, k ∈ ks ↔ S k = true) → H p = none → Q (.ref p) (upd H p (.lst (ks.map V.str)))
theorem cr_sortedX (hc : X.calm = true) : CallR X (.builtin "sorted") (rSortedX X.prog X.w) := by
  intro pins s σ H vs us Q I r h
  obtain ⟨a, S, n, rfl, ha, h64, q⟩ := h
  rw [Vals.ref1 r]
  refine tx_sorted (setX_get I ha) (I.ok.hd hc) h64 fun s' p out c ks k g o hp hg hi hs nd hm hl => ?_
  have hlen : (ks.map V.str).length ≤ sizeLine := by rw [List.length_map, sizeLine_eq]; omega
  have hn : H p = none := I.hok.fresh hp
  have J : Inv X pins σ (upd H p (.lst (ks.map V.str))) { s with heap := s'.heap, gens := s'.gens, drawn := s'.drawn, toks := s'.toks } :=
    I.call (ch := []) (Un.laid k hp hn) (I.hok.laid k hp ⟨hlen, out.toList, c, vals_of_strs hi, hg⟩) (by rw [g]; exact I.bare) (fun _ z => nomatch z)
  have e : s' = { s with heap := s'.heap, gens := s'.gens, drawn := s'.drawn, toks := s'.toks } := by
    cases s'
    cases s
    cases o
    rfl
  rw [e]
  exact ⟨.ref p, _, J, rfl, q ks p hs nd hm hn⟩
theorem kset0X (P : Program) (w : World) (h1 : X.prog = P := by rfl) (h2 : X.w = w := by rfl) : CallR X (.type "set") (rSet0X P w) := by subst h1 h2; exact cr_set0X
theorem kinX (P : Program) (w : World) (h1 : X.prog = P := by rfl) (h2 : X.w = w := by rfl) : OpR X (compareOp .In) (rSInX P w false) := by subst h1 h2; exact or_sinX
theorem knotinX (P : Program) (w : World) (h1 : X.prog = P := by rfl) (h2 : X.w = w := by rfl) : OpR X (compareOp .NotIn) (rSInX P w true) := by subst h1 h2; exact or_snotinX
theorem ksortedX (P : Program) (w : World) (h1 : X.prog = P := by rfl) (h2 : X.w = w := by rfl) (hc : X.calm = true := by rfl) : CallR X (.builtin "sorted") (rSortedX P w) := by subst h1 h2; exact cr_sortedX hc
theorem kaddX (P : Program) (w : World) (ho : PE X o to) (ha : PA X (e :: es) t) (h1 : X.prog = P := by rfl) (h2 : X.w = w := by rfl)
    (hbase : attributeBase o "add" X.env (eval o X.env) = eval o X.env := by rfl)
    (hfew : ((backTo cpos (starEach (e :: es) X.env)).all (fun x => !x.1) && (backToKw cpos (keywordEach [] X.env)).all (fun x => x.1.isSome)
      && decide ((e :: es).length + ([] : List Keyword).length + (if ([] : List Keyword).isEmpty then 0 else 1) < 30)) = true := by rfl)
    (hline : (apos.endLine == cpos.line) = true := by rfl) (hs : starEach (e :: es) X.env = (false, eval e X.env) :: starEach es X.env := by rfl) (hplain : (backTo cpos (starEach es X.env)).any (·.1) = false := by rfl) :
    PE X (.Call (.Attribute o "add" apos) (e :: es) [] cpos) (tSAddX P w to t) := by subst h1 h2; exact pe_saddX ho ha hbase hfew hline hs hplain
end
end Sets

set_option Elab.async false
set_option linter.all false
set_option maxRecDepth 100000
set_option maxHeartbeats 4000000
/-! paths along waits -/
namespace Fw
section
variable {T : Type} [DecidableEq T] {E : T → T → Prop}
/-- a path of one or more -/
inductive Rch (E : T → T → Prop) : T → T → Prop
  | one {a b} : E a b → Rch E a b
  | more {a b c} : Rch E a b → E b c → Rch E a c
theorem Rch.trans {a b c : T} (h : Rch E a b) (g : Rch E b c) : Rch E a c := by
  induction g with
  | one e => exact h.more e
  | more _ e ih => exact ih.more e
theorem Rch.head {a c : T} (h : Rch E a c) : ∃ b, E a b ∧ (b = c ∨ Rch E b c) := by
  induction h with
  | one e => exact ⟨_, e, .inl rfl⟩
  | more h e ih =>
    obtain ⟨b, e1, h1⟩ := ih
    refine ⟨b, e1, .inr ?_⟩
    rcases h1 with rfl | h1
    · exact .one e
    · exact h1.more e
theorem Rch.in {a c : T} {F : List T} (h : Rch E a c) (c0 : ∀ x, E a x → x ∈ F) (c1 : ∀ y ∈ F, ∀ x, E y x → x ∈ F) : c ∈ F := by
  induction h with
  | one e => exact c0 _ e
  | more _ e ih => exact c1 _ ih _ e
/-- no endless path -/
inductive Fre (E : T → T → Prop) : T → Prop
  | mk {x} : (∀ y, E x y → Fre E y) → Fre E x
theorem Fre.path {a b : T} (f : Fre E a) (h : Rch E a b) : Fre E b := by
  induction h with
  | one e => cases f with | mk g => exact g _ e
  | more _ e ih => cases ih with | mk g => exact g _ e
theorem Fre.no {a : T} (f : Fre E a) : ¬ Rch E a a := by
  induction f with
  | mk _ ih =>
    intro h
    obtain ⟨b, e, q⟩ := h.head
    rcases q with q | q
    · exact ih _ e (by rw [q]; exact h)
    · exact ih _ e (q.more e)
theorem maxl {R : T → T → Prop} (tr : ∀ a b c, R a b → R b c → R a c) : ∀ l : List T, l ≠ [] → (∀ y ∈ l, ¬ R y y) → ∃ y ∈ l, ∀ z ∈ l, ¬ R y z
  | [], h, _ => absurd rfl h
  | a :: l, _, irr => by
    by_cases hl : l = []
    · subst hl
      exact ⟨a, List.mem_cons_self, fun z hz => by rw [List.mem_singleton.mp hz]; exact irr a List.mem_cons_self⟩
    · obtain ⟨y, hy, k⟩ := maxl tr l hl fun y hy => irr y (List.mem_cons_of_mem _ hy)
      by_cases ya : R y a
      · refine ⟨a, List.mem_cons_self, fun z hz => ?_⟩
        rcases List.mem_cons.mp hz with e | hz
        · rw [e]; exact irr a List.mem_cons_self
        · exact fun q => k z hz (tr _ _ _ ya q)
      · refine ⟨y, List.mem_cons_of_mem _ hy, fun z hz => ?_⟩
        rcases List.mem_cons.mp hz with e | hz
        · rw [e]; exact ya
        · exact k z hz
/-- it reaches a cycle, or is on one -/
def Blk (E : T → T → Prop) (x : T) : Prop := ∃ y, Rch E x y ∧ Rch E y y
theorem blk_iff {U : List T} (hU : ∀ a b, E a b → b ∈ U) {x : T} (hx : x ∈ U) : Blk E x ↔ ¬ Fre E x := by
  constructor
  · rintro ⟨y, h1, h2⟩ f
    exact (f.path h1).no h2
  · intro nf
    apply Classical.byContradiction
    intro nb
    have irr : ∀ y, (y = x ∨ Rch E x y) → ¬ Rch E y y := fun y hy q => by
      rcases hy with e | hy
      · rw [e] at q; exact nb ⟨x, q, q⟩
      · exact nb ⟨y, hy, q⟩
    have dec : ∀ y : T, Decidable (¬ Fre E y ∧ (y = x ∨ Rch E x y)) := fun _ => Classical.propDecidable _
    obtain ⟨y, hy, k⟩ := maxl (R := Rch E) (fun _ _ _ h g => h.trans g) (U.filter fun y => decide (¬ Fre E y ∧ (y = x ∨ Rch E x y))) (fun e => by
      have : x ∈ U.filter fun y => decide (¬ Fre E y ∧ (y = x ∨ Rch E x y)) := List.mem_filter.mpr ⟨hx, decide_eq_true ⟨nf, .inl rfl⟩⟩
      rw [e] at this; exact absurd this List.not_mem_nil) (fun y hy => irr y (of_decide_eq_true (List.mem_filter.mp hy).2).2)
    obtain ⟨hyU, hd⟩ := List.mem_filter.mp hy
    obtain ⟨nfy, pathy⟩ := of_decide_eq_true hd
    refine nfy (.mk fun z e => Classical.byContradiction fun nz => ?_)
    have pz : Rch E x z := by
      rcases pathy with q | q
      · rw [← q]; exact .one e
      · exact q.more e
    exact k z (List.mem_filter.mpr ⟨hU _ _ e, decide_eq_true ⟨nz, .inr pz⟩⟩) (.one e)
theorem fre_in {U F : List T} (hU : ∀ a b, E a b → b ∈ U) (cl : ∀ x ∈ U, (∀ y, E x y → y ∈ F) → x ∈ F) {x : T} (f : Fre E x) : x ∈ U → x ∈ F := by
  induction f with
  | mk _ ih => exact fun hx => cl _ hx fun y e => ih y e (hU _ _ e)
theorem len_le : ∀ {F U : List T}, F.Nodup → (∀ x ∈ F, x ∈ U) → F.length ≤ U.length
  | [], U, _, _ => Nat.zero_le _
  | a :: F, U, nd, h => by
    rw [List.nodup_cons] at nd
    have ha := h a List.mem_cons_self
    have r := len_le (U := U.erase a) nd.2 fun x hx => (List.mem_erase_of_ne fun e : x = a => nd.1 (by rw [← e]; exact hx)).mpr (h x (List.mem_cons_of_mem _ hx))
    rw [List.length_erase_of_mem ha] at r
    have := List.length_pos_of_mem ha
    rw [List.length_cons]
    omega
theorem all_in {F U : List T} (nd : F.Nodup) (h : ∀ x ∈ F, x ∈ U) (l : U.length ≤ F.length) : ∀ x ∈ U, x ∈ F := fun x hx => Classical.byContradiction fun n => by
  have := len_le (F := x :: F) (U := U) (List.nodup_cons.mpr ⟨n, nd⟩) fun y hy => by
    rcases List.mem_cons.mp hy with e | e
    · rw [e]; exact hx
    · exact h y e
  rw [List.length_cons] at this
  omega
end
end Fw

set_option Elab.async false
set_option linter.all false
set_option maxRecDepth 100000
set_option maxHeartbeats 4000000
/-! list.pop(), list.extend(list), the truth of a list, sorted(set(rows)) -/
namespace Fw
open PySem PySem.Spec L2
theorem kpop {X : Cx} (K : PySem.W.Frag) {o : Expr} {to : TE} {apos cpos : Pos} (ho : PE X o to) (h : X.K = K := by rfl) (hbase : attributeBase o "pop" X.env (eval o X.env) = eval o X.env := by rfl) (hline : (apos.endLine == cpos.line) = true := by rfl) :
    PE X (.Call (.Attribute o "pop" apos) [] [] cpos) (tBM0 K "list" rPop to) := by
  subst h
  exact pe_bm0 PySem.F.plainAttrs_list PySem.F.slot_list_pop PySem.F.type_list_pop mt_pop ho hbase hline
theorem kext {X : Cx} (K : PySem.W.Frag) {o e : Expr} {to : TE} {t : TA} {apos cpos : Pos} (ho : PE X o to) (ha : PA X [e] t) (h : X.K = K := by rfl)
    (hbase : attributeBase o "extend" X.env (eval o X.env) = eval o X.env := by rfl)
    (hfew : ((backTo cpos (starEach [e] X.env)).all (fun x => !x.1) && (backToKw cpos (keywordEach [] X.env)).all (fun x => x.1.isSome)
      && decide (([e] : List Expr).length + ([] : List Keyword).length + (if ([] : List Keyword).isEmpty then 0 else 1) < 30)) = true := by rfl)
    (hline : (apos.endLine == cpos.line) = true := by rfl) (hs : starEach [e] X.env = (false, eval e X.env) :: starEach [] X.env := by rfl) (hplain : (backTo cpos (starEach [] X.env)).any (·.1) = false := by rfl) :
    PE X (.Call (.Attribute o "extend" apos) [e] [] cpos) (tBM K "list" rExtend to t) := by
  subst h
  exact pe_bm PySem.F.plainAttrs_list PySem.F.slot_list_extend PySem.F.type_list_extend mt_extend ho ha hbase hfew hline hs hplain
theorem ksortsetN {X : Cx} {mg : Str → Option Value} (K : PySem.W.Frag) (sh : Nat → Bool) {a : Expr} {ta : TE} {p p2 q pos : Pos} (T : Bt mg) (hu : X.A.units + 64 < cLine) (ha : PE X a ta) (hmg : X.mg = mg := by rfl) (hg : Gl X "sorted" := by rfl) (hg2 : Gl X "set" := by rfl) (hc : X.calm = true := by rfl) (hK : X.K = K := by rfl)
    (na : starEach [a] X.env = (false, eval a X.env) :: starEach [] X.env := by rfl) : PE X (.Call (.Name "sorted" p) [.Call (.Name "set" p2) [a] [] q] [] pos) (NS.tSortSetN K sh ta) := by
  subst hmg hK
  exact NS.pe_sortSetN sh hu hg T.sorted hg2 T.set ha hc na
theorem kgt3 {X : Cx} (K : PySem.W.Frag) {e1 e2 e3 : Expr} {k : Nat} {t1 t2 t3 : TG} {pos : Pos} (h1 : PG X e1 t1) (h2 : PG X e2 t2) (h3 : PG X e3 t3) (hc : X.calm = true := by rfl) (h : X.K = K := by rfl) (hn : (assignEach [e1, e2, e3] X.env).length = 3 := by rfl) (hst : (assignEach [e1, e2, e3] X.env).findIdx? (·.1) = none := by rfl)
    (hs : (assignEach [e1, e2, e3] X.env).map (·.2) = assign e1 X.env :: (assignEach [e2, e3] X.env).map (·.2) := by rfl) (hs2 : (assignEach [e2, e3] X.env).map (·.2) = assign e2 X.env :: (assignEach [e3] X.env).map (·.2) := by rfl) (hs3 : (assignEach [e3] X.env).map (·.2) = assign e3 X.env :: (assignEach [] X.env).map (·.2) := by rfl) :
    PG X (.Tuple [e1, e2, e3] k pos) (gTup K 3 (gCons t1 (gCons t2 (gCons t3 gNil)))) := by
  subst h; exact pg_tup hc (pgs_cons h1 (pgs_cons h2 (pgs_cons h3 pgs_nil hs3) hs2) hs) hn hst
namespace Rd
variable {K : PySem.W.Frag} {σ : L2.St} {H : Hp} {Q : VK}
theorem pop {l : Addr} {xs : List V} {y : V} (h : H l = some (.lst (xs ++ [y]))) (q : Q y (upd H l (.lst xs))) : rPop (.ref l) [] H Q :=
  ⟨l, xs ++ [y], y, rfl, rfl, h, by simp, by rw [List.dropLast_concat]; exact q⟩
theorem ext {l b : Addr} {xs zs : List V} (h : H l = some (.lst xs)) (hb : H b = some (.lst zs)) (hl : xs.length + zs.length ≤ sizeLine) (q : Q .non (upd H l (.lst (xs ++ zs)))) : rExtend (.ref l) [.ref b] H Q :=
  ⟨l, b, xs, zs, rfl, rfl, h, hb, hl, q⟩
theorem trL {t : Addr} {xs : List V} {Q : Bool → Prop} (h : H t = some (.lst xs)) (q : Q (!xs.isEmpty)) : ∃ k, TruV K (.ref t) H k ∧ Q k := ⟨_, .inl ⟨xs, SqL.of h, rfl⟩, q⟩
theorem addX {P : Program} {w : World} {to : TE} {t : TA} (h : to σ H fun x H1 => (∃ a S n, x = V.ref a ∧ H1 a = some (Sets.SetX P w a S n)) ∧ t σ H1 fun xs H2 => Sets.rSAddX P w x xs H2 Q) : Sets.tSAddX P w to t σ H Q := h
/-- [e for x, y, z in ts if t] -/
theorem lcT3 {n : Nat} {J : It} {G : Hp → Prop} {Itm : Nat → V → Prop} {tt : TT} {te : TE} {s1 s2 s3 : Nat} (w : Walk J n G (Flat Itm)) (hn : n < sizeLine) (Jv : Nat → List V → Hp → Prop) (h0 : Jv 0 [] H)
    (hst : ∀ D, H D = none → ∀ i acc ys H', Jv i acc H' → Jv i acc (upd H' D (.lst ys))) (hG : ∀ i acc H', i ≤ n → Jv i acc H' → G H') (hit : ∀ i x acc H', Itm i x → Jv i acc H' → ∃ T y1 y2 y3, x = .ref T ∧ H' T = some (.tup [y1, y2, y3]))
    (hw : ∀ y1 y2 y3, wipe ((((wipe σ [s1, s2, s3]).set s1 (some y1)).set s2 (some y2)).set s3 (some y3)) [s1, s2, s3] = wipe σ [s1, s2, s3])
    (step : ∀ D, H D = none → ∀ i T y1 y2 y3 acc H', i < n → Itm i (.ref T) → H' T = some (.tup [y1, y2, y3]) → H' D = some (.lst acc) → acc.length ≤ i → Jv i acc H' → ∀ (Kt : V → Hp → Prop) (Kf : Hp → Prop), (∀ y H4, H4 D = some (.lst acc) → Jv (i + 1) (acc ++ [y]) H4 → Kt y H4) → (∀ H3, H3 D = some (.lst acc) → Jv (i + 1) acc H3 → Kf H3) →
      tt ((((wipe σ [s1, s2, s3]).set s1 (some y1)).set s2 (some y2)).set s3 (some y3)) H' fun b H3 => if b = true then te ((((wipe σ [s1, s2, s3]).set s1 (some y1)).set s2 (some y2)).set s3 (some y3)) H3 Kt else Kf H3)
    (fin : ∀ D acc H', H D = none → H' D = some (.lst acc) → acc.length ≤ n → Jv n acc H' → Q (.ref D) H') : LcGo J (gTup K 3 (gCons (gName s1) (gCons (gName s2) (gCons (gName s3) gNil)))) tt te [s1, s2, s3] σ H Q := by
  intro D hD
  refine lc_it w (fun i H' => ∃ acc, H' D = some (.lst acc) ∧ acc.length ≤ i ∧ Jv i acc H') ⟨[], upd_same, Nat.le_refl _, hst D hD _ _ _ _ h0⟩ (fun i H' hi ⟨acc, _, _, j⟩ => hG i acc H' hi j) ?_ (fun H' ⟨acc, a1, a2, a3⟩ => fin D acc H' hD a1 a2 a3)
  rintro i x H' H2 hi ⟨acc, a1, a2, a3⟩ ⟨rfl, hx⟩
  obtain ⟨T, y1, y2, y3, rfl, hT⟩ := hit i x acc H2 hx a3
  refine ⟨T, _, rfl, SqT.of hT, rfl, _, _, rfl, _, _, rfl, _, _, rfl, rfl, hw y1 y2 y3, ?_⟩
  exact step D hD i T y1 y2 y3 acc _ hi hx hT a1 a2 a3 _ _
      (fun y H4 b1 b2 => ⟨acc, b1, Nat.lt_of_le_of_lt a2 (Nat.lt_trans hi hn), acc ++ [y], upd_same, by rw [List.length_append, List.length_singleton]; omega, hst D hD _ _ _ _ b2⟩)
      (fun H3 b1 b2 => ⟨acc, b1, Nat.le_succ_of_le a2, b2⟩)
end Rd
end Fw

set_option Elab.async false
set_option linter.all false
set_option maxRecDepth 100000
set_option maxHeartbeats 4000000
/-! a star in a display -/
namespace Fw
open PySem PySem.Spec L2
theorem kstarA {X : Cx} (K : PySem.W.Frag) {e : Expr} {es : List Expr} {te : TE} {t : TA} {p : Pos} (he : PE X e te) (hr : PA X es t) (h : X.K = K := by rfl) (hs : starEach (.Starred e p :: es) X.env = (true, eval e X.env) :: starEach es X.env := by rfl) : PA X (.Starred e p :: es) (StX.tStar K te t) := by
  subst h; exact StX.pa_star he hr hs
namespace Rd
theorem star {K : PySem.W.Frag} {te : TE} {t : TA} {σ : L2.St} {H : Hp} {Q : List V → Hp → Prop} (h : te σ H fun x H1 => ∃ p xs, x = V.ref p ∧ (SqT K H1 p xs ∨ SqL K H1 p xs) ∧ t σ H1 fun ys H2 => Q (xs ++ ys) H2) : StX.tStar K te t σ H Q := h
end Rd
end Fw

set_option Elab.async false
set_option linter.all false
set_option maxRecDepth 100000
set_option maxHeartbeats 4000000
/-! o[i] = v, x in o, o == p: own classes with __setitem__, __contains__, __eq__ -/
namespace Fw
open PySem PySem.Spec PyProof.Rows L2
section
variable {X : Cx} {CX : CXT} {k : Nat} {f C : Addr} {fd : FuncData} {ps : List Str} {sp : Sp}
structure SetC (K : PySem.W.Frag) (C f : Addr) : Prop where
  set : PySem.W.findIn K (.ref C) "__setitem__" = some (some (.ref f))
  fn : PySem.W.isFn K (.ref f) = true
  ns : PySem.W.noSeq K C = true
/-- o[i] = v by an own __setitem__ -/
def rOSet (C : Addr) (sp : Sp) (E : XK) : TSet := fun o i v H Q => ∃ a dx fs, o = .ref a ∧ H a = some (.ins C dx fs) ∧ sp [.ref a, i, v] H (fun _ H' => Q H') E
theorem set_own {E : XK} (c : SetC X.K C f) (F : FnOk X.prog X.w X.K X.mg X.base CX k f fd ps sp) (hr : Room k X.A) (hb : Binds X.K fd ps []) (hx : ∀ σ, PassesAt CX X σ E) : PSet X (rOSet C sp E) := by
  intro pins s σ H o i v ov iv u Q I ro ri rv h
  obtain ⟨a, dx, fs, rfl, ha, h⟩ := h
  cases ro
  obtain ⟨mA, J, _⟩ := ins_get I.hok ha
  obtain ⟨od, J, _⟩ := J.look
  obtain ⟨m0, hF⟩ := I.fr
  refine PySem.W.ksp_setItem hF I.ok.mod.kin J c.ns c.set c.fn ?_
  exact wpAny_mono (run_in (Q := fun _ H' => Q H') (us := [.ref a, iv, u]) (vs := [.ref a, i, v]) ⟨hr, rfl⟩ F hb (E := fun _ => E) (hx σ) I (.cons rfl (.cons ri (.cons rv .nil))) h) (fun _ s' ⟨x, H', I', _, q⟩ => ⟨H', I', q⟩) fun _ _ z => z
structure InC (K : PySem.W.Frag) (C f : Addr) : Prop where
  has : PySem.W.findIn K (.ref C) "__contains__" = some (some (.ref f))
  fn : PySem.W.isFn K (.ref f) = true
/-- x in o by an own __contains__ that tells True or False -/
def rOIn (C : Addr) (sp : Sp) (neg : Bool) : R2 := fun x y H Q => ∃ a dx fs, y = .ref a ∧ H a = some (.ins C dx fs) ∧ sp [.ref a, x] H (fun v H' => ∃ b : Bool, v = .bl b ∧ Q (.bl (if neg then !b else b)) H') E0
theorem op_ownIn (c : InC X.K C f) (F : FnOk X.prog X.w X.K X.mg X.base CX0 k f fd ps sp) (hr : Room k X.A) (hb : Binds X.K fd ps []) : OpR X (compareOp .In) (rOIn C sp false) := by
  intro pins s σ H x y v u Q I rx ry h
  obtain ⟨a, dx, fs, rfl, ha, h⟩ := h
  cases ry
  obtain ⟨mA, J, _⟩ := ins_get I.hok ha
  obtain ⟨od, J, _⟩ := J.look
  obtain ⟨m0, hF⟩ := I.fr
  refine PySem.W.in_K hF I.ok.mod.kin J c.has c.fn ?_
  refine wpAny_mono (run_in (us := [.ref a, v]) (vs := [.ref a, x]) (CX := CX0) (E := fun _ => E0) ⟨hr, rfl⟩ F hb (fun pins H s e s' I q => pass0 pins σ H s e s' I q) I (.cons rfl (.cons rx .nil)) h) (fun r s' ⟨z, H', I', rz, b, ez, q⟩ => ?_) fun _ _ z => z
  subst ez
  cases rz
  exact wpAny_truthy_bool ⟨.bl b, H', I', rfl, q⟩
theorem op_ownNotIn (c : InC X.K C f) (F : FnOk X.prog X.w X.K X.mg X.base CX0 k f fd ps sp) (hr : Room k X.A) (hb : Binds X.K fd ps []) : OpR X (compareOp .NotIn) (rOIn C sp true) := by
  intro pins s σ H x y v u Q I rx ry h
  obtain ⟨a, dx, fs, rfl, ha, h⟩ := h
  cases ry
  obtain ⟨mA, J, _⟩ := ins_get I.hok ha
  obtain ⟨od, J, _⟩ := J.look
  obtain ⟨m0, hF⟩ := I.fr
  refine PySem.W.notIn_K hF I.ok.mod.kin J c.has c.fn ?_
  refine wpAny_mono (run_in (us := [.ref a, v]) (vs := [.ref a, x]) (CX := CX0) (E := fun _ => E0) ⟨hr, rfl⟩ F hb (fun pins H s e s' I q => pass0 pins σ H s e s' I q) I (.cons rfl (.cons rx .nil)) h) (fun r s' ⟨z, H', I', rz, b, ez, q⟩ => ?_) fun _ _ z => z
  subst ez
  cases rz
  exact wpAny_truthy_bool ⟨.bl (!b), H', I', rfl, q⟩
structure EqC (K : PySem.W.Frag) (C f : Addr) : Prop where
  eq : PySem.W.findIn K (.ref C) "__eq__" = some (some (.ref f))
  fn : PySem.W.isFn K (.ref f) = true
/-- o == p by an own __eq__ that tells True or False -/
def rOEq (C : Addr) (sp : Sp) : R2 := fun x y H Q => ∃ a b dx dy fs gs, x = .ref a ∧ y = .ref b ∧ H a = some (.ins C dx fs) ∧ H b = some (.ins C dy gs) ∧ sp [.ref a, .ref b] H (fun v H' => ∃ r : Bool, v = .bl r ∧ Q (.bl r) H') E0
theorem op_ownEq (c : EqC X.K C f) (F : FnOk X.prog X.w X.K X.mg X.base CX0 k f fd ps sp) (hr : Room k X.A) (hb : Binds X.K fd ps []) : OpR X (compareOp .Eq) (rOEq C sp) := by
  intro pins s σ H x y v u Q I rx ry h
  obtain ⟨a, b, dx, dy, fs, gs, rfl, rfl, ha, hb', h⟩ := h
  cases rx
  cases ry
  obtain ⟨mA, J, _⟩ := ins_get I.hok ha
  obtain ⟨mB, J', _⟩ := ins_get I.hok hb'
  obtain ⟨od, J, _⟩ := J.look
  obtain ⟨od', J', _⟩ := J'.look
  obtain ⟨m, hF⟩ := I.fr
  show wpAny (model X.prog X.w) X.A (richCompare .Eq (.ref a) (.ref b)) (EP X pins σ Q) X.xe s
  refine PySem.W.cmp_K (op := .Eq) (tb := .ref C) hr.units0 hF I.ok.mod.kin J J'.type (by simp [PySem.W.notFirst]) c.eq c.fn ?_
  refine wpAny_mono (run_in (us := [.ref a, .ref b]) (vs := [.ref a, .ref b]) (CX := CX0) (E := fun _ => E0) ⟨hr, rfl⟩ F hb (fun pins H s e s' I q => pass0 pins σ H s e s' I q) I (.cons rfl (.cons rfl .nil)) h) (fun r s' ⟨z, H', I', rz, b, ez, q⟩ => ?_) fun _ _ z => z
  subst ez
  cases rz
  exact ⟨.bl b, H', I', rfl, q⟩
end
section
variable {X : Cx} {P : Program} {w : World} {K : PySem.W.Frag} {mg : Str → Option Value} {base : Heap} {nm qual : Str} {st : Stmt} {C : Addr} {k : Nat} {ps : List Str} {sp : Sp}
theorem kOSet {CX : CXT} {E : XK} (d : Mf K nm qual st ps) (c : SetC K C d.f) (F : FnOk P w K mg base CX k d.f d.fd ps sp) (hr : Room k X.A) (hx : Passes CX X E) (h1 : X.prog = P := by rfl) (h2 : X.w = w := by rfl) (h3 : X.K = K := by rfl) (h4 : X.mg = mg := by rfl) (h5 : X.base = base := by rfl) : PSet X (rOSet C sp E) := by
  subst h1 h2 h3 h4 h5
  exact set_own c F hr d.b fun σ pins H s v z I h => hx pins σ H s v z I h
theorem kOIn (d : Mf K nm qual st ps) (c : InC K C d.f) (F : FnOk P w K mg base CX0 k d.f d.fd ps sp) (hr : Room k X.A) (h1 : X.prog = P := by rfl) (h2 : X.w = w := by rfl) (h3 : X.K = K := by rfl) (h4 : X.mg = mg := by rfl) (h5 : X.base = base := by rfl) : OpR X (compareOp .In) (rOIn C sp false) := by
  subst h1 h2 h3 h4 h5
  exact op_ownIn c F hr d.b
theorem kONotIn (d : Mf K nm qual st ps) (c : InC K C d.f) (F : FnOk P w K mg base CX0 k d.f d.fd ps sp) (hr : Room k X.A) (h1 : X.prog = P := by rfl) (h2 : X.w = w := by rfl) (h3 : X.K = K := by rfl) (h4 : X.mg = mg := by rfl) (h5 : X.base = base := by rfl) : OpR X (compareOp .NotIn) (rOIn C sp true) := by
  subst h1 h2 h3 h4 h5
  exact op_ownNotIn c F hr d.b
theorem kOEq (d : Mf K nm qual st ps) (c : EqC K C d.f) (F : FnOk P w K mg base CX0 k d.f d.fd ps sp) (hr : Room k X.A) (h1 : X.prog = P := by rfl) (h2 : X.w = w := by rfl) (h3 : X.K = K := by rfl) (h4 : X.mg = mg := by rfl) (h5 : X.base = base := by rfl) : OpR X (compareOp .Eq) (rOEq C sp) := by
  subst h1 h2 h3 h4 h5
  exact op_ownEq c F hr d.b
end
end Fw

set_option Elab.async false
set_option linter.all false
set_option maxRecDepth 100000
set_option maxHeartbeats 4000000
/-! sorted(set(xs)), xs a list or a tuple of tuples -/
namespace Sets
open PySem PySem.Spec PyProof.Rows
section
variable {P : Program} {w : World} {A : Around} {E : Value → Shared → Prop} {s : Shared} {J : Nat → Heap → Prop} {l : Addr} {items : Array Value} {Q : Value → Shared → Prop}
/-- set(xs), xs a tuple -/
theorem set_ofT (hh : A.handled = none) (hl : s.heap.IsTuple l items) (h0 : ∀ led : Bool, (w.params.followText "set-order" = true ∨ led = true) → J 0 (s.heap.push (newSet0 led)))
    (g : Grows P w A.in1.in1.in1 s.heap.objs.size items.size (fun i v => items[i]? = some v) [s.heap.objs.size + 1] J)
    (k : ∀ (h' : Heap) (tk : Nat), J items.size h' → (∀ b o, b < s.heap.objs.size → s.heap.get? b = some o → h'.get? b = some o) → Q (.ref s.heap.objs.size) { s with heap := h', toks := tk }) :
    wpAny (model P w) A (call (.type "set") [.ref l]) Q E s := by
  obtain ⟨c, tl, q_mro⟩ := PySem.F.called_set.mro
  have q_made := PySem.F.called_set.made
  have q_sub := PySem.F.called_set.sub; have q_nt := PySem.F.called_set.notType
  have q_can := PySem.F.called_set.canCreate; have q_tc := PySem.F.typeCall_set_1 (.ref l)
  refine wpAny_call (codeAny_of_tree ?_)
  refine wpAny_pure (M := model P w) ⟨Code.quiet_builtin _ (by decide +kernel), codeAny_builtin PySem.F.entry_type_call ?_⟩
  rw [Around.under_plain (weight_type_call_type "set" [.ref l] []) rfl]
  repeat (any_goals (first | assumption | wp_step))
  refine codeAny_mono (L2.code_set_led1 (.ref l) (E := E) (Q₁ := fun x z => ∃ led : Bool, (w.params.followText "set-order" = true ∨ led = true) ∧ x = .ref s.heap.objs.size ∧ z = { s with heap := s.heap.push (newSet0 led) }) ⟨_, by cases w.params.followText "set-order" <;> simp, rfl, rfl⟩) fun r s₁ hr => ?_
  match r, hr with
  | .error e, hr => exact hr
  | .ok (.ret obj), hr =>
    obtain ⟨led, hled, rfl, rfl⟩ := hr
    have q_at : (s.heap.push (newSet0 led)).get? s.heap.objs.size = some (newSet0 led) := Heap.get?_push_size _ rfl
    have q_ty : Shared.TypeIs { s with heap := s.heap.push (newSet0 led) } (.ref s.heap.objs.size) "set" := ⟨_, q_at, rfl⟩
    have q_il := PySem.F.called_set.init.lookup
    have q_ib := PySem.F.called_set.init.bind (.ref s.heap.objs.size)
    repeat (any_goals (first | assumption | wp_step))
    refine codeAny_mono (codeAny_call_builtin (R := wants (fun x z => x = .none ∧ ∃ h' tk, z = { s with heap := h', toks := tk } ∧ J items.size h' ∧ (∀ b o, b < s.heap.objs.size → s.heap.get? b = some o → h'.get? b = some o)) E)
      PySem.F.called_set.init.plain PySem.F.entry_set_init (check_set_init_1 q_ty ?_)) fun r₂ s₂ hr₂ => ?_
    · obtain ⟨⟨oc, od, oD, os⟩, q_ol, q_c, q_n, q_d⟩ := hl
      simp only at q_c q_d
      subst q_c; subst q_d
      have q_ol' : (s.heap.push (newSet0 led)).get? l = some ⟨.type "tuple", od, .seq items q_n, os⟩ := Heap.get?_push_of_some _ q_ol
      have q_s1 := PySem.F.sub_tuple_set; have q_s2 := PySem.F.sub_tuple_frozenset
      have q_ne : (Value.type "tuple" == Value.type "dict") = false := by decide
      have q_il2 : (s.heap.push (newSet0 led)).IsTuple l items := ⟨_, q_ol', rfl, q_n, rfl⟩
      unfold Builtin.«set.__init__» noKeywords Builtin.Frozenset.updateFrom
      generalize q_pi : pyIter = PI
      wp_walk
      subst q_pi
      refine wpAny_pyIter_tuple q_il2 ?_; refine wpAny_bind (wpAny_runValue ?_)
      have lt : l < s.heap.objs.size := Heap.lt_size q_ol
      have z1 : (s.heap.push (newSet0 led)).objs.size = s.heap.objs.size + 1 := Heap.size_push ..
      have n1 : l ≠ s.heap.objs.size + 1 := Nat.ne_of_lt (Nat.lt_succ_of_lt lt)
      have n2 : ¬ s.heap.objs.size = s.heap.objs.size + 1 := Nat.ne_of_lt (Nat.lt_succ_self _)
      have n3 : ¬ s.heap.objs.size = l := Nat.ne_of_gt lt
      have far1 : ∀ b o, s.heap.get? b = some o → ((s.heap.push (newSet0 led)).push { cls := .type "tuple_iterator", data := .fields #[.ref l, .int 0 0] }).get? b = some o := fun b o e => Heap.get?_push_of_some _ (Heap.get?_push_of_some _ e)
      refine grow_loop ((Walks.tuple (I := (s.heap.push (newSet0 led)).objs.size) (by simp [hh]) l (z1.symm ▸ n1) items).toS) (S := s.heap.objs.size) (z1.symm ▸ fun m => (List.mem_cons.mp m).elim n2 fun m => n3 (List.mem_singleton.mp m)) (z1.symm ▸ g) items.size 0 _ (by omega)
        ⟨⟨_, Heap.get?_push_size _ rfl, rfl, rfl⟩, q_il2.push _⟩ (g.keep (h0 led hled) fun b o _ e => Heap.get?_push_of_some _ e) fun z mv j => ?_
      obtain ⟨h', g', d', tk', os'⟩ := z
      have eg : g' = s.gens := mv.gens
      have ed : d' = s.drawn := mv.drawn
      have eo : os' = s.os := mv.os
      subst eg ed eo
      show wpAny _ _ _ _ _ _
      refine wpAny_pure ?_
      refine wpAny_pure (M := model P w) ⟨rfl, h', tk', rfl, j, fun b o lb e => mv.heap b o (fun m => ?_) (far1 b o e)⟩
      have lb' : ∀ c, s.heap.objs.size ≤ c → b ≠ c := fun c q => Nat.ne_of_lt (Nat.lt_of_lt_of_le lb q)
      rcases List.mem_cons.mp m with e1 | e1
      · exact lb' _ (Nat.le_refl _) e1
      · exact lb' _ (by rw [z1]; exact Nat.le_succ _) (List.mem_singleton.mp e1)
    · match r₂, hr₂ with
      | .error e, hr₂ => exact hr₂
      | .ok (.ret x), hr₂ =>
        obtain ⟨rfl, h', tk, rfl, j, kp⟩ := hr₂
        repeat (any_goals (first | assumption | wp_step))
        exact k _ _ j kp
      | .ok .next, hr₂ => exact hr₂.elim
end
end Sets
namespace NS
open PySem PySem.Spec PyProof.Rows L2 Fw
section
variable {X : Cx}
def tSortSetX (K : PySem.W.Frag) (sh : Nat → Bool) (ta : TE) : TE := fun σ H Q => ta σ H fun x H1 => ∃ (b : Bool) (l : Addr) (ks : List Ent) (lk : Ent → List (Int ⊕ List Nat)), x = .ref l ∧ SqX K b H1 l (ks.map fun q => V.ref q.1) ∧ SrtGo sh ks lk H1 Q
theorem pe_sortSetX {a : Expr} {ta : TE} {p p2 q pos : Pos} (sh : Nat → Bool) (hu : X.A.units + 64 < cLine) (hg : Gl X "sorted") (hm : X.mg "sorted" = none) (hg2 : Gl X "set") (hm2 : X.mg "set" = none) (ha : PE X a ta) (hc : X.calm = true := by rfl)
    (na : starEach [a] X.env = (false, eval a X.env) :: starEach [] X.env := by rfl) : PE X (.Call (.Name "sorted" p) [.Call (.Name "set" p2) [a] [] q] [] pos) (tSortSetX X.K sh ta) := by
  constructor
  intro pins s σ H Q I h
  refine Call_ (ld_blt I hg hm boot_sorted (callWith_builtin1 (args_cons ?_ rfl) rfl rfl))
  refine Call_ (ld_blt I hg2 hm2 boot_set (callWith_type1 (args_cons (thn (ha.run pins s σ H _ I h) fun v z ⟨x, H1, I1, r1, q1⟩ => args_nil ?_) na) na rfl))
  obtain ⟨b, l, ks, lk, rfl, hq, g⟩ := q1
  cases r1
  cases b with
  | false =>
    obtain ⟨its, r, pl, _⟩ := I1.list hq
    have ei := refs_vals r
    have hlen : its.toArray.size = ks.length := by rw [List.size_toArray, ei, List.length_map]
    have hv : ∀ (i : Nat) (v : Value), its.toArray[i]? = some v → ∃ q, ks[i]? = some q ∧ v = .ref q.1 := fun i v e => by
      have e' : its[i]? = some v := by simpa using e
      rw [ei, List.getElem?_map] at e'
      obtain ⟨q, hq, e2⟩ := Option.map_eq_some_iff.mp e'
      exact ⟨q, hq, e2.symm⟩
    have none_at : ∀ b, z.heap.objs.size ≤ b → z.heap.get? b = none := fun b hb => by
      cases e : z.heap.get? b with
      | none => rfl
      | some o => exact absurd (Nat.lt_of_lt_of_le (Heap.lt_size e) hb) (Nat.lt_irrefl _)
    refine Sets.set_of (J := HasN X.prog X.w z.heap z.heap.objs.size ks) (I1.ok.hd hc) pl.isList (fun led hled => n_fresh ks hled) (grows_n (by omega) g.1 (by simp only [Around.in1_units]; omega) (none_at _ (Nat.le_refl _)) (none_at _ (Nat.le_succ _)) (Nat.ne_of_lt (Nat.lt_succ_self _)) (fun q hq => ⟨ND.nk_is I1.hok q.2 (g.2.1 q hq).1 rfl, (g.2.1 q hq).2.1⟩) hv) fun h' tk R kp => ?_
    refine args_nil ?_
    rw [hlen] at R
    exact srt_tail I1 (I1.ok.hd hc) kp R g
  | true =>
    obtain ⟨its, r, pl, _⟩ := I1.tuple hq
    have ei := refs_vals r
    have hlen : its.toArray.size = ks.length := by rw [List.size_toArray, ei, List.length_map]
    have hv : ∀ (i : Nat) (v : Value), its.toArray[i]? = some v → ∃ q, ks[i]? = some q ∧ v = .ref q.1 := fun i v e => by
      have e' : its[i]? = some v := by simpa using e
      rw [ei, List.getElem?_map] at e'
      obtain ⟨q, hq, e2⟩ := Option.map_eq_some_iff.mp e'
      exact ⟨q, hq, e2.symm⟩
    have none_at : ∀ b, z.heap.objs.size ≤ b → z.heap.get? b = none := fun b hb => by
      cases e : z.heap.get? b with
      | none => rfl
      | some o => exact absurd (Nat.lt_of_lt_of_le (Heap.lt_size e) hb) (Nat.lt_irrefl _)
    refine Sets.set_ofT (J := HasN X.prog X.w z.heap z.heap.objs.size ks) (I1.ok.hd hc) pl (fun led hled => n_fresh ks hled) (grows_n (by omega) g.1 (by simp only [Around.in1_units]; omega) (none_at _ (Nat.le_refl _)) (none_at _ (Nat.le_succ _)) (Nat.ne_of_lt (Nat.lt_succ_self _)) (fun q hq => ⟨ND.nk_is I1.hok q.2 (g.2.1 q hq).1 rfl, (g.2.1 q hq).2.1⟩) hv) fun h' tk R kp => ?_
    refine args_nil ?_
    rw [hlen] at R
    exact srt_tail I1 (I1.ok.hd hc) kp R g
theorem ksortsetX {mg : Str → Option Value} (K : PySem.W.Frag) (sh : Nat → Bool) {a : Expr} {ta : TE} {p p2 q pos : Pos} (T : Bt mg) (hu : X.A.units + 64 < cLine) (ha : PE X a ta) (hmg : X.mg = mg := by rfl) (hg : Gl X "sorted" := by rfl) (hg2 : Gl X "set" := by rfl) (hc : X.calm = true := by rfl) (hK : X.K = K := by rfl)
    (na : starEach [a] X.env = (false, eval a X.env) :: starEach [] X.env := by rfl) : PE X (.Call (.Name "sorted" p) [.Call (.Name "set" p2) [a] [] q] [] pos) (tSortSetX K sh ta) := by
  subst hmg hK
  exact pe_sortSetX sh hu hg T.sorted hg2 T.set ha hc na
end
end NS
namespace Rd
open PySem PySem.Spec L2 Fw
theorem sortSetX {K : PySem.W.Frag} {sh : Nat → Bool} {ta : TE} {σ : L2.St} {H : Hp} {Q : VK} (h : ta σ H fun x H1 => ∃ (b : Bool) (l : Addr) (ks : List NS.Ent) (lk : NS.Ent → List (Int ⊕ List Nat)), x = .ref l ∧ SqX K b H1 l (ks.map fun q => V.ref q.1) ∧ NS.SrtGo sh ks lk H1 Q) : NS.tSortSetX K sh ta σ H Q := h
end Rd

set_option Elab.async false
set_option linter.all false
set_option maxRecDepth 100000
set_option maxHeartbeats 4000000
/-! o | p, o & p, o - p by an own method, both of one class -/
namespace Fw
open PySem PySem.Spec PyProof.Rows L2
structure BinC (K : PySem.W.Frag) (C f : Addr) (op : Operator) : Prop where
  met : PySem.W.findIn K (.ref C) (PySem.dunder op.info.2) = some (some (.ref f))
  fn : PySem.W.isFn K (.ref f) = true
  first : PySem.W.selfFirst K C = true
/-- the method gives an object -/
def rOBin (C : Addr) (sp : Sp) (E : XK) : R2 := fun x y H Q => ∃ a b dx dy fs gs, x = .ref a ∧ y = .ref b ∧ H a = some (.ins C dx fs) ∧ H b = some (.ins C dy gs) ∧ sp [.ref a, .ref b] H (fun v H' => ∃ r, v = .ref r ∧ Q (.ref r) H') E
section
variable {X : Cx} {CX : CXT} {k : Nat} {f C : Addr} {fd : FuncData} {ps : List Str} {sp : Sp}
theorem op_ownBin {E : XK} {op : Operator} (c : BinC X.K C f op) (F : FnOk X.prog X.w X.K X.mg X.base CX k f fd ps sp) (hr : Room k X.A) (hb : Binds X.K fd ps []) (hx : ∀ σ, PassesAt CX X σ E) : OpR X (binaryOp op) (rOBin C sp E) := by
  intro pins s σ H x y v u Q I rx ry h
  obtain ⟨a, b, dx, dy, fs, gs, rfl, rfl, ha, hb', h⟩ := h
  cases rx
  cases ry
  obtain ⟨mA, J, _⟩ := ins_get I.hok ha
  obtain ⟨mB, J', _⟩ := ins_get I.hok hb'
  obtain ⟨od, J, _⟩ := J.look
  obtain ⟨od', J', _⟩ := J'.look
  obtain ⟨m, hF⟩ := I.fr
  refine PySem.W.binop_K hF I.ok.mod.kin J J'.type c.first c.met c.fn ?_
  refine wpAny_mono (run_in (us := [.ref a, .ref b]) (vs := [.ref a, .ref b]) ⟨hr, rfl⟩ F hb (E := fun _ => E) (hx σ) I (.cons rfl (.cons rfl .nil)) h) (fun r s' ⟨z, H', I', rz, t, ez, q⟩ => ?_) fun _ _ z => z
  subst ez
  cases rz
  exact ⟨.ref t, H', I', rfl, q⟩
end
section
variable {X : Cx} {P : Program} {w : World} {K : PySem.W.Frag} {mg : Str → Option Value} {base : Heap} {nm qual : Str} {st : Stmt} {C : Addr} {k : Nat} {ps : List Str} {sp : Sp}
theorem kOBin {CX : CXT} {E : XK} {op : Operator} (d : Mf K nm qual st ps) (c : BinC K C d.f op) (F : FnOk P w K mg base CX k d.f d.fd ps sp) (hr : Room k X.A) (hx : Passes CX X E) (h1 : X.prog = P := by rfl) (h2 : X.w = w := by rfl) (h3 : X.K = K := by rfl) (h4 : X.mg = mg := by rfl) (h5 : X.base = base := by rfl) : OpR X (binaryOp op) (rOBin C sp E) := by
  subst h1 h2 h3 h4 h5
  exact op_ownBin c F hr d.b fun σ pins H s v z I h => hx pins σ H s v z I h
theorem kcatA (K : PySem.W.Frag) (h : X.K = K := by rfl) : OpR X (binaryOp .Add) (rCatA K) := by subst h; exact op_catA
/-! a def with *args, called by positions -/
variable {CX : CXT} {f : Addr} {x : Str} {e : Expr} {es : List Expr} {t : TA} {p pos : Pos} {E : XK}
def tCallR (sp : Sp) (E : XK) (t : TA) : TE := fun σ H Q => t σ H fun vs H1 => sp vs H1 Q E
theorem pe_fR (F : FnR P w K mg base CX k f sp) (hr : Room k X.A) (hm : mg x = some (.ref f)) (hk : PySem.W.keepIn K (.ref f) = true) (hx : Passes CX X E) (ha : PA X (e :: es) t)
    (h1 : X.prog = P := by rfl) (h2 : X.w = w := by rfl) (h3 : X.K = K := by rfl) (h4 : X.mg = mg := by rfl) (h5 : X.base = base := by rfl) (hg : Gl X x := by rfl) (hdb : (x == ("__debug__" : Str)) = false := by decide) (he : starEach (e :: es) X.env = (false, eval e X.env) :: starEach es X.env := by rfl) (hpl : (backTo pos (starEach es X.env)).any (·.1) = false := by rfl) :
    PE X (.Call (.Name x p) (e :: es) [] pos) (tCallR sp E t) := by
  subst h1 h2 h3 h4 h5
  refine ⟨fun pins s σ H Q I h => ?_⟩
  refine wpAny_Call_Name_kw (ld_glob I hg hm ?_ hdb)
  refine PySem.W.callWith_K (h₀ := X.base) I.ok.mod.kin hk (thn (ha.run pos pins s σ H _ I h) fun us s1 ⟨vs, H1, I1, r, q⟩ => ⟨I1.kIn, ?_⟩) he hpl
  exact wpAny_call (run_fnR F hr hx I1 r q)
theorem pe_fR0 (F : FnR P w K mg base CX k f sp) (hr : Room k X.A) (hm : mg x = some (.ref f)) (hk : PySem.W.keepIn K (.ref f) = true) (hx : Passes CX X E)
    (h1 : X.prog = P := by rfl) (h2 : X.w = w := by rfl) (h3 : X.K = K := by rfl) (h4 : X.mg = mg := by rfl) (h5 : X.base = base := by rfl) (hg : Gl X x := by rfl) (hdb : (x == ("__debug__" : Str)) = false := by decide) : PE X (.Call (.Name x p) [] [] pos) (tCallR sp E tNil) := by
  subst h1 h2 h3 h4 h5
  refine ⟨fun pins s σ H Q I h => ?_⟩
  refine wpAny_Call_Name_kw (ld_glob I hg hm ?_ hdb)
  exact PySem.W.callWith_K0 I.kIn hk (wpAny_call (run_fnR (us := []) F hr hx I .nil h))
end
namespace Rd
variable {σ : L2.St} {H : Hp} {Q : VK} {sp : Sp} {E : XK} {t : TA}
theorem fR (h : t σ H fun vs H1 => sp vs H1 Q E) : tCallR sp E t σ H Q := h
end Rd
end Fw

set_option Elab.async false
set_option linter.all false
set_option maxRecDepth 100000
set_option maxHeartbeats 4000000
/-! for x in xs, xs a list or a tuple -/
namespace Fw
open PySem PySem.Spec PyProof.Rows L2
def ItS (K : PySem.W.Frag) (b : Bool) (a : Addr) : It := if b = true then Itt K a else Itl K a
def iSeqX (K : PySem.W.Frag) (te : TE) : TI := fun σ H R => te σ H fun x H1 => ∃ b a xs, x = .ref a ∧ SqX K b H1 a xs ∧ R (ItS K b a) H1
section
variable {X : Cx} {tg : Expr}
theorem pi_seqX {l : Expr} {tl : TE} (hl : PE X l tl) : PI X tg l (iSeqX X.K tl) := by
  refine ⟨fun pins s σ H R I h => ?_⟩
  refine thn (hl.run pins s σ H _ I h) fun v s1 ⟨x, H1, I1, r1, q1⟩ => ?_
  obtain ⟨b, a, xs, e, hq, q⟩ := q1
  subst e
  cases r1
  have fp : ∀ c ∈ [s1.heap.objs.size], FpOk X pins H1 c := fun c hb => by
    have e : c = s1.heap.objs.size := by simpa using hb
    subst e
    exact I1.fpOk (Nat.le_refl _) (I1.hok.fresh (Nat.le_refl _))
  cases b with
  | false =>
    obtain ⟨its, rv, p, hz⟩ := I1.list (show SqL X.K H1 a xs from hq)
    refine wpAny_pyIter_list p.isList ?_
    exact ⟨s1.heap.objs.size, [s1.heap.objs.size], _, _, H1, rfl, I1.kept (t' := s1.toks) fun b o e => Heap.get?_push_of_some _ e, turn_list a _, ⟨_, Heap.get?_push_size _ rfl, rfl, rfl⟩, fp, q⟩
  | true =>
    obtain ⟨its, rv, p, hz⟩ := I1.tuple (show SqT X.K H1 a xs from hq)
    refine wpAny_pyIter_tuple (show s1.heap.IsTuple a its.toArray from p) ?_
    exact ⟨s1.heap.objs.size, [s1.heap.objs.size], _, _, H1, rfl, I1.kept (t' := s1.toks) fun b o e => Heap.get?_push_of_some _ e, turn_tuple a _, ⟨_, Heap.get?_push_size _ rfl, rfl, rfl⟩, fp, q⟩
theorem kpx (K : PySem.W.Frag) {l : Expr} {tl : TE} (hl : PE X l tl) (h : X.K = K := by rfl) : PI X tg l (iSeqX K tl) := by subst h; exact pi_seqX hl
end
section
variable {K : PySem.W.Frag} {a : Addr} {xs : List V}
theorem walk_seqX {b : Bool} : Walk (ItS K b a) xs.length (fun H => SqX K b H a xs) (Flat fun i x => xs[i]? = some x) := by
  cases b with
  | false => exact walk_list
  | true => exact walk_tup
end
namespace Rd
variable {K : PySem.W.Frag} {σ : L2.St} {H : Hp} {te : TE} {g : TG} {tb : TS} {D : Ends} {a : Addr} {xs : List V} {P : Bool → Addr → Prop}
theorem foX (h : te σ H fun x H1 => ∃ b a xs, x = .ref a ∧ SqX K b H1 a xs ∧ FoGo (ItS K b a) g tb D σ H1) : tFor (iSeqX K te) g tb D σ H := h
theorem exseq {b : Bool} (hs : SqX K b H a xs) (h : P b a) : ∃ b' a' xs', V.ref a = .ref a' ∧ SqX K b' H a' xs' ∧ P b' a' := ⟨b, a, xs, rfl, hs, h⟩
end Rd
end Fw

set_option Elab.async false
set_option linter.all false
set_option maxRecDepth 100000
set_option maxHeartbeats 4000000
/-! [e for t in xs for u in ys if c], any targets, what the inner for walks made on the way -/
namespace Fw
open PySem PySem.Spec L2
namespace Rd
theorem lc2G {σ : St} {H : Hp} {Q : VK} {te : TE} {tt1 : TT} {wi1 : TI} {g g1 : TG} {J : It} {n M : Nat} {G : Hp → Prop} {Itm : Nat → V → Prop} {vs vs1 : List Nat} {ι : Type}
    (w : Walk J n G (Flat Itm)) (J1 : ι → It) (m : ι → Nat) (G1 : ι → Hp → Prop) (Itm1 : ι → Nat → V → Prop) (w1 : ∀ e, Walk (J1 e) (m e) (G1 e) (Flat (Itm1 e))) (hn : n * M < sizeLine)
    (Jv : Nat → List V → Hp → Prop) (Jw : Addr → Nat → ι → St → Nat → List V → Hp → Prop) (h0 : Jv 0 [] H)
    (hst : ∀ D, H D = none → ∀ i acc zs H', (∀ o, H' D = some o → ∃ ys, o = .lst ys) → Jv i acc H' → Jv i acc (upd H' D (.lst zs)))
    (hst1 : ∀ D, H D = none → ∀ i e σ2 j acc zs H', (∀ o, H' D = some o → ∃ ys, o = .lst ys) → Jw D i e σ2 j acc H' → Jw D i e σ2 j acc (upd H' D (.lst zs)))
    (hG : ∀ i acc H', i ≤ n → Jv i acc H' → G H') (hG1 : ∀ D i e σ2 j acc H', i < n → j ≤ m e → Jw D i e σ2 j acc H' → G1 e H')
    (hin : ∀ D, H D = none → ∀ i x acc H', i < n → Itm i x → H' D = some (.lst acc) → Jv i acc H' → ∀ R : St → It → Hp → Prop, (∀ e σ2 H4, m e ≤ M → H4 D = some (.lst acc) → Jw D i e σ2 0 acc H4 → R σ2 (J1 e) H4) → g x (wipe σ vs) H' fun σ2 H2 => wipe σ2 vs = wipe σ vs ∧ wi1 σ2 H2 (R σ2))
    (hend : ∀ D i e σ2 acc H', i < n → Jw D i e σ2 (m e) acc H' → Jv (i + 1) acc H')
    (step : ∀ D, H D = none → ∀ i e σ2 j y acc H', i < n → j < m e → Itm1 e j y → H' D = some (.lst acc) → Jw D i e σ2 j acc H' → ∀ (Kt : V → Hp → Prop) (Kf : Hp → Prop), (∀ z H4, H4 D = some (.lst acc) → Jw D i e σ2 (j + 1) (acc ++ [z]) H4 → Kt z H4) → (∀ H3, H3 D = some (.lst acc) → Jw D i e σ2 (j + 1) acc H3 → Kf H3) →
      g1 y (wipe σ2 vs1) H' fun σ3 H5 => wipe σ3 vs1 = wipe σ2 vs1 ∧ tt1 σ3 H5 fun c H6 => if c = true then te σ3 H6 Kt else Kf H6)
    (fin : ∀ D acc H', H D = none → H' D = some (.lst acc) → acc.length ≤ n * M → Jv n acc H' → Q (.ref D) H') :
    Lc2Go J g tYes wi1 g1 tt1 te vs vs1 σ H Q := by
  intro D hD
  refine ⟨fun i k H' => k = n - i ∧ i ≤ n ∧ ∃ acc, H' D = some (.lst acc) ∧ acc.length ≤ i * M ∧ Jv i acc H', ⟨_, rfl, Nat.zero_le _, [], upd_same, Nat.zero_le _, hst D hD _ _ _ _ (fun o e => by rw [hD] at e; cases e) h0⟩, ?_⟩
  rintro i k H' ⟨rfl, hi, acc, a1, a2, a3⟩
  rcases Nat.lt_or_ge i n with lt | ge
  · refine .inr ⟨w.goes i H' lt (hG _ _ _ hi a3), fun H'' => i + 1 ≤ n ∧ ∃ acc, H'' D = some (.lst acc) ∧ acc.length ≤ (i + 1) * M ∧ Jv (i + 1) acc H'', fun H'' q => ⟨n - (i + 1), by omega, rfl, q.1, q.2⟩, ?_⟩
    intro x H2 yl
    obtain ⟨rfl, hx⟩ := w.yields i _ x H2 lt (hG _ _ _ hi a3) yl
    refine hin D hD i x acc _ lt hx a1 a3 (fun σ2 J1' H4 => ∃ W1 : Nat → Nat → Hp → Prop, (∃ m, W1 0 m H4) ∧ ∀ j k H5, W1 j k H5 →
      (J1'.stop j H5 ∧ (i + 1 ≤ n ∧ ∃ acc, H5 D = some (.lst acc) ∧ acc.length ≤ (i + 1) * M ∧ Jv (i + 1) acc H5)) ∨ (J1'.go j H5 ∧ ∃ Nx1 : Hp → Prop, (∀ H', Nx1 H' → ∃ k', k' < k ∧ W1 (j + 1) k' H') ∧ ∀ x H', J1'.yld j H5 x H' → g1 x (wipe σ2 vs1) H' fun σ3 H5 => wipe σ3 vs1 = wipe σ2 vs1 ∧ tt1 σ3 H5 fun b H6 =>
        if b = true then te σ3 H6 fun y H7 => ∃ acc, H7 D = some (.lst acc) ∧ acc.length < sizeLine ∧ Nx1 (upd H7 D (.lst (acc ++ [y]))) else Nx1 H6)) ?_
    intro e σ2 H4 hm h4 j0
    refine ⟨fun j k H'' => k = m e - j ∧ j ≤ m e ∧ ∃ acc, H'' D = some (.lst acc) ∧ acc.length ≤ i * M + j ∧ Jw D i e σ2 j acc H'', ⟨_, rfl, Nat.zero_le _, acc, h4, a2, j0⟩, ?_⟩
    rintro j k H'' ⟨rfl, hj, acc, b1, b2, b3⟩
    rcases Nat.lt_or_ge j (m e) with lt1 | ge1
    · refine .inr ⟨(w1 e).goes j H'' lt1 (hG1 _ _ _ _ _ _ _ lt hj b3), fun H3 => j + 1 ≤ m e ∧ ∃ acc, H3 D = some (.lst acc) ∧ acc.length ≤ i * M + (j + 1) ∧ Jw D i e σ2 (j + 1) acc H3, fun H3 q => ⟨m e - (j + 1), by omega, rfl, q.1, q.2⟩, ?_⟩
      intro y H3 yl1
      obtain ⟨rfl, hy⟩ := (w1 e).yields j _ y H3 lt1 (hG1 _ _ _ _ _ _ _ lt hj b3) yl1
      have lt2 : i * M + j < n * M := Nat.lt_of_lt_of_le (show i * M + j < (i + 1) * M by rw [Nat.succ_mul]; omega) (Nat.mul_le_mul_right _ lt)
      exact step D hD i e σ2 j y acc _ lt lt1 hy b1 b3 _ _ (fun z H4 c1 c2 => ⟨acc, c1, by omega, lt1, acc ++ [z], upd_same, by rw [List.length_append, List.length_singleton]; omega, hst1 D hD _ _ _ _ _ _ _ (fun o e => by rw [c1] at e; cases e; exact ⟨_, rfl⟩) c2⟩) fun H3 c1 c2 => ⟨lt1, acc, c1, by omega, c2⟩
    · have ej : j = m e := by omega
      subst ej
      exact .inl ⟨(w1 e).stops _ (hG1 _ _ _ _ _ _ _ lt (Nat.le_refl _) b3), lt, acc, b1, by rw [Nat.succ_mul]; omega, hend D i e σ2 acc _ lt b3⟩
  · have ei : i = n := by omega
    subst ei
    exact .inl ⟨w.stops _ (hG _ _ _ (Nat.le_refl _) a3), fin D acc _ hD a1 a2 a3⟩
theorem lc2T' {K : PySem.W.Frag} {σ : St} {H : Hp} {Q : VK} {te tl : TE} {tt tt1 : TT} {g g1 : TG} {wi1 : TI} {vs vs1 : List Nat} (h : tl σ H fun x H1 => ∃ a, x = .ref a ∧ (∃ xs, SqT K H1 a xs) ∧ Lc2Go (Itt K a) g tt wi1 g1 tt1 te vs vs1 σ H1 Q) : tLc2 (iTup K tl) g tt wi1 g1 tt1 te vs vs1 σ H Q := h
end Rd
end Fw
namespace Fw
open PySem PySem.Spec L2
namespace Rd
theorem lc2O {C : Addr} {L : Hp → Addr → Addr → Prop} {K : PySem.W.Frag} {σ : St} {H : Hp} {Q : VK} {te tl : TE} {tt tt1 : TT} {g g1 : TG} {wi1 : TI} {vs vs1 : List Nat} (h : tl σ H fun x H1 => ∃ (a dx : Addr) (fs : List (Str × V)) (l : Addr), x = .ref a ∧ H1 a = some (.ins C dx fs) ∧ L H1 a l ∧ Lc2Go (Itt K l) g tt wi1 g1 tt1 te vs vs1 σ H1 Q) : tLc2 (iOwn C L K tl) g tt wi1 g1 tt1 te vs vs1 σ H Q := h
end Rd
end Fw

namespace Toy
open PySem L2 Fw
local macro_rules | `(tactic| walk_at "sz") => `(tactic| first | assumption | omega | decide | (have q_sz : sizeLine = 16777216 := sizeLine_eq; simp only [List.length_append, List.length_cons, List.length_nil]; omega) | (have q_sz : sizeLine = 16777216 := sizeLine_eq; simp only [List.length_cons, List.length_nil] at *; omega) | (have q_sz : sizeLine = 16777216 := sizeLine_eq; omega))
local macro_rules | `(tactic| walk_at "hp") => `(tactic| first | assumption | exact upd_same)
local macro_rules | `(tactic| walk_at "sq") => `(tactic| first | assumption | exact SqL.of (by walk_at "hp") | exact SqT.of (by walk_at "hp"))
local macro_rules | `(tactic| walk_at "sl") => `(tactic| first | assumption | omega | (simp only [List.length_append, List.length_take, List.length_drop, List.length_singleton, List.length_cons, List.length_nil, List.length_map, rep_len, Int.reduceToNat]; omega))
local macro_rules | `(tactic| walk_at "rd1") => `(tactic| first
  | ((with_reducible refine' Rd.var ?k1 ?_); (case k1 => rfl))
  | (with_reducible refine Rd.con ?_)
  | (with_reducible refine Rd.op ?_)
  | (with_reducible refine Rd.seq ?_)
  | ((with_reducible refine Rd.asg ?_); dsimp only [List.set])
  | (with_reducible refine Rd.drop ?_)
  | (with_reducible refine Rd.asgSub ?_)
  | ((with_reducible refine' Rd.setL ?k1 ?k2 ?_); (case k1 => walk_at "hp"); (case k2 => first | assumption | rfl); try dsimp only [List.set])
  | (with_reducible refine Rd.ret ?_)
  | (with_reducible refine Rd.retN ?_)
  | (with_reducible refine Rd.next ?_)
  | (with_reducible refine Rd.ifS ?_)
  | (with_reducible refine Rd.cons ?_)
  | (with_reducible refine Rd.nil ?_)
  | (with_reducible refine Rd.call ?_)
  | (with_reducible refine Rd.cb ?_)
  | (with_reducible refine Rd.test ?_)
  | (with_reducible refine Rd.tbv ?_)
  | (with_reducible refine Rd.exbl ?_)
  | (with_reducible refine Rd.exint ?_)
  | (with_reducible refine Rd.yes ?_)
  | (with_reducible refine Rd.andT ?_)
  | (with_reducible refine Rd.orT ?_)
  | (with_reducible refine Rd.notT ?_)
  | (with_reducible refine Rd.andV ?_)
  | (with_reducible refine Rd.orV ?_)
  | (with_reducible refine Rd.notV ?_)
  | (with_reducible refine Rd.chain ?_)
  | (with_reducible refine Rd.sl ?_)
  | (with_reducible refine Rd.lcL ?_)
  | (with_reducible refine Rd.lcT ?_)
  | (with_reducible refine Rd.lcR ?_)
  | (with_reducible refine Rd.lcS ?_)
  | (with_reducible refine Rd.foL ?_)
  | (with_reducible refine Rd.foT ?_)
  | (with_reducible refine Rd.foR ?_)
  | ((with_reducible refine' Rd.exrange ?k1 ?k2 ?_); (case k1 => first | decide | omega); (case k2 => first | decide | omega))
  | (with_reducible refine Rd.exstr ?_)
  | ((with_reducible refine' Rd.exlist ?k1 ?_); (case k1 => walk_at "sq"))
  | ((with_reducible refine' Rd.extup ?k1 ?_); (case k1 => walk_at "sq"))
  | (with_reducible refine Rd.noPart ?_)
  | (with_reducible refine Rd.part ?_)
  | (with_reducible refine Rd.addI ?_)
  | (with_reducible refine Rd.subI ?_)
  | (with_reducible refine Rd.gtI ?_)
  | (with_reducible refine Rd.geI ?_)
  | (with_reducible refine Rd.ltI ?_)
  | (with_reducible refine Rd.leI ?_)
  | (with_reducible refine Rd.eqI ?_)
  | (with_reducible refine Rd.neI ?_)
  | (with_reducible refine RS.eq ?_)
  | (with_reducible refine RS.ne ?_)
  | (with_reducible refine Rd.eqS ?_)
  | (with_reducible refine Rd.neS ?_)
  | (with_reducible refine Rd.leC ?_)
  | (with_reducible refine Rd.ltS ?_)
  | (with_reducible refine Rd.leS ?_)
  | (with_reducible refine Rd.int1 ?_)
  | ((with_reducible refine' Rd.modI ?k1 ?_); (case k1 => first | decide | omega | assumption))
  | ((with_reducible refine' Rd.divI ?k1 ?_); (case k1 => exact ⟨by omega, by omega⟩))
  | ((with_reducible refine' Rd.mulI ?k1 ?_); (case k1 => first | exact .inl ⟨by decide, by decide⟩ | exact .inr ⟨by decide, by decide⟩ | exact .inl ⟨by omega, by omega⟩ | exact .inr ⟨by omega, by omega⟩))
  | ((with_reducible refine' RS.mul ?k1 ?k2 ?k3 ?k4 ?_); (case k1 => decide); (case k2 => decide); (case k3 => walk_at "sl"); (case k4 => walk_at "sl"))
  | ((with_reducible refine' Rd.mulS ?k1 ?k2 ?k3 ?_); (case k1 => first | decide | omega); (case k2 => first | decide | omega); (case k3 => walk_at "sz"))
  | ((with_reducible refine' Rd.powI ?k1 ?_); (case k1 => exact ⟨by decide, by decide, by decide⟩))
  | ((with_reducible refine' Rd.lenL ?k1 ?_); (case k1 => walk_at "sq"))
  | ((with_reducible refine' Rd.lenT ?k1 ?_); (case k1 => walk_at "sq"))
  | ((with_reducible refine' RS.len ?k1 ?_); (case k1 => walk_at "sl"))
  | ((with_reducible refine' Rd.lenS ?k1 ?_); (case k1 => walk_at "sz"))
  | ((with_reducible refine' Rd.sumL ?k1 ?_); (case k1 => walk_at "sq"))
  | ((with_reducible refine' RS.ix ?k1 ?k2 ?_); (case k1 => walk_at "sl"); (case k2 => assumption))
  | ((with_reducible refine' Rd.ixL ?k1 ?k2 ?_); (case k1 => walk_at "sq"); (case k2 => first | assumption | rfl))
  | ((with_reducible refine' Rd.ixT ?k1 ?k2 ?_); (case k1 => walk_at "sq"); (case k2 => first | assumption | rfl))
  | ((with_reducible refine' RS.slTo ?k1 ?k2 ?_); (case k1 => omega); (case k2 => walk_at "sl"))
  | ((with_reducible refine' RS.slFrom ?k1 ?k2 ?_); (case k1 => omega); (case k2 => walk_at "sl"))
  | ((with_reducible refine' RS.slFT ?k1 ?k2 ?k3 ?_); (case k1 => omega); (case k2 => omega); (case k3 => walk_at "sl"))
  | ((with_reducible refine' Rd.slS ?k1 ?_); (case k1 => walk_at "sz"))
  | ((with_reducible refine' RS.add ?k1 ?_); (case k1 => walk_at "sl"))
  | ((with_reducible refine' Rd.addS ?k1 ?_); (case k1 => walk_at "sz"))
  | (with_reducible refine Rd.tup ?_)
  | (with_reducible refine Rd.lst ?_)
  | (with_reducible refine Rd.m0 ?_)
  | (with_reducible refine Rd.m1 ?_)
  | (with_reducible refine Rd.isStr ?_)
  | ((with_reducible refine' RS.upper ?k1 ?k2 ?_); (case k1 => assumption); (case k2 => walk_at "sl"))
  | ((with_reducible refine' Rd.upper ?k1 ?_); (case k1 => walk_at "sz"))
  | (with_reducible refine Rd.bm ?_)
  | ((with_reducible refine' Rd.tyL ?k1 ?_); (case k1 => walk_at "hp"))
  | ((with_reducible refine' Rd.append ?k1 ?k2 ?_); (case k1 => walk_at "hp"); (case k2 => walk_at "sz"))
  | (with_reducible refine Rd.make ?_)
  | (with_reducible refine Rd.meth ?_)
  | (with_reducible refine Rd.sfld ?_)
  | (with_reducible refine Rd.con_ ?_)
  | (with_reducible refine Rd.fld ?_)
  | (with_reducible refine Rd.tryAs ?_)
  | (with_reducible refine Rd.tryAsN ?_)
  | (with_reducible refine Rd.lenSetT ?_)
  | (with_reducible refine Rd.makeT ?_)
  | (with_reducible refine Rd.methT ?_)
  | (with_reducible refine Rd.callS ?_)
  | (with_reducible refine Rd.xf ?_)
  | (with_reducible refine Rd.mko ?_)
  | (with_reducible refine Rd.ost ?_)
  | (with_reducible refine Rd.iteNF ?_)
  | (with_reducible refine Rd.iteNT ?_)
  | (with_reducible refine Rd.iteT ?_)
  | (with_reducible refine Rd.iteF ?_)
  | ((with_reducible refine' Rd.iteDT ?k1 ?_); (case k1 => decide))
  | ((with_reducible refine' Rd.iteDF ?k1 ?_); (case k1 => decide))
  | ((with_reducible refine' Rd.iteNDT ?k1 ?_); (case k1 => decide))
  | ((with_reducible refine' Rd.iteNDF ?k1 ?_); (case k1 => decide))
  | ((with_reducible refine' Rd.iteBT ?k1 ?_); (case k1 => rfl))
  | ((with_reducible refine' Rd.iteBF ?k1 ?_); (case k1 => rfl)))
local macro_rules | `(tactic| walk_at "rd") => `(tactic| repeat walk_at "rd1")
local macro_rules | `(tactic| walk_at "rd1") => `(tactic| first
  | (with_reducible refine Rd.un ?_)
  | (with_reducible refine Rd.negI ?_))
local macro_rules | `(tactic| walk_at "rd1") => `(tactic| first
  | (with_reducible refine Rd.jn ?_)
  | (with_reducible refine Rd.jc ?_)
  | (with_reducible refine Rd.jsN ?_)
  | ((with_reducible refine' Rd.jcS ?k1 ?_); (case k1 => walk_at "sl"))
  | (with_reducible refine Rd.tf ?_)
  | (with_reducible refine Rd.tfL ?_)
  | (with_reducible refine Rd.tfR ?_)
  | ((with_reducible refine' Rd.fmS ?k1 ?_); (case k1 => walk_at "sl"))
  | ((with_reducible refine' Rd.fmI ?k1 ?_); (case k1 => walk_at "sl"); rw [text_nat])
  | ((with_reducible refine' Rd.fjL ?k1 ?k2 ?_); (case k1 => decide); (case k2 => walk_at "sl"); rw [ljust_S])
  | ((with_reducible refine' Rd.fjR ?k1 ?_); (case k1 => walk_at "sl"); rw [rj_S])
  | (with_reducible refine Rd.asgG ?_)
  | (with_reducible refine Rd.asgSt ?_)
  | (with_reducible refine Rd.methKw ?_)
  | (with_reducible refine Rd.tr ?_)
  | (with_reducible refine Rd.methD ?_)
  | ((with_reducible refine' Rd.addB ?k1 ?_); (case k1 => walk_at "sl"))
  | ((with_reducible refine' Rd.gT2 ?k1 ?_); (case k1 => walk_at "hp"); try dsimp only [List.set])
  | (with_reducible refine Rd.rj4 ?_)
  | (with_reducible refine Rd.lj2 ?_)
  | (with_reducible refine Rd.lj8 ?_)
  | (with_reducible refine Rd.lj13 ?_)
  | ((with_reducible refine' Rd.strI ?k1 ?_); (case k1 => walk_at "sl")))
def top (i : Nat) : Stmt := PySem.Challenge.pw_redopages_k35_catalogs_with_images.main.body.getD i (.Pass ⟨0, 0, 0, 0⟩)
section
variable {P : Program} {w : World} {K : PySem.W.Frag} {mg : Str → Option Value} {base : Heap} {tk : Tok}
/-! ### the draws -/
def PoolAt (H : Hp) (p : Addr) : Prop := ∃ d s c : Int, H p = some (.lst [.int d, .int s, .int c])
def spDraw : Sp := fun vs H Q _ => ∃ (p : Addr) (m : Int), vs = [.ref p, .int m] ∧ 0 < m ∧ m < 1073741824 ∧ PoolAt H p ∧
  ∀ (r : Int) (H' : Hp), 0 ≤ r → r < m → (∀ a, a ≠ p → H' a = H a) → PoolAt H' p → Q (.int r) H'
abbrev s_law_draw : Stmt := top 33
theorem sc_law_draw : FnScope ["_law_pool_here", "_law_many", "_law_digit"] ["_law_pool_here", "_law_many"] (defScope s_law_draw) := ⟨rfl, rfl, rfl, by decide +kernel, rfl, by decide +kernel, by decide +kernel⟩
theorem ok_draw {f : Addr} {fd : FuncData} (F : Fun K "_law_draw" "_law_draw" s_law_draw f fd) (T : Bt mg) : FnOk P w K mg base CX0 1 f fd ["_law_pool_here", "_law_many"] spDraw := by
  refine F.ok sc_law_draw (fun vs H Q E h => ?_) (fun cdv A outer s H vs Q E hr h => ?_)
  · obtain ⟨p, m, rfl, _⟩ := h
    rfl
  · obtain ⟨p, m, rfl, hm, hm2, ⟨d, sd, c, hp⟩, k⟩ := h
    refine ⟨_, (pss_cons (ps_if (PW.pt (pw_and (pt_cmpR op_gtI (pe_ix (kix K) (pv 0) pe_int (fun _ _ => rfl)) pe_int (nomark _)) (pw_and1 (pt_cmpR op_gtI (pe_ix (kix K) (pv 0) pe_int (fun _ _ => rfl)) pe_int (nomark _))))) (pss_cons (ps_set (i := 2) sc_law_draw.nd rfl (Or.inl rfl) (pe_op op_modI (pe_callTy call_intA (by rfl) T.int (by decide +kernel) (pa_cons (pe_ix (kix K) (pv 0) pe_int (fun _ _ => rfl)) pa_nil)) (pv 1)))
  (pss_cons (ps_asg (pe_op op_divI (pe_ix (kix K) (pv 0) pe_int (fun _ _ => rfl)) (pv 1)) (pg_sub (pv 0) pe_int set_list))
  (pss_cons (ps_asg (pe_op op_subI (pe_ix (kix K) (pv 0) pe_int (fun _ _ => rfl)) pe_int) (pg_sub (pv 0) pe_int set_list))
  (pss_one (ps_ret (pv 2))))))
  pss_nil)
  (pss_cons (ps_asg (pe_op op_modI (pe_callTy call_intA (by rfl) T.int (by decide +kernel) (pa_cons (pe_op op_addA (pe_op op_mulA (pe_ix (kix K) (pv 0) pe_int (fun _ _ => rfl)) pe_int) pe_int) pa_nil)) pe_int) (pg_sub (pv 0) pe_int set_list))
  (pss_one (ps_ret (pe_op op_modI (pe_callTy call_intA (by rfl) T.int (by decide +kernel) (pa_cons (pe_ix (kix K) (pv 0) pe_int (fun _ _ => rfl)) pa_nil)) (pv 1)))))), ?_⟩
    refine Rd.start_ (σ' := [some (.ref p), some (.int m), none]) rfl ?_
    have fin : ∀ (H' : Hp) (x : Int) (d' s' c' : Int), H' = upd (upd H p (.lst [.int d', .int sd, .int c])) p (.lst [.int d', .int s', .int c']) → Q (.int (x % m)) H' := fun H' x d' s' c' e => by
      subst e
      exact k _ _ (Int.emod_nonneg _ (by omega)) (Int.emod_lt_of_pos _ hm) (fun a ha => by rw [upd_ne ha, upd_ne ha]) ⟨_, _, _, upd_same⟩
    have fin1 : ∀ (x : Int) (d' s' c' : Int), Q (.int (x % m)) (upd H p (.lst [.int d', .int s', .int c'])) := fun x d' s' c' =>
      k _ _ (Int.emod_nonneg _ (by omega)) (Int.emod_lt_of_pos _ hm) (fun a ha => by rw [upd_ne ha]) ⟨_, _, _, upd_same⟩
    walk_at "rd"
    refine Rd.iteD (fun h1 => ?_) (fun h1 => ?_)
    · walk_at "rd"
      refine Rd.iteD (fun h2 => ?_) (fun h2 => ?_)
      · walk_at "rd"
        exact fin _ _ _ _ _ rfl
      · walk_at "rd"
        exact fin1 _ _ _ _
    · walk_at "rd"
      exact fin1 _ _ _ _

def spPool (K : PySem.W.Frag) : Sp := fun vs H Q _ => ∃ (a : Addr) (ns : List Int) (k : Int), vs = [.ref a, .int k] ∧ SqL K H a (ns.map V.int) ∧ ns.length ≤ 63 ∧ 0 ≤ k ∧ k < 100 ∧
  ∀ (p : Addr) (H' : Hp), H p = none → Same H H' → PoolAt H' p → Q (.ref p) H'
abbrev s_law_pool : Stmt := top 32
theorem sc_law_pool : FnScope ["_law_script", "_law_k", "_law_seed", "_law_digits"] ["_law_script", "_law_k"] (defScope s_law_pool) := ⟨rfl, rfl, rfl, by decide +kernel, rfl, by decide +kernel, by decide +kernel⟩
theorem ok_pool {f : Addr} {fd : FuncData} (F : Fun K "_law_pool" "_law_pool" s_law_pool f fd) (T : Bt mg) : FnOk P w K mg base CX0 1 f fd ["_law_script", "_law_k"] (spPool K) := by
  refine F.ok sc_law_pool (fun vs H Q E h => ?_) (fun cdv A outer s H vs Q E hr h => ?_)
  · obtain ⟨p, ns, m, rfl, _⟩ := h
    rfl
  · obtain ⟨a, ns, m, rfl, hS, hl, hm, hm2, k⟩ := h
    have hu := hr.units
    refine ⟨_, (pss_cons (ps_set (i := 2) sc_law_pool.nd rfl (Or.inl rfl) (pe_op op_addA (pe_op op_addA (pe_op op_mulA pe_int (pv 1)) pe_int) (pe_op op_mulA pe_int (pe_callB (ksum K) (by rfl) T.sum (by decide +kernel) (pa_cons (pv 0) pa_nil)))))
  (pss_cons (ps_set (i := 3) sc_law_pool.nd rfl (Or.inl rfl) pe_int)
  (pss_cons (ps_if (pt_cmpR op_ltA (pv 1) (pe_callB (klen K) (by rfl) T.len (by decide +kernel) (pa_cons (pv 0) pa_nil)) (nomark _)) (pss_cons (ps_set (i := 2) sc_law_pool.nd rfl (Or.inl rfl) (pe_op op_addA (pv 2) (pe_ix (kix K) (pv 0) (pv 1) (fun _ _ => rfl))))
  (pss_one (ps_if (pt_cmpR op_geI (pe_ix (kix K) (pv 0) (pv 1) (fun _ _ => rfl)) (pe_op op_powI pe_int pe_int) (nomark _)) (pss_one (ps_set (i := 3) sc_law_pool.nd rfl (Or.inl rfl) (pe_ix (kix K) (pv 0) (pv 1) (fun _ _ => rfl))))
  pss_nil)))
  pss_nil)
  (pss_one (ps_ret (pe_lst (pa_cons (pv 3) (pa_cons (pe_op op_modI (pe_callTy call_intA (by rfl) T.int (by decide +kernel) (pa_cons (pv 2) pa_nil)) pe_int) (pa_cons pe_int pa_nil))))))))), ?_⟩
    refine Rd.start_ (σ' := [some (.ref a), some (.int m), none, none]) rfl ?_
    have fin : ∀ x y z : Int, ∀ p, H p = none → Q (.ref p) (upd H p (.lst [.int x, .int y, .int z])) := fun x y z p hp => k p _ hp (same_new hp) ⟨_, _, _, upd_same⟩
    walk_at "rd"
    refine Rd.iteD (fun h1 => ?_) (fun h1 => ?_)
    · rw [List.length_map] at h1
      obtain ⟨z, hat⟩ : ∃ z, atI (ns.map V.int) m = some (V.int z) := by
        have hlt : m.toNat < ns.length := by omega
        have e : m = ((m.toNat : Nat) : Int) := by omega
        exact ⟨ns[m.toNat], (congrArg (atI (ns.map V.int)) e).trans (atI_nat (by simp [hlt]))⟩
      walk_at "rd"
      refine Rd.iteD (fun h2 => ?_) (fun h2 => ?_)
      · walk_at "rd"
        exact ⟨by show 3 ≤ sizeLine; decide, fin _ _ _⟩
      · walk_at "rd"
        exact ⟨by show 3 ≤ sizeLine; decide, fin _ _ _⟩
    · walk_at "rd"
      exact ⟨by show 3 ≤ sizeLine; decide, fin _ _ _⟩

/-! ### words of drawn letters -/
theorem letters_at : ∀ k, k < 26 → ([97, 98, 99, 100, 101, 102, 103, 104, 105, 106, 107, 108, 109, 110, 111, 112, 113, 114, 115, 116, 117, 118, 119, 120, 121, 122] : List Nat)[k]? = some (97 + k) := by decide +kernel
theorem letter_at (n : Int) : atI ([97, 98, 99, 100, 101, 102, 103, 104, 105, 106, 107, 108, 109, 110, 111, 112, 113, 114, 115, 116, 117, 118, 119, 120, 121, 122] : List Nat) (n % 26) = some (97 + (n % 26).toNat) := by
  have h0 : 0 ≤ n % 26 := Int.emod_nonneg _ (by decide)
  have h1 : n % 26 < 26 := Int.emod_lt_of_pos _ (by decide)
  have e : n % 26 = (((n % 26).toNat : Nat) : Int) := by omega
  rw [e]
  exact atI_nat (letters_at _ (by omega))
def wordL (ns : List Int) : List Nat := ns.map fun n => 97 + (n % 26).toNat
theorem join_chars : ∀ l : List Nat, TL.joinL [] (l.map fun c => [c]) = l
  | [] => rfl
  | [c] => rfl
  | c :: d :: l => by
    show [c] ++ ([] ++ TL.joinL [] ((d :: l).map fun c => [c])) = c :: d :: l
    rw [join_chars (d :: l)]
    rfl
theorem join_word (l : List Nat) : Txt.join (S []) (l.map fun c => (⟨#[c]⟩ : Str)) = S l := by
  have e := SX.join_S [] (l.map fun c => [c])
  rw [join_chars, List.map_map] at e
  exact e
theorem sum_ones (l : List Nat) : ((l.map fun c => (⟨#[c]⟩ : Str)).map (·.length)).sum = l.length := by
  induction l with
  | nil => rfl
  | cons c l ih =>
    rw [List.map_cons, List.map_cons, List.sum_cons, ih, List.length_cons]
    show 1 + l.length = l.length + 1
    omega
def spWord (K : PySem.W.Frag) : Sp := fun vs H Q _ => ∃ (a : Addr) (ns : List Int), vs = [.ref a] ∧ SqL K H a (ns.map V.int) ∧ ns.length ≤ 100 ∧
  ∀ (H' : Hp), Same H H' → Q (.str (S (wordL ns))) H'
abbrev s_law_word : Stmt := top 34
theorem sc_law_word : FnScope ["_law_numbers", "_law_letters", "_law_number"] ["_law_numbers"] (defScope s_law_word) := ⟨rfl, rfl, rfl, by decide +kernel, rfl, by decide +kernel, by decide +kernel⟩
theorem ok_word {f : Addr} {fd : FuncData} (F : Fun K "_law_word" "_law_word" s_law_word f fd) (T : Bt mg) : FnOk P w K mg base CX0 1 f fd ["_law_numbers"] (spWord K) := by
  refine F.ok sc_law_word (fun vs H Q E h => ?_) (fun cdv A outer s H vs Q E hr h => ?_)
  · obtain ⟨p, ns, rfl, _⟩ := h
    rfl
  · obtain ⟨a, ns, rfl, hS, hl, k⟩ := h
    refine ⟨_, (pss_cons (ps_set (i := 1) sc_law_word.nd rfl (Or.inr rfl) (pe_lit [97, 98, 99, 100, 101, 102, 103, 104, 105, 106, 107, 108, 109, 110, 111, 112, 113, 114, 115, 116, 117, 118, 119, 120, 121, 122] (by decide +kernel)))
  (pss_one (ps_ret (kjoin K (pe_lit [] (by decide +kernel)) (pe_lc (own := [("_law_number", 2)]) (g := gName 2) (tt := tYes) rfl sc_law_word.nd (kpl K (pv 0)) (blkOk_by (N := ["_law_numbers", "_law_letters", "_law_number"]) (sc := defScope s_law_word) (by decide +kernel)) (fun _ _ _ _ _ => (pg_name (i := 2) sc_law_word.nd rfl (Or.inl rfl))) (fun _ _ _ _ _ => pts_nil) (fun _ _ _ _ _ => (pe_ix (kix K) (pv 1) (pe_op op_modI (pe_callTy call_intA (by rfl) T.int (by decide +kernel) (pa_cons (pv 2) pa_nil)) pe_int) (fun _ _ => rfl)))))))), ?_⟩
    refine Rd.start_ (σ' := [some (.ref a), none, none]) rfl ?_
    walk_at "rd"
    refine Rd.lcW Rd.wList (by rw [List.length_map]; walk_at "sz") (fun i acc H' => Same H H' ∧ acc = (wordL (ns.take i)).map fun c => V.str ⟨#[c]⟩) ⟨Same.refl _, rfl⟩
      (fun D hD i acc ys H' j => ⟨same_upd j.1 hD, j.2⟩) (fun i acc H' hi j => j.1.seq hS) ?_ ?_
    · intro D hD i x acc H' hi hx hacc hlen ⟨j1, j2⟩ Kt Kf hT hF
      dsimp only [List.set]
      rw [List.getElem?_map] at hx
      obtain ⟨z, hz, rfl⟩ := Option.map_eq_some_iff.mp hx
      walk_at "rd"
      refine RS.ix (by decide) (letter_at z) ?_
      refine hT _ _ hacc ⟨j1, ?_⟩
      rw [j2]
      unfold wordL
      rw [List.take_add_one, hz]
      simp
    · intro D acc H' hD hacc hlen ⟨j1, j2⟩
      rw [List.length_map] at j2
      rw [List.take_length] at j2
      have e : acc = (((wordL ns).map fun c => (⟨#[c]⟩ : Str)).map V.str) := by rw [j2, List.map_map]; rfl
      rw [e] at hacc
      refine Rd.join (SqL.of hacc) ?_ ?_
      · rw [sum_ones]
        show _ + _ * 0 ≤ _
        unfold wordL
        rw [List.length_map]
        omega
      · rw [join_word]
        exact k H' j1

end
section
variable {P : Program} {w : World} {K : PySem.W.Frag} {mg : Str → Option Value} {base : Heap} {tk : Tok}
/-! ### names -/
/-- a name: 1 to 8 letters -/
def Nm (l : List Nat) : Prop := 1 ≤ l.length ∧ l.length ≤ 8 ∧ ∀ c ∈ l, 97 ≤ c ∧ c ≤ 122
def letterL (z : Int) : List Nat := [97 + (z % 26).toNat]
/-- the k-th name, as drawn -/
def nameL (style shift stride place size : Int) (word : List Nat) (k : Nat) : List Nat :=
  if style = 2 then letterL (shift + stride * k) ++ (word.drop k).take ((k + (place + 3 * k) % 8).toNat - k)
  else if style = 1 then word.take (1 + (k + place) % 8).toNat
  else word.take (place % size).toNat ++ letterL (shift + stride * k) ++ (word.drop (place % size + 1).toNat).take (size.toNat - (place % size + 1).toNat)
structure Drawn (style shift stride place size : Int) (word : List Nat) : Prop where
  sh : 0 ≤ shift ∧ shift < 26
  st : ∃ d : Int, 0 ≤ d ∧ d < 6 ∧ stride = 1 + 2 * d
  pl : 0 ≤ place ∧ place < 8
  sz : 1 ≤ size ∧ size ≤ 8
  wl : word.length = 8
  wc : ∀ c ∈ word, 97 ≤ c ∧ c ≤ 122
theorem letter_ok {z : Int} : ∀ c ∈ letterL z, 97 ≤ c ∧ c ≤ 122 := by
  intro c hc
  have h1 : z % 26 < 26 := Int.emod_lt_of_pos _ (by decide)
  have e : c = 97 + (z % 26).toNat := List.mem_singleton.mp hc
  omega
section
variable {style shift stride place size : Int} {word : List Nat}
theorem at_lt (D : Drawn style shift stride place size word) : 0 ≤ place % size ∧ place % size < size := ⟨Int.emod_nonneg _ (by have := D.sz; omega), Int.emod_lt_of_pos _ (by have := D.sz; omega)⟩
theorem name_ok (D : Drawn style shift stride place size word) {k : Nat} (hk : k < 8) : Nm (nameL style shift stride place size word k) := by
  obtain ⟨⟨s1, s2⟩, _, ⟨p1, p2⟩, ⟨z1, z2⟩, wl, wc⟩ := id D
  obtain ⟨a1, a2⟩ := at_lt D
  unfold nameL Nm
  by_cases h2 : style = 2
  · rw [if_pos h2]
    refine ⟨?_, ?_, ?_⟩
    · simp [letterL]
    · simp only [letterL, List.length_append, List.length_singleton, List.length_take, List.length_drop, wl]; omega
    · intro c hc
      rcases List.mem_append.mp hc with hc | hc
      · exact letter_ok c hc
      · exact wc c (List.mem_of_mem_drop (List.mem_of_mem_take hc))
  · rw [if_neg h2]
    by_cases h1 : style = 1
    · rw [if_pos h1]
      refine ⟨?_, ?_, fun c hc => wc c (List.mem_of_mem_take hc)⟩
      · rw [List.length_take, wl]; omega
      · rw [List.length_take, wl]; omega
    · rw [if_neg h1]
      refine ⟨?_, ?_, ?_⟩
      · simp only [letterL, List.length_append, List.length_singleton]; omega
      · simp only [letterL, List.length_append, List.length_singleton, List.length_take, List.length_drop, wl]; omega
      · intro c hc
        rcases List.mem_append.mp hc with hc | hc
        · rcases List.mem_append.mp hc with hc | hc
          · exact wc c (List.mem_of_mem_take hc)
          · exact letter_ok c hc
        · exact wc c (List.mem_of_mem_drop (List.mem_of_mem_take hc))
theorem letter_inj (D : Drawn style shift stride place size word) {j k : Nat} (hj : j < 8) (hk : k < 8) (e : 97 + ((shift + stride * j) % 26).toNat = 97 + ((shift + stride * k) % 26).toNat) : j = k := by
  obtain ⟨d, d0, d6, rfl⟩ := D.st
  have hd : d = 0 ∨ d = 1 ∨ d = 2 ∨ d = 3 ∨ d = 4 ∨ d = 5 := by omega
  rcases hd with rfl | rfl | rfl | rfl | rfl | rfl <;> omega
theorem name_inj (D : Drawn style shift stride place size word) {j k : Nat} (hj : j < 8) (hk : k < 8) (e : nameL style shift stride place size word j = nameL style shift stride place size word k) : j = k := by
  obtain ⟨⟨s1, s2⟩, _, ⟨p1, p2⟩, ⟨z1, z2⟩, wl, wc⟩ := id D
  obtain ⟨a1, a2⟩ := at_lt D
  unfold nameL at e
  by_cases h2 : style = 2
  · rw [if_pos h2, if_pos h2] at e
    exact letter_inj D hj hk (List.cons.inj e).1
  · rw [if_neg h2, if_neg h2] at e
    by_cases h1 : style = 1
    · rw [if_pos h1, if_pos h1] at e
      have q := congrArg List.length e
      rw [List.length_take, List.length_take, wl] at q
      omega
    · rw [if_neg h1, if_neg h1, List.append_assoc, List.append_assoc] at e
      exact letter_inj D hj hk (List.cons.inj (List.append_cancel_left e)).1
theorem names_nodup (D : Drawn style shift stride place size word) : ((List.range 8).map (nameL style shift stride place size word)).Nodup := by
  refine List.pairwise_map.mpr (List.Pairwise.imp_of_mem (fun {a b} ha hb hab e => ?_) (List.nodup_range (n := 8)))
  exact hab (name_inj D (List.mem_range.mp ha) (List.mem_range.mp hb) e)
end
/-- all but p as it was -/
def SameB (p : Addr) (H H' : Hp) : Prop := ∀ a o, a ≠ p → H a = some o → H' a = some o
theorem SameB.refl (p : Addr) (H : Hp) : SameB p H H := fun _ _ _ h => h
theorem SameB.trans {p : Addr} {H H1 H2 : Hp} (a : SameB p H H1) (b : SameB p H1 H2) : SameB p H H2 := fun c o n h => b c o n (a c o n h)
theorem SameB.of {p : Addr} {H H' : Hp} (a : Same H H') : SameB p H H' := fun c o _ h => a c o h
theorem SameB.drawn {p : Addr} {H H' : Hp} (a : ∀ b, b ≠ p → H' b = H b) : SameB p H H' := fun c o n h => by rw [a c n]; exact h
theorem SameB.upd {p D : Addr} {o : HO} {H0 H : Hp} (e : SameB p H0 H) (h : H0 D = none) : SameB p H0 (upd H D o) := fun a u n ha => by
  rw [upd_ne (ne_of_none ha h)]; exact e a u n ha
theorem fresh_of {H G : Hp} {a p : Addr} (h : G a = none) (s : SameB p H G) (n : p ≠ a) : H a = none := by
  cases e : H a with
  | none => rfl
  | some o => rw [s a o (Ne.symm n) e] at h; cases h
/-- a list of names at q -/
def NamesAt (H : Hp) (q : Addr) (ns : List (List Nat)) : Prop := H q = some (.lst (ns.map fun l => V.str (S l)))
def spNames : Sp := fun vs H Q _ => ∃ (p : Addr), vs = [.ref p] ∧ PoolAt H p ∧
  ∀ (ns : List (List Nat)) (q : Addr) (H' : Hp), ns.length = 8 → (∀ l ∈ ns, Nm l) → ns.Nodup → H q = none → SameB p H H' → PoolAt H' p → NamesAt H' q ns → Q (.ref q) H'

theorem pool_of {H H' : Hp} {p : Addr} (h : PoolAt H p) (e : Same H H') : PoolAt H' p := by
  obtain ⟨d, s, c, q⟩ := h
  exact ⟨d, s, c, e _ _ q⟩
theorem PoolAt.upd {H : Hp} {p D : Addr} {o : HO} (h : PoolAt H p) (n : p ≠ D) : PoolAt (upd H D o) p := by
  obtain ⟨d, s, c, q⟩ := h
  exact ⟨d, s, c, by rw [upd_ne n]; exact q⟩
theorem pool_ne {H : Hp} {p D : Addr} (h : PoolAt H p) (n : H D = none) : p ≠ D := by
  obtain ⟨d, s, c, q⟩ := h
  exact ne_of_none q n
theorem nameL0 {style shift stride place size : Int} {word : List Nat} {k : Nat} (h1 : ¬ style = 1) (h2 : ¬ style = 2) : nameL style shift stride place size word k = word.take (place % size).toNat ++ letterL (shift + stride * k) ++ (word.drop (place % size + 1).toNat).take (size.toNat - (place % size + 1).toNat) := by
  unfold nameL; rw [if_neg h2, if_neg h1]
theorem nameL1 {style shift stride place size : Int} {word : List Nat} {k : Nat} (h1 : style = 1) : nameL style shift stride place size word k = word.take (1 + (k + place) % 8).toNat := by
  unfold nameL; rw [if_neg (by omega), if_pos h1]
theorem nameL2 {style shift stride place size : Int} {word : List Nat} {k : Nat} (h2 : style = 2) : nameL style shift stride place size word k = letterL (shift + stride * k) ++ (word.drop k).take ((k + (place + 3 * k) % 8).toNat - k) := by
  unfold nameL; rw [if_pos h2]
abbrev s_law_names : Stmt := top 35
theorem sc_law_names : FnScope ["_law_pool_here", "_law_style", "_law_shift", "_law_stride", "_law_place", "_law_size", "_law_word_here", "_law_names_here", "_law_k", "_law_letter", "_law_at", "_law_name"] ["_law_pool_here"] (defScope s_law_names) := ⟨rfl, rfl, rfl, by decide +kernel, rfl, by decide +kernel, by decide +kernel⟩
theorem ok_names {f : Addr} {fd : FuncData} (F : Fun K "_law_names" "_law_names" s_law_names f fd) (T : Bt mg) (dD : Df K mg "_law_draw" "_law_draw" s_law_draw ["_law_pool_here", "_law_many"]) (dW : Df K mg "_law_word" "_law_word" s_law_word ["_law_numbers"]) :
    FnOk P w K mg base CX0 2 f fd ["_law_pool_here"] spNames := by
  have GD : FnOk P w K mg base CX0 1 dD.f dD.fd _ spDraw := ok_draw dD.F T
  have GW : FnOk P w K mg base CX0 1 dW.f dW.fd _ (spWord K) := ok_word dW.F T
  refine F.ok sc_law_names (fun vs H Q E h => ?_) (fun cdv A outer s H vs Q E hr h => ?_)
  · obtain ⟨p, rfl, _⟩ := h
    rfl
  · obtain ⟨p, rfl, hp, k⟩ := h
    have hu := hr.units
    refine ⟨_, (pss_cons (ps_set (i := 1) sc_law_names.nd rfl (Or.inl rfl) (pe_cf dD GD hr pass0 (pa_cons (pv 0) (pa_cons pe_int pa_nil))))
  (pss_cons (ps_set (i := 2) sc_law_names.nd rfl (Or.inl rfl) (pe_cf dD GD hr pass0 (pa_cons (pv 0) (pa_cons pe_int pa_nil))))
  (pss_cons (ps_set (i := 3) sc_law_names.nd rfl (Or.inl rfl) (pe_op op_addA pe_int (pe_op op_mulA pe_int (pe_cf dD GD hr pass0 (pa_cons (pv 0) (pa_cons pe_int pa_nil))))))
  (pss_cons (ps_set (i := 4) sc_law_names.nd rfl (Or.inl rfl) (pe_cf dD GD hr pass0 (pa_cons (pv 0) (pa_cons pe_int pa_nil))))
  (pss_cons (ps_set (i := 5) sc_law_names.nd rfl (Or.inl rfl) (pe_op op_addA pe_int (pe_cf dD GD hr pass0 (pa_cons (pv 0) (pa_cons pe_int pa_nil)))))
  (pss_cons (ps_set (i := 6) sc_law_names.nd rfl (Or.inl rfl) (pe_cf dW GW hr pass0 (pa_cons (pe_lc (own := [("_law_k", 8)]) (g := gName 8) (tt := tYes) rfl sc_law_names.nd (pi_range1 rfl T.range (pa_cons pe_int pa_nil)) (blkOk_by (N := ["_law_pool_here", "_law_style", "_law_shift", "_law_stride", "_law_place", "_law_size", "_law_word_here", "_law_names_here", "_law_k", "_law_letter", "_law_at", "_law_name"]) (sc := defScope s_law_names) (by decide +kernel)) (fun _ _ _ _ _ => (pg_name (i := 8) sc_law_names.nd rfl (Or.inl rfl))) (fun _ _ _ _ _ => pts_nil) (fun _ _ _ _ _ => (pe_cf dD GD hr pass0 (pa_cons (pv 0) (pa_cons pe_int pa_nil))))) pa_nil)))
  (pss_cons (ps_set (i := 7) sc_law_names.nd rfl (Or.inl rfl) (pe_lst pa_nil))
  (pss_cons (ps_for PassesOwn.never rfl (pi_range1 rfl T.range (pa_cons pe_int pa_nil)) (pg_name (i := 8) sc_law_names.nd rfl (Or.inl rfl))
  (pss_cons (ps_set (i := 9) sc_law_names.nd rfl (Or.inl rfl) (pe_cf dW GW hr pass0 (pa_cons (pe_lst (pa_cons (pe_op op_addA (pv 2) (pe_op op_mulA (pv 3) (pv 8))) pa_nil)) pa_nil)))
  (pss_cons (ps_set (i := 10) sc_law_names.nd rfl (Or.inl rfl) (pe_op op_modI (pe_callTy call_intA (by rfl) T.int (by decide +kernel) (pa_cons (pv 4) pa_nil)) (pv 5)))
  (pss_cons (ps_set (i := 11) sc_law_names.nd rfl (Or.inl rfl) (pe_op op_addA (pe_op op_addA (pe_slice (ksl K) (pv 6) po_none (po_some (pv 10))) (pv 9)) (pe_slice (ksl K) (pv 6) (po_some (pe_op op_addA (pv 10) pe_int)) (po_some (pv 5)))))
  (pss_cons (ps_if (pt_cmpR (keq K hu) (pv 1) pe_int (nomark _)) (pss_one (ps_set (i := 11) sc_law_names.nd rfl (Or.inl rfl) (pe_slice (ksl K) (pv 6) po_none (po_some (pe_op op_addA pe_int (pe_op op_modI (pe_callTy call_intA (by rfl) T.int (by decide +kernel) (pa_cons (pe_op op_addA (pv 8) (pv 4)) pa_nil)) pe_int))))))
  pss_nil)
  (pss_cons (ps_if (pt_cmpR (keq K hu) (pv 1) pe_int (nomark _)) (pss_one (ps_set (i := 11) sc_law_names.nd rfl (Or.inl rfl) (pe_op op_addA (pv 9) (pe_slice (ksl K) (pv 6) (po_some (pv 8)) (po_some (pe_op op_addA (pv 8) (pe_op op_modI (pe_callTy call_intA (by rfl) T.int (by decide +kernel) (pa_cons (pe_op op_addA (pv 4) (pe_op op_mulA pe_int (pv 8))) pa_nil)) pe_int)))))))
  pss_nil)
  (pss_one (ps_expr (kapp K (pv 7) (pa_cons (pv 11) pa_nil))))))))))
  (pss_one (ps_ret (pv 7))))))))))), ?_⟩
    refine Rd.start_ (σ' := [some (.ref p), none, none, none, none, none, none, none, none, none, none, none]) rfl ?_
    walk_at "rd"
    refine ⟨_, _, rfl, by decide, by decide, hp, fun style H1 a1 b1 e1 p1 => ?_⟩
    walk_at "rd"
    refine ⟨_, _, rfl, by decide, by decide, p1, fun shift H2 a2 b2 e2 p2 => ?_⟩
    walk_at "rd"
    refine ⟨_, _, rfl, by decide, by decide, p2, fun d H3 a3 b3 e3 p3 => ?_⟩
    walk_at "rd"
    refine ⟨_, _, rfl, by decide, by decide, p3, fun place H4 a4 b4 e4 p4 => ?_⟩
    walk_at "rd"
    refine ⟨_, _, rfl, by decide, by decide, p4, fun sz H5 a5 b5 e5 p5 => ?_⟩
    have s5 : SameB p H H5 := fun a o n h => by rw [e5 a n, e4 a n, e3 a n, e2 a n, e1 a n]; exact h
    walk_at "rd"
    refine Rd.lcW Rd.wRange (by decide) (fun i acc H' => SameB p H5 H' ∧ PoolAt H' p ∧ ∃ ns : List Int, ns.length = i ∧ acc = ns.map V.int) ⟨SameB.refl _ _, p5, [], rfl, rfl⟩
      (fun D hD i acc ys H' ⟨j1, j2, j3⟩ => ⟨j1.upd hD, PoolAt.upd j2 (pool_ne p5 hD), j3⟩) (fun _ _ _ _ _ => trivial) ?_ ?_
    · intro D hD i x acc H' hi hx hacc hlen ⟨j1, j2, ns, j3, j4⟩ Kt Kf hT hF
      dsimp only [List.set]
      walk_at "rd"
      refine ⟨_, _, rfl, by decide, by decide, j2, fun r H6 r0 r1 e6 p6 => ?_⟩
      refine hT _ _ ?_ ⟨j1.trans (SameB.drawn e6), p6, ns ++ [r], by rw [List.length_append, j3]; rfl, by rw [j4, List.map_append]; rfl⟩
      rw [e6 D (Ne.symm (pool_ne p5 hD))]
      exact hacc
    intro D acc H6 hD hacc hlen ⟨j1, j2, ns, j3, j4⟩
    rw [j4] at hacc
    walk_at "rd"
    refine ⟨_, ns, rfl, SqL.of hacc, by rw [j3]; decide, fun H7 s7 => ?_⟩
    have wl : (wordL ns).length = 8 := by unfold wordL; rw [List.length_map]; exact j3
    have wc : ∀ c ∈ wordL ns, 97 ≤ c ∧ c ≤ 122 := by
      intro c hc
      obtain ⟨z, _, rfl⟩ := List.mem_map.mp hc
      have := Int.emod_lt_of_pos z (show (0 : Int) < 26 by decide)
      omega
    generalize wordL ns = word at wl wc ⊢
    have D8 : Drawn style shift (1 + 2 * d) place (1 + sz) word := ⟨⟨a2, b2⟩, ⟨d, a3, b3, rfl⟩, ⟨a4, b4⟩, ⟨by omega, by omega⟩, wl, wc⟩
    have s7' : SameB p H H7 := (s5.trans j1).trans (SameB.of s7)
    have p7 : PoolAt H7 p := pool_of j2 s7
    walk_at "rd"
    refine ⟨Nat.zero_le _, fun q hq => ?_⟩
    have hq0 : H q = none := by
      cases e : H q with
      | none => rfl
      | some o => rw [s7' q o (Ne.symm (pool_ne p7 hq)) e] at hq; cases hq
    have npq := pool_ne p7 hq
    walk_at "rd"
    refine Rd.foW Rd.wRange (fun i σ H' => ∃ a b c d' : Option V, σ = [some (.ref p), some (.int style), some (.int shift), some (.int (1 + 2 * d)), some (.int place), some (.int (1 + sz)), some (.str (S word)), some (.ref q), a, b, c, d'] ∧
      SameB p H H' ∧ PoolAt H' p ∧ NamesAt H' q ((List.range i).map (nameL style shift (1 + 2 * d) place (1 + sz) word)))
      ⟨none, none, none, none, rfl, s7'.upd hq0, p7.upd npq, upd_same⟩ (fun _ _ _ _ _ => trivial) ?_ ?_
    · rintro i x σ H8 hi hx ⟨a, b, c, d', rfl, t1, t2, t3⟩
      rw [Int.zero_add] at hx
      subst hx
      have hi8 : i < 8 := hi
      dsimp only [List.set]
      have fin : ∀ (z : List Nat) (σ' : St), (∃ a b c d' : Option V, σ' = [some (.ref p), some (.int style), some (.int shift), some (.int (1 + 2 * d)), some (.int place), some (.int (1 + sz)), some (.str (S word)), some (.ref q), a, b, c, d']) → ∀ H9, SameB p H H9 → PoolAt H9 p → H9 q = some (.lst (((List.range i).map (nameL style shift (1 + 2 * d) place (1 + sz) word)).map (fun l => V.str (S l)) ++ [.str (S z)])) → z = nameL style shift (1 + 2 * d) place (1 + sz) word i →
          ∃ a b c d' : Option V, σ' = [some (.ref p), some (.int style), some (.int shift), some (.int (1 + 2 * d)), some (.int place), some (.int (1 + sz)), some (.str (S word)), some (.ref q), a, b, c, d'] ∧
      SameB p H H9 ∧ PoolAt H9 p ∧ NamesAt H9 q ((List.range (i + 1)).map (nameL style shift (1 + 2 * d) place (1 + sz) word)) := by
        rintro z σ' ⟨a, b, c, d', e⟩ H9 q1 q2 q3 rfl
        refine ⟨a, b, c, d', e, q1, q2, ?_⟩
        unfold NamesAt
        rw [List.range_succ, List.map_append, List.map_append]
        exact q3
      walk_at "rd"
      refine ⟨by show 1 ≤ sizeLine; decide, fun l hl => ?_⟩
      walk_at "rd"
      refine ⟨_, [shift + (1 + 2 * d) * i], rfl, SqL.of upd_same, (by show 1 ≤ 100; decide), fun H9 s9 => ?_⟩
      have t1' : SameB p H H9 := (t1.trans (SameB.of (same_new hl))).trans (SameB.of s9)
      have t2' : PoolAt H9 p := pool_of (pool_of t2 (same_new hl)) s9
      have t3' : H9 q = some (.lst (((List.range i).map (nameL style shift (1 + 2 * d) place (1 + sz) word)).map (fun l => V.str (S l)))) := s9 _ _ (same_new hl _ _ t3)
      have g0 : 0 ≤ place % (1 + sz) := Int.emod_nonneg _ (by omega)
      have g1 : place % (1 + sz) < 1 + sz := Int.emod_lt_of_pos _ (by omega)
      have wl1 : word.length ≤ 900 := by omega
      have ll : (wordL [shift + (1 + 2 * d) * ↑i]).length = 1 := rfl
      have hq9 : (((List.range i).map (nameL style shift (1 + 2 * d) place (1 + sz) word)).map (fun l => V.str (S l))).length < sizeLine := by
        rw [List.length_map, List.length_map, List.length_range]
        exact Nat.lt_trans hi8 (by decide)
      have en : ∀ z : List Nat, SameB p H (upd H9 q (.lst (((List.range i).map (nameL style shift (1 + 2 * d) place (1 + sz) word)).map (fun l => V.str (S l)) ++ [.str (S z)]))) ∧ PoolAt (upd H9 q (.lst (((List.range i).map (nameL style shift (1 + 2 * d) place (1 + sz) word)).map (fun l => V.str (S l)) ++ [.str (S z)]))) p :=
        fun z => ⟨t1'.upd hq0, t2'.upd npq⟩
      walk_at "rd"
      refine Rd.iteD (fun c1 => ?_) (fun c1 => ?_)
      · walk_at "rd"
        refine Rd.iteD (fun c2 => absurd c2 (by omega)) (fun c2 => ?_)
        walk_at "rd"
        exact fin _ _ ⟨_, _, _, _, rfl⟩ _ (en _).1 (en _).2 upd_same (nameL1 c1).symm
      · walk_at "rd"
        refine Rd.iteD (fun c2 => ?_) (fun c2 => ?_)
        · walk_at "rd"
          exact fin _ _ ⟨_, _, _, _, rfl⟩ _ (en _).1 (en _).2 upd_same (nameL2 c2).symm
        · walk_at "rd"
          exact fin _ _ ⟨_, _, _, _, rfl⟩ _ (en _).1 (en _).2 upd_same (nameL0 c1 c2).symm
    · rintro σ H8 ⟨a, b, c, d', rfl, t1, t2, t3⟩
      walk_at "rd"
      exact k _ q H8 (by rw [List.length_map, List.length_range]) (fun l hl => by
        obtain ⟨j, hj, rfl⟩ := List.mem_map.mp hl
        exact name_ok D8 (List.mem_range.mp hj)) (names_nodup D8) hq0 t1 t2 t3

end
section
variable {P : Program} {w : World} {K : PySem.W.Frag} {mg : Str → Option Value} {base : Heap} {tk : Tok}
/-! ### the error BadName, require_name -/
abbrev s_BadName___init : Stmt := inClass (top 3) 0
theorem sc_BadName___init : FnScope ["self", "name"] ["self", "name"] (defScope s_BadName___init) := ⟨rfl, rfl, rfl, by decide +kernel, rfl, by decide +kernel, by decide +kernel⟩
abbrev ErN (K : PySem.W.Frag) (mg : Str → Option Value) := Er K mg "BadName" "BadName.__init__" "name" s_BadName___init
theorem ok_bni (r : ErN K mg) : FnOk P w K mg base CX0 1 r.f r.fd ["self", "name"] (spErI r.C "name") := by
  refine r.F.ok sc_BadName___init (fun vs H Q E h => ?_) (fun cdv A outer s H vs Q E hr h => ?_)
  · obtain ⟨a, v, rfl, _⟩ := h
    rfl
  · obtain ⟨a, v, rfl, ha, k⟩ := h
    refine ⟨_, (pss_one (kost K (pv 0) (pv 1))), ?_⟩
    refine Rd.start_ (σ' := [some (.ref a), some v]) rfl ?_
    walk_at "rd"
    exact ⟨a, r.C, rfl, r.T, r.no, .inl ⟨ha, k⟩⟩
/-- an error of the class at C with one field -/
def Raised (E : XK) (C : Addr) (fld : Str) (v : V) (H : Hp) : Prop := ∀ d H', Same H H' → H' d = some (.xd [(fld, v)]) → E (.ref C) (some d) H'
def spReq (C : Addr) : Sp := fun vs H Q E => ∃ l : List Nat, vs = [.str (S l)] ∧ l.length ≤ 100 ∧ (Nm l → ∀ H', Same H H' → Q .non H') ∧ (¬ Nm l → Raised E C "name" (.str (S l)) H)
def lett (l : List Nat) : List Nat := l.filter fun c => decide (97 ≤ c ∧ c ≤ 122)
theorem lett_all {l : List Nat} : (lett l).length < l.length ↔ ¬ ∀ c ∈ l, 97 ≤ c ∧ c ≤ 122 := by
  unfold lett
  constructor
  · intro h z
    rw [List.filter_eq_self.mpr (fun c hc => decide_eq_true (z c hc))] at h
    omega
  · intro h
    refine Nat.lt_of_le_of_ne (List.length_filter_le _ _) fun e => h fun c hc => ?_
    exact of_decide_eq_true (List.length_filter_eq_length_iff.mp e c hc)
abbrev s_require_name : Stmt := top 12
theorem sc_require_name : FnScope ["text", "letters", "sign"] ["text"] (defScope s_require_name) := ⟨rfl, rfl, rfl, by decide +kernel, rfl, by decide +kernel, by decide +kernel⟩
theorem ok_req {f : Addr} {fd : FuncData} (F : Fun K "require_name" "require_name" s_require_name f fd) (T : Bt mg) (eN : ErN K mg) (gL : mg "LONGEST_NAME" = some (.int 8 tk)) : FnOk P w K mg base (L2.CX P w) 3 f fd ["text"] (spReq eN.C) := by
  have GN : FnOk P w K mg base CX0 1 eN.f eN.fd _ (spErI eN.C "name") := ok_bni eN
  refine F.okX sc_require_name (fun vs H Q E h => ?_) (fun cdv A outer s H vs Q E hr h => ?_)
  · obtain ⟨l, rfl, _⟩ := h
    rfl
  · obtain ⟨l, rfl, hl, k1, k2⟩ := h
    have hu := hr.units
    refine ⟨_, (pss_cons (ps_setLc (i := 1) (own := [("sign", 2)]) (g := gName 2) rfl sc_require_name.nd rfl rfl (sw_true rfl rfl rfl (by decide +kernel)) (pi_str (pv 0)) (blkOk_by (N := ["text", "letters", "sign"]) (sc := defScope s_require_name) (by decide +kernel)) (fun _ _ _ _ _ => (pg_name (i := 2) sc_require_name.nd rfl (Or.inl rfl))) (fun _ _ _ _ _ => (pts_one (pt_chain op_leA op_leA (pe_lit [97] (by decide +kernel)) (pv 2) (pe_lit [122] (by decide +kernel))))) (fun _ _ _ _ _ => (pv 2)))
  (pss_one (ps_if (PW.pt (pw_or (pt_not (pt_chain op_leA op_leA pe_int (pe_callB (klen K) (by rfl) T.len (by decide +kernel) (pa_cons (pv 0) pa_nil)) (pe_glob (v := .int 8) rfl gL ⟨_, rfl⟩))) (pw_or1 (pt_cmpR op_ltA (pe_callB (klen K) (by rfl) T.len (by decide +kernel) (pa_cons (pv 1) pa_nil)) (pe_callB (klen K) (by rfl) T.len (by decide +kernel) (pa_cons (pv 0) pa_nil)) (nomark _))))) (pss_one (ps_raise rfl (takes_of rfl rfl rfl rfl) (pmk_er eN GN hr (pa_cons (pv 0) pa_nil))))
  pss_nil))), ?_⟩
    refine Rd.start_ (σ' := [some (.str (S l)), none, none]) rfl ?_
    walk_at "rd"
    refine Rd.lcW Rd.wStr (by show l.toArray.size < _; rw [List.size_toArray]; walk_at "sz") (fun i acc H' => Same H H' ∧ acc = (lett (l.take i)).map fun c => V.str (S [c])) ⟨Same.refl _, rfl⟩
      (fun D hD i acc ys H' j => ⟨same_upd j.1 hD, j.2⟩) (fun _ _ _ _ _ => trivial) ?_ ?_
    · rintro D hD i x acc H' hi ⟨c, hc, rfl⟩ hacc hlen ⟨j1, j2⟩ Kt Kf hT hF
      dsimp only [List.set]
      have hc' : l[i]? = some c := by
        rw [List.getElem?_toArray] at hc; exact hc
      have e1 : ∀ b : Bool, decide (97 ≤ c ∧ c ≤ 122) = b → lett (l.take (i + 1)) = lett (l.take i) ++ (if b then [c] else []) := by
        intro b hb
        unfold lett
        rw [List.take_add_one, hc', List.filter_append]
        congr 1
        cases b with
        | true => simp [of_decide_eq_true hb]
        | false =>
          have := of_decide_eq_false hb
          simp only [Option.toList, List.filter_cons, hb]
          rfl
      walk_at "rd"
      refine Rd.iteD (fun c1 => ?_) (fun c1 => ?_)
      · walk_at "rd"
        refine Rd.iteD (fun c2 => ?_) (fun c2 => ?_)
        · walk_at "rd"
          refine hT _ _ hacc ⟨j1, ?_⟩
          rw [j2, e1 true (decide_eq_true ⟨c1, c2⟩), List.map_append]
          rfl
        · refine hF _ hacc ⟨j1, ?_⟩
          rw [j2, e1 false (decide_eq_false fun z => c2 z.2), List.map_append]
          simp
      · walk_at "rd"
        refine hF _ hacc ⟨j1, ?_⟩
        rw [j2, e1 false (decide_eq_false fun z => c1 z.1), List.map_append]
        simp
    · intro D acc H' hD hacc hlen ⟨j1, j2⟩
      have e0 : l.take (S l).cps.size = l := by
        show l.take l.toArray.size = l
        rw [List.size_toArray, List.take_length]
      rw [e0] at j2
      have hal : acc.length = (lett l).length := by rw [j2, List.length_map]
      have good : Nm l → Q .non H' := fun n => k1 n H' j1
      have badE : ¬ Nm l → ∀ d, H' d = none → E (.ref eN.C) (some d) (upd H' d (.xd [("name", .str (S l))])) := fun n d hd => k2 n d _ (Same.trans j1 (same_new hd)) upd_same
      walk_at "rd"
      refine Rd.iteD (fun c1 => ?_) (fun c1 => ?_)
      · walk_at "rd"
        refine Rd.iteN (fun c2 => ?_) (fun c2 => ?_)
        · walk_at "rd"
          exact Rd.erGo (badE fun n => c2 (by have := n.2.1; omega))
        · walk_at "rd"
          refine Rd.iteD (fun c3 => ?_) (fun c3 => ?_)
          · walk_at "rd"
            rw [hal] at c3
            exact Rd.erGo (badE fun n => lett_all.mp (by omega) n.2.2)
          · walk_at "rd"
            rw [hal] at c3
            refine good ⟨by omega, by omega, ?_⟩
            exact Classical.byContradiction fun z => c3 (by have := lett_all.mpr z; omega)
      · walk_at "rd"
        exact Rd.erGo (badE fun n => c1 (by have := n.1; omega))

end
section
variable {P : Program} {w : World} {K : PySem.W.Frag} {mg : Str → Option Value} {base : Heap} {tk : Tok}
/-! ### roles -/
/-- a class of roles -/
structure Rc (K : PySem.W.Frag) (mg : Str → Option Value) (mI : Addr) (nm : Str) (mk : List Nat) where
  C : Addr
  g : mg nm = some (.ref C)
  cl : Cls K C
  M : Mk K C mI
  nN : NoAttr K C "name"
  nG : NoAttr K C "group"
  u : Value
  mark : Con K C "MARK" (.str (S mk)) u
  ha : PySem.W.findIn K (.ref C) "__class__" = some (some (.builtin "object.__class__"))
  hn : PySem.W.specialIn K (.builtin "object.__class__") "__get__" = some (some (.builtin "getset_descriptor.__get__"))
  htk : PySem.W.takesIn K (.builtin "object.__class__") = some true
  hm : PySem.W.mroIn K C (.type "object") = some true
def flds (n g : List Nat) : List (Str × V) := [("name", .str (S n)), ("group", .str (S g))]
theorem ng_ne : ¬ (("name" : Str) = "group") := by decide +kernel
theorem flds_put (v : V) (n g : List Nat) : putF "group" (.str (S g)) (putF "name" (.str (S n)) []) = flds n g := by
  show (if ("name" : Str) = "group" then [(("name" : Str), V.str (S g))] else (("name" : Str), V.str (S n)) :: putF "group" (V.str (S g)) []) = flds n g
  rw [if_neg ng_ne]
  rfl
theorem flds_name (n g : List Nat) : (flds n g).lookup ("name" : Str) = some (.str (S n)) := by
  unfold flds; simp [List.lookup]
theorem flds_group (n g : List Nat) : (flds n g).lookup ("group" : Str) = some (.str (S g)) := by
  have e : (("group" : Str) == "name") = false := by decide +kernel
  unfold flds; simp [List.lookup, e]
theorem flds_no (n g : List Nat) {m : Str} (h1 : (m == ("name" : Str)) = false) (h2 : (m == ("group" : Str)) = false) : (flds n g).lookup m = none := by
  unfold flds; simp [List.lookup, h1, h2]
/-- a role of the class at C stands at x -/
def RoleAt (C : Addr) (H : Hp) (x : Addr) (n g : List Nat) : Prop := ∃ dx, H x = some (.ins C dx (flds n g))
theorem RoleAt.mono {C : Addr} {H H' : Hp} {x : Addr} {n g : List Nat} (h : RoleAt C H x n g) (e : Same H H') : RoleAt C H' x n g := by
  obtain ⟨dx, h⟩ := h
  exact ⟨dx, e _ _ h⟩
def spInit (K : PySem.W.Frag) (eC : Addr) : Sp := fun vs H Q E => ∃ (p C dx : Addr) (n g : List Nat), vs = [.ref p, .str (S n), .str (S g)] ∧ n.length ≤ 100 ∧ g.length ≤ 100 ∧ Cls K C ∧ NoAttr K C "name" ∧ NoAttr K C "group" ∧ H p = some (.ins C dx []) ∧
  (Nm n → Nm g → ∀ H', SameB p H H' → H' p = some (.ins C dx (flds n g)) → Q .non H') ∧ (¬ Nm n → Raised E eC "name" (.str (S n)) H) ∧ (Nm n → ¬ Nm g → Raised E eC "name" (.str (S g)) H)
abbrev s_Role___init : Stmt := inClass (top 14) 1
theorem sc_Role___init : FnScope ["self", "name", "group"] ["self", "name", "group"] (defScope s_Role___init) := ⟨rfl, rfl, rfl, by decide +kernel, rfl, by decide +kernel, by decide +kernel⟩
theorem Raised.mono {E : XK} {C : Addr} {fld : Str} {v : V} {H H' : Hp} (h : Raised E C fld v H) (e : Same H H') : Raised E C fld v H' := fun d G s q => h d G (e.trans s) q
abbrev DReq (K : PySem.W.Frag) (mg : Str → Option Value) := Df K mg "require_name" "require_name" s_require_name ["text"]
abbrev MInit (K : PySem.W.Frag) := Mf K "__init__" "Role.__init__" s_Role___init ["self", "name", "group"]
theorem ok_init (m : MInit K) (T : Bt mg) (dR : DReq K mg) (eN : ErN K mg) (gL : mg "LONGEST_NAME" = some (.int 8 tk)) : FnOk P w K mg base (L2.CX P w) 4 m.f m.fd ["self", "name", "group"] (spInit K eN.C) := by
  have GR : FnOk P w K mg base (L2.CX P w) 3 dR.f dR.fd _ (spReq eN.C) := ok_req dR.F T eN gL
  refine m.F.okX sc_Role___init (fun vs H Q E h => ?_) (fun cdv A outer s H vs Q E hr h => ?_)
  · obtain ⟨p, C, dx, n, g, rfl, _⟩ := h
    rfl
  · obtain ⟨p, C, dx, n, g, rfl, hn, hg, cl, nN, nG, hp, k1, k2, k3⟩ := h
    refine ⟨_, (pss_cons (ps_expr (pe_cf dR GR hr (passes_call (takes_of rfl rfl rfl rfl) (fun _ _ _ _ h => h)) (pa_cons (pv 1) pa_nil)))
  (pss_cons (ps_expr (pe_cf dR GR hr (passes_call (takes_of rfl rfl rfl rfl) (fun _ _ _ _ h => h)) (pa_cons (pv 2) pa_nil)))
  (pss_cons (kset (pv 0) (pv 1))
  (pss_one (kset (pv 0) (pv 2)))))), ?_⟩
    refine Rd.start_ (σ' := [some (.ref p), some (.str (S n)), some (.str (S g))]) rfl ?_
    walk_at "rd"
    refine ⟨n, rfl, hn, fun a1 H1 s1 => ?_, fun a1 => k2 a1⟩
    walk_at "rd"
    refine ⟨g, rfl, hg, fun a2 H2 s2 => ?_, fun a2 => (k3 a1 a2).mono s1⟩
    walk_at "rd"
    have hp2 := s2 _ _ (s1 _ _ hp)
    refine ⟨p, C, dx, [], rfl, hp2, cl, nN, by decide, ?_⟩
    walk_at "rd"
    refine ⟨p, C, dx, _, rfl, upd_same, cl, nG, by show 1 < 1000; decide, ?_⟩
    refine k1 a1 a2 _ (fun a o na ha => ?_) ?_
    · rw [upd_ne na, upd_ne na]
      exact s2 _ _ (s1 _ _ ha)
    · rw [upd_same, flds_put .non]
/-- C(name, group), C a class of roles -/
theorem mk_go {mI : Addr} {nm : Str} {mk : List Nat} (c : Rc K mg mI nm mk) {eC : Addr} {n g : List Nat} {H : Hp} {Q : VK} {E : XK} (hn : n.length ≤ 100) (hg : g.length ≤ 100)
    (k1 : Nm n → Nm g → ∀ x H', H x = none → Same H H' → RoleAt c.C H' x n g → Q (.ref x) H') (k2 : ¬ Nm n → Raised E eC "name" (.str (S n)) H) (k3 : Nm n → ¬ Nm g → Raised E eC "name" (.str (S g)) H) :
    MkGo c.C (spInit K eC) [.str (S n), .str (S g)] H Q E := by
  intro x dx hx hd ne
  have s0 : Same H (upd (upd H dx (.own x)) x (.ins c.C dx [])) := fun b o e => by
    rw [upd_ne (ne_of_none e hx), upd_ne (ne_of_none e hd)]; exact e
  refine ⟨x, c.C, dx, n, g, rfl, hn, hg, c.cl, c.nN, c.nG, upd_same, fun a1 a2 H' s1 h1 => ⟨rfl, ?_⟩, fun a1 => (k2 a1).mono s0, fun a1 a2 => (k3 a1 a2).mono s0⟩
  exact k1 a1 a2 x H' hx (fun b o e => s1 b o (ne_of_none e hx) (s0 b o e)) ⟨dx, h1⟩
/-! ### their methods -/
def spTells (v : V) : Sp := fun vs H Q _ => ∃ p : Addr, vs = [.ref p] ∧ Q v H
theorem ok_tells {nm qual : Str} {st : Stmt} {pos pos' : Pos} {j : Nat} {b : Bool} (m : Mf K nm qual st ["self"]) (S0 : FnScope ["self"] ["self"] (defScope st)) (hb : defBody st = [.Return (some (.Constant (.bool b) j pos)) pos']) : FnOk P w K mg base CX0 1 m.f m.fd ["self"] (spTells (.bl b)) := by
  refine m.F.ok S0 (fun vs H Q E h => ?_) (fun cdv A outer s H vs Q E hr h => ?_)
  · obtain ⟨p, rfl, _⟩ := h
    rfl
  · obtain ⟨p, rfl, k⟩ := h
    rw [hb]
    exact ⟨_, pss_one (ps_ret pe_bl), k⟩
abbrev s_Role_reads : Stmt := inClass (top 14) 2
theorem sc_Role_reads : FnScope ["self"] ["self"] (defScope s_Role_reads) := ⟨rfl, rfl, rfl, by decide +kernel, rfl, by decide +kernel, by decide +kernel⟩
abbrev s_Role_makes : Stmt := inClass (top 14) 3
theorem sc_Role_makes : FnScope ["self"] ["self"] (defScope s_Role_makes) := ⟨rfl, rfl, rfl, by decide +kernel, rfl, by decide +kernel, by decide +kernel⟩
abbrev s_Role_derived : Stmt := inClass (top 14) 4
theorem sc_Role_derived : FnScope ["self"] ["self"] (defScope s_Role_derived) := ⟨rfl, rfl, rfl, by decide +kernel, rfl, by decide +kernel, by decide +kernel⟩
abbrev s_Read_reads : Stmt := inClass (top 15) 1
theorem sc_Read_reads : FnScope ["self"] ["self"] (defScope s_Read_reads) := ⟨rfl, rfl, rfl, by decide +kernel, rfl, by decide +kernel, by decide +kernel⟩
abbrev s_Fresh_makes : Stmt := inClass (top 16) 1
theorem sc_Fresh_makes : FnScope ["self"] ["self"] (defScope s_Fresh_makes) := ⟨rfl, rfl, rfl, by decide +kernel, rfl, by decide +kernel, by decide +kernel⟩
abbrev s_Made_makes : Stmt := inClass (top 18) 1
theorem sc_Made_makes : FnScope ["self"] ["self"] (defScope s_Made_makes) := ⟨rfl, rfl, rfl, by decide +kernel, rfl, by decide +kernel, by decide +kernel⟩
abbrev s_Made_derived : Stmt := inClass (top 18) 2
theorem sc_Made_derived : FnScope ["self"] ["self"] (defScope s_Made_derived) := ⟨rfl, rfl, rfl, by decide +kernel, rfl, by decide +kernel, by decide +kernel⟩
abbrev MRr (K : PySem.W.Frag) := Mf K "reads" "Role.reads" s_Role_reads ["self"]
theorem ok_Rr (m : MRr K) : FnOk P w K mg base CX0 1 m.f m.fd ["self"] (spTells (.bl false)) := ok_tells m sc_Role_reads rfl
abbrev MRm (K : PySem.W.Frag) := Mf K "makes" "Role.makes" s_Role_makes ["self"]
theorem ok_Rm (m : MRm K) : FnOk P w K mg base CX0 1 m.f m.fd ["self"] (spTells (.bl false)) := ok_tells m sc_Role_makes rfl
abbrev MRd (K : PySem.W.Frag) := Mf K "derived" "Role.derived" s_Role_derived ["self"]
theorem ok_Rd (m : MRd K) : FnOk P w K mg base CX0 1 m.f m.fd ["self"] (spTells (.bl false)) := ok_tells m sc_Role_derived rfl
abbrev MEr (K : PySem.W.Frag) := Mf K "reads" "Read.reads" s_Read_reads ["self"]
theorem ok_Er (m : MEr K) : FnOk P w K mg base CX0 1 m.f m.fd ["self"] (spTells (.bl true)) := ok_tells m sc_Read_reads rfl
abbrev MFm (K : PySem.W.Frag) := Mf K "makes" "Fresh.makes" s_Fresh_makes ["self"]
theorem ok_Fm (m : MFm K) : FnOk P w K mg base CX0 1 m.f m.fd ["self"] (spTells (.bl true)) := ok_tells m sc_Fresh_makes rfl
abbrev MMm (K : PySem.W.Frag) := Mf K "makes" "Made.makes" s_Made_makes ["self"]
theorem ok_Mm (m : MMm K) : FnOk P w K mg base CX0 1 m.f m.fd ["self"] (spTells (.bl true)) := ok_tells m sc_Made_makes rfl
abbrev MMd (K : PySem.W.Frag) := Mf K "derived" "Made.derived" s_Made_derived ["self"]
theorem ok_Md (m : MMd K) : FnOk P w K mg base CX0 1 m.f m.fd ["self"] (spTells (.bl true)) := ok_tells m sc_Made_derived rfl

end
section
variable {P : Program} {w : World} {K : PySem.W.Frag} {mg : Str → Option Value} {base : Heap} {tk : Tok}
/-! ### the law's helpers -/
structure Six (K : PySem.W.Frag) (mg : Str → Option Value) (mI : Addr) where
  r : Rc K mg mI "Role" []
  e : Rc K mg mI "Read" [114]
  m : Rc K mg mI "Made" [109]
  f : Rc K mg mI "Fresh" [102]
  b : Rc K mg mI "Both" [114, 109]
  w : Rc K mg mI "Renewed" [114, 102]
section
variable {mI : Addr}
/-- the class of the mode m -/
def Six.C (c : Six K mg mI) : Nat → Addr
  | 0 => c.e.C
  | 1 => c.m.C
  | 2 => c.f.C
  | 3 => c.b.C
  | 4 => c.w.C
  | _ => c.r.C
theorem Six.cl (c : Six K mg mI) (m : Nat) : Cls K (c.C m) := match m with
  | 0 => c.e.cl
  | 1 => c.m.cl
  | 2 => c.f.cl
  | 3 => c.b.cl
  | 4 => c.w.cl
  | _ + 5 => c.r.cl
theorem Six.nN (c : Six K mg mI) (m : Nat) : NoAttr K (c.C m) "name" := match m with
  | 0 => c.e.nN
  | 1 => c.m.nN
  | 2 => c.f.nN
  | 3 => c.b.nN
  | 4 => c.w.nN
  | _ + 5 => c.r.nN
theorem Six.nG (c : Six K mg mI) (m : Nat) : NoAttr K (c.C m) "group" := match m with
  | 0 => c.e.nG
  | 1 => c.m.nG
  | 2 => c.f.nG
  | 3 => c.b.nG
  | 4 => c.w.nG
  | _ + 5 => c.r.nG
theorem Six.ty (c : Six K mg mI) (m : Nat) {H : Hp} {p dx : Addr} {fs : List (Str × V)} (h : H p = some (.ins (c.C m) dx fs)) : TyX K H (.ref p) (.ref (c.C m)) := match m, h with
  | 0, h => .base (.ins h c.e.cl c.e.ha c.e.hn c.e.htk c.e.hm)
  | 1, h => .base (.ins h c.m.cl c.m.ha c.m.hn c.m.htk c.m.hm)
  | 2, h => .base (.ins h c.f.cl c.f.ha c.f.hn c.f.htk c.f.hm)
  | 3, h => .base (.ins h c.b.cl c.b.ha c.b.hn c.b.htk c.b.hm)
  | 4, h => .base (.ins h c.w.cl c.w.ha c.w.hn c.w.htk c.w.hm)
  | _ + 5, h => .base (.ins h c.r.cl c.r.ha c.r.hn c.r.htk c.r.hm)
end
/-- a new role of the mode m, or BadName -/
def spRole (eC : Addr) (C : Nat → Addr) (lim : Nat) : Sp := fun vs H Q E => ∃ (n g : List Nat) (m : Nat), vs = [.str (S n), .str (S g), .int (m : Nat)] ∧ m < lim ∧ n.length ≤ 100 ∧ g.length ≤ 100 ∧
  (Nm n → Nm g → ∀ x H', H x = none → Same H H' → RoleAt (C m) H' x n g → Q (.ref x) H') ∧ (¬ Nm n → Raised E eC "name" (.str (S n)) H) ∧ (Nm n → ¬ Nm g → Raised E eC "name" (.str (S g)) H)
abbrev s_law_role : Stmt := top 37
theorem sc_law_role : FnScope ["_law_name", "_law_group", "_law_mode"] ["_law_name", "_law_group", "_law_mode"] (defScope s_law_role) := ⟨rfl, rfl, rfl, by decide +kernel, rfl, by decide +kernel, by decide +kernel⟩
abbrev DRo (K : PySem.W.Frag) (mg : Str → Option Value) := Df K mg "_law_role" "_law_role" s_law_role ["_law_name", "_law_group", "_law_mode"]
theorem ok_role (d : DRo K mg) (mI : MInit K) (c : Six K mg mI.f) (T : Bt mg) (dR : DReq K mg) (eN : ErN K mg) (gL : mg "LONGEST_NAME" = some (.int 8 tk)) : FnOk P w K mg base (L2.CX P w) 6 d.f d.fd ["_law_name", "_law_group", "_law_mode"] (spRole eN.C c.C 5) := by
  have GI : FnOk P w K mg base (L2.CX P w) 4 mI.f mI.fd _ (spInit K eN.C) := ok_init mI T dR eN gL
  refine d.F.okX sc_law_role (fun vs H Q E h => ?_) (fun cdv A outer s H vs Q E hr h => ?_)
  · obtain ⟨n, g, m, rfl, _⟩ := h
    rfl
  · obtain ⟨n, g, m, rfl, hm, hn, hg, k1, k2, k3⟩ := h
    have hu := hr.units
    refine ⟨_, (pss_cons (ps_if (pt_cmpR (keq K hu) (pv 2) pe_int (nomark _)) (pss_one (ps_ret (pe_mk mI c.e.M c.e.g GI hr (passes_call (takes_of rfl rfl rfl rfl) (fun _ _ _ _ h => h)) (pa_cons (pv 0) (pa_cons (pv 1) pa_nil)))))
  pss_nil)
  (pss_cons (ps_if (pt_cmpR (keq K hu) (pv 2) pe_int (nomark _)) (pss_one (ps_ret (pe_mk mI c.m.M c.m.g GI hr (passes_call (takes_of rfl rfl rfl rfl) (fun _ _ _ _ h => h)) (pa_cons (pv 0) (pa_cons (pv 1) pa_nil)))))
  pss_nil)
  (pss_cons (ps_if (pt_cmpR (keq K hu) (pv 2) pe_int (nomark _)) (pss_one (ps_ret (pe_mk mI c.f.M c.f.g GI hr (passes_call (takes_of rfl rfl rfl rfl) (fun _ _ _ _ h => h)) (pa_cons (pv 0) (pa_cons (pv 1) pa_nil)))))
  pss_nil)
  (pss_cons (ps_if (pt_cmpR (keq K hu) (pv 2) pe_int (nomark _)) (pss_one (ps_ret (pe_mk mI c.b.M c.b.g GI hr (passes_call (takes_of rfl rfl rfl rfl) (fun _ _ _ _ h => h)) (pa_cons (pv 0) (pa_cons (pv 1) pa_nil)))))
  pss_nil)
  (pss_one (ps_ret (pe_mk mI c.w.M c.w.g GI hr (passes_call (takes_of rfl rfl rfl rfl) (fun _ _ _ _ h => h)) (pa_cons (pv 0) (pa_cons (pv 1) pa_nil))))))))), ?_⟩
    refine Rd.start_ (σ' := [some (.str (S n)), some (.str (S g)), some (.int m)]) rfl ?_
    have hm' : m = 0 ∨ m = 1 ∨ m = 2 ∨ m = 3 ∨ m = 4 := by omega
    rcases hm' with rfl | rfl | rfl | rfl | rfl <;>
    · walk_at "rd"
      repeat (first | exact mk_go _ hn hg k1 k2 k3 | (refine Rd.iteD (fun h => ?_) (fun h => ?_)) | (exfalso; revert h; decide) | walk_at "rd1")
/-! whether a role of the mode m reads, makes, is derived; to which classes it belongs -/
def rdB (m : Nat) : Bool := decide (m = 0 ∨ m = 3 ∨ m = 4)
def mkB (m : Nat) : Bool := decide (1 ≤ m ∧ m ≤ 4)
def dvB (m : Nat) : Bool := decide (m = 1 ∨ m = 3)
def spLr : Sp := fun vs H Q _ => ∃ m : Nat, m < 5 ∧ vs = [.int m] ∧ Q (.bl (rdB m)) H
def spLd : Sp := fun vs H Q _ => ∃ m : Nat, m < 6 ∧ vs = [.int m] ∧ Q (.bl (dvB m)) H
theorem lr_go {m : Nat} {H : Hp} {Q : VK} {E : XK} (h : m < 5) (q : Q (.bl (rdB m)) H) : spLr ([.int m] ++ []) H Q E := ⟨m, h, rfl, q⟩
theorem ld_go {m : Nat} {H : Hp} {Q : VK} {E : XK} (h : m < 6) (q : Q (.bl (dvB m)) H) : spLd ([.int m] ++ []) H Q E := ⟨m, h, rfl, q⟩
abbrev s_law_reads : Stmt := top 45
theorem sc_law_reads : FnScope ["_law_mode"] ["_law_mode"] (defScope s_law_reads) := ⟨rfl, rfl, rfl, by decide +kernel, rfl, by decide +kernel, by decide +kernel⟩
abbrev s_law_derived : Stmt := top 40
theorem sc_law_derived : FnScope ["_law_mode"] ["_law_mode"] (defScope s_law_derived) := ⟨rfl, rfl, rfl, by decide +kernel, rfl, by decide +kernel, by decide +kernel⟩
theorem ok_lr {f : Addr} {fd : FuncData} (F : Fun K "_law_reads" "_law_reads" s_law_reads f fd) : FnOk P w K mg base CX0 1 f fd ["_law_mode"] spLr := by
  refine F.ok sc_law_reads (fun vs H Q E h => ?_) (fun cdv A outer s H vs Q E hr h => ?_)
  · obtain ⟨m, _, rfl, _⟩ := h
    rfl
  · obtain ⟨m, hm, rfl, k⟩ := h
    have hu := hr.units
    refine ⟨_, (pss_one (ps_ret (pe_or (pe_cmpR (keq K hu) (pv 0) pe_int (nomark _)) (pe_one (pe_cmpR op_geI (pv 0) pe_int (nomark _)))))), ?_⟩
    refine Rd.start_ (σ' := [some (.int m)]) rfl ?_
    have hm' : m = 0 ∨ m = 1 ∨ m = 2 ∨ m = 3 ∨ m = 4 := by omega
    walk_at "rd"
    rcases hm' with rfl | rfl | rfl | rfl | rfl
    all_goals
      refine Rd.iteD (fun h => ?_) (fun h => ?_)
      all_goals first | exact k | (exfalso; revert h; decide) | (walk_at "rd"; exact k)
theorem ok_ld {f : Addr} {fd : FuncData} (F : Fun K "_law_derived" "_law_derived" s_law_derived f fd) : FnOk P w K mg base CX0 1 f fd ["_law_mode"] spLd := by
  refine F.ok sc_law_derived (fun vs H Q E h => ?_) (fun cdv A outer s H vs Q E hr h => ?_)
  · obtain ⟨m, _, rfl, _⟩ := h
    rfl
  · obtain ⟨m, hm, rfl, k⟩ := h
    have hu := hr.units
    refine ⟨_, (pss_one (ps_ret (pe_or (pe_cmpR (keq K hu) (pv 0) pe_int (nomark _)) (pe_one (pe_cmpR (keq K hu) (pv 0) pe_int (nomark _)))))), ?_⟩
    refine Rd.start_ (σ' := [some (.int m)]) rfl ?_
    have hm' : m = 0 ∨ m = 1 ∨ m = 2 ∨ m = 3 ∨ m = 4 ∨ m = 5 := by omega
    walk_at "rd"
    rcases hm' with rfl | rfl | rfl | rfl | rfl | rfl
    all_goals
      refine Rd.iteD (fun h => ?_) (fun h => ?_)
      all_goals first | exact k | (exfalso; revert h; decide) | (walk_at "rd"; exact k)

end
section
variable {P : Program} {w : World} {K : PySem.W.Frag} {mg : Str → Option Value} {base : Heap} {tk : Tok}
/-! ### names that stand twice -/
theorem none_same {H H' : Hp} {t : Addr} (e : Same H H') (h : H' t = none) : H t = none := by
  cases q : H t with
  | none => rfl
  | some o => rw [e _ _ q] at h; cases h
theorem inV_strs (x : List Nat) (ns : List (List Nat)) : inV (.str (S x)) (ns.map fun l => V.str (S l)) = decide (x ∈ ns) := by
  unfold inV
  induction ns with
  | nil => rfl
  | cons y ns ih =>
    rw [List.map_cons, List.any_cons, ih]
    have e : eqV (V.str (S y)) (V.str (S x)) = decide (x = y) := by
      have e0 : eqV (V.str (S y)) (V.str (S x)) = decide (S y = S x) := rfl
      rw [e0, dec_S]
      exact decide_eq_decide.mpr ⟨Eq.symm, Eq.symm⟩
    rw [e]
    by_cases h : x = y
    · subst h; simp
    · simp [h]
theorem flat_strs (ns : List (List Nat)) : (ns.map fun l => V.str (S l)).all flatV = true := by
  induction ns with
  | nil => rfl
  | cons y ns ih => rw [List.map_cons, List.all_cons, ih]; rfl
theorem nodup_take {ns : List (List Nat)} {i : Nat} {x : List Nat} (h : ns[i]? = some x) (a : (ns.take i).Nodup) (b : x ∉ ns.take i) : (ns.take (i + 1)).Nodup := by
  rw [List.take_add_one, h]
  exact List.nodup_append.mpr ⟨a, by simp, fun y hy z hz e => b (by rw [List.mem_singleton.mp (show z ∈ [x] from hz)] at e; rw [← e]; exact hy)⟩
theorem not_nodup {ns : List (List Nat)} {i : Nat} {x : List Nat} (h : ns[i]? = some x) (b : x ∈ ns.take i) : ¬ ns.Nodup := fun q => by
  have q1 : (ns.take (i + 1)).Nodup := List.Sublist.nodup (List.take_sublist _ _) q
  rw [List.take_add_one, h] at q1
  exact (List.nodup_append.mp q1).2.2 x b x (List.mem_singleton.mpr rfl) rfl
theorem cutV_to (xs : List V) (i : Nat) : cutV xs none (some (i : Int)) = xs.take i := by
  unfold cutV
  rw [sIx_ge (by omega)]
  show (xs.drop 0).take (min (i : Int).toNat xs.length - 0) = xs.take i
  rw [List.drop_zero, Nat.sub_zero, Int.toNat_natCast]
  by_cases h : i ≤ xs.length
  · rw [Nat.min_eq_left h]
  · rw [Nat.min_eq_right (by omega), List.take_length, List.take_of_length_le (by omega)]
/-- the first name that stands earlier -/
def Frep (ns : List (List Nat)) (i : Nat) (x : List Nat) : Prop := ns[i]? = some x ∧ x ∈ ns.take i ∧ (ns.take i).Nodup
def spRep (K : PySem.W.Frag) : Sp := fun vs H Q _ => ∃ (a : Addr) (ns : List (List Nat)), vs = [.ref a] ∧ SqL K H a (ns.map fun l => V.str (S l)) ∧ ns.length ≤ 100 ∧ ∀ H', Same H H' → (ns.Nodup → Q .non H') ∧ (∀ i x, Frep ns i x → Q (.str (S x)) H')
abbrev s_first_repeated : Stmt := top 13
theorem sc_first_repeated : FnScope ["names", "at", "name"] ["names"] (defScope s_first_repeated) := ⟨rfl, rfl, rfl, by decide +kernel, rfl, by decide +kernel, by decide +kernel⟩
theorem ok_rep {f : Addr} {fd : FuncData} (F : Fun K "first_repeated" "first_repeated" s_first_repeated f fd) (T : Bt mg) (hEn : mg "enumerate" = none) : FnOk P w K mg base CX0 1 f fd ["names"] (spRep K) := by
  refine F.ok sc_first_repeated (fun vs H Q E h => ?_) (fun cdv A outer s H vs Q E hr h => ?_)
  · obtain ⟨a, ns, rfl, _⟩ := h
    rfl
  · obtain ⟨a, ns, rfl, hS, hl, k⟩ := h
    have hu := hr.units
    refine ⟨_, (pss_cons (ps_for PassesOwn.never rfl (kenum K hEn (pa_cons (pv 0) pa_nil)) (kgt2 K (pg_name (i := 1) sc_first_repeated.nd rfl (Or.inl rfl)) (pg_name (i := 2) sc_first_repeated.nd rfl (Or.inl rfl)))
  (pss_one (ps_if (pt_cmpR (kin K) (pv 2) (pe_slice (ksl K) (pv 0) po_none (po_some (pv 1))) rfl) (pss_one (ps_ret (pv 2)))
  pss_nil)))
  (pss_one (ps_ret pe_non))), ?_⟩
    refine Rd.start_ (σ' := [some (.ref a), none, none]) rfl ?_
    walk_at "rd"
    refine Rd.foE ?_
    walk_at "rd"
    refine Rd.exlist1 hS ?_
    refine Rd.foP (fun i σ H' => ∃ o1 o2, σ = [some (.ref a), o1, o2] ∧ Same H H' ∧ (ns.take i).Nodup) ⟨_, _, rfl, Same.refl _, List.nodup_nil⟩ (fun i σ H' hi ⟨_, _, _, j, _⟩ => j.seq hS) ?_ ?_
    · rintro i x σ H' t hi hx ⟨o1, o2, rfl, j1, j2⟩ ht
      rw [List.getElem?_map] at hx
      obtain ⟨z, hz, rfl⟩ := Option.map_eq_some_iff.mp hx
      dsimp only [List.set]
      have s1 := same_upd (o := .tup [.int (i : Nat), .str (S z)]) j1 (none_same j1 ht)
      walk_at "rd"
      refine Rd.slL (s1.seq hS) fun q hq => ?_
      rw [cutV_to, ← List.map_take]
      have s2 := same_upd (o := .lst ((ns.take i).map fun l => V.str (S l))) s1 (none_same s1 hq)
      refine ⟨q, _, rfl, .inl (SqL.of upd_same), rfl, flat_strs _, ?_⟩
      show ∃ k, V.bl (inV _ _) = .bl k ∧ _
      rw [inV_strs]
      walk_at "rd"
      refine Rd.iteD (fun c => ?_) (fun c => ?_)
      · walk_at "rd"
        exact (k _ s2).2 i z ⟨hz, c, j2⟩
      · walk_at "rd"
        exact ⟨_, _, rfl, s2, nodup_take hz j2 c⟩
    · rintro σ H' ⟨o1, o2, rfl, j1, j2⟩
      rw [List.length_map, List.take_length] at j2
      walk_at "rd"
      exact (k _ j1).1 j2

end
section
variable {P : Program} {w : World} {K : PySem.W.Frag} {mg : Str → Option Value} {base : Heap} {tk : Tok}
/-! ### roles in a list; the error BadKind; a new kind -/
/-- Tells as in the helper of a class's method without arguments -/
def Tells (P : Program) (w : World) (K : PySem.W.Frag) (mg : Str → Option Value) (base : Heap) (C : Addr) (m : Str) (v : V) : Prop := ∃ (nm q : Str) (st : Stmt) (d : Mf K nm q st ["self"]), Meth K C m d.f ∧ FnOk P w K mg base CX0 1 d.f d.fd ["self"] (spTells v)
structure Ro where
  a : Addr
  n : List Nat
  g : List Nat
  m : Nat
def RoOk (C : Nat → Addr) (H : Hp) (r : Ro) : Prop := r.m < 5 ∧ RoleAt (C r.m) H r.a r.n r.g
def RosOk (C : Nat → Addr) (H : Hp) (rs : List Ro) : Prop := ∀ r ∈ rs, RoOk C H r
theorem RosOk.mono {C : Nat → Addr} {H H' : Hp} {rs : List Ro} (h : RosOk C H rs) (e : Same H H') : RosOk C H' rs := fun r hr => ⟨(h r hr).1, (h r hr).2.mono e⟩
abbrev refs (rs : List Ro) : List V := rs.map fun r => V.ref r.a
theorem ref_at {rs : List Ro} {i : Nat} {x : V} (h : (refs rs)[i]? = some x) : ∃ r, rs[i]? = some r ∧ x = .ref r.a := by
  rw [List.getElem?_map] at h
  obtain ⟨r, h1, h2⟩ := Option.map_eq_some_iff.mp h
  exact ⟨r, h1, h2.symm⟩
abbrev s_BadKind___init : Stmt := inClass (top 4) 0
theorem sc_BadKind___init : FnScope ["self", "name"] ["self", "name"] (defScope s_BadKind___init) := ⟨rfl, rfl, rfl, by decide +kernel, rfl, by decide +kernel, by decide +kernel⟩
abbrev ErK (K : PySem.W.Frag) (mg : Str → Option Value) := Er K mg "BadKind" "BadKind.__init__" "name" s_BadKind___init
theorem ok_bki (r : ErK K mg) : FnOk P w K mg base CX0 1 r.f r.fd ["self", "name"] (spErI r.C "name") := by
  refine r.F.ok sc_BadKind___init (fun vs H Q E h => ?_) (fun cdv A outer s H vs Q E hr h => ?_)
  · obtain ⟨a, v, rfl, _⟩ := h
    rfl
  · obtain ⟨a, v, rfl, ha, k⟩ := h
    refine ⟨_, (pss_one (kost K (pv 0) (pv 1))), ?_⟩
    refine Rd.start_ (σ' := [some (.ref a), some v]) rfl ?_
    walk_at "rd"
    exact ⟨a, r.C, rfl, r.T, r.no, .inl ⟨ha, k⟩⟩
abbrev s_NoKind___init : Stmt := inClass (top 5) 0
theorem sc_NoKind___init : FnScope ["self", "name"] ["self", "name"] (defScope s_NoKind___init) := ⟨rfl, rfl, rfl, by decide +kernel, rfl, by decide +kernel, by decide +kernel⟩
abbrev ErR (K : PySem.W.Frag) (mg : Str → Option Value) := Er K mg "NoKind" "NoKind.__init__" "name" s_NoKind___init
theorem ok_nri (r : ErR K mg) : FnOk P w K mg base CX0 1 r.f r.fd ["self", "name"] (spErI r.C "name") := by
  refine r.F.ok sc_NoKind___init (fun vs H Q E h => ?_) (fun cdv A outer s H vs Q E hr h => ?_)
  · obtain ⟨a, v, rfl, _⟩ := h
    rfl
  · obtain ⟨a, v, rfl, ha, k⟩ := h
    refine ⟨_, (pss_one (kost K (pv 0) (pv 1))), ?_⟩
    refine Rd.start_ (σ' := [some (.ref a), some v]) rfl ?_
    walk_at "rd"
    exact ⟨a, r.C, rfl, r.T, r.no, .inl ⟨ha, k⟩⟩
def KindOk (rs : List Ro) : Prop := 1 ≤ rs.length ∧ rs.length ≤ 6 ∧ (rs.map (·.n)).Nodup ∧ ∃ r ∈ rs, mkB r.m = true
def kflds (n : List Nat) (t : Addr) : List (Str × V) := [("name", .str (S n)), ("roles", .ref t)]
def spKInit (K : PySem.W.Frag) (C : Nat → Addr) (eN eK : Addr) : Sp := fun vs H Q E => ∃ (p D dx a : Addr) (n : List Nat) (rs : List Ro), vs = [.ref p, .str (S n), .ref a] ∧ n.length ≤ 100 ∧ Cls K D ∧ NoAttr K D "name" ∧ NoAttr K D "roles" ∧ H p = some (.ins D dx []) ∧
  H a = some (.lst (refs rs)) ∧ RosOk C H rs ∧ rs.length ≤ 8 ∧
  (Nm n → KindOk rs → ∀ H' t, SameB p H H' → H' p = some (.ins D dx (kflds n t)) → H' t = some (.tup (refs rs)) → t ≠ p → Q .non H') ∧ (¬ Nm n → Raised E eN "name" (.str (S n)) H) ∧ (Nm n → ¬ KindOk rs → Raised E eK "name" (.str (S n)) H)
abbrev s_Kind___init : Stmt := inClass (top 20) 0
theorem sc_Kind___init : FnScope ["self", "name", "roles", "names", "role"] ["self", "name", "roles"] (defScope s_Kind___init) := ⟨rfl, rfl, rfl, by decide +kernel, rfl, by decide +kernel, by decide +kernel⟩
abbrev MKi (K : PySem.W.Frag) := Mf K "__init__" "Kind.__init__" s_Kind___init ["self", "name", "roles"]
abbrev DRep (K : PySem.W.Frag) (mg : Str → Option Value) := Df K mg "first_repeated" "first_repeated" s_first_repeated ["names"]
theorem any_mk {rs : List Ro} : (rs.map fun r => mkB r.m).any id = true ↔ ∃ r ∈ rs, mkB r.m = true := by
  rw [List.any_map, List.any_eq_true]
  rfl
theorem nr_ne : ¬ (("name" : Str) = "roles") := by decide +kernel
theorem kflds_put (n : List Nat) (t : Addr) : putF "roles" (.ref t) (putF "name" (.str (S n)) []) = kflds n t := by
  show (if ("name" : Str) = "roles" then [(("name" : Str), V.ref t)] else (("name" : Str), V.str (S n)) :: putF "roles" (V.ref t) []) = kflds n t
  rw [if_neg nr_ne]
  rfl
theorem ok_kinit {mI : Addr} (m : MKi K) (T : Bt mg) (hEn : mg "enumerate" = none) (dR : DReq K mg) (dF : DRep K mg) (c : Six K mg mI) (eN : ErN K mg) (eK : ErK K mg) (gL : mg "LONGEST_NAME" = some (.int 8 tk)) {tk2 : Tok} (gM : mg "MOST_ROLES" = some (.int 6 tk2))
    (t2 : ∀ m, m < 5 → Tells P w K mg base (c.C m) "makes" (.bl (mkB m))) : FnOk P w K mg base (L2.CX P w) 4 m.f m.fd ["self", "name", "roles"] (spKInit K c.C eN.C eK.C) := by
  have GR : FnOk P w K mg base (L2.CX P w) 3 dR.f dR.fd _ (spReq eN.C) := ok_req dR.F T eN gL
  have GF : FnOk P w K mg base CX0 1 dF.f dF.fd _ (spRep K) := ok_rep dF.F T hEn
  have GK : FnOk P w K mg base CX0 1 eK.f eK.fd _ (spErI eK.C "name") := ok_bki eK
  refine m.F.okX sc_Kind___init (fun vs H Q E h => ?_) (fun cdv A outer s H vs Q E hr h => ?_)
  · obtain ⟨p, D, dx, a, n, rs, rfl, _⟩ := h
    rfl
  · obtain ⟨p, D, dx, a, n, rs, rfl, hn, cl, nN, nR, hp, hS, hro, hl, k1, k2, k3⟩ := h
    have hu := hr.units
    have hr1 : Room 1 _ := hr.mono (by decide)
    have hr2 : Room 2 _ := hr.mono (by decide)
    refine ⟨_, (pss_cons (ps_expr (pe_cf dR GR hr (passes_call (takes_of rfl rfl rfl rfl) (fun _ _ _ _ h => h)) (pa_cons (pv 1) pa_nil)))
  (pss_cons (ps_setLc (i := 3) (own := [("role", 4)]) (g := gName 4) (tt := tYes) rfl sc_Kind___init.nd rfl rfl (sw_true rfl rfl rfl (by decide +kernel)) (kpl K (pv 2)) (blkOk_by (N := ["self", "name", "roles", "names", "role"]) (sc := defScope s_Kind___init) (by decide +kernel)) (fun _ _ _ _ _ => (pg_name (i := 4) sc_Kind___init.nd rfl (Or.inl rfl))) (fun _ _ _ _ _ => pts_nil) (fun _ _ _ _ _ => (kfld K (pv 4))))
  (pss_cons (ps_if (PW.pt (pw_or (pt_not (pt_chain op_leA op_leA pe_int (pe_callB (klen K) (by rfl) T.len (by decide +kernel) (pa_cons (pv 2) pa_nil)) (pe_glob (v := .int 6) rfl gM ⟨_, rfl⟩))) (pw_or1 (pt_cmpR op_notN (pe_cf dF GF hr1 pass0 (pa_cons (pv 3) pa_nil)) pe_non (nomark _))))) (pss_one (ps_raise rfl (takes_of rfl rfl rfl rfl) (pmk_er eK GK hr2 (pa_cons (pv 1) pa_nil))))
  pss_nil)
  (pss_cons (ps_if (pt_not (pt_val (pe_callB (kany K) (by rfl) T.any (by decide +kernel) (pa_cons (pe_lc (own := [("role", 4)]) (g := gName 4) (tt := tYes) rfl sc_Kind___init.nd (kpl K (pv 2)) (blkOk_by (N := ["self", "name", "roles", "names", "role"]) (sc := defScope s_Kind___init) (by decide +kernel)) (fun _ _ _ _ _ => (pg_name (i := 4) sc_Kind___init.nd rfl (Or.inl rfl))) (fun _ _ _ _ _ => pts_nil) (fun _ _ _ _ _ => (pe_altN (n := 5) (t := fun m => tMeth (c.C m) "makes" (spTells (.bl (mkB m))) [] E0 (tVar 4) tNil) fun m hm => by obtain ⟨_, _, _, dd, mm, GG⟩ := t2 m hm; exact pe_m0g (pv 4) (c.cl m) mm GG hr1 pass0 dd.b))) pa_nil)))) (pss_one (ps_raise rfl (takes_of rfl rfl rfl rfl) (pmk_er eK GK hr2 (pa_cons (pv 1) pa_nil))))
  pss_nil)
  (pss_cons (kset (pv 0) (pv 1))
  (pss_one (kset (pv 0) (pe_callTy (ktuple K) (by rfl) T.tuple (by decide +kernel) (pa_cons (pv 2) pa_nil))))))))), ?_⟩
    refine Rd.start_ (σ' := [some (.ref p), some (.str (S n)), some (.ref a), none, none]) rfl ?_
    walk_at "rd"
    refine ⟨n, rfl, hn, fun a1 H1 s1 => ?_, fun a1 => k2 a1⟩
    have hS0 : SqL K H a (refs rs) := SqL.of hS
    have hS1 := s1.seq hS0
    have hro1 := hro.mono s1
    walk_at "rd"
    refine Rd.lcW Rd.wList (by rw [List.length_map]; walk_at "sz") (fun i acc H' => Same H1 H' ∧ acc = (rs.take i).map fun r => V.str (S r.n)) ⟨Same.refl _, rfl⟩
      (fun D hD i acc ys H' j => ⟨same_upd j.1 hD, j.2⟩) (fun i acc H' hi j => j.1.seq hS1) ?_ ?_
    · intro D2 hD i x acc H' hi hx hacc hlen ⟨j1, j2⟩ Kt Kf hT hF
      dsimp only [List.set]
      obtain ⟨r, hr', rfl⟩ := ref_at hx
      have hro' := hro1.mono j1
      obtain ⟨_, dr, hat⟩ := hro' r (List.mem_of_getElem? hr')
      walk_at "rd"
      refine ⟨r.a, _, dr, _, _, rfl, hat, c.cl r.m, c.nN r.m, flds_name _ _, ?_⟩
      refine hT _ _ hacc ⟨j1, ?_⟩
      rw [j2, List.take_add_one, hr', List.map_append]
      rfl
    · intro D2 acc H2 hD hacc hlen ⟨s2, j2⟩
      rw [List.length_map, List.take_length] at j2
      subst j2
      have e1 : (rs.map fun r => V.str (S r.n)) = (rs.map (·.n)).map fun l => V.str (S l) := by rw [List.map_map]; rfl
      rw [e1] at hacc
      have hS2 := s2.seq hS1
      have s12 := s1.trans s2
      have bad : ∀ G, Same H G → ¬ KindOk rs → Raised E eK.C "name" (.str (S n)) G := fun G sg nk => (k3 a1 nk).mono sg
      have go : ∀ G, Same H G → ¬ KindOk rs → ∀ d, G d = none → E (.ref eK.C) (some d) (upd G d (.xd [("name", .str (S n))])) := fun G sg nk d hd => bad G sg nk d _ (same_new hd) upd_same
      walk_at "rd"
      have hlr : (refs rs).length = rs.length := List.length_map ..
      rw [hlr]
      refine Rd.iteD (fun c1 => ?_) (fun c1 => ?_)
      · walk_at "rd"
        refine Rd.iteN (fun c2 => ?_) (fun c2 => ?_)
        · walk_at "rd"
          exact Rd.erGo (go _ s12 fun z => c2 (by have := z.2.1; omega))
        · walk_at "rd"
          refine ⟨D2, rs.map (·.n), rfl, SqL.of hacc, by rw [List.length_map]; omega, fun H3 s3 => ⟨fun nd => ?_, fun ix x fr => ?_⟩⟩
          · walk_at "rd"
            refine ⟨rfl, ?_⟩
            walk_at "rd"
            have s13 := s12.trans s3
            have hS3 := s13.seq hS0
            have hro3 := hro.mono s13
            refine Rd.exlist hS3 ?_
            refine Rd.lcW Rd.wList (by rw [List.length_map]; walk_at "sz") (fun i acc H' => Same H3 H' ∧ acc = (rs.take i).map fun r => V.bl (mkB r.m)) ⟨Same.refl _, rfl⟩
              (fun D hD i acc ys H' j => ⟨same_upd j.1 hD, j.2⟩) (fun i acc H' hi j => j.1.seq hS3) ?_ ?_
            · intro D4 hD4 i x acc H' hi hx hacc hlen ⟨j1, j2⟩ Kt Kf hT hF
              dsimp only [List.set]
              obtain ⟨r, hr', rfl⟩ := ref_at hx
              obtain ⟨rm, dr, hat⟩ := hro3.mono j1 r (List.mem_of_getElem? hr')
              walk_at "rd"
              refine Rd.alt rm ?_
              walk_at "rd"
              refine ⟨r.a, dr, _, rfl, hat, flds_no _ _ (by decide +kernel) (by decide +kernel), ?_⟩
              walk_at "rd"
              refine ⟨r.a, rfl, hT _ _ hacc ⟨j1, ?_⟩⟩
              rw [j2, List.take_add_one, hr', List.map_append]
              rfl
            · intro D4 acc H4 hD4 hacc hlen ⟨s4, j2⟩
              rw [List.length_map, List.take_length] at j2
              subst j2
              have e2 : (rs.map fun r => V.bl (mkB r.m)) = (rs.map fun r => mkB r.m).map V.bl := by rw [List.map_map]; rfl
              rw [e2] at hacc
              have s14 := s13.trans s4
              walk_at "rd"
              refine ⟨D4, _, rfl, SqL.of hacc, ?_⟩
              walk_at "rd"
              have p4 := s14 _ _ hp
              have hany := any_mk (rs := rs)
              cases hb : (rs.map fun r => mkB r.m).any id with
              | false =>
                rw [hb] at hany
                walk_at "rd"
                exact Rd.erGo (go _ s14 fun z => Bool.false_ne_true (hany.mpr z.2.2.2))
              | true =>
                rw [hb] at hany
                walk_at "rd"
                refine ⟨p, D, dx, [], rfl, p4, cl, nN, by decide, ?_⟩
                walk_at "rd"
                have hne : a ≠ p := fun z => by rw [z, hp] at hS; cases hS
                have ha5 : upd H4 p (.ins D dx (putF "name" (.str (S n)) [])) a = some (.lst (refs rs)) := by rw [upd_ne hne]; exact s14 _ _ hS
                refine Rd.tupL (SqL.of ha5) fun t ht => ?_
                have htp : t ≠ p := fun z => by rw [z, upd_same] at ht; cases ht
                walk_at "rd"
                refine ⟨p, D, dx, _, rfl, by rw [upd_ne (Ne.symm htp)]; exact upd_same, cl, nR, by show 1 < 1000; decide, ?_⟩
                refine k1 a1 ⟨by omega, by omega, nd, hany.mp rfl⟩ _ t (fun b o nb hb' => ?_) ?_ ?_ htp
                · rw [upd_ne nb]
                  by_cases hbt : b = t
                  · rw [hbt] at hb' nb
                    rw [upd_ne nb, s14 _ _ hb'] at ht
                    cases ht
                  · rw [upd_ne hbt, upd_ne nb]
                    exact s14 _ _ hb'
                · rw [upd_same, kflds_put]
                · rw [upd_ne htp, upd_same]
          · walk_at "rd"
            refine ⟨rfl, ?_⟩
            walk_at "rd"
            exact Rd.erGo (go _ (s12.trans s3) fun z => not_nodup fr.1 fr.2.1 z.2.2.1)
      · walk_at "rd"
        exact Rd.erGo (go _ s12 fun z => c1 (by have := z.1; omega))

end
section
variable {P : Program} {w : World} {K : PySem.W.Frag} {mg : Str → Option Value} {base : Heap} {tk : Tok}
/-! ### a catalog's __iter__, __len__ -/
def cflds (t : Addr) : List (Str × V) := [("kinds", .ref t)]
theorem cflds_kinds (t : Addr) : (cflds t).lookup ("kinds" : Str) = some (.ref t) := by
  unfold cflds; simp [List.lookup]
structure Cc (K : PySem.W.Frag) (mg : Str → Option Value) (mC : Addr) where
  C : Addr
  g : mg "Catalog" = some (.ref C)
  cl : Cls K C
  M : Mk K C mC
  nK : NoAttr K C "kinds"
theorem kiter {X : Cx} (K : PySem.W.Frag) (h : X.K = K := by rfl) : CallR X (.builtin "iter") (rIterT K X.s_0.heap.objs.size) := by subst h; exact call_iterT
abbrev s_Catalog___iter : Stmt := inClass (top 21) 2
theorem sc_Catalog___iter : FnScope ["self"] ["self"] (defScope s_Catalog___iter) := ⟨rfl, rfl, rfl, by decide +kernel, rfl, by decide +kernel, by decide +kernel⟩
/-- the tuple of the catalog's kinds stands at l -/
def KindsAt (K : PySem.W.Frag) (C : Addr) (H : Hp) (a l : Addr) : Prop := ∃ dx zs, H a = some (.ins C dx (cflds l)) ∧ H l = some (.tup zs)
theorem ok_citer {mC : Addr} (m : Mf K "__iter__" "Catalog.__iter__" s_Catalog___iter ["self"]) (cc : Cc K mg mC) (hIt : mg "iter" = none) : FnY P w K mg base 1 m.f m.fd ["self"] (spIterT (KindsAt K cc.C)) := by
  refine Fun.okY m.F sc_Catalog___iter (fun s vs H Q h => ?_) (fun cdv A outer s H vs Q hr h => ?_)
  · obtain ⟨a, l, rfl, _⟩ := h
    rfl
  · obtain ⟨a, l, rfl, ⟨dx, zs, ha, hl⟩, k⟩ := h
    refine ⟨_, (pss_one (ps_ret (pe_callB (kiter K) (by rfl) hIt (by decide +kernel) (pa_cons (kfld K (pv 0)) pa_nil)))), ?_⟩
    refine Rd.start_ (σ' := [some (.ref a)]) rfl ?_
    walk_at "rd"
    refine ⟨a, cc.C, dx, _, _, rfl, ha, cc.cl, cc.nK, cflds_kinds _, ?_⟩
    walk_at "rd"
    refine ⟨l, zs, rfl, SqT.of hl, fun it hn hy => ?_⟩
    exact k it hn hy

end
section
variable {P : Program} {w : World} {K : PySem.W.Frag} {mg : Str → Option Value} {base : Heap} {tk : Tok}
/-! ### a new catalog; its kinds by name -/
structure Kd where
  a : Addr
  t : Addr
  n : List Nat
  rs : List Ro
def KdsOk (D : Addr) (C : Nat → Addr) (H : Hp) (ks : List Kd) : Prop := ∀ k ∈ ks, (∃ dx, H k.a = some (.ins D dx (kflds k.n k.t))) ∧ H k.t = some (.tup (refs k.rs)) ∧ RosOk C H k.rs
theorem KdsOk.mono {D : Addr} {C : Nat → Addr} {H H' : Hp} {ks : List Kd} (h : KdsOk D C H ks) (e : Same H H') : KdsOk D C H' ks := fun k hk => by
  obtain ⟨⟨dx, h1⟩, h2, h3⟩ := h k hk
  exact ⟨⟨dx, e _ _ h1⟩, e _ _ h2, h3.mono e⟩
abbrev krefs (ks : List Kd) : List V := ks.map fun k => V.ref k.a
theorem kref_at {ks : List Kd} {i : Nat} {x : V} (h : (krefs ks)[i]? = some x) : ∃ k, ks[i]? = some k ∧ x = .ref k.a := by
  rw [List.getElem?_map] at h
  obtain ⟨r, h1, h2⟩ := Option.map_eq_some_iff.mp h
  exact ⟨r, h1, h2.symm⟩
theorem kflds_name (n : List Nat) (t : Addr) : (kflds n t).lookup ("name" : Str) = some (.str (S n)) := by
  unfold kflds; simp [List.lookup]
structure Kc (K : PySem.W.Frag) (mg : Str → Option Value) (mK : Addr) where
  C : Addr
  g : mg "Kind" = some (.ref C)
  cl : Cls K C
  M : Mk K C mK
  nN : NoAttr K C "name"
  nR : NoAttr K C "roles"
def spNamed (CC D : Addr) (C : Nat → Addr) (eR : Addr) : Sp := fun vs H Q E => ∃ (p t dx : Addr) (x : List Nat) (ks : List Kd), vs = [.ref p, .str (S x)] ∧ H p = some (.ins CC dx (cflds t)) ∧ H t = some (.tup (krefs ks)) ∧ KdsOk D C H ks ∧
  (∀ k ∈ ks, k.n = x → Q (.ref k.a) H) ∧ ((∀ k ∈ ks, k.n ≠ x) → Raised E eR "name" (.str (S x)) H)
abbrev s_Catalog_named : Stmt := inClass (top 21) 3
theorem sc_Catalog_named : FnScope ["self", "name", "kind"] ["self", "name"] (defScope s_Catalog_named) := ⟨rfl, rfl, rfl, by decide +kernel, rfl, by decide +kernel, by decide +kernel⟩
theorem ok_named {mI mK mC : Addr} (m : Mf K "named" "Catalog.named" s_Catalog_named ["self", "name"]) (T : Bt mg) (c : Six K mg mI) (kc : Kc K mg mK) (cc : Cc K mg mC) (eR : ErR K mg) : FnOk P w K mg base (L2.CX P w) 3 m.f m.fd ["self", "name"] (spNamed cc.C kc.C c.C eR.C) := by
  have GR : FnOk P w K mg base CX0 1 eR.f eR.fd _ (spErI eR.C "name") := ok_nri eR
  refine m.F.okX sc_Catalog_named (fun vs H Q E h => ?_) (fun cdv A outer s H vs Q E hr h => ?_)
  · obtain ⟨p, t, dx, x, ks, rfl, _⟩ := h
    rfl
  · obtain ⟨p, t, dx, x, ks, rfl, hp, ht, hks, k1, k2⟩ := h
    have hu := hr.units
    refine ⟨_, (pss_cons (ps_for (passes_of rfl) rfl (kpt K (kfld K (pv 0))) (pg_name (i := 2) sc_Catalog_named.nd rfl (Or.inl rfl))
  (pss_one (ps_if (pt_cmpR (keq K hu) (kfld K (pv 2)) (pv 1) (nomark _)) (pss_one (ps_ret (pv 2)))
  pss_nil)))
  (pss_one (ps_raise rfl (takes_of rfl rfl rfl rfl) (pmk_er eR GR hr (pa_cons (pv 1) pa_nil))))), ?_⟩
    refine Rd.start_ (σ' := [some (.ref p), some (.str (S x)), none]) rfl ?_
    walk_at "rd"
    refine ⟨p, cc.C, dx, _, _, rfl, hp, cc.cl, cc.nK, cflds_kinds _, ?_⟩
    refine Rd.extup (SqT.of ht) ?_
    refine Rd.foW Rd.wTup (fun i σ H' => ∃ o, σ = [some (.ref p), some (.str (S x)), o] ∧ H' = H ∧ ∀ k ∈ ks.take i, k.n ≠ x) ⟨none, rfl, rfl, fun r hr => absurd hr (List.not_mem_nil)⟩ (fun i σ H' hi ⟨_, _, e, _⟩ => by subst e; exact SqT.of ht) ?_ ?_
    · rintro i y σ H' hi hy ⟨o, rfl, rfl, j2⟩
      obtain ⟨k, hk', rfl⟩ := kref_at hy
      have hmem := List.mem_of_getElem? hk'
      obtain ⟨⟨dk, hat⟩, _, _⟩ := hks k hmem
      dsimp only [List.set]
      walk_at "rd"
      refine ⟨k.a, _, dk, _, _, rfl, hat, kc.cl, kc.nN, kflds_name _ _, ?_⟩
      walk_at "rd"
      refine Rd.iteD (fun c1 => ?_) (fun c1 => ?_)
      · walk_at "rd"
        exact k1 k hmem c1
      · walk_at "rd"
        refine ⟨_, rfl, rfl, fun r2 h2 => ?_⟩
        rw [List.take_add_one, hk'] at h2
        rcases List.mem_append.mp h2 with h2 | h2
        · exact j2 r2 h2
        · rw [List.mem_singleton.mp h2]; exact c1
    · rintro σ H' ⟨o, rfl, rfl, j2⟩
      have e1 : ks.take (krefs ks).length = ks := by rw [List.length_map, List.take_length]
      rw [e1] at j2
      walk_at "rd"
      exact Rd.erGo fun d hd => k2 j2 d _ (same_new hd) upd_same
def spCInit (CC D : Addr) (C : Nat → Addr) (eK : Addr) : Sp := fun vs H Q E => ∃ (p dx a : Addr) (ks : List Kd), vs = [.ref p, .ref a] ∧ H p = some (.ins CC dx []) ∧ H a = some (.lst (krefs ks)) ∧ KdsOk D C H ks ∧ ks.length ≤ 50 ∧
  ((ks.map (·.n)).Nodup → ∀ H' t, SameB p H H' → H' p = some (.ins CC dx (cflds t)) → H' t = some (.tup (krefs ks)) → t ≠ p → Q .non H') ∧ (∀ i x, Frep (ks.map (·.n)) i x → ∀ H', Same H H' → Raised E eK "name" (.str (S x)) H')
abbrev s_Catalog___init : Stmt := inClass (top 21) 0
theorem sc_Catalog___init : FnScope ["self", "kinds", "repeated", "kind"] ["self", "kinds"] (defScope s_Catalog___init) := ⟨rfl, rfl, rfl, by decide +kernel, rfl, by decide +kernel, by decide +kernel⟩
abbrev DRep' (K : PySem.W.Frag) (mg : Str → Option Value) := Df K mg "first_repeated" "first_repeated" s_first_repeated ["names"]
theorem ok_cinit {mI mK mC : Addr} (m : Mf K "__init__" "Catalog.__init__" s_Catalog___init ["self", "kinds"]) (T : Bt mg) (hEn : mg "enumerate" = none) (dF : DRep' K mg) (c : Six K mg mI) (kc : Kc K mg mK) (cc : Cc K mg mC) (eK : ErK K mg) :
    FnOk P w K mg base (L2.CX P w) 3 m.f m.fd ["self", "kinds"] (spCInit cc.C kc.C c.C eK.C) := by
  have GF : FnOk P w K mg base CX0 1 dF.f dF.fd _ (spRep K) := ok_rep dF.F T hEn
  have GK : FnOk P w K mg base CX0 1 eK.f eK.fd _ (spErI eK.C "name") := ok_bki eK
  refine m.F.okX sc_Catalog___init (fun vs H Q E h => ?_) (fun cdv A outer s H vs Q E hr h => ?_)
  · obtain ⟨p, dx, a, ks, rfl, _⟩ := h
    rfl
  · obtain ⟨p, dx, a, ks, rfl, hp, ha, hks, hl, k1, k2⟩ := h
    have hu := hr.units
    have hr1 : Room 1 _ := hr.mono (by decide)
    have hr2 : Room 2 _ := hr.mono (by decide)
    refine ⟨_, (pss_cons (ps_set (i := 2) sc_Catalog___init.nd rfl (Or.inl rfl) (pe_cf dF GF hr1 pass0 (pa_cons (pe_lc (own := [("kind", 3)]) (g := gName 3) (tt := tYes) rfl sc_Catalog___init.nd (kpl K (pv 1)) (blkOk_by (N := ["self", "kinds", "repeated", "kind"]) (sc := defScope s_Catalog___init) (by decide +kernel)) (fun _ _ _ _ _ => (pg_name (i := 3) sc_Catalog___init.nd rfl (Or.inl rfl))) (fun _ _ _ _ _ => pts_nil) (fun _ _ _ _ _ => (kfld K (pv 3)))) pa_nil)))
  (pss_cons (ps_if (pt_cmpR op_notN (pv 2) pe_non (nomark _)) (pss_one (ps_raise rfl (takes_of rfl rfl rfl rfl) (pmk_er eK GK hr2 (pa_cons (pv 2) pa_nil))))
  pss_nil)
  (pss_one (kset (pv 0) (pe_callTy (ktuple K) (by rfl) T.tuple (by decide +kernel) (pa_cons (pv 1) pa_nil)))))), ?_⟩
    refine Rd.start_ (σ' := [some (.ref p), some (.ref a), none, none]) rfl ?_
    walk_at "rd"
    refine Rd.lcW Rd.wList (by rw [List.length_map]; walk_at "sz") (fun i acc H' => Same H H' ∧ acc = (ks.take i).map fun r => V.str (S r.n)) ⟨Same.refl _, rfl⟩
      (fun D hD i acc ys H' j => ⟨same_upd j.1 hD, j.2⟩) (fun i acc H' hi j => SqL.of (j.1 _ _ ha)) ?_ ?_
    · intro D2 hD i x acc H' hi hx hacc hlen ⟨j1, j2⟩ Kt Kf hT hF
      dsimp only [List.set]
      obtain ⟨k, hk', rfl⟩ := kref_at hx
      obtain ⟨⟨dk, hat⟩, _, _⟩ := hks.mono j1 k (List.mem_of_getElem? hk')
      walk_at "rd"
      refine ⟨k.a, _, dk, _, _, rfl, hat, kc.cl, kc.nN, kflds_name _ _, ?_⟩
      refine hT _ _ hacc ⟨j1, ?_⟩
      rw [j2, List.take_add_one, hk', List.map_append]
      rfl
    · intro D2 acc H2 hD hacc hlen ⟨s2, j2⟩
      rw [List.length_map, List.take_length] at j2
      have e1 : acc = (ks.map (·.n)).map fun l => V.str (S l) := by rw [j2, List.map_map]; rfl
      rw [e1] at hacc
      walk_at "rd"
      refine ⟨D2, ks.map (·.n), rfl, SqL.of hacc, by rw [List.length_map]; omega, fun H3 s3 => ⟨fun nd => ?_, fun ix x fr => ?_⟩⟩
      · walk_at "rd"
        refine ⟨rfl, ?_⟩
        walk_at "rd"
        have s13 := s2.trans s3
        have ha3 := s13 _ _ ha
        have hne : a ≠ p := fun z => by rw [z, hp] at ha; cases ha
        refine Rd.tupL (SqL.of ha3) fun t ht => ?_
        have htp : p ≠ t := ne_of_none (s13 _ _ hp) ht
        walk_at "rd"
        refine ⟨p, cc.C, dx, [], rfl, by rw [upd_ne htp]; exact s13 _ _ hp, cc.cl, cc.nK, by decide, ?_⟩
        refine k1 nd _ t (fun b o nb hb' => ?_) upd_same ?_ (Ne.symm htp)
        · rw [upd_ne nb, upd_ne (ne_of_none (s13 _ _ hb') ht)]
          exact s13 _ _ hb'
        · rw [upd_ne (Ne.symm htp), upd_same]
      · walk_at "rd"
        refine ⟨rfl, ?_⟩
        walk_at "rd"
        exact Rd.erGo fun d hd => k2 ix x fr _ (s2.trans s3) d _ (same_new hd) upd_same

end
section
variable {P : Program} {w : World} {K : PySem.W.Frag} {mg : Str → Option Value} {base : Heap} {tk : Tok}
/-! ### roles of a kind -/
theorem kflds_roles (n : List Nat) (t : Addr) : (kflds n t).lookup ("roles" : Str) = some (.ref t) := by
  have e : (("roles" : Str) == "name") = false := by decide +kernel
  unfold kflds; simp [List.lookup, e]

end
section
variable {P : Program} {w : World} {K : PySem.W.Frag} {mg : Str → Option Value} {base : Heap} {tk : Tok}
/-! ### lists of tuples of flat things, compared -/
inductive TlAt (H : Hp) : List V → List (List V) → Prop
  | nil : TlAt H [] []
  | cons {a : Addr} {xs : List V} {vs : List V} {xss : List (List V)} : H a = some (.tup xs) → TlAt H vs xss → TlAt H (.ref a :: vs) (xs :: xss)
theorem TlAt.mono {H H' : Hp} {vs : List V} {xss : List (List V)} (h : TlAt H vs xss) (e : Same H H') : TlAt H' vs xss := by
  induction h with
  | nil => exact .nil
  | cons h _ ih => exact .cons (e _ _ h) ih
theorem TlAt.app {H : Hp} {vs us : List V} {ps qs : List (List V)} (h : TlAt H vs ps) (k : TlAt H us qs) : TlAt H (vs ++ us) (ps ++ qs) := by
  induction h with
  | nil => exact k
  | cons h _ ih => exact .cons h ih
theorem TlAt.one {H : Hp} {a : Addr} {xs : List V} {vs : List V} {ps : List (List V)} (h : TlAt H vs ps) (k : H a = some (.tup xs)) : TlAt H (vs ++ [.ref a]) (ps ++ [xs]) := h.app (.cons k .nil)
theorem TlAt.upd {H : Hp} {D : Addr} {zs : List V} {vs : List V} {ps : List (List V)} (h : TlAt H vs ps) (hD : ∀ o, H D = some (.tup o) → False) : TlAt (upd H D (.lst zs)) vs ps := by
  induction h with
  | nil => exact .nil
  | @cons a xs vs xss h _ ih => exact .cons (by rw [upd_ne (fun z => hD _ (by rw [← z]; exact h))]; exact h) ih
theorem TlAt.len {H : Hp} {vs : List V} {ps : List (List V)} (h : TlAt H vs ps) : vs.length = ps.length := by
  induction h with
  | nil => rfl
  | cons _ _ ih => rw [List.length_cons, List.length_cons, ih]
theorem TlAt.get {H : Hp} {vs : List V} {ps : List (List V)} (h : TlAt H vs ps) : ∀ {i : Nat} {v : V}, vs[i]? = some v → ∃ a xs, v = .ref a ∧ ps[i]? = some xs ∧ H a = some (.tup xs) := by
  induction h with
  | nil => intro i v h; simp at h
  | @cons a xs vs xss h _ ih =>
    intro i v e
    cases i with
    | zero => exact ⟨a, xs, (Option.some.inj e).symm, rfl, h⟩
    | succ i => exact ih e
abbrev datL (xss : List (List V)) : List PyData := xss.map fun xs => PyData.tuple (xs.map dOf)
theorem TlAt.dp {H : Hp} {vs : List V} {xss : List (List V)} (h : TlAt H vs xss) (k : xss.all (fun xs => xs.all okV) = true) : DpAll K H vs (datL xss) := by
  induction h with
  | nil => exact .nil
  | cons h _ ih =>
    rw [List.all_cons, Bool.and_eq_true] at k
    exact .cons (.tup (SqT.of h) (dp_all k.1)) (ih k.2)
theorem can_datL : ∀ {xss : List (List V)}, xss.all (fun xs => xs.all okV) = true → PyData.canLayAll0 (datL xss) = true
  | [], _ => rfl
  | xs :: xss, k => by
    rw [List.all_cons, Bool.and_eq_true] at k
    show (PyData.canLay0 (.tuple (xs.map dOf)) && PyData.canLayAll0 (datL xss)) = true
    rw [can_datL k.2, Bool.and_true]
    exact can_all k.1
theorem depth_datL : ∀ xss : List (List V), PyData.depthAll (datL xss) ≤ 1
  | [] => Nat.zero_le _
  | xs :: xss => by
    show max (PyData.depth (.tuple (xs.map dOf))) (PyData.depthAll (datL xss)) ≤ 1
    refine Nat.max_le.mpr ⟨?_, depth_datL xss⟩
    show PyData.depthAll (xs.map dOf) + 1 ≤ 1
    rw [depth_all]
    exact Nat.le_refl _
theorem sh_datL {xss : List (List V)} (k : xss.all (fun xs => xs.all okV) = true) : SeqAt.shaped (.list (datL xss)) = true := by
  show (PyData.canLayAll0 (datL xss) && decide (PyData.depthAll (datL xss) + 1 ≤ 64)) = true
  have := depth_datL xss
  rw [can_datL k, Bool.true_and]
  exact decide_eq_true (by omega)
theorem refl_datL {xss : List (List V)} (k : xss.all (fun xs => xs.all okV) = true) : PyData.eqv (.list (datL xss)) (.list (datL xss)) = true := SeqAt.eqv_refl _ (can_datL k)
theorem eqTl {H : Hp} {Q : VK} {a b : Addr} {vs us : List V} {xss : List (List V)} (h1 : H a = some (.lst vs)) (h2 : H b = some (.lst us)) (t1 : TlAt H vs xss) (t2 : TlAt H us xss) (k : xss.all (fun xs => xs.all okV) = true) (q : Q (.bl true) H) : rEqA K (.ref a) (.ref b) H Q :=
  Rd.eqD (.lst (SqL.of h1) (t1.dp k)) (.lst (SqL.of h2) (t2.dp k)) (sh_datL k) (sh_datL k) (by rw [refl_datL k]; exact q)
theorem neTl {H : Hp} {Q : VK} {a b : Addr} {vs us : List V} {xss : List (List V)} (h1 : H a = some (.lst vs)) (h2 : H b = some (.lst us)) (t1 : TlAt H vs xss) (t2 : TlAt H us xss) (k : xss.all (fun xs => xs.all okV) = true) (q : Q (.bl false) H) : rNeA K (.ref a) (.ref b) H Q :=
  Rd.neD (.lst (SqL.of h1) (t1.dp k)) (.lst (SqL.of h2) (t2.dp k)) (sh_datL k) (sh_datL k) (by rw [refl_datL k]; exact q)
theorem ok_S {l : List Nat} (h : Nm l) : okV (.str (S l)) = true := by
  show l.toArray.all (· < 0x110000) = true
  rw [List.all_toArray]
  exact List.all_eq_true.mpr fun c hc => decide_eq_true (by have := h.2.2 c hc; omega)
/-! ### the law's helpers about one kind -/
def markOf : Nat → List Nat
  | 0 => [114]
  | 1 => [109]
  | 2 => [102]
  | 3 => [114, 109]
  | 4 => [114, 102]
  | _ => []
theorem Six.mark {mI : Addr} (c : Six K mg mI) (m : Nat) : ∃ u, Con K (c.C m) "MARK" (.str (S (markOf m))) u := match m with
  | 0 => ⟨_, c.e.mark⟩
  | 1 => ⟨_, c.m.mark⟩
  | 2 => ⟨_, c.f.mark⟩
  | 3 => ⟨_, c.b.mark⟩
  | 4 => ⟨_, c.w.mark⟩
  | _ + 5 => ⟨_, c.r.mark⟩
def mrk (n g : List Nat) (m : Nat) : List V := [.str (S n), .str (S g), .str (S (markOf m))]
def spMark (C : Nat → Addr) : Sp := fun vs H Q _ => ∃ (a : Addr) (n g : List Nat) (m : Nat), vs = [.ref a] ∧ RoleAt (C m) H a n g ∧ ∀ t, H t = none → Q (.ref t) (upd H t (.tup (mrk n g m)))
abbrev Tri := List Nat × List Nat × Nat
def tri (ts : List Tri) : List (List V) := ts.map fun r => [V.str (S r.1), V.str (S r.2.1), V.int (r.2.2 : Nat)]
theorem tri_at {H : Hp} {vs : List V} {ts : List Tri} (h : TlAt H vs (tri ts)) {i : Nat} {v : V} (e : vs[i]? = some v) : ∃ a r, v = .ref a ∧ ts[i]? = some r ∧ H a = some (.tup [V.str (S r.1), V.str (S r.2.1), V.int (r.2.2 : Nat)]) := by
  obtain ⟨a, xs, rfl, h2, h3⟩ := h.get e
  unfold tri at h2
  rw [List.getElem?_map] at h2
  obtain ⟨r, h4, rfl⟩ := Option.map_eq_some_iff.mp h2
  exact ⟨a, r, rfl, h4, h3⟩
theorem tri_len {H : Hp} {vs : List V} {ts : List Tri} (h : TlAt H vs (tri ts)) : vs.length = ts.length := by
  rw [h.len]; unfold tri; rw [List.length_map]
theorem tri_ok {ts : List Tri} (h : ∀ r ∈ ts, Nm r.1 ∧ Nm r.2.1) : (tri ts).all (fun xs => xs.all okV) = true := by
  rw [List.all_eq_true]
  intro xs hx
  obtain ⟨r, hr, rfl⟩ := List.mem_map.mp hx
  rw [List.all_cons, List.all_cons, List.all_cons, ok_S (h r hr).1, ok_S (h r hr).2]
  rfl

end
section
variable {P : Program} {w : World} {K : PySem.W.Frag} {mg : Str → Option Value} {base : Heap} {tk : Tok}
/-! ### kinds as the law has them -/
structure Kp where
  a : Addr
  n : List Nat
  l : Addr
  us : List V
  ts : List Tri
def KpOk (H : Hp) (k : Kp) : Prop := H k.a = some (.tup [.str (S k.n), .ref k.l]) ∧ H k.l = some (.lst k.us) ∧ TlAt H k.us (tri k.ts)
def KpsOk (H : Hp) (ps : List Kp) : Prop := ∀ k ∈ ps, KpOk H k
theorem KpOk.mono {H H' : Hp} {k : Kp} (h : KpOk H k) (e : Same H H') : KpOk H' k := ⟨e _ _ h.1, e _ _ h.2.1, h.2.2.mono e⟩
theorem KpsOk.mono {H H' : Hp} {ps : List Kp} (h : KpsOk H ps) (e : Same H H') : KpsOk H' ps := fun k hk => (h k hk).mono e
abbrev prefs (ps : List Kp) : List V := ps.map fun k => V.ref k.a
theorem pref_at {ps : List Kp} {i : Nat} {x : V} (h : (prefs ps)[i]? = some x) : ∃ k, ps[i]? = some k ∧ x = .ref k.a := by
  rw [List.getElem?_map] at h
  obtain ⟨r, h1, h2⟩ := Option.map_eq_some_iff.mp h
  exact ⟨r, h1, h2.symm⟩
theorem cflds_no (t : Addr) {m : Str} (h1 : (m == ("kinds" : Str)) = false) : (cflds t).lookup m = none := by
  unfold cflds; simp [List.lookup, h1]

end
section
variable {P : Program} {w : World} {K : PySem.W.Frag} {mg : Str → Option Value} {base : Heap} {tk : Tok}
/-! ### marks, rows, pools -/
def trs (rs : List Ro) : List Tri := rs.map fun r => (r.n, r.g, r.m)
theorem mark_nm {m : Nat} (h : m < 5) : Nm (markOf m) := by
  have h' : m = 0 ∨ m = 1 ∨ m = 2 ∨ m = 3 ∨ m = 4 := by omega
  rcases h' with rfl | rfl | rfl | rfl | rfl <;> (unfold Nm markOf; decide)
def marksV : List V := [.str (S [114]), .str (S [109]), .str (S [102]), .str (S [114, 109]), .str (S [114, 102])]
theorem marks_at {m : Nat} (h : m < 5) : atI marksV (m : Nat) = some (.str (S (markOf m))) := by
  have h' : m = 0 ∨ m = 1 ∨ m = 2 ∨ m = 3 ∨ m = 4 := by omega
  rcases h' with rfl | rfl | rfl | rfl | rfl <;> rfl
theorem pool_tup {H : Hp} {p : Addr} (h : PoolAt H p) : ∀ o, H p = some (.tup o) → False := fun o e => by
  obtain ⟨_, _, _, h⟩ := h
  rw [h] at e; cases e
theorem at_names {ns : List (List Nat)} {r : Int} (h0 : 0 ≤ r) (h1 : r < ns.length) : ∃ l ∈ ns, atI (ns.map fun l => V.str (S l)) r = some (.str (S l)) := by
  have hlt : r.toNat < ns.length := by omega
  have e : r = ((r.toNat : Nat) : Int) := by omega
  exact ⟨ns[r.toNat], List.getElem_mem hlt, (congrArg (atI _) e).trans (atI_nat (by simp [hlt]))⟩
theorem RosOk.updL {C : Nat → Addr} {H : Hp} {rs : List Ro} {D : Addr} {ys : List V} (h : RosOk C H rs) (hD : ∀ o, H D = some o → ∃ zs, o = .lst zs) : RosOk C (upd H D (.lst ys)) rs := by
  intro r hr
  obtain ⟨rm, dx, ha⟩ := h r hr
  refine ⟨rm, dx, ?_⟩
  rw [upd_ne (fun z => ?_)]
  · exact ha
  · rw [z] at ha
    obtain ⟨zs, e⟩ := hD _ ha
    cases e
theorem eqv_tnil (ds : List PyData) : PyData.eqv (.tuple ds) (.tuple []) = ds.isEmpty := by
  cases ds with
  | nil => rfl
  | cons d ds => rfl
theorem neTnil {H : Hp} {Q : VK} {a b : Addr} {ys : List V} (h1 : H a = some (.tup ys)) (h2 : H b = some (.tup [])) (k : ys.all okV = true) (q : Q (.bl (!ys.isEmpty)) H) : rNeA K (.ref a) (.ref b) H Q :=
  Rd.neD (.tup (SqT.of h1) (dp_all k)) (.tup (SqT.of h2) .nil) (shT k) rfl (by
    rw [eqv_tnil]
    cases ys <;> exact q)
theorem SameB.ofNone {p : Addr} {H H1 H2 : Hp} (s : Same H H1) (hp : H p = none) (t : SameB p H1 H2) : Same H H2 := fun b o e => t b o (ne_of_none e hp) (s b o e)
theorem TlAt.sameB {p : Addr} {H H' : Hp} {vs : List V} {xss : List (List V)} (h : TlAt H vs xss) (e : SameB p H H') (hp : ∀ o, H p = some (.tup o) → False) : TlAt H' vs xss := by
  induction h with
  | nil => exact .nil
  | @cons a xs vs xss h _ ih => exact .cons (e _ _ (fun z => hp _ (by rw [← z]; exact h)) h) ih
theorem inj_ix {α : Type} {l : List α} (h : l.Nodup) {i j : Nat} (hi : i < l.length) (e : l[i]? = l[j]?) : i = j := by
  have hj : j < l.length := by
    rw [List.getElem?_eq_getElem hi] at e
    exact (List.getElem?_eq_some_iff.mp e.symm).1
  rw [List.getElem?_eq_getElem hi, List.getElem?_eq_getElem hj] at e
  rcases Nat.lt_trichotomy i j with lt | eq | gt
  · exact absurd (Option.some.inj e) (List.pairwise_iff_getElem.mp h i j hi hj lt)
  · exact eq
  · exact absurd (Option.some.inj e).symm (List.pairwise_iff_getElem.mp h j i hj hi gt)

end
section
variable {P : Program} {w : World} {K : PySem.W.Frag} {mg : Str → Option Value} {base : Heap} {tk : Tok}
/-! ### the law's helpers about kinds -/
def KpGood (k : Kp) : Prop := Nm k.n ∧ 1 ≤ k.ts.length ∧ k.ts.length ≤ 6 ∧ (k.ts.map (·.1)).Nodup ∧ (∀ r ∈ k.ts, Nm r.1 ∧ Nm r.2.1 ∧ r.2.2 < 5) ∧ ∃ r ∈ k.ts, 0 < r.2.2
theorem good_kind {C : Nat → Addr} {H : Hp} {k : Kp} {rs : List Ro} (g : KpGood k) (e : trs rs = k.ts) (h : RosOk C H rs) : KindOk rs := by
  obtain ⟨_, h1, h2, h3, h4, r, hr, h0⟩ := g
  rw [← e] at h1 h2 h3 hr
  have e1 : (trs rs).length = rs.length := List.length_map ..
  have e2 : (trs rs).map (·.1) = rs.map (·.n) := by unfold trs; rw [List.map_map]; rfl
  rw [e1] at h1 h2
  rw [e2] at h3
  obtain ⟨r', hr', rfl⟩ := List.mem_map.mp hr
  exact ⟨h1, h2, h3, r', hr', decide_eq_true ⟨h0, by have := (h r' hr').1; omega⟩⟩
def KdOk (D : Addr) (C : Nat → Addr) (H : Hp) (k : Kd) : Prop := (∃ dx, H k.a = some (.ins D dx (kflds k.n k.t))) ∧ H k.t = some (.tup (refs k.rs)) ∧ RosOk C H k.rs
theorem KdOk.mono {D : Addr} {C : Nat → Addr} {H H' : Hp} {k : Kd} (h : KdOk D C H k) (e : Same H H') : KdOk D C H' k := by
  obtain ⟨⟨dx, h1⟩, h2, h3⟩ := h
  exact ⟨⟨dx, e _ _ h1⟩, e _ _ h2, h3.mono e⟩
theorem KdOk.updL {D : Addr} {C : Nat → Addr} {H : Hp} {k : Kd} {L : Addr} {ys : List V} (h : KdOk D C H k) (hD : ∀ o, H L = some o → ∃ zs, o = .lst zs) : KdOk D C (upd H L (.lst ys)) k := by
  obtain ⟨⟨dx, h1⟩, h2, h3⟩ := h
  refine ⟨⟨dx, ?_⟩, ?_, h3.updL hD⟩
  · rw [upd_ne (fun z => ?_)]
    · exact h1
    · rw [z] at h1; obtain ⟨zs, e⟩ := hD _ h1; cases e
  · rw [upd_ne (fun z => ?_)]
    · exact h2
    · rw [z] at h2; obtain ⟨zs, e⟩ := hD _ h2; cases e
theorem kmk_go {mK : Addr} (kc : Kc K mg mK) {C : Nat → Addr} {eN eK a : Addr} {n : List Nat} {rs : List Ro} {H : Hp} {Q : VK} {E : XK} (hn : n.length ≤ 100) (ha : H a = some (.lst (refs rs))) (hro : RosOk C H rs) (hl : rs.length ≤ 8)
    (k1 : Nm n → KindOk rs → ∀ k H', H k.a = none → Same H H' → KdOk kc.C C H' k → k.n = n → k.rs = rs → Q (.ref k.a) H') (k2 : ¬ Nm n → Raised E eN "name" (.str (S n)) H) (k3 : Nm n → ¬ KindOk rs → Raised E eK "name" (.str (S n)) H) :
    MkGo kc.C (spKInit K C eN eK) [.str (S n), .ref a] H Q E := by
  intro x dx hx hd ne
  have s0 : Same H (upd (upd H dx (.own x)) x (.ins kc.C dx [])) := fun b o e => by
    rw [upd_ne (ne_of_none e hx), upd_ne (ne_of_none e hd)]; exact e
  refine ⟨x, kc.C, dx, a, n, rs, rfl, hn, kc.cl, kc.nN, kc.nR, upd_same, s0 _ _ ha, hro.mono s0, hl, fun a1 a2 H' t s1 h1 h2 _ => ⟨rfl, ?_⟩, fun a1 => (k2 a1).mono s0, fun a1 a2 => (k3 a1 a2).mono s0⟩
  have s2 : Same H H' := fun b o e => s1 b o (ne_of_none e hx) (s0 b o e)
  exact k1 a1 a2 ⟨x, t, n, rs⟩ H' hx s2 ⟨⟨dx, h1⟩, h2, hro.mono s2⟩ rfl rfl
def spLKind (D : Addr) (C : Nat → Addr) : Sp := fun vs H Q _ => ∃ (p : Kp), vs = [.ref p.a] ∧ KpOk H p ∧ KpGood p ∧ ∀ k H', H k.a = none → Same H H' → KdOk D C H' k → k.n = p.n → trs k.rs = p.ts → Q (.ref k.a) H'
abbrev s_law_kind : Stmt := top 38
theorem sc_law_kind : FnScope ["_law_kind_here", "_law_role_here"] ["_law_kind_here"] (defScope s_law_kind) := ⟨rfl, rfl, rfl, by decide +kernel, rfl, by decide +kernel, by decide +kernel⟩
abbrev DKi (K : PySem.W.Frag) (mg : Str → Option Value) := Df K mg "_law_kind" "_law_kind" s_law_kind ["_law_kind_here"]
theorem ok_lkind {mI : Addr} {eN eK : Addr} (d : DKi K mg) (T : Bt mg) (c : Six K mg mI) (mK : MKi K) (kc : Kc K mg mK.f) (dRo : DRo K mg) (GRo : FnOk P w K mg base (L2.CX P w) 6 dRo.f dRo.fd ["_law_name", "_law_group", "_law_mode"] (spRole eN c.C 5))
    (GK : FnOk P w K mg base (L2.CX P w) 4 mK.f mK.fd ["self", "name", "roles"] (spKInit K c.C eN eK)) : FnOk P w K mg base CX0 7 d.f d.fd ["_law_kind_here"] (spLKind kc.C c.C) := by
  refine d.F.ok sc_law_kind (fun vs H Q E h => ?_) (fun cdv A outer s H vs Q E hr h => ?_)
  · obtain ⟨p, rfl, _⟩ := h
    rfl
  · obtain ⟨p, rfl, hp, hg, k⟩ := h
    obtain ⟨hpa, hpl, hT⟩ := id hp
    have hu := hr.units
    have hr5 : Room 5 _ := hr.mono (by decide)
    refine ⟨_, (pss_one (ps_ret (pe_mk mK kc.M kc.g GK hr5 passL (pa_cons (pe_ix (kix K) (pv 0) pe_int (fun _ _ => rfl)) (pa_cons (pe_lc (own := [("_law_role_here", 1)]) (g := gName 1) (tt := tYes) rfl sc_law_kind.nd (kpl K (pe_ix (kix K) (pv 0) pe_int (fun _ _ => rfl))) (blkOk_by (N := ["_law_kind_here", "_law_role_here"]) (sc := defScope s_law_kind) (by decide +kernel)) (fun _ _ _ _ _ => (pg_name (i := 1) sc_law_kind.nd rfl (Or.inl rfl))) (fun _ _ _ _ _ => pts_nil) (fun _ _ _ _ _ => (pe_cf dRo GRo hr passL (pa_cons (pe_ix (kix K) (pv 1) pe_int (fun _ _ => rfl)) (pa_cons (pe_ix (kix K) (pv 1) pe_int (fun _ _ => rfl)) (pa_cons (pe_ix (kix K) (pv 1) pe_int (fun _ _ => rfl)) pa_nil)))))) pa_nil))))), ?_⟩
    refine Rd.start_ (σ' := [some (.ref p.a), none]) rfl ?_
    have h6 := hg.2.2.1
    have lus : p.us.length ≤ 6 := by rw [tri_len hT]; exact h6
    walk_at "rd"
    refine Rd.lcZ Rd.wList (by walk_at "sz") (fun D i acc H' => Same H H' ∧ ∃ rs, acc = refs rs ∧ trs rs = p.ts.take i ∧ RosOk c.C H' rs) (fun D hD => ⟨same_new hD, [], rfl, rfl, fun r hr => absurd hr List.not_mem_nil⟩) (fun D i acc H' hi j => SqL.of (j.1 _ _ hpl)) ?_ ?_
    · rintro D hD i x acc H' hi hx hacc hlen2 ⟨j1, rs, rfl, j3, j4⟩ Kt Kf hT' hF
      dsimp only [List.set]
      obtain ⟨ta, r, rfl, hr', hat⟩ := tri_at (hT.mono j1) hx
      have k1 := hg.2.2.2.2.1 r (List.mem_of_getElem? hr')
      walk_at "rd"
      refine ⟨r.1, r.2.1, r.2.2, rfl, k1.2.2, by have := k1.1.2.1; omega, by have := k1.2.1.2.1; omega, fun _ _ x H2 hx0 sx ra => ?_, fun q => absurd k1.1 q, fun _ q => absurd k1.2.1 q⟩
      have hacc2 := sx _ _ hacc
      refine hT' _ _ hacc2 ⟨same_upd (j1.trans sx) hD, rs ++ [⟨x, r.1, r.2.1, r.2.2⟩], ?_, ?_, ?_⟩
      · unfold refs; rw [List.map_append]; rfl
      · rw [List.take_add_one, hr', ← j3]
        unfold trs
        rw [List.map_append]
        rfl
      · refine RosOk.updL (fun r2 hr2 => ?_) fun o e => by rw [hacc2] at e; cases e; exact ⟨_, rfl⟩
        rcases List.mem_append.mp hr2 with hr2 | hr2
        · exact (j4.mono sx) r2 hr2
        · rw [List.mem_singleton.mp hr2]
          exact ⟨k1.2.2, ra⟩
    · rintro G acc H2 hG hacc hlen2 ⟨s2, rs, rfl, j3, hro⟩
      rw [tri_len hT, List.take_length] at j3
      have lrs : rs.length = p.ts.length := by rw [← j3]; exact (List.length_map ..).symm
      walk_at "rd"
      refine kmk_go kc (by have := hg.1.2.1; omega) hacc hro (by omega) (fun _ _ kk H3 hk s3 hkd e1 e2 => ?_) (fun q => absurd hg.1 q) (fun _ q => absurd (good_kind hg j3 hro) q)
      exact k kk H3 (none_same s2 hk) (s2.trans s3) hkd e1 (by rw [e2]; exact j3)
/-! ### a catalog's making, refused -/
def CatAt (CC : Addr) (H : Hp) (p t : Addr) (ks : List Kd) : Prop := (∃ dx, H p = some (.ins CC dx (cflds t))) ∧ H t = some (.tup (krefs ks))
theorem CatAt.mono {CC : Addr} {H H' : Hp} {p t : Addr} {ks : List Kd} (h : CatAt CC H p t ks) (e : Same H H') : CatAt CC H' p t ks := by
  obtain ⟨⟨dx, h1⟩, h2⟩ := h
  exact ⟨⟨dx, e _ _ h1⟩, e _ _ h2⟩
theorem cmk_go {mC : Addr} (cc : Cc K mg mC) {D : Addr} {C : Nat → Addr} {eK a : Addr} {ks : List Kd} {H : Hp} {Q : VK} {E : XK} (ha : H a = some (.lst (krefs ks))) (hks : KdsOk D C H ks) (hl : ks.length ≤ 50)
    (k1 : (ks.map (·.n)).Nodup → ∀ p t H', H p = none → Same H H' → CatAt cc.C H' p t ks → Q (.ref p) H') (k2 : ∀ i x, Frep (ks.map (·.n)) i x → Raised E eK "name" (.str (S x)) H) : MkGo cc.C (spCInit cc.C D C eK) [.ref a] H Q E := by
  intro x dx hx hd ne
  have s0 : Same H (upd (upd H dx (.own x)) x (.ins cc.C dx [])) := fun b o e => by
    rw [upd_ne (ne_of_none e hx), upd_ne (ne_of_none e hd)]; exact e
  refine ⟨x, dx, a, ks, rfl, upd_same, s0 _ _ ha, hks.mono s0, hl, fun nd H' t s1 h1 h2 _ => ⟨rfl, ?_⟩, fun i y fr H' s1 => (k2 i y fr).mono (s0.trans s1)⟩
  exact k1 nd x t H' hx (fun b o e => s1 b o (ne_of_none e hx) (s0 b o e)) ⟨⟨dx, h1⟩, h2⟩
def Refusal_ (ns : List (List Nat)) (xs : List V) : Prop := (ns.Nodup → xs = []) ∧ ∀ i x, Frep ns i x → xs = [.str (S x), .bl true]

end
section
variable {P : Program} {w : World} {K : PySem.W.Frag} {mg : Str → Option Value} {base : Heap} {tk : Tok}
/-! ### kinds, plain and made -/
abbrev NT := List Nat × List Tri
def ntOf (k : Kd) : NT := (k.n, trs k.rs)
def ntP (k : Kp) : NT := (k.n, k.ts)
theorem ks_at {ks : List Kd} {ps : List Kp} (e : ks.map ntOf = ps.map ntP) {i : Nat} {k : Kd} (h : ks[i]? = some k) : ∃ p, ps[i]? = some p ∧ ntOf k = ntP p := by
  have h1 : (ks.map ntOf)[i]? = some (ntOf k) := by rw [List.getElem?_map, h]; rfl
  rw [e, List.getElem?_map] at h1
  obtain ⟨p, h2, h3⟩ := Option.map_eq_some_iff.mp h1
  exact ⟨p, h2, h3.symm⟩
theorem ks_mem {ks : List Kd} {ps : List Kp} (e : ks.map ntOf = ps.map ntP) {k : Kd} (h : k ∈ ks) : ∃ p ∈ ps, ntOf k = ntP p := by
  have h1 : ntOf k ∈ ks.map ntOf := List.mem_map.mpr ⟨k, h, rfl⟩
  rw [e] at h1
  obtain ⟨p, h2, h3⟩ := List.mem_map.mp h1
  exact ⟨p, h2, h3.symm⟩
theorem ks_names {ks : List Kd} {ps : List Kp} (e : ks.map ntOf = ps.map ntP) : ks.map (·.n) = ps.map (·.n) := by
  have h := congrArg (List.map Prod.fst) e
  rw [List.map_map, List.map_map] at h
  exact h
theorem ks_len {ks : List Kd} {ps : List Kp} (e : ks.map ntOf = ps.map ntP) : ks.length = ps.length := by
  have h := congrArg List.length e
  rw [List.length_map, List.length_map] at h
  exact h
theorem same_kname {ks : List Kd} (h : (ks.map (·.n)).Nodup) {r r2 : Kd} (h1 : r ∈ ks) (h2 : r2 ∈ ks) (e : r2.n = r.n) : r2 = r := by
  induction ks with
  | nil => exact absurd h1 List.not_mem_nil
  | cons x rs ih =>
    rw [List.map_cons, List.nodup_cons] at h
    rcases List.mem_cons.mp h1 with a | a <;> rcases List.mem_cons.mp h2 with b | b
    · rw [a, b]
    · exact absurd (List.mem_map.mpr ⟨r2, b, by rw [e, a]⟩) h.1
    · exact absurd (List.mem_map.mpr ⟨r, a, by rw [← e, b]⟩) h.1
    · exact ih h.2 a b
theorem KpOk.updL {H : Hp} {k : Kp} {D : Addr} {zs ys : List V} (h : KpOk H k) (hD : H D = some (.lst zs)) (hl : k.l ≠ D) : KpOk (upd H D (.lst ys)) k := by
  refine ⟨?_, ?_, h.2.2.upd fun o e => by rw [hD] at e; cases e⟩
  · rw [upd_ne (fun z => by have := h.1; rw [z, hD] at this; cases this)]
    exact h.1
  · rw [upd_ne hl]; exact h.2.1
theorem KpOk.sameB {H H' : Hp} {k : Kp} {p : Addr} (h : KpOk H k) (hp : PoolAt H p) (e : SameB p H H') (hl : k.l ≠ p) : KpOk H' k := by
  refine ⟨e _ _ (fun z => ?_) h.1, e _ _ hl h.2.1, h.2.2.sameB e (pool_tup hp)⟩
  have := h.1
  rw [z] at this
  exact pool_tup hp _ this
theorem CatAt.updL {CC : Addr} {H : Hp} {p t : Addr} {ks : List Kd} {D : Addr} {ys : List V} (h : CatAt CC H p t ks) (hD : ∀ o, H D = some o → ∃ zs, o = .lst zs) : CatAt CC (upd H D (.lst ys)) p t ks := by
  obtain ⟨⟨dx, h1⟩, h2⟩ := h
  refine ⟨⟨dx, ?_⟩, ?_⟩
  · rw [upd_ne (fun z => ?_)]
    · exact h1
    · rw [z] at h1; obtain ⟨zs, e⟩ := hD _ h1; cases e
  · rw [upd_ne (fun z => ?_)]
    · exact h2
    · rw [z] at h2; obtain ⟨zs, e⟩ := hD _ h2; cases e

end
section
variable {P : Program} {w : World} {K : PySem.W.Frag} {mg : Str → Option Value} {base : Heap} {tk : Tok}
/-! ### the law's catalogs -/
def spCatalog (CC D : Addr) (C : Nat → Addr) : Sp := fun vs H Q _ => ∃ (a : Addr) (ps : List Kp), vs = [.ref a] ∧ H a = some (.lst (prefs ps)) ∧ KpsOk H ps ∧ ps.length ≤ 8 ∧ (∀ k ∈ ps, KpGood k) ∧ (ps.map (·.n)).Nodup ∧
  ∀ p t ks H', H p = none → Same H H' → CatAt CC H' p t ks → KdsOk D C H' ks → ks.map ntOf = ps.map ntP → Q (.ref p) H'
abbrev s_law_catalog : Stmt := top 39
theorem sc_law_catalog : FnScope ["_law_kinds_here", "_law_kind_here"] ["_law_kinds_here"] (defScope s_law_catalog) := ⟨rfl, rfl, rfl, by decide +kernel, rfl, by decide +kernel, by decide +kernel⟩
abbrev DCa (K : PySem.W.Frag) (mg : Str → Option Value) := Df K mg "_law_catalog" "_law_catalog" s_law_catalog ["_law_kinds_here"]
abbrev MCin (K : PySem.W.Frag) := Mf K "__init__" "Catalog.__init__" s_Catalog___init ["self", "kinds"]
theorem ok_catalog {mI mK : Addr} {eK : Addr} (d : DCa K mg) (T : Bt mg) (c : Six K mg mI) (kc : Kc K mg mK) (mC : MCin K) (cc : Cc K mg mC.f) (dKi : DKi K mg) (GKi : FnOk P w K mg base CX0 7 dKi.f dKi.fd ["_law_kind_here"] (spLKind kc.C c.C))
    (GC : FnOk P w K mg base (L2.CX P w) 3 mC.f mC.fd ["self", "kinds"] (spCInit cc.C kc.C c.C eK)) : FnOk P w K mg base CX0 8 d.f d.fd ["_law_kinds_here"] (spCatalog cc.C kc.C c.C) := by
  refine d.F.ok sc_law_catalog (fun vs H Q E h => ?_) (fun cdv A outer s H vs Q E hr h => ?_)
  · obtain ⟨a, ps, rfl, _⟩ := h
    rfl
  · obtain ⟨a, ps, rfl, ha, hps, l8, good, nd, k⟩ := h
    have hu := hr.units
    have hr4 : Room 4 _ := hr.mono (by decide)
    have lP : (prefs ps).length = ps.length := List.length_map ..
    refine ⟨_, (pss_one (ps_ret (pe_mk mC cc.M cc.g GC hr4 passL (pa_cons (pe_lc (own := [("_law_kind_here", 1)]) (g := gName 1) (tt := tYes) rfl sc_law_catalog.nd (kpl K (pv 0)) (blkOk_by (N := ["_law_kinds_here", "_law_kind_here"]) (sc := defScope s_law_catalog) (by decide +kernel)) (fun _ _ _ _ _ => (pg_name (i := 1) sc_law_catalog.nd rfl (Or.inl rfl))) (fun _ _ _ _ _ => pts_nil) (fun _ _ _ _ _ => (pe_cf dKi GKi hr pass0 (pa_cons (pv 1) pa_nil)))) pa_nil)))), ?_⟩
    refine Rd.start_ (σ' := [some (.ref a), none]) rfl ?_
    walk_at "rd"
    refine Rd.lcZ Rd.wList (by rw [lP]; walk_at "sz") (fun D i acc H' => Same H H' ∧ ∃ ks, acc = krefs ks ∧ ks.map ntOf = (ps.take i).map ntP ∧ KdsOk kc.C c.C H' ks) (fun D hD => ⟨same_new hD, [], rfl, rfl, fun r hr => absurd hr List.not_mem_nil⟩) (fun D i acc H' hi j => SqL.of (j.1 _ _ ha)) ?_ ?_
    · rintro D hD i x acc H' hi hx hacc hlen2 ⟨j1, ks, rfl, j3, j4⟩ Kt Kf hT' hF
      obtain ⟨kp, hk', rfl⟩ := pref_at hx
      have hkm := List.mem_of_getElem? hk'
      dsimp only [List.set]
      walk_at "rd"
      refine ⟨kp, rfl, (hps.mono j1) kp hkm, good kp hkm, fun kd H2 hn s2 hkd e1 e2 => ?_⟩
      have hacc2 := s2 _ _ hacc
      have gl : ∀ o, H2 D = some o → ∃ zs, o = .lst zs := fun o e => by rw [hacc2] at e; cases e; exact ⟨_, rfl⟩
      refine hT' _ _ hacc2 ⟨same_upd (j1.trans s2) hD, ks ++ [kd], ?_, ?_, fun k hk => ?_⟩
      · unfold krefs; rw [List.map_append]; rfl
      · rw [List.map_append, j3, List.take_add_one, hk', List.map_append]
        show _ ++ [(kd.n, trs kd.rs)] = _ ++ [(kp.n, kp.ts)]
        rw [e1, e2]
      · rcases List.mem_append.mp hk with hk | hk
        · exact KdOk.updL ((j4.mono s2) k hk) gl
        · rw [List.mem_singleton.mp hk]
          exact hkd.updL gl
    · rintro G acc H1 hG hacc hlen2 ⟨s1, ks, rfl, he, hks⟩
      rw [lP, List.take_length] at he
      have enm : ks.map (·.n) = ps.map (·.n) := ks_names he
      have lKs : ks.length = ps.length := ks_len he
      walk_at "rd"
      refine cmk_go cc hacc hks (by omega) (fun _ pc pt H2 hpc s2 cat => ?_) (fun i x fr => absurd (by rw [enm]; exact nd) (not_nodup fr.1 fr.2.1))
      exact k pc pt ks H2 (none_same s1 hpc) (s1.trans s2) cat (hks.mono s2) he
/-! ### the law's kinds -/
abbrev Nz := Addr × List (List Nat)
def NmL (xs : List (List Nat)) : Prop := xs.length = 8 ∧ (∀ l ∈ xs, Nm l) ∧ xs.Nodup
/-- what stands while the kinds are drawn: the heap at first, lists of names, the pool, the list of kinds -/
structure Bn (H0 : Hp) (Z : List Nz) (p R : Addr) (ps : List Kp) (H : Hp) : Prop where
  s0 : Same H0 H
  pl : PoolAt H p
  nz : ∀ z ∈ Z, NamesAt H z.1 z.2 ∧ z.1 ≠ p ∧ z.1 ≠ R
  hR : H R = some (.lst (prefs ps))
  hk : ∀ k ∈ ps, KpOk H k ∧ k.l ≠ p ∧ k.l ≠ R
  pR : R ≠ p
  np : H0 p = none
  nR : H0 R = none
section
variable {H0 : Hp} {Z : List Nz} {p R : Addr} {ps : List Kp} {H H' : Hp}
theorem Bn.drawn (h : Bn H0 Z p R ps H) (e : ∀ b, b ≠ p → H' b = H b) (hp : PoolAt H' p) : Bn H0 Z p R ps H' where
  s0 := fun b o z => by rw [e b (ne_of_none z h.np)]; exact h.s0 _ _ z
  pl := hp
  nz := fun z hz => ⟨by unfold NamesAt; rw [e _ (h.nz z hz).2.1]; exact (h.nz z hz).1, (h.nz z hz).2⟩
  hR := by rw [e _ h.pR]; exact h.hR
  hk := fun k hk => ⟨(h.hk k hk).1.sameB h.pl (SameB.drawn e) (h.hk k hk).2.1, (h.hk k hk).2⟩
  pR := h.pR
  np := h.np
  nR := h.nR
theorem Bn.same (h : Bn H0 Z p R ps H) (e : Same H H') : Bn H0 Z p R ps H' where
  s0 := h.s0.trans e
  pl := pool_of h.pl e
  nz := fun z hz => ⟨e _ _ (h.nz z hz).1, (h.nz z hz).2⟩
  hR := e _ _ h.hR
  hk := fun k hk => ⟨(h.hk k hk).1.mono e, (h.hk k hk).2⟩
  pR := h.pR
  np := h.np
  nR := h.nR
def Offn (H0 : Hp) (Z : List Nz) (p R : Addr) (ps : List Kp) (L : Addr) : Prop := H0 L = none ∧ p ≠ L ∧ (∀ z ∈ Z, z.1 ≠ L) ∧ R ≠ L ∧ ∀ k ∈ ps, k.l ≠ L
theorem Bn.ne (h : Bn H0 Z p R ps H) {L : Addr} (hL : H L = none) : Offn H0 Z p R ps L :=
  ⟨none_same h.s0 hL, pool_ne h.pl hL, fun z hz => ne_of_none (h.nz z hz).1 hL, ne_of_none h.hR hL, fun k hk => ne_of_none (h.hk k hk).1.2.1 hL⟩
theorem Bn.updL (h : Bn H0 Z p R ps H) {L : Addr} {zs ys : List V} (hL : H L = some (.lst zs)) (n : Offn H0 Z p R ps L) : Bn H0 Z p R ps (upd H L (.lst ys)) where
  s0 := same_upd h.s0 n.1
  pl := h.pl.upd n.2.1
  nz := fun z hz => ⟨by unfold NamesAt; rw [upd_ne (n.2.2.1 z hz)]; exact (h.nz z hz).1, (h.nz z hz).2⟩
  hR := by rw [upd_ne n.2.2.2.1]; exact h.hR
  hk := fun k hk => ⟨(h.hk k hk).1.updL hL (n.2.2.2.2 k hk), (h.hk k hk).2⟩
  pR := h.pR
  np := h.np
  nR := h.nR
theorem Bn.updR (h : Bn H0 Z p R ps H) {ps' : List Kp} (hk : ∀ k ∈ ps', KpOk H k ∧ k.l ≠ p ∧ k.l ≠ R) : Bn H0 Z p R ps' (upd H R (.lst (prefs ps'))) where
  s0 := same_upd h.s0 h.nR
  pl := h.pl.upd (Ne.symm h.pR)
  nz := fun z hz => ⟨by unfold NamesAt; rw [upd_ne (h.nz z hz).2.2]; exact (h.nz z hz).1, (h.nz z hz).2⟩
  hR := upd_same
  hk := fun k hk' => ⟨(hk k hk').1.updL h.hR (hk k hk').2.2, (hk k hk').2⟩
  pR := h.pR
  np := h.np
  nR := h.nR
end
theorem at_ints {lit : List Int} {r : Int} (h0 : 0 ≤ r) (h1 : r < lit.length) : ∃ z ∈ lit, atI (lit.map V.int) r = some (.int z) := by
  have hlt : r.toNat < lit.length := by omega
  have e : r = ((r.toNat : Nat) : Int) := by omega
  exact ⟨lit[r.toNat], List.getElem_mem hlt, (congrArg (atI _) e).trans (atI_nat (by simp [hlt]))⟩
/-- the labels of the first j roles -/
def labs (ls : List (List Nat)) (i j : Nat) : List (List Nat) := (List.range j).map fun x => ls.getD ((x + i) % 8) []
theorem labs_nodup {ls : List (List Nat)} (h : NmL ls) {i j : Nat} (hj : j ≤ 8) : (labs ls i j).Nodup := by
  unfold labs
  refine List.pairwise_map.mpr (List.Pairwise.imp_of_mem ?_ (List.nodup_range (n := j)))
  intro a b ha hb hab e
  have ha' : a < j := List.mem_range.mp ha
  have hb' : b < j := List.mem_range.mp hb
  have la : (a + i) % 8 < ls.length := by rw [h.1]; omega
  have lb : (b + i) % 8 < ls.length := by rw [h.1]; omega
  have ea : ls[(a + i) % 8]? = ls[(b + i) % 8]? := by
    rw [List.getElem?_eq_getElem la, List.getElem?_eq_getElem lb]
    rw [List.getD_eq_getElem?_getD, List.getD_eq_getElem?_getD, List.getElem?_eq_getElem la, List.getElem?_eq_getElem lb] at e
    exact congrArg some e
  have := inj_ix h.2.2 la ea
  omega
def TsIn (ls : List (List Nat)) (i must j : Nat) (ts : List Tri) : Prop := ts.map (·.1) = labs ls i j ∧ (∀ r ∈ ts, Nm r.1 ∧ Nm r.2.1 ∧ r.2.2 < 5) ∧ (must < j → ∃ r ∈ ts, 0 < r.2.2)
theorem TsIn.good {ls : List (List Nat)} (hl : NmL ls) {i must j : Nat} {ts : List Tri} (h : TsIn ls i must j ts) (hm : must < j) (h6 : j ≤ 6) {n : List Nat} (hn : Nm n) {a l : Addr} {us : List V} : KpGood ⟨a, n, l, us, ts⟩ := by
  have e := congrArg List.length h.1
  unfold labs at e
  rw [List.length_map, List.length_map, List.length_range] at e
  refine ⟨hn, ?_, ?_, ?_, h.2.1, h.2.2 hm⟩
  · show 1 ≤ ts.length; omega
  · show ts.length ≤ 6; omega
  · show (ts.map (·.1)).Nodup
    rw [h.1]
    exact labs_nodup hl (by omega)
def spKinds (K : PySem.W.Frag) : Sp := fun vs H Q _ => ∃ (a sz : Addr) (ns sizes : List Int) (wide : Int), vs = [.ref a, .int wide, .ref sz] ∧ SqL K H a (ns.map V.int) ∧ ns.length ≤ 63 ∧ 1 ≤ wide ∧ wide ≤ 8 ∧ SqL K H sz (sizes.map V.int) ∧ 1 ≤ sizes.length ∧ sizes.length ≤ 100 ∧ (∀ z ∈ sizes, 1 ≤ z ∧ z ≤ 6) ∧
  ∀ R ps H', H R = none → Same H H' → H' R = some (.lst (prefs ps)) → KpsOk H' ps → ps.length ≤ 4 → (∀ k ∈ ps, KpGood k) → (∀ k ∈ ps, ((k.ts.length : Nat) : Int) ∈ sizes) → (ps.map (·.n)).Nodup → Q (.ref R) H'
abbrev s_law_kinds : Stmt := top 36
theorem sc_law_kinds : FnScope ["_law_script", "_law_wide", "_law_sizes", "_law_words", "_law_groups", "_law_titles", "_law_labels", "_law_pool_here", "_law_many", "_law_used", "_law_kinds_here", "_law_k", "_law_count", "_law_must", "_law_roles", "_law_j", "_law_mode", "_law_group"] ["_law_script", "_law_wide", "_law_sizes"] (defScope s_law_kinds) := ⟨rfl, rfl, rfl, by decide +kernel, rfl, by decide +kernel, by decide +kernel⟩
abbrev DKs (K : PySem.W.Frag) (mg : Str → Option Value) := Df K mg "_law_kinds" "_law_kinds" s_law_kinds ["_law_script", "_law_wide", "_law_sizes"]
abbrev DPool (K : PySem.W.Frag) (mg : Str → Option Value) := Df K mg "_law_pool" "_law_pool" s_law_pool ["_law_script", "_law_k"]
abbrev DDraw (K : PySem.W.Frag) (mg : Str → Option Value) := Df K mg "_law_draw" "_law_draw" s_law_draw ["_law_pool_here", "_law_many"]
abbrev DNames (K : PySem.W.Frag) (mg : Str → Option Value) := Df K mg "_law_names" "_law_names" s_law_names ["_law_pool_here"]
theorem ok_kinds (d : DKs K mg) (T : Bt mg) (dP : DPool K mg) (dD : DDraw K mg) (dN : DNames K mg) (GP : FnOk P w K mg base CX0 1 dP.f dP.fd ["_law_script", "_law_k"] (spPool K)) (GD : FnOk P w K mg base CX0 1 dD.f dD.fd ["_law_pool_here", "_law_many"] spDraw) (GN : FnOk P w K mg base CX0 2 dN.f dN.fd ["_law_pool_here"] spNames) :
    FnOk P w K mg base CX0 3 d.f d.fd ["_law_script", "_law_wide", "_law_sizes"] (spKinds K) := by
  refine d.F.ok sc_law_kinds (fun vs H Q E h => ?_) (fun cdv A outer s H vs Q E hr h => ?_)
  · obtain ⟨a, sz, ns, sizes, wide, rfl, _⟩ := h
    rfl
  · obtain ⟨a, sz, ns, sizes, wide, rfl, hS, hl, w1, w8, hZ, z1, z100, hz6, k⟩ := h
    have hu := hr.units
    have hr1 : Room 1 _ := hr.mono (by decide)
    refine ⟨_, (pss_cons (ps_set (i := 3) sc_law_kinds.nd rfl (Or.inl rfl) (pe_cf dP GP hr1 pass0 (pa_cons (pv 0) (pa_cons pe_int pa_nil))))
  (pss_cons (ps_set (i := 4) sc_law_kinds.nd rfl (Or.inl rfl) (pe_cf dN GN hr pass0 (pa_cons (pv 3) pa_nil)))
  (pss_cons (ps_set (i := 5) sc_law_kinds.nd rfl (Or.inl rfl) (pe_cf dN GN hr pass0 (pa_cons (pv 3) pa_nil)))
  (pss_cons (ps_set (i := 6) sc_law_kinds.nd rfl (Or.inl rfl) (pe_cf dN GN hr pass0 (pa_cons (pv 3) pa_nil)))
  (pss_cons (ps_if (pt_cmpR (keq K hu) (pe_cf dD GD hr1 pass0 (pa_cons (pv 3) (pa_cons pe_int pa_nil))) pe_int (nomark _)) (pss_one (ps_set (i := 5) sc_law_kinds.nd rfl (Or.inl rfl) (pe_callTy (klist K) (by rfl) T.list (by decide +kernel) (pa_cons (pv 4) pa_nil))))
  pss_nil)
  (pss_cons (ps_if (pt_cmpR (keq K hu) (pe_cf dD GD hr1 pass0 (pa_cons (pv 3) (pa_cons pe_int pa_nil))) pe_int (nomark _)) (pss_one (ps_set (i := 6) sc_law_kinds.nd rfl (Or.inl rfl) (pe_callTy (klist K) (by rfl) T.list (by decide +kernel) (pa_cons (pv 5) pa_nil))))
  pss_nil)
  (pss_cons (ps_set (i := 7) sc_law_kinds.nd rfl (Or.inl rfl) (pe_cf dP GP hr1 pass0 (pa_cons (pv 0) (pa_cons pe_int pa_nil))))
  (pss_cons (ps_set (i := 8) sc_law_kinds.nd rfl (Or.inl rfl) (pe_ix (kix K) (pe_lst (pa_cons pe_int (pa_cons pe_int (pa_cons pe_int (pa_cons pe_int (pa_cons pe_int (pa_cons pe_int (pa_cons pe_int (pa_cons pe_int (pa_cons pe_int (pa_cons pe_int (pa_cons pe_int (pa_cons pe_int (pa_cons pe_int (pa_cons pe_int (pa_cons pe_int (pa_cons pe_int pa_nil))))))))))))))))) (pe_cf dD GD hr1 pass0 (pa_cons (pv 7) (pa_cons pe_int pa_nil))) (fun _ _ => rfl)))
  (pss_cons (ps_set (i := 9) sc_law_kinds.nd rfl (Or.inl rfl) (pe_op op_addA pe_int (pe_cf dD GD hr1 pass0 (pa_cons (pv 7) (pa_cons (pv 1) pa_nil)))))
  (pss_cons (ps_set (i := 10) sc_law_kinds.nd rfl (Or.inl rfl) (pe_lst pa_nil))
  (pss_cons (ps_for PassesOwn.never rfl (pi_range1 rfl T.range (pa_cons (pv 8) pa_nil)) (pg_name (i := 11) sc_law_kinds.nd rfl (Or.inl rfl))
  (pss_cons (ps_set (i := 12) sc_law_kinds.nd rfl (Or.inl rfl) (pe_ix (kix K) (pv 2) (pe_cf dD GD hr1 pass0 (pa_cons (pv 7) (pa_cons (pe_callB (klen K) (by rfl) T.len (by decide +kernel) (pa_cons (pv 2) pa_nil)) pa_nil))) (fun _ _ => rfl)))
  (pss_cons (ps_set (i := 13) sc_law_kinds.nd rfl (Or.inl rfl) (pe_cf dD GD hr1 pass0 (pa_cons (pv 7) (pa_cons (pv 12) pa_nil))))
  (pss_cons (ps_set (i := 14) sc_law_kinds.nd rfl (Or.inl rfl) (pe_lst pa_nil))
  (pss_cons (ps_for PassesOwn.never rfl (pi_range1 rfl T.range (pa_cons (pv 12) pa_nil)) (pg_name (i := 15) sc_law_kinds.nd rfl (Or.inl rfl))
  (pss_cons (ps_set (i := 16) sc_law_kinds.nd rfl (Or.inl rfl) (pe_cf dD GD hr1 pass0 (pa_cons (pv 7) (pa_cons pe_int pa_nil))))
  (pss_cons (ps_if (PW.pt (pw_and (pt_cmpR (keq K hu) (pv 15) (pv 13) (nomark _)) (pw_and1 (pt_cmpR (keq K hu) (pv 16) pe_int (nomark _))))) (pss_one (ps_set (i := 16) sc_law_kinds.nd rfl (Or.inl rfl) pe_int))
  pss_nil)
  (pss_cons (ps_set (i := 17) sc_law_kinds.nd rfl (Or.inl rfl) (pe_ix (kix K) (pv 4) (pe_cf dD GD hr1 pass0 (pa_cons (pv 7) (pa_cons (pv 9) pa_nil))) (fun _ _ => rfl)))
  (pss_one (ps_expr (kapp K (pv 14) (pa_cons (pe_tup (pa_cons (pe_ix (kix K) (pv 6) (pe_op op_modI (pe_callTy call_intA (by rfl) T.int (by decide +kernel) (pa_cons (pe_op op_addA (pv 15) (pv 11)) pa_nil)) pe_int) (fun _ _ => rfl)) (pa_cons (pv 17) (pa_cons (pv 16) pa_nil)))) pa_nil))))))))
  (pss_one (ps_expr (kapp K (pv 10) (pa_cons (pe_tup (pa_cons (pe_ix (kix K) (pv 5) (pv 11) (fun _ _ => rfl)) (pa_cons (pv 14) pa_nil))) pa_nil)))))))))
  (pss_one (ps_ret (pv 10)))))))))))))), ?_⟩
    refine Rd.start_ (σ' := [some (.ref a), some (.int wide), some (.ref sz), none, none, none, none, none, none, none, none, none, none, none, none, none, none, none]) rfl ?_
    walk_at "rd"
    refine ⟨a, ns, 2, rfl, hS, hl, by decide, by decide, fun p0 H1 hp0 s1 p1 => ?_⟩
    walk_at "rd"
    refine ⟨p0, rfl, p1, fun gs gq H2 hg8 hgN hgD hg0 s2 p2 hg => ?_⟩
    walk_at "rd"
    refine ⟨p0, rfl, p2, fun ts tq H3 ht8 htN htD ht0 s3 p3 ht => ?_⟩
    walk_at "rd"
    refine ⟨p0, rfl, p3, fun ls lq H4 hl8 hlN hlD hl0 s4 p4 hlq => ?_⟩
    have ng : gq ≠ p0 := Ne.symm (pool_ne p1 hg0)
    have nt : tq ≠ p0 := Ne.symm (pool_ne p2 ht0)
    have nl : lq ≠ p0 := Ne.symm (pool_ne p3 hl0)
    have s04 : Same H H4 := SameB.ofNone s1 hp0 ((s2.trans s3).trans s4)
    have hg4 : NamesAt H4 gq gs := s4 _ _ ng (s3 _ _ ng hg)
    have ht4 : NamesAt H4 tq ts := s4 _ _ nt ht
    show tSeq _ _ _ _ _
    refine Rd.seq ?_
    refine Rd.mid (fun σ H' => ∃ (tq : Addr) (ts : List (List Nat)), σ = [some (.ref a), some (.int wide), some (.ref sz), some (.ref p0), some (.ref gq), some (.ref tq), some (.ref lq), none, none, none, none, none, none, none, none, none, none, none] ∧
      Same H H' ∧ PoolAt H' p0 ∧ NamesAt H' gq gs ∧ NamesAt H' tq ts ∧ NamesAt H' lq ls ∧ tq ≠ p0 ∧ NmL ts) ?_ ?_
    · rintro σ H5 ⟨tq, ts, rfl, s5, p5, hg5, ht5, hl5, nt, ts8⟩
      refine Rd.seq ?_
      refine Rd.mid (fun σ H' => ∃ (lq : Addr) (ls : List (List Nat)), σ = [some (.ref a), some (.int wide), some (.ref sz), some (.ref p0), some (.ref gq), some (.ref tq), some (.ref lq), none, none, none, none, none, none, none, none, none, none, none] ∧
        Same H H' ∧ NamesAt H' gq gs ∧ NamesAt H' tq ts ∧ NamesAt H' lq ls ∧ NmL ls) ?_ ?_
      · clear hl5 p5 s5 hg5 ht5
        rintro σ H6 ⟨lq, ls, rfl, s6, hg6, ht6, hl6, ls8⟩
        walk_at "rd"
        refine ⟨a, ns, 1, rfl, s6.seq hS, hl, by decide, by decide, fun p H7 hp70 s7 p7 => ?_⟩
        walk_at "rd"
        refine ⟨by show 16 ≤ sizeLine; decide, fun l8 hl8' => ?_⟩
        have np8 : l8 ≠ p := Ne.symm (pool_ne p7 hl8')
        have s8 := same_new (o := .lst [V.int 0, V.int 1, V.int 1, V.int 1, V.int 2, V.int 2, V.int 2, V.int 2, V.int 2, V.int 3, V.int 3, V.int 3, V.int 3, V.int 4, V.int 4, V.int 4]) hl8'
        have p8 := pool_of p7 s8
        have h88 : upd H7 l8 (.lst [V.int 0, V.int 1, V.int 1, V.int 1, V.int 2, V.int 2, V.int 2, V.int 2, V.int 2, V.int 3, V.int 3, V.int 3, V.int 3, V.int 4, V.int 4, V.int 4]) l8 = some (.lst [V.int 0, V.int 1, V.int 1, V.int 1, V.int 2, V.int 2, V.int 2, V.int 2, V.int 2, V.int 3, V.int 3, V.int 3, V.int 3, V.int 4, V.int 4, V.int 4]) := upd_same
        generalize upd H7 l8 (.lst [V.int 0, V.int 1, V.int 1, V.int 1, V.int 2, V.int 2, V.int 2, V.int 2, V.int 2, V.int 3, V.int 3, V.int 3, V.int 3, V.int 4, V.int 4, V.int 4]) = H8 at s8 p8 h88
        have s68 := s7.trans s8
        walk_at "rd"
        refine ⟨_, _, rfl, by decide, by decide, p8, fun r9 H9 r90 r91 e9 p9 => ?_⟩
        have h89 : H9 l8 = some (.lst [V.int 0, V.int 1, V.int 1, V.int 1, V.int 2, V.int 2, V.int 2, V.int 2, V.int 2, V.int 3, V.int 3, V.int 3, V.int 3, V.int 4, V.int 4, V.int 4]) := by rw [e9 _ np8]; exact h88
        obtain ⟨mn, hmn, amn⟩ := at_ints (lit := [0, 1, 1, 1, 2, 2, 2, 2, 2, 3, 3, 3, 3, 4, 4, 4]) r90 r91
        have amn' : atI [V.int 0, V.int 1, V.int 1, V.int 1, V.int 2, V.int 2, V.int 2, V.int 2, V.int 2, V.int 3, V.int 3, V.int 3, V.int 3, V.int 4, V.int 4, V.int 4] r9 = some (.int mn) := amn
        have mn4 : 0 ≤ mn ∧ mn ≤ 4 := by
          have : ∀ z ∈ ([0, 1, 1, 1, 2, 2, 2, 2, 2, 3, 3, 3, 3, 4, 4, 4] : List Int), 0 ≤ z ∧ z ≤ 4 := by decide
          exact this mn hmn
        have keep9 : ∀ b o, H6 b = some o → H9 b = some o := fun b o z => by rw [e9 b (ne_of_none z hp70)]; exact s68 _ _ z
        walk_at "rd"
        refine ⟨_, _, rfl, by omega, by omega, p9, fun ud H10 u0 u8 e10 p10 => ?_⟩
        have keep10 : Same H6 H10 := fun b o z => by rw [e10 b (ne_of_none z hp70)]; exact keep9 b o z
        walk_at "rd"
        refine ⟨by show 0 ≤ sizeLine; decide, fun R hR => ?_⟩
        have hR6 : H6 R = none := none_same keep10 hR
        have b0 : Bn H6 [(gq, gs), (tq, ts), (lq, ls)] p R [] (upd H10 R (.lst (prefs []))) := by
          refine ⟨same_upd keep10 hR6, p10.upd (pool_ne p10 hR), fun z hz => ?_, upd_same, fun k hk => absurd hk List.not_mem_nil, Ne.symm (pool_ne p10 hR), hp70, hR6⟩
          have key : ∀ {q xs}, NamesAt H6 q xs → NamesAt (upd H10 R (.lst (prefs []))) q xs ∧ q ≠ p ∧ q ≠ R := fun {q xs} h => by
            have n1 := ne_of_none h hR6
            exact ⟨by unfold NamesAt; rw [upd_ne n1]; exact keep10 _ _ h, ne_of_none h hp70, n1⟩
          rcases List.mem_cons.mp hz with e | hz
          · rw [e]; exact key hg6
          rcases List.mem_cons.mp hz with e | hz
          · rw [e]; exact key ht6
          · rw [List.mem_singleton.mp hz]; exact key hl6
        walk_at "rd"
        have b0' : Bn H6 [(gq, gs), (tq, ts), (lq, ls)] p R [] (upd H10 R (.lst [])) := b0
        generalize upd H10 R (.lst []) = H11 at b0'
        have hZ6 := s6.seq hZ
        refine Rd.foW Rd.wRange (fun i σ H' => ∃ (o11 o12 o13 o14 o15 o16 o17 : Option V) (ps : List Kp), σ = [some (.ref a), some (.int wide), some (.ref sz), some (.ref p0), some (.ref gq), some (.ref tq), some (.ref lq), some (.ref p), some (.int mn), some (.int (1 + ud)), some (.ref R), o11, o12, o13, o14, o15, o16, o17] ∧
          Bn H6 [(gq, gs), (tq, ts), (lq, ls)] p R ps H' ∧ ps.length = i ∧ (∀ k ∈ ps, KpGood k ∧ ((k.ts.length : Nat) : Int) ∈ sizes) ∧ ps.map (·.n) = ts.take i) ⟨_, _, _, _, _, _, _, [], rfl, b0', rfl, fun k hk => absurd hk List.not_mem_nil, rfl⟩ (fun _ _ _ _ _ => trivial) ?_ ?_
        · rintro i x σ H12 hi hx ⟨o11, o12, o13, o14, o15, o16, o17, ps, rfl, b12, hln, hgd, hnm⟩
          rw [Int.zero_add] at hx
          subst hx
          have i4 : i < 4 := by omega
          have hZ12 := b12.s0.seq hZ6
          have lZ : (sizes.map V.int).length = sizes.length := List.length_map ..
          dsimp only [List.set]
          walk_at "rd"
          refine ⟨_, _, rfl, by omega, by omega, b12.pl, fun r13 H13 r0 r1 e13 p13 => ?_⟩
          have b13 := b12.drawn e13 p13
          have hZ13 := b13.s0.seq hZ6
          obtain ⟨ct, hct, act⟩ := at_ints (lit := sizes) r0 (by omega)
          have ct6 := hz6 ct hct
          walk_at "rd"
          refine ⟨_, _, rfl, by omega, by omega, b13.pl, fun mu H14 mu0 mu1 e14 p14 => ?_⟩
          have b14 := b13.drawn e14 p14
          walk_at "rd"
          refine ⟨by show 0 ≤ sizeLine; decide, fun L hL => ?_⟩
          have ofL := b14.ne hL
          have b15 := b14.same (same_new (o := .lst []) hL)
          have hL15 : upd H14 L (.lst []) L = some (.lst []) := upd_same
          generalize upd H14 L (.lst []) = H15 at b15 hL15
          walk_at "rd"
          refine Rd.foW Rd.wRange (fun j σ H' => ∃ (o15 o16 o17 : Option V) (us : List V) (tt : List Tri), σ = [some (.ref a), some (.int wide), some (.ref sz), some (.ref p0), some (.ref gq), some (.ref tq), some (.ref lq), some (.ref p), some (.int mn), some (.int (1 + ud)), some (.ref R), some (.int (i : Nat)), some (.int ct), some (.int mu), some (.ref L), o15, o16, o17] ∧
            Bn H6 [(gq, gs), (tq, ts), (lq, ls)] p R ps H' ∧ H' L = some (.lst us) ∧ TlAt H' us (tri tt) ∧ TsIn ls i mu.toNat j tt) ⟨_, _, _, [], [], rfl, b15, hL15, .nil, rfl, fun r hr => absurd hr List.not_mem_nil, fun z => absurd z (Nat.not_lt_zero _)⟩ (fun _ _ _ _ _ => trivial) ?_ ?_
          · rintro j x σ H16 hj hx ⟨o15, o16, o17, us, tt, rfl, b16, hL16, hT16, hts⟩
            rw [Int.zero_add] at hx
            subst hx
            have j6 : j < 6 := by omega
            dsimp only [List.set]
            walk_at "rd"
            refine ⟨_, _, rfl, by decide, by decide, b16.pl, fun md H17 m0 m5 e17 p17 => ?_⟩
            have b17 := b16.drawn e17 p17
            have hL17 : H17 L = some (.lst us) := by rw [e17 _ (Ne.symm ofL.2.1)]; exact hL16
            have hT17 := hT16.sameB (SameB.drawn e17) (pool_tup b16.pl)
            show tSeq _ _ _ _ _
            refine Rd.seq ?_
            refine Rd.mid (fun σ H' => ∃ m : Nat, m < 5 ∧ (j = mu.toNat → 0 < m) ∧ σ = [some (.ref a), some (.int wide), some (.ref sz), some (.ref p0), some (.ref gq), some (.ref tq), some (.ref lq), some (.ref p), some (.int mn), some (.int (1 + ud)), some (.ref R), some (.int (i : Nat)), some (.int ct), some (.int mu), some (.ref L), some (.int (j : Nat)), some (.int (m : Nat)), o17] ∧ H' = H17) ?_ ?_
            · rintro σ H' ⟨m, hm5, hm0, rfl, rfl⟩
              have hl17 := (b17.nz (lq, ls) (by simp)).1
              have l8' : (j + i) % 8 < ls.length := by rw [ls8.1]; omega
              have alb : atI (ls.map fun l => V.str (S l)) (((j : Int) + (i : Int)) % 8) = some (.str (S ls[(j + i) % 8])) := by
                have e : (((j : Int) + (i : Int)) % 8) = (((j + i) % 8 : Nat) : Int) := by omega
                exact (congrArg (atI _) e).trans (atI_nat (by rw [List.getElem?_map, List.getElem?_eq_getElem l8']; rfl))
              have lbN := ls8.2.1 _ (List.getElem_mem l8')
              have lbD : ls.getD ((j + i) % 8) [] = ls[(j + i) % 8] := by rw [List.getD_eq_getElem?_getD, List.getElem?_eq_getElem l8']; rfl
              walk_at "rd"
              refine ⟨_, _, rfl, by omega, by omega, b17.pl, fun gi H18 g0 g1 e18 p18 => ?_⟩
              have b18 := b17.drawn e18 p18
              have hL18 : H18 L = some (.lst us) := by rw [e18 _ (Ne.symm ofL.2.1)]; exact hL17
              have hT18 := hT17.sameB (SameB.drawn e18) (pool_tup b17.pl)
              obtain ⟨g, hgm, ag⟩ := at_names (ns := gs) g0 (by rw [hg8]; omega)
              have hg18 := (b18.nz (gq, gs) (by simp)).1
              refine Rd.ixL (SqL.of hg18) ag ?_
              have hl18 := (b18.nz (lq, ls) (by simp)).1
              walk_at "rd"
              refine ⟨by show 3 ≤ sizeLine; decide, fun tp htp => ?_⟩
              have s19 := same_new (o := .tup [.str (S ls[(j + i) % 8]), .str (S g), .int (m : Nat)]) htp
              have hL19 := s19 _ _ hL18
              have hT19 := hT18.mono s19
              have etl := congrArg List.length hts.1
              unfold labs at etl
              rw [List.length_map, List.length_map, List.length_range] at etl
              have lus : us.length ≤ 6 := by rw [tri_len hT18]; omega
              walk_at "rd"
              refine ⟨_, _, _, us ++ [.ref tp], tt ++ [(ls[(j + i) % 8], g, m)], rfl, (b18.same s19).updL hL19 ofL, upd_same, ?_, ?_, fun r hr => ?_, fun hlt => ?_⟩
              · unfold tri
                rw [List.map_append]
                exact (hT19.one upd_same).upd (fun o z => by rw [hL19] at z; cases z)
              · rw [List.map_append, hts.1]
                unfold labs
                rw [List.range_succ, List.map_append]
                show _ ++ [ls[(j + i) % 8]] = _ ++ [ls.getD ((j + i) % 8) []]
                rw [lbD]
              · rcases List.mem_append.mp hr with hr | hr
                · exact hts.2.1 r hr
                · rw [List.mem_singleton.mp hr]
                  exact ⟨lbN, hgN g hgm, hm5⟩
              · by_cases hj0 : j = mu.toNat
                · exact ⟨_, List.mem_append.mpr (.inr (List.mem_singleton.mpr rfl)), hm0 hj0⟩
                · obtain ⟨r, hr, h0⟩ := hts.2.2 (by omega)
                  exact ⟨r, List.mem_append.mpr (.inl hr), h0⟩
            · intro N' hN'
              walk_at "rd"
              refine Rd.iteD (fun c1 => ?_) (fun c1 => ?_)
              · walk_at "rd"
                refine Rd.iteD (fun c2 => ?_) (fun c2 => ?_)
                · walk_at "rd"
                  exact hN' _ _ ⟨3, by decide, fun _ => by decide, rfl, rfl⟩
                · walk_at "rd"
                  refine hN' _ _ ⟨md.toNat, by omega, fun _ => by omega, ?_, rfl⟩
                  rw [Int.toNat_of_nonneg m0]
              · walk_at "rd"
                refine hN' _ _ ⟨md.toNat, by omega, fun _ => by omega, ?_, rfl⟩
                rw [Int.toNat_of_nonneg m0]
          · rintro σ H16 ⟨o15, o16, o17, us, tt, rfl, b16, hL16, hT16, hts⟩
            have hR16 := b16.hR
            have i8 : i < ts.length := by rw [ts8.1]; omega
            have ht16 : H16 tq = some (.lst (ts.map fun l => V.str (S l))) := (b16.nz (tq, ts) (by simp)).1
            have an : atI (ts.map fun l => V.str (S l)) (i : Nat) = some (.str (S ts[i])) := atI_nat (by rw [List.getElem?_map, List.getElem?_eq_getElem i8]; rfl)
            have nmN := ts8.2.1 _ (List.getElem_mem i8)
            walk_at "rd"
            refine ⟨by show 2 ≤ sizeLine; decide, fun tp htp => ?_⟩
            have s17 := same_new (o := .tup [.str (S ts[i]), .ref L]) htp
            have b17 := b16.same s17
            have lpr : (prefs ps).length < sizeLine := by rw [List.length_map]; walk_at "sz"
            have hR17 := b17.hR
            walk_at "rd"
            have ep : prefs ps ++ [V.ref tp] = prefs (ps ++ [⟨tp, ts[i], L, us, tt⟩]) := by unfold prefs; rw [List.map_append]; rfl
            rw [ep]
            refine ⟨_, _, _, _, _, _, _, ps ++ [⟨tp, ts[i], L, us, tt⟩], rfl, b17.updR fun k hk => ?_, by rw [List.length_append, hln]; rfl, fun k hk => ?_, ?_⟩
            · rcases List.mem_append.mp hk with hk | hk
              · exact b17.hk k hk
              · rw [List.mem_singleton.mp hk]
                exact ⟨⟨upd_same, s17 _ _ hL16, hT16.mono s17⟩, Ne.symm ofL.2.1, Ne.symm ofL.2.2.2.1⟩
            · rcases List.mem_append.mp hk with hk | hk
              · exact hgd k hk
              · rw [List.mem_singleton.mp hk]
                refine ⟨hts.good ls8 (by omega) (by omega) nmN, ?_⟩
                have etl := congrArg List.length hts.1
                unfold labs at etl
                rw [List.length_map, List.length_map, List.length_range] at etl
                have e0 : ((tt.length : Nat) : Int) = ct := by omega
                show ((tt.length : Nat) : Int) ∈ sizes
                rw [e0]; exact hct
            · rw [List.map_append, hnm, List.take_add_one, List.getElem?_eq_getElem i8]
              rfl
        · rintro σ H12 ⟨o11, o12, o13, o14, o15, o16, o17, ps, rfl, b12, hln, hgd, hnm⟩
          walk_at "rd"
          exact k R ps H12 (none_same s6 hR6) (s6.trans b12.s0) b12.hR (fun k hk => (b12.hk k hk).1) (by omega) (fun k hk => (hgd k hk).1) (fun k hk => (hgd k hk).2) (by rw [hnm]; exact List.Sublist.nodup (List.take_sublist _ _) ts8.2.2)
      · intro N' hN'
        walk_at "rd"
        refine ⟨_, _, rfl, by decide, by decide, p5, fun dd H6 _ _ e6 p6 => ?_⟩
        have s6 : Same H H6 := fun b o z => by rw [e6 b (ne_of_none z hp0)]; exact s5 b o z
        have hg6 : NamesAt H6 gq gs := by unfold NamesAt; rw [e6 _ ng]; exact hg5
        have ht6 : NamesAt H6 tq ts := by unfold NamesAt; rw [e6 _ nt]; exact ht5
        have hl6 : NamesAt H6 lq ls := by unfold NamesAt; rw [e6 _ nl]; exact hl5
        walk_at "rd"
        refine Rd.iteD (fun _ => ?_) (fun _ => ?_)
        · walk_at "rd"
          refine Rd.listL (SqL.of ht6) fun l hl => ?_
          have s7 := same_new (o := .lst (ts.map fun l => V.str (S l))) hl
          exact hN' _ _ ⟨l, ts, rfl, s6.trans s7, s7 _ _ hg6, s7 _ _ ht6, upd_same, ts8⟩
        · walk_at "rd"
          exact hN' _ _ ⟨lq, ls, rfl, s6, hg6, ht6, hl6, ⟨hl8, hlN, hlD⟩⟩
    · intro N' hN'
      walk_at "rd"
      refine ⟨_, _, rfl, by decide, by decide, p4, fun dd H5 _ _ e5 p5 => ?_⟩
      have s5 : Same H H5 := fun b o z => by rw [e5 b (ne_of_none z hp0)]; exact s04 b o z
      have hg5 : NamesAt H5 gq gs := by unfold NamesAt; rw [e5 _ ng]; exact hg4
      have ht5 : NamesAt H5 tq ts := by unfold NamesAt; rw [e5 _ nt]; exact ht4
      have hl5 : NamesAt H5 lq ls := by unfold NamesAt; rw [e5 _ nl]; exact hlq
      walk_at "rd"
      refine Rd.iteD (fun _ => ?_) (fun _ => ?_)
      · walk_at "rd"
        refine Rd.listL (SqL.of hg5) fun l hl => ?_
        have s6 := same_new (o := .lst (gs.map fun l => V.str (S l))) hl
        exact hN' _ _ ⟨l, gs, rfl, s5.trans s6, pool_of p5 s6, s6 _ _ hg5, upd_same, s6 _ _ hl5, Ne.symm (pool_ne p5 hl), ⟨hg8, hgN, hgD⟩⟩
      · walk_at "rd"
        exact hN' _ _ ⟨tq, ts, rfl, s5, p5, hg5, ht5, hl5, nt, ⟨ht8, htN, htD⟩⟩

end
section
variable {P : Program} {w : World} {K : PySem.W.Frag} {mg : Str → Option Value} {base : Heap} {tk : Tok}
/-! ### a kind's methods -/
abbrev s_NoRole___init : Stmt := inClass (top 6) 0
theorem sc_NoRole___init : FnScope ["self", "name"] ["self", "name"] (defScope s_NoRole___init) := ⟨rfl, rfl, rfl, by decide +kernel, rfl, by decide +kernel, by decide +kernel⟩
abbrev ErO (K : PySem.W.Frag) (mg : Str → Option Value) := Er K mg "NoRole" "NoRole.__init__" "name" s_NoRole___init
theorem ok_nroi (r : ErO K mg) : FnOk P w K mg base CX0 1 r.f r.fd ["self", "name"] (spErI r.C "name") := by
  refine r.F.ok sc_NoRole___init (fun vs H Q E h => ?_) (fun cdv A outer s H vs Q E hr h => ?_)
  · obtain ⟨a, v, rfl, _⟩ := h
    rfl
  · obtain ⟨a, v, rfl, ha, k⟩ := h
    refine ⟨_, (pss_one (kost K (pv 0) (pv 1))), ?_⟩
    refine Rd.start_ (σ' := [some (.ref a), some v]) rfl ?_
    walk_at "rd"
    exact ⟨a, r.C, rfl, r.T, r.no, .inl ⟨ha, k⟩⟩
def KindAt (D : Addr) (H : Hp) (p t : Addr) (n : List Nat) (rs : List Ro) : Prop := (∃ dx, H p = some (.ins D dx (kflds n t))) ∧ H t = some (.tup (refs rs))
theorem KindAt.mono {D : Addr} {H H' : Hp} {p t : Addr} {n : List Nat} {rs : List Ro} (h : KindAt D H p t n rs) (e : Same H H') : KindAt D H' p t n rs := by
  obtain ⟨⟨dx, h1⟩, h2⟩ := h
  exact ⟨⟨dx, e _ _ h1⟩, e _ _ h2⟩
theorem kflds_no (n : List Nat) (t : Addr) {m : Str} (h1 : (m == ("name" : Str)) = false) (h2 : (m == ("roles" : Str)) = false) : (kflds n t).lookup m = none := by
  unfold kflds; simp [List.lookup, h1, h2]
def spRNamed (D : Addr) (C : Nat → Addr) (eR : Addr) : Sp := fun vs H Q E => ∃ (p t : Addr) (n x : List Nat) (rs : List Ro), vs = [.ref p, .str (S x)] ∧ KindAt D H p t n rs ∧ RosOk C H rs ∧ rs.length ≤ 8 ∧
  (∀ r ∈ rs, r.n = x → Q (.ref r.a) H) ∧ ((∀ r ∈ rs, r.n ≠ x) → Raised E eR "name" (.str (S x)) H)
abbrev s_Kind_role_named : Stmt := inClass (top 20) 1
theorem sc_Kind_role_named : FnScope ["self", "name", "role"] ["self", "name"] (defScope s_Kind_role_named) := ⟨rfl, rfl, rfl, by decide +kernel, rfl, by decide +kernel, by decide +kernel⟩
abbrev MKn (K : PySem.W.Frag) := Mf K "role_named" "Kind.role_named" s_Kind_role_named ["self", "name"]
theorem ok_rnamed {mI mK : Addr} (m : MKn K) (T : Bt mg) (c : Six K mg mI) (kc : Kc K mg mK) (eR : ErO K mg) : FnOk P w K mg base (L2.CX P w) 3 m.f m.fd ["self", "name"] (spRNamed kc.C c.C eR.C) := by
  have GR : FnOk P w K mg base CX0 1 eR.f eR.fd _ (spErI eR.C "name") := ok_nroi eR
  refine m.F.okX sc_Kind_role_named (fun vs H Q E h => ?_) (fun cdv A outer s H vs Q E hr h => ?_)
  · obtain ⟨p, t, n, x, rs, rfl, _⟩ := h
    rfl
  · obtain ⟨p, t, n, x, rs, rfl, ⟨⟨dx, hp⟩, ht⟩, hro, hl, k1, k2⟩ := h
    have hu := hr.units
    refine ⟨_, (pss_cons (ps_for (passes_of rfl) rfl (kpt K (kfld K (pv 0))) (pg_name (i := 2) sc_Kind_role_named.nd rfl (Or.inl rfl))
  (pss_one (ps_if (pt_cmpR (keq K hu) (kfld K (pv 2)) (pv 1) (nomark _)) (pss_one (ps_ret (pv 2)))
  pss_nil)))
  (pss_one (ps_raise rfl (takes_of rfl rfl rfl rfl) (pmk_er eR GR hr (pa_cons (pv 1) pa_nil))))), ?_⟩
    refine Rd.start_ (σ' := [some (.ref p), some (.str (S x)), none]) rfl ?_
    walk_at "rd"
    refine ⟨p, kc.C, dx, _, _, rfl, hp, kc.cl, kc.nR, kflds_roles _ _, ?_⟩
    refine Rd.extup (SqT.of ht) ?_
    refine Rd.foW Rd.wTup (fun i σ H' => ∃ o, σ = [some (.ref p), some (.str (S x)), o] ∧ H' = H ∧ ∀ r ∈ rs.take i, r.n ≠ x) ⟨none, rfl, rfl, fun r hr => absurd hr (List.not_mem_nil)⟩ (fun i σ H' hi ⟨_, _, e, _⟩ => by subst e; exact SqT.of ht) ?_ ?_
    · rintro i y σ H' hi hy ⟨o, rfl, rfl, j2⟩
      obtain ⟨r, hr', rfl⟩ := ref_at hy
      have hmem := List.mem_of_getElem? hr'
      obtain ⟨rm, dr, hat⟩ := hro r hmem
      dsimp only [List.set]
      walk_at "rd"
      refine ⟨r.a, _, dr, _, _, rfl, hat, c.cl r.m, c.nN r.m, flds_name _ _, ?_⟩
      walk_at "rd"
      refine Rd.iteD (fun c1 => ?_) (fun c1 => ?_)
      · walk_at "rd"
        exact k1 r hmem c1
      · walk_at "rd"
        refine ⟨_, rfl, rfl, fun r2 h2 => ?_⟩
        rw [List.take_add_one, hr'] at h2
        rcases List.mem_append.mp h2 with h2 | h2
        · exact j2 r2 h2
        · rw [List.mem_singleton.mp h2]; exact c1
    · rintro σ H' ⟨o, rfl, rfl, j2⟩
      have e1 : rs.take (refs rs).length = rs := by rw [List.length_map, List.take_length]
      rw [e1] at j2
      walk_at "rd"
      exact Rd.erGo fun d hd => k2 j2 d _ (same_new hd) upd_same
/-! the pairs -/
def pairsOf (rs : List (List Nat × Nat)) : List (List Nat × List Nat) := rs.flatMap fun f => (rs.filter fun s => rdB f.2 && (dvB s.2 && !decide (f.1 = s.1))).map fun s => (f.1, s.1)
def pairsP (R D : List (List Nat)) : List (List Nat × List Nat) := R.flatMap fun a => (D.filter fun b => !decide (a = b)).map fun b => (a, b)
theorem filt_flat {α β : Type} (p : α → Bool) (f : α → List β) (l : List α) : (l.filter p).flatMap f = l.flatMap fun x => if p x then f x else [] := by
  induction l with
  | nil => rfl
  | cons x l ih =>
    rw [List.flatMap_cons]
    by_cases h : p x
    · rw [List.filter_cons_of_pos h, List.flatMap_cons, ih, if_pos h]
    · rw [List.filter_cons_of_neg h, ih, if_neg h, List.nil_append]
theorem pairs_eq (rs : List (List Nat × Nat)) : pairsP ((rs.filter fun r => rdB r.2).map (·.1)) ((rs.filter fun r => dvB r.2).map (·.1)) = pairsOf rs := by
  unfold pairsP pairsOf
  rw [List.flatMap_map, filt_flat]
  congr 1
  funext f
  rw [List.filter_map, List.map_map, List.filter_filter]
  by_cases h : rdB f.2 = true
  · rw [if_pos h, h]
    show ((rs.filter fun a => ((fun b => !decide (f.1 = b)) ∘ fun x => x.1) a && dvB a.2).map fun s => (f.1, s.1)) = _
    congr 2
    funext s
    show ((!decide (f.1 = s.1)) && dvB s.2) = (true && (dvB s.2 && !decide (f.1 = s.1)))
    rw [Bool.true_and, Bool.and_comm]
  · have h' : rdB f.2 = false := Bool.eq_false_iff.mpr h
    rw [if_neg h, h']
    show [] = ((rs.filter fun s => false && (dvB s.2 && !decide (f.1 = s.1))).map fun s => (f.1, s.1))
    simp
/-! ### the pairs of a kind -/
inductive PrAt (H : Hp) : List V → List (List Nat × List Nat) → Prop
  | nil : PrAt H [] []
  | cons {a : Addr} {x y : List Nat} {vs : List V} {ps : List (List Nat × List Nat)} : H a = some (.tup [.str (S x), .str (S y)]) → PrAt H vs ps → PrAt H (.ref a :: vs) ((x, y) :: ps)
theorem PrAt.mono {H H' : Hp} {vs : List V} {ps : List (List Nat × List Nat)} (h : PrAt H vs ps) (e : Same H H') : PrAt H' vs ps := by
  induction h with
  | nil => exact .nil
  | cons h _ ih => exact .cons (e _ _ h) ih
theorem PrAt.app {H : Hp} {vs us : List V} {ps qs : List (List Nat × List Nat)} (h : PrAt H vs ps) (k : PrAt H us qs) : PrAt H (vs ++ us) (ps ++ qs) := by
  induction h with
  | nil => exact k
  | cons h _ ih => exact .cons h ih
theorem PrAt.one {H : Hp} {a : Addr} {x y : List Nat} {vs : List V} {ps : List (List Nat × List Nat)} (h : PrAt H vs ps) (k : H a = some (.tup [.str (S x), .str (S y)])) : PrAt H (vs ++ [.ref a]) (ps ++ [(x, y)]) := h.app (.cons k .nil)
def nm2 (rs : List Ro) : List (List Nat × Nat) := rs.map fun r => (r.n, r.m)
def spPairs (D : Addr) (C : Nat → Addr) : Sp := fun vs H Q _ => ∃ (p t : Addr) (n : List Nat) (rs : List Ro), vs = [.ref p] ∧ KindAt D H p t n rs ∧ RosOk C H rs ∧ rs.length ≤ 8 ∧
  ∀ l vs H', H l = none → Same H H' → H' l = some (.lst vs) → PrAt H' vs (pairsOf (nm2 rs)) → Q (.ref l) H'
abbrev s_Kind_pairs : Stmt := inClass (top 20) 2
theorem sc_Kind_pairs : FnScope ["self", "readers", "derived", "role", "first", "second"] ["self"] (defScope s_Kind_pairs) := ⟨rfl, rfl, rfl, by decide +kernel, rfl, by decide +kernel, by decide +kernel⟩
abbrev MKp (K : PySem.W.Frag) := Mf K "pairs" "Kind.pairs" s_Kind_pairs ["self"]
theorem filt_take {α : Type} {p : α → Bool} {l : List α} {i : Nat} {x : α} (h : l[i]? = some x) : (l.take (i + 1)).filter p = (l.take i).filter p ++ (if p x then [x] else []) := by
  rw [List.take_add_one, h, List.filter_append]
  congr 1
  cases hp : p x <;> simp [hp]
def inner (a : List Nat) (D : List (List Nat)) : List (List Nat × List Nat) := (D.filter fun b => !decide (a = b)).map fun b => (a, b)
theorem str_at {ns : List (List Nat)} {i : Nat} {x : V} (h : (ns.map fun l => V.str (S l))[i]? = some x) : ∃ l, ns[i]? = some l ∧ x = .str (S l) := by
  rw [List.getElem?_map] at h
  obtain ⟨r, h1, h2⟩ := Option.map_eq_some_iff.mp h
  exact ⟨r, h1, h2.symm⟩
theorem ok_pairs {mI mK : Addr} (m : MKp K) (T : Bt mg) (c : Six K mg mI) (kc : Kc K mg mK) (t1 : ∀ m, m < 5 → Tells P w K mg base (c.C m) "reads" (.bl (rdB m))) (t3 : ∀ m, m < 5 → Tells P w K mg base (c.C m) "derived" (.bl (dvB m))) :
    FnOk P w K mg base CX0 2 m.f m.fd ["self"] (spPairs kc.C c.C) := by
  refine m.F.ok sc_Kind_pairs (fun vs H Q E h => ?_) (fun cdv A outer s H vs Q E hr h => ?_)
  · obtain ⟨p, t, n, rs, rfl, _⟩ := h
    rfl
  · obtain ⟨p, t, n, rs, rfl, ⟨⟨dx, hp⟩, ht⟩, hro, hl, k⟩ := h
    have hu := hr.units
    have hr1 : Room 1 _ := hr.mono (by decide)
    refine ⟨_, (pss_cons (ps_setLc (i := 1) (own := [("role", 3)]) (g := gName 3) rfl sc_Kind_pairs.nd rfl rfl (sw_true rfl rfl rfl (by decide +kernel)) (kpt K (kfld K (pv 0))) (blkOk_by (N := ["self", "readers", "derived", "role", "first", "second"]) (sc := defScope s_Kind_pairs) (by decide +kernel)) (fun _ _ _ _ _ => (pg_name (i := 3) sc_Kind_pairs.nd rfl (Or.inl rfl))) (fun _ _ _ _ _ => (pts_one (pt_val (pe_altN (n := 5) (t := fun m => tMeth (c.C m) "reads" (spTells (.bl (rdB m))) [] E0 (tVar 3) tNil) fun m hm => by obtain ⟨_, _, _, dd, mm, GG⟩ := t1 m hm; exact pe_m0g (pv 3) (c.cl m) mm GG hr1 pass0 dd.b)))) (fun _ _ _ _ _ => (kfld K (pv 3))))
  (pss_cons (ps_set (i := 2) sc_Kind_pairs.nd rfl (Or.inr rfl) (pe_lc (own := [("role", 3)]) (g := gName 3) rfl sc_Kind_pairs.nd (kpt K (kfld K (pv 0))) (blkOk_by (N := ["self", "readers", "derived", "role", "first", "second"]) (sc := defScope s_Kind_pairs) (by decide +kernel)) (fun _ _ _ _ _ => (pg_name (i := 3) sc_Kind_pairs.nd rfl (Or.inl rfl))) (fun _ _ _ _ _ => (pts_one (pt_val (pe_altN (n := 5) (t := fun m => tMeth (c.C m) "derived" (spTells (.bl (dvB m))) [] E0 (tVar 3) tNil) fun m hm => by obtain ⟨_, _, _, dd, mm, GG⟩ := t3 m hm; exact pe_m0g (pv 3) (c.cl m) mm GG hr1 pass0 dd.b)))) (fun _ _ _ _ _ => (kfld K (pv 3)))))
  (pss_one (ps_ret (pe_lc2 (own := [("first", 4), ("second", 5)]) (vs1 := [5]) (g := gName 4) (g1 := gName 5) (tt := tYes) rfl sc_Kind_pairs.nd (kpl K (pv 1)) (blkOk_by (N := ["self", "readers", "derived", "role", "first", "second"]) (sc := defScope s_Kind_pairs) (by decide +kernel)) (by decide) (fun _ _ _ _ _ => (pg_name (i := 4) sc_Kind_pairs.nd rfl (Or.inl rfl))) (fun _ _ _ _ _ => pts_nil) (fun _ _ _ _ _ => (kpl K (pv 2))) (fun _ _ _ _ _ => (pg_name (i := 5) sc_Kind_pairs.nd rfl (Or.inl rfl))) (fun _ _ _ _ _ => (pts_one (pt_cmpR (kne K hu) (pv 4) (pv 5) (nomark _)))) (fun _ _ _ _ _ => (pe_tup (pa_cons (pv 4) (pa_cons (pv 5) pa_nil))))))))), ?_⟩
    refine Rd.start_ (σ' := [some (.ref p), none, none, none, none, none]) rfl ?_
    walk_at "rd"
    refine ⟨p, kc.C, dx, _, _, rfl, hp, kc.cl, kc.nR, kflds_roles _ _, ?_⟩
    refine Rd.extup (SqT.of ht) ?_
    refine Rd.lcW Rd.wTup (by rw [List.length_map]; walk_at "sz") (fun i acc H' => Same H H' ∧ acc = ((rs.take i).filter fun r => rdB r.m).map fun r => V.str (S r.n)) ⟨Same.refl _, rfl⟩
      (fun D hD i acc ys H' j => ⟨same_upd j.1 hD, j.2⟩) (fun i acc H' hi j => SqT.of (j.1 _ _ ht)) ?_ ?_
    · intro D2 hD i x acc H' hi hx hacc hlen ⟨j1, j2⟩ Kt Kf hT hF
      dsimp only [List.set]
      obtain ⟨r, hr', rfl⟩ := ref_at hx
      obtain ⟨rm, dr, hat⟩ := hro.mono j1 r (List.mem_of_getElem? hr')
      walk_at "rd"
      refine Rd.alt rm ?_
      walk_at "rd"
      refine ⟨r.a, dr, _, rfl, hat, flds_no _ _ (by decide +kernel) (by decide +kernel), ?_⟩
      walk_at "rd"
      refine ⟨r.a, rfl, ?_⟩
      walk_at "rd"
      have e1 := filt_take (p := fun r : Ro => rdB r.m) hr'
      cases hb : rdB r.m with
      | true =>
        rw [hb, if_pos rfl] at e1
        walk_at "rd"
        refine ⟨r.a, _, dr, _, _, rfl, hat, c.cl r.m, c.nN r.m, flds_name _ _, ?_⟩
        refine hT _ _ hacc ⟨j1, ?_⟩
        rw [j2, e1, List.map_append]
        rfl
      | false =>
        rw [hb, if_neg Bool.false_ne_true, List.append_nil] at e1
        walk_at "rd"
        refine hF _ hacc ⟨j1, ?_⟩
        rw [j2, e1]
    intro R acc H1 hRn hR hlenR ⟨s1, j2⟩
    rw [List.length_map, List.take_length] at j2
    have eR : acc = ((rs.filter fun r => rdB r.m).map (·.n)).map fun l => V.str (S l) := by rw [j2, List.map_map]; rfl
    rw [eR] at hR
    have hp1 := s1 _ _ hp
    have ht1 := s1 _ _ ht
    have hro1 := hro.mono s1
    walk_at "rd"
    refine ⟨p, kc.C, dx, _, _, rfl, hp1, kc.cl, kc.nR, kflds_roles _ _, ?_⟩
    refine Rd.extup (SqT.of ht1) ?_
    refine Rd.lcW Rd.wTup (by rw [List.length_map]; walk_at "sz") (fun i acc H' => Same H1 H' ∧ acc = ((rs.take i).filter fun r => dvB r.m).map fun r => V.str (S r.n)) ⟨Same.refl _, rfl⟩
      (fun D hD i acc ys H' j => ⟨same_upd j.1 hD, j.2⟩) (fun i acc H' hi j => SqT.of (j.1 _ _ ht1)) ?_ ?_
    · intro D2 hD i x acc H' hi hx hacc hlen ⟨j1, j2⟩ Kt Kf hT hF
      dsimp only [List.set]
      obtain ⟨r, hr', rfl⟩ := ref_at hx
      obtain ⟨rm, dr, hat⟩ := hro1.mono j1 r (List.mem_of_getElem? hr')
      walk_at "rd"
      refine Rd.alt rm ?_
      walk_at "rd"
      refine ⟨r.a, dr, _, rfl, hat, flds_no _ _ (by decide +kernel) (by decide +kernel), ?_⟩
      walk_at "rd"
      refine ⟨r.a, rfl, ?_⟩
      walk_at "rd"
      have e1 := filt_take (p := fun r : Ro => dvB r.m) hr'
      cases hb : dvB r.m with
      | true =>
        rw [hb, if_pos rfl] at e1
        walk_at "rd"
        refine ⟨r.a, _, dr, _, _, rfl, hat, c.cl r.m, c.nN r.m, flds_name _ _, ?_⟩
        refine hT _ _ hacc ⟨j1, ?_⟩
        rw [j2, e1, List.map_append]
        rfl
      | false =>
        rw [hb, if_neg Bool.false_ne_true, List.append_nil] at e1
        walk_at "rd"
        refine hF _ hacc ⟨j1, ?_⟩
        rw [j2, e1]
    intro E2 acc H2 hEn hE hlenE ⟨s2, j3⟩
    rw [List.length_map, List.take_length] at j3
    have eE : acc = ((rs.filter fun r => dvB r.m).map (·.n)).map fun l => V.str (S l) := by rw [j3, List.map_map]; rfl
    rw [eE] at hE
    have hR2 := s2 _ _ hR
    walk_at "rd"
    generalize hRn' : ((rs.filter fun r => rdB r.m).map (·.n)) = Rn at hR hR2
    generalize hDn' : ((rs.filter fun r => dvB r.m).map (·.n)) = Dn at hE
    have lR : Rn.length ≤ 8 := by rw [← hRn', List.length_map]; exact Nat.le_trans (List.length_filter_le _ _) hl
    have lD : Dn.length ≤ 8 := by rw [← hDn', List.length_map]; exact Nat.le_trans (List.length_filter_le _ _) hl
    have lRD : Rn.length * Dn.length ≤ 8 * 8 := Nat.mul_le_mul lR lD
    have eP : pairsP Rn Dn = pairsOf (nm2 rs) := by
      rw [← pairs_eq, ← hRn', ← hDn']
      unfold nm2
      rw [List.filter_map, List.filter_map, List.map_map, List.map_map]
      rfl
    refine Rd.lc2L ?_
    walk_at "rd"
    refine Rd.lc2W (s := 4) (s1 := 5) (b := E2) (ys := Dn.map fun l => V.str (S l)) (by decide) (by rw [List.length_map, List.length_map]; walk_at "sz") (fun i j acc H' => Same H2 H' ∧ PrAt H' acc (pairsP (Rn.take i) Dn ++ match Rn[i]? with | some a => inner a (Dn.take j) | none => []))
      ⟨Same.refl _, ?_⟩ ?_ (fun i j acc H' q => ⟨SqL.of (q.1 _ _ hR2), SqL.of (q.1 _ _ hE)⟩) (fun x H' => ⟨_, rfl, rfl, rfl⟩) (fun σ H Q R h ⟨v, e, q⟩ => ⟨v, e, h _ _ q⟩) ?_ ?_ ?_
    · show PrAt H2 [] ([] ++ _)
      cases Rn[0]? <;> exact .nil
    · intro D3 hD3 i j acc zs H' hne ⟨q1, q2⟩
      refine ⟨same_upd q1 hD3, ?_⟩
      clear hE hR hR2 hRn' hDn' eP lRD lD lR q1
      generalize (pairsP (Rn.take i) Dn ++ match Rn[i]? with | some a => inner a (Dn.take j) | none => []) = ps at q2 ⊢
      induction q2 with
      | nil => exact .nil
      | cons h _ ih => exact .cons (by rw [upd_ne (hne _ _ h)]; exact h) ih
    · intro i acc H' hi ⟨q1, q2⟩
      rw [List.length_map] at hi q2
      refine ⟨q1, ?_⟩
      have hat : Rn[i]? = some Rn[i] := List.getElem?_eq_getElem hi
      rw [hat, List.take_length] at q2
      have e3 : pairsP (Rn.take (i + 1)) Dn = pairsP (Rn.take i) Dn ++ inner Rn[i] Dn := by
        rw [List.take_add_one, hat]
        show pairsP (Rn.take i ++ [Rn[i]]) Dn = _
        unfold pairsP
        rw [List.flatMap_append]
        show _ ++ (inner Rn[i] Dn ++ []) = _
        rw [List.append_nil]
      have e4 : (match Rn[i + 1]? with | some a => inner a (Dn.take 0) | none => []) = ([] : List (List Nat × List Nat)) := by cases Rn[i + 1]? <;> rfl
      rw [e3, e4, List.append_nil]
      exact q2
    · intro D3 hD3 i j x y acc H' hx hy hacc ⟨q1, q2⟩ Kt Kf hT hF
      obtain ⟨x, hx', rfl⟩ := str_at hx
      obtain ⟨y, hy', rfl⟩ := str_at hy
      dsimp only [List.set]
      rw [hx'] at q2
      have e5 := filt_take (p := fun b => !decide (x = b)) hy'
      have e6 : inner x (Dn.take (j + 1)) = inner x (Dn.take j) ++ (if (!decide (x = y)) = true then [(x, y)] else []) := by
        unfold inner
        rw [e5, List.map_append]
        congr 1
        cases (!decide (x = y)) <;> rfl
      walk_at "rd"
      refine Rd.iteN (fun c1 => ?_) (fun c1 => ?_)
      · rw [decide_eq_false c1] at e6
        walk_at "rd"
        refine ⟨by show 2 ≤ sizeLine; decide, fun tp htp => ?_⟩
        have htD : D3 ≠ tp := fun z => by rw [← z, hacc] at htp; cases htp
        refine hT _ _ (by rw [upd_ne htD]; exact hacc) ⟨same_upd q1 (none_same q1 htp), ?_⟩
        rw [hx']
        show PrAt _ _ (_ ++ inner x (Dn.take (j + 1)))
        rw [e6, ← List.append_assoc]
        exact (q2.mono (same_new htp)).one upd_same
      · rw [decide_eq_true c1] at e6
        refine hF _ hacc ⟨q1, ?_⟩
        rw [hx']
        show PrAt _ _ (_ ++ inner x (Dn.take (j + 1)))
        rw [e6]
        show PrAt _ _ (_ ++ (inner x (Dn.take j) ++ []))
        rw [List.append_nil]
        exact q2
    · intro l vs H' hl' hvs hlen ⟨q1, q2⟩
      rw [List.length_map, List.take_length] at q2
      have e7 : (match Rn[Rn.length]? with | some a => inner a (Dn.take 0) | none => []) = ([] : List (List Nat × List Nat)) := by cases Rn[Rn.length]? <;> rfl
      rw [e7, List.append_nil, eP] at q2
      exact k l vs H' (none_same (s1.trans s2) hl') ((s1.trans s2).trans q1) hvs q2

end
section
variable {P : Program} {w : World} {K : PySem.W.Frag} {mg : Str → Option Value} {base : Heap} {tk : Tok}
/-! ### the groups of a catalog -/
theorem ksortset {X : Cx} (K : PySem.W.Frag) {a : Expr} {ta : TE} {p p2 q pos : Pos} (T : Bt mg) (ha : PE X a ta) (hmg : X.mg = mg := by rfl) (hg : Gl X "sorted" := by rfl) (hg2 : Gl X "set" := by rfl) (hc : X.calm = true := by rfl) (hK : X.K = K := by rfl)
    (na : starEach [a] X.env = (false, eval a X.env) :: starEach [] X.env := by rfl) : PE X (.Call (.Name "sorted" p) [.Call (.Name "set" p2) [a] [] q] [] pos) (Sets.tSortSetT K ta) := by
  subst hmg hK
  exact Sets.pe_sortSetT hg T.sorted hg2 T.set ha hc na
theorem lc2T {K : PySem.W.Frag} {σ : St} {H : Hp} {Q : VK} {te tl : TE} {tt tt1 : TT} {g g1 : TG} {wi1 : TI} {vs vs1 : List Nat} (h : tl σ H fun x H1 => ∃ a, x = .ref a ∧ (∃ xs, SqT K H1 a xs) ∧ Lc2Go (Itt K a) g tt wi1 g1 tt1 te vs vs1 σ H1 Q) : tLc2 (iTup K tl) g tt wi1 g1 tt1 te vs vs1 σ H Q := h
/-- a strictly rising list of the texts of gs -/
def Rises (gs : List (List Nat)) (ss : List Str) : Prop := PyProof.Rows.sortedS ss = true ∧ ss.Nodup ∧ ∀ s, s ∈ ss ↔ s ∈ gs.map S
def kd0 : Kd := ⟨0, 0, [], []⟩
theorem getD_at {ks : List Kd} {i : Nat} {k : Kd} (h : ks[i]? = some k) : ks.getD i kd0 = k := by rw [List.getD_eq_getElem?_getD, h]; rfl
def spGroups (CC D : Addr) (C : Nat → Addr) (gr : List Kd → List (List Nat)) : Sp := fun vs H Q _ => ∃ (p t dx : Addr) (ks : List Kd), vs = [.ref p] ∧ H p = some (.ins CC dx (cflds t)) ∧ H t = some (.tup (krefs ks)) ∧ KdsOk D C H ks ∧ ks.length ≤ 8 ∧ (∀ k ∈ ks, k.rs.length ≤ 6) ∧
  ∀ l ss H', H l = none → Same H H' → H' l = some (.lst (ss.map V.str)) → Rises (gr ks) ss → Q (.ref l) H'
/-! ### the groups that are made -/
theorem filt_take' {α : Type} {p : α → Bool} {l : List α} {i : Nat} {x : α} (h : l[i]? = some x) : (l.take (i + 1)).filter p = (l.take i).filter p ++ (if p x then [x] else []) := by
  rw [List.take_add_one, h, List.filter_append]
  congr 1
  cases hp : p x <;> simp [hp]
def mgrps (ks : List Kd) : List (List Nat) := ks.flatMap fun k => (k.rs.filter fun r => mkB r.m).map (·.g)
theorem mgrps_len {ks : List Kd} (h6 : ∀ k ∈ ks, k.rs.length ≤ 6) : (mgrps ks).length ≤ ks.length * 6 := by
  induction ks with
  | nil => exact Nat.zero_le _
  | cons k ks ih =>
    have h1 := h6 k List.mem_cons_self
    have h2 := ih fun k hk => h6 k (List.mem_cons_of_mem _ hk)
    have h3 := List.length_filter_le (fun r : Ro => mkB r.m) k.rs
    unfold mgrps at h2 ⊢
    rw [List.flatMap_cons, List.length_append, List.length_map, List.length_cons]
    omega
abbrev s_Catalog_made_groups : Stmt := inClass (top 21) 5
theorem sc_Catalog_made_groups : FnScope ["self", "kind", "role"] ["self"] (defScope s_Catalog_made_groups) := ⟨rfl, rfl, rfl, by decide +kernel, rfl, by decide +kernel, by decide +kernel⟩
theorem ok_mgroups {mI mK mC : Addr} (m : Mf K "made_groups" "Catalog.made_groups" s_Catalog_made_groups ["self"]) (T : Bt mg) (c : Six K mg mI) (kc : Kc K mg mK) (cc : Cc K mg mC) (t2 : ∀ m, m < 5 → Tells P w K mg base (c.C m) "makes" (.bl (mkB m))) : FnOk P w K mg base CX0 2 m.f m.fd ["self"] (spGroups cc.C kc.C c.C mgrps) := by
  refine m.F.ok sc_Catalog_made_groups (fun vs H Q E h => ?_) (fun cdv A outer s H vs Q E hr h => ?_)
  · obtain ⟨p, t, dx, ks, rfl, _⟩ := h
    rfl
  · obtain ⟨p, t, dx, ks, rfl, hp, ht, hks, hl, hl6, k⟩ := h
    have hu := hr.units
    have hr1 : Room 1 _ := hr.mono (by decide)
    refine ⟨_, (pss_one (ps_ret (ksortset K T (pe_lc2 (own := [("kind", 1), ("role", 2)]) (vs1 := [2]) (g := gName 1) (g1 := gName 2) (tt := tYes) rfl sc_Catalog_made_groups.nd (kpt K (kfld K (pv 0))) (blkOk_by (N := ["self", "kind", "role"]) (sc := defScope s_Catalog_made_groups) (by decide +kernel)) (by decide) (fun _ _ _ _ _ => (pg_name (i := 1) sc_Catalog_made_groups.nd rfl (Or.inl rfl))) (fun _ _ _ _ _ => pts_nil) (fun _ _ _ _ _ => (kpt K (kfld K (pv 1)))) (fun _ _ _ _ _ => (pg_name (i := 2) sc_Catalog_made_groups.nd rfl (Or.inl rfl))) (fun _ _ _ _ _ => (pts_one (pt_val (pe_altN (n := 5) (t := fun m => tMeth (c.C m) "makes" (spTells (.bl (mkB m))) [] E0 (tVar 2) tNil) fun m hm => by obtain ⟨_, _, _, dd, mm, GG⟩ := t2 m hm; exact pe_m0g (pv 2) (c.cl m) mm GG hr1 pass0 dd.b)))) (fun _ _ _ _ _ => (kfld K (pv 2))))))), ?_⟩
    refine Rd.start_ (σ' := [some (.ref p), none, none]) rfl ?_
    walk_at "rd"
    refine Rd.sortSetT ?_
    refine lc2T ?_
    walk_at "rd"
    refine ⟨p, cc.C, dx, _, _, rfl, hp, cc.cl, cc.nK, cflds_kinds _, ?_⟩
    refine Rd.extup (SqT.of ht) ?_
    have lk : (krefs ks).length = ks.length := List.length_map ..
    refine Rd.lc2D (s := 1) (s1 := 2) (M := 6) Rd.wTup (fun i => Itt K (ks.getD i kd0).t) (fun i => (ks.getD i kd0).rs.length) (fun i H' => SqT K H' (ks.getD i kd0).t (refs (ks.getD i kd0).rs)) (fun i j y => (refs (ks.getD i kd0).rs)[j]? = some y)
      (fun i _ => by have w := Rd.wTup (K := K) (a := (ks.getD i kd0).t) (xs := refs (ks.getD i kd0).rs); rw [List.length_map] at w; exact w) ?_ (by decide) (by rw [lk]; walk_at "sz")
      (fun i j acc H' => Same H H' ∧ acc = (mgrps (ks.take i) ++ (((ks.getD i kd0).rs.take j).filter fun r => mkB r.m).map (·.g)).map fun l => V.str (S l)) ⟨Same.refl _, rfl⟩ (fun D hD i j acc zs H' _ q => ⟨same_upd q.1 hD, q.2⟩) (fun i acc H' _ q => SqT.of (q.1 _ _ ht)) ?_ ?_ ?_ ?_ ?_
    · intro i hi
      rw [lk] at hi
      rw [getD_at (List.getElem?_eq_getElem hi)]
      exact hl6 _ (List.getElem_mem hi)
    · intro i j acc H' hi hj q
      rw [lk] at hi
      have e := getD_at (List.getElem?_eq_getElem hi)
      show SqT K H' (ks.getD i kd0).t (refs (ks.getD i kd0).rs)
      rw [e]
      exact SqT.of (q.1 _ _ (hks _ (List.getElem_mem hi)).2.1)
    · intro i x acc H' hi hx q R hR
      obtain ⟨kk, hk', rfl⟩ := kref_at hx
      obtain ⟨⟨dk, hat⟩, hkt, _⟩ := hks.mono q.1 kk (List.mem_of_getElem? hk')
      have e := getD_at hk'
      rw [e] at hR
      dsimp only [List.set]
      unfold iTup
      walk_at "rd"
      refine ⟨kk.a, _, dk, _, _, rfl, hat, kc.cl, kc.nR, kflds_roles _ _, kk.t, rfl, ⟨_, SqT.of hkt⟩, hR⟩
    · rintro i acc H' hi ⟨q1, q2⟩
      rw [lk] at hi
      have hat := List.getElem?_eq_getElem hi
      refine ⟨q1, ?_⟩
      rw [q2, List.take_length, getD_at hat]
      have e3 : mgrps (ks.take (i + 1)) = mgrps (ks.take i) ++ (ks[i].rs.filter fun r => mkB r.m).map (·.g) := by
        unfold mgrps
        rw [List.take_add_one, hat]
        show (ks.take i ++ [ks[i]]).flatMap _ = _
        rw [List.flatMap_append]
        show _ ++ ((ks[i].rs.filter fun r => mkB r.m).map (·.g) ++ []) = _
        rw [List.append_nil]
      rw [e3]
      show _ = List.map _ (_ ++ List.map _ (List.filter _ (List.take 0 _)))
      rw [List.take_zero, List.filter_nil, List.map_nil, List.append_nil]
    · rintro D hD i j x y acc H' hi hj hx hy hacc ⟨q1, q2⟩ Kt Kf hT hF
      obtain ⟨kk, hk', rfl⟩ := kref_at hx
      have e := getD_at hk'
      rw [e] at hy q2
      obtain ⟨r, hr', rfl⟩ := ref_at hy
      obtain ⟨_, _, hro⟩ := hks.mono q1 kk (List.mem_of_getElem? hk')
      obtain ⟨rm, dr, hat⟩ := hro r (List.mem_of_getElem? hr')
      dsimp only [List.set]
      have e1 := filt_take' (p := fun r : Ro => mkB r.m) hr'
      walk_at "rd"
      refine Rd.alt rm ?_
      walk_at "rd"
      refine ⟨r.a, dr, _, rfl, hat, flds_no _ _ (by decide +kernel) (by decide +kernel), ?_⟩
      walk_at "rd"
      refine ⟨r.a, rfl, ?_⟩
      walk_at "rd"
      cases hb : mkB r.m with
      | true =>
        rw [hb, if_pos rfl] at e1
        walk_at "rd"
        refine ⟨r.a, _, dr, _, _, rfl, hat, c.cl r.m, c.nG r.m, flds_group _ _, ?_⟩
        refine hT _ _ hacc ⟨q1, ?_⟩
        rw [q2, e, e1, List.map_append, List.map_append, List.map_append, List.map_append, List.append_assoc]
        rfl
      | false =>
        rw [hb, if_neg Bool.false_ne_true, List.append_nil] at e1
        walk_at "rd"
        refine hF _ hacc ⟨q1, ?_⟩
        rw [q2, e, e1]
    · rintro D acc H' hD hacc hlen ⟨q1, q2⟩
      rw [lk, List.take_length] at q2
      have e5 : acc = ((mgrps ks).map S).map V.str := by
        rw [q2, List.map_map]
        show List.map _ (mgrps ks ++ List.map _ (List.filter _ (List.take 0 _))) = _
        rw [List.take_zero, List.filter_nil, List.map_nil, List.append_nil]
        rfl
      rw [e5] at hacc
      refine ⟨D, (mgrps ks).map S, rfl, SqL.of hacc, ?_, fun ss l r1 r2 r3 hl0 => ?_⟩
      · have := mgrps_len hl6
        rw [List.length_map]
        omega
      · exact k l ss _ (none_same q1 hl0) (q1.trans (same_new hl0)) upd_same ⟨r1, r2, r3⟩

end
section
variable {P : Program} {w : World} {K : PySem.W.Frag} {mg : Str → Option Value} {base : Heap} {tk : Tok}
/-! ### the law's own sorting -/
/-- a law's own sorting: R what an item is, lt its order; the list's items with their values -/
structure Ord (K : PySem.W.Frag) (α : Type) where
  R : Hp → α → V → Prop
  lt : α → α → Bool
  ne : α → α → Bool
  rL : R2
  rN : R2
  mono : ∀ {H H' : Hp} {x : α} {v : V}, Same H H' → R H x v → R H' x v
  upd : ∀ {H : Hp} {D : Addr} {zs ys : List V} {x : α} {v : V}, H D = some (.lst zs) → R H x v → R (upd H D (.lst ys)) x v
  rl : ∀ {H : Hp} {x y : α} {v u : V} {Q : VK}, R H x v → R H y u → Q (.bl (lt x y)) H → rL v u H Q
  rn : ∀ {H : Hp} {x y : α} {v u : V} {Q : VK}, R H x v → R H y u → Q (.bl (ne x y)) H → rN v u H Q
  en : ∀ x y, ne x y = false ↔ x = y
  irr : ∀ x, lt x x = false
  tr : ∀ x y z, lt x y = true → lt y z = true → lt x z = true
  tot : ∀ x y, lt x y = false → x ≠ y → lt y x = true
abbrev itV {α : Type} (L : List (V × α)) : List V := L.map (·.1)
def spSort {α : Type} (o : Ord K α) : Sp := fun vs H Q _ => ∃ (a : Addr) (L : List (V × α)), vs = [.ref a] ∧ H a = some (.lst (itV L)) ∧ (∀ p ∈ L, o.R H p.2 p.1) ∧ L.length ≤ 5000 ∧
  ∀ t H' (M : List (V × α)), H t = none → Same H H' → H' t = some (.lst (itV M)) → (∀ p ∈ M, p ∈ L) → (∀ p ∈ L, ∃ q ∈ M, q.2 = p.2) → M.Pairwise (fun p q => o.lt p.2 q.2 = true) → Q (.ref t) H'
abbrev s_law_sorted : Stmt := top 43
theorem sc_law_sorted : FnScope ["_law_rows", "_law_found", "_law_row", "_law_at"] ["_law_rows"] (defScope s_law_sorted) := ⟨rfl, rfl, rfl, by decide +kernel, rfl, by decide +kernel, by decide +kernel⟩
abbrev DSo (K : PySem.W.Frag) (mg : Str → Option Value) := Df K mg "_law_sorted" "_law_sorted" s_law_sorted ["_law_rows"]
theorem itV_at {α : Type} {L : List (V × α)} {i : Nat} {v : V} (h : (itV L)[i]? = some v) : ∃ p, L[i]? = some p ∧ v = p.1 := by
  rw [List.getElem?_map] at h
  obtain ⟨r, h1, h2⟩ := Option.map_eq_some_iff.mp h
  exact ⟨r, h1, h2.symm⟩
theorem itV_at' {α : Type} {L : List (V × α)} {k : Nat} {p : V × α} (h : L[k]? = some p) : atI (itV L) (k : Nat) = some p.1 := atI_nat (by rw [List.getElem?_map, h]; rfl)
theorem ins_len {α : Type} {l : List α} {k : Nat} {y : α} : (l.take k ++ [y] ++ l.drop k).length = l.length + 1 := by
  rw [List.length_append, List.length_append, List.length_take, List.length_drop, List.length_singleton]
  omega
theorem ins_pw {α : Type} {r : α → α → Prop} {l : List α} {k : Nat} {y : α} (h : l.Pairwise r) (h1 : ∀ x ∈ l.take k, r x y) (h2 : ∀ x ∈ l.drop k, r y x) : (l.take k ++ [y] ++ l.drop k).Pairwise r := by
  have e := List.take_append_drop k l
  rw [← e, List.pairwise_append] at h
  rw [List.append_assoc, List.pairwise_append]
  refine ⟨h.1, ?_, fun a ha b hb => ?_⟩
  · show ((y :: l.drop k)).Pairwise r
    rw [List.pairwise_cons]
    exact ⟨h2, h.2.1⟩
  · rcases List.mem_cons.mp (show b ∈ y :: l.drop k from hb) with e | e
    · rw [e]; exact h1 a ha
    · exact h.2.2 a ha b e
theorem ok_sorted {α : Type} (o : Ord K α) (hLt : ∀ X : Cx, X.K = K → X.A.units + 64 < cLine → OpR X (compareOp .Lt) o.rL) (hNe : ∀ X : Cx, X.K = K → X.A.units + 64 < cLine → OpR X (compareOp .NotEq) o.rN) (d : DSo K mg) (T : Bt mg) :
    FnOk P w K mg base CX0 1 d.f d.fd ["_law_rows"] (spSort o) := by
  refine d.F.ok sc_law_sorted (fun vs H Q E h => ?_) (fun cdv A outer s H vs Q E hr h => ?_)
  · obtain ⟨a, L, rfl, _⟩ := h
    rfl
  · obtain ⟨a, L, rfl, ha, hR, hl, k⟩ := h
    have hu := hr.units
    refine ⟨_, (pss_cons (ps_set (i := 1) sc_law_sorted.nd rfl (Or.inl rfl) (pe_lst pa_nil))
  (pss_cons (ps_for PassesOwn.never rfl (kpl K (pv 0)) (pg_name (i := 2) sc_law_sorted.nd rfl (Or.inl rfl))
  (pss_cons (ps_set (i := 3) sc_law_sorted.nd rfl (Or.inl rfl) pe_int)
  (pss_cons (ps_while PassesOwn.never (PW.pt (pw_and (pt_cmpR op_ltA (pv 3) (pe_callB (klen K) (by rfl) T.len (by decide +kernel) (pa_cons (pv 1) pa_nil)) (nomark _)) (pw_and1 (pt_cmpR (hLt _ rfl hu) (pe_ix (kix K) (pv 1) (pv 3) (fun _ _ => rfl)) (pv 2) (nomark _))))) (pss_one (ps_set (i := 3) sc_law_sorted.nd rfl (Or.inl rfl) (pe_op op_addA (pv 3) pe_int))))
  (pss_one (ps_if (PW.pt (pw_or (pt_cmpR (keq K hu) (pv 3) (pe_callB (klen K) (by rfl) T.len (by decide +kernel) (pa_cons (pv 1) pa_nil)) (nomark _)) (pw_or1 (pt_cmpR (hNe _ rfl hu) (pe_ix (kix K) (pv 1) (pv 3) (fun _ _ => rfl)) (pv 2) (nomark _))))) (pss_one (ps_expr (kins K (pv 1) (pa_cons (pv 3) (pa_cons (pv 2) pa_nil)))))
  pss_nil)))))
  (pss_one (ps_ret (pv 1))))), ?_⟩
    refine Rd.start_ (σ' := [some (.ref a), none, none, none]) rfl ?_
    walk_at "rd"
    refine ⟨by show 0 ≤ sizeLine; decide, fun D hD => ?_⟩
    have lL : (itV L).length = L.length := List.length_map ..
    have s0 := same_new (o := .lst []) hD
    walk_at "rd"
    refine Rd.exlist (SqL.of (s0 _ _ ha)) ?_
    refine Rd.foW Rd.wList (fun i σ H' => ∃ (o1 o2 : Option V) (M : List (V × α)), σ = [some (.ref a), some (.ref D), o1, o2] ∧ Same H H' ∧ H' D = some (.lst (itV M)) ∧ M.length ≤ i ∧ (∀ p ∈ M, p ∈ L) ∧ (∀ p ∈ L.take i, ∃ q ∈ M, q.2 = p.2) ∧ M.Pairwise (fun p q => o.lt p.2 q.2 = true))
      ⟨_, _, [], rfl, s0, upd_same, Nat.le_refl _, fun p hp => absurd hp List.not_mem_nil, fun p hp => absurd hp List.not_mem_nil, List.Pairwise.nil⟩ (fun i σ H' hi ⟨_, _, _, _, j, _⟩ => SqL.of (j _ _ ha)) ?_ ?_
    · rintro i y σ H' hi hy ⟨o1, o2, M, rfl, s1, hM, lM, m1, m2, m3⟩
      obtain ⟨x, hx, rfl⟩ := itV_at hy
      have hxm := List.mem_of_getElem? hx
      dsimp only [List.set]
      walk_at "rd"
      have lM2 : (itV M).length = M.length := List.length_map ..
      have rx := o.mono s1 (hR x hxm)
      refine Rd.mid (fun σ H2 => H2 = H' ∧ ∃ kk : Nat, kk ≤ M.length ∧ σ = [some (.ref a), some (.ref D), some x.1, some (.int (kk : Nat))] ∧ (∀ p ∈ M.take kk, o.lt p.2 x.2 = true) ∧ ∀ z, M[kk]? = some z → o.lt z.2 x.2 = false) ?_ ?_
      · rintro σ H2 ⟨rfl, kk, hk, rfl, hlt, hge⟩
        have next : ∀ (M' : List (V × α)) (G : Hp), (∀ p ∈ M', p ∈ M ∨ p = x) → (∀ p ∈ M, p ∈ M') → (∃ q ∈ M', q.2 = x.2) → M'.length ≤ M.length + 1 → M'.Pairwise (fun p q => o.lt p.2 q.2 = true) → Same H G → G D = some (.lst (itV M')) →
            ∃ (o1 o2 : Option V) (M : List (V × α)), [some (.ref a), some (.ref D), some x.1, some (.int (kk : Nat))] = [some (.ref a), some (.ref D), o1, o2] ∧ Same H G ∧ G D = some (.lst (itV M)) ∧ M.length ≤ i + 1 ∧ (∀ p ∈ M, p ∈ L) ∧ (∀ p ∈ L.take (i + 1), ∃ q ∈ M, q.2 = p.2) ∧ M.Pairwise (fun p q => o.lt p.2 q.2 = true) := by
          intro M' G n1 n2 n3 n4 n5 n6 n7
          refine ⟨_, _, M', rfl, n6, n7, by omega, fun p hp => ?_, fun p hp => ?_, n5⟩
          · rcases n1 p hp with q | q
            · exact m1 p q
            · rw [q]; exact hxm
          · rw [List.take_add_one, hx] at hp
            rcases List.mem_append.mp hp with q | q
            · obtain ⟨z, z1, z2⟩ := m2 p q
              exact ⟨z, n2 z z1, z2⟩
            · rw [List.mem_singleton.mp q]; exact n3
        have ins : ((∀ z, M[kk]? = some z → o.lt x.2 z.2 = true)) → ∃ (o1 o2 : Option V) (M_1 : List (V × α)), [some (.ref a), some (.ref D), some x.1, some (.int (kk : Nat))] = [some (.ref a), some (.ref D), o1, o2] ∧ Same H (L2.upd H2 D (.lst ((itV M).take kk ++ [x.1] ++ (itV M).drop kk))) ∧ L2.upd H2 D (.lst ((itV M).take kk ++ [x.1] ++ (itV M).drop kk)) D = some (.lst (itV M_1)) ∧ M_1.length ≤ i + 1 ∧ (∀ p ∈ M_1, p ∈ L) ∧ (∀ p ∈ L.take (i + 1), ∃ q ∈ M_1, q.2 = p.2) ∧ M_1.Pairwise (fun p q => o.lt p.2 q.2 = true) := fun hxz => by
          have e0 : (itV M).take kk ++ [x.1] ++ (itV M).drop kk = itV (M.take kk ++ [x] ++ M.drop kk) := by
            unfold itV
            rw [List.map_append, List.map_append, List.map_take, List.map_drop]
            rfl
          rw [e0]
          refine next (M.take kk ++ [x] ++ M.drop kk) _ (fun p hp => ?_) (fun p hp => ?_) ⟨x, by simp, rfl⟩ (by rw [ins_len]; exact Nat.le_refl _) (ins_pw m3 hlt fun p hp => ?_) (same_upd s1 hD) upd_same
          · rcases List.mem_append.mp hp with q | q
            · rcases List.mem_append.mp q with q | q
              · exact .inl (List.mem_of_mem_take q)
              · exact .inr (List.mem_singleton.mp q)
            · exact .inl (List.mem_of_mem_drop q)
          · rw [← List.take_append_drop kk M] at hp
            rcases List.mem_append.mp hp with q | q
            · exact List.mem_append.mpr (.inl (List.mem_append.mpr (.inl q)))
            · exact List.mem_append.mpr (.inr q)
          · rcases Nat.lt_or_ge kk M.length with lt | ge
            · have hz : M[kk]? = some M[kk] := List.getElem?_eq_getElem lt
              rw [List.drop_eq_getElem_cons lt] at hp
              rcases List.mem_cons.mp hp with q | q
              · rw [q]; exact hxz _ hz
              · rw [← List.take_append_drop kk M, List.pairwise_append, List.drop_eq_getElem_cons lt, List.pairwise_cons] at m3
                exact o.tr _ _ _ (hxz _ hz) (m3.2.1.1 p q)
            · rw [List.drop_of_length_le ge] at hp
              exact absurd hp List.not_mem_nil
        walk_at "rd"
        rw [lM2]
        refine Rd.iteD (fun c1 => ?_) (fun c1 => ?_)
        · walk_at "rd"
          refine Rd.insert hM (by rw [lM2]; walk_at "sz") (by omega) ?_
          have ce : kk = M.length := by omega
          exact ins fun z hz => by rw [ce, List.getElem?_eq_none (Nat.le_refl _)] at hz; cases hz
        · have c1' : kk < M.length := by omega
          have hz : M[kk]? = some M[kk] := List.getElem?_eq_getElem c1'
          have az := itV_at' hz
          have rz := o.mono s1 (hR _ (m1 _ (List.getElem_mem c1')))
          walk_at "rd"
          refine o.rn rz rx ?_
          walk_at "rd"
          cases hb : o.ne M[kk].2 x.2 with
          | true =>
            walk_at "rd"
            refine Rd.insert hM (by rw [lM2]; walk_at "sz") (by omega) ?_
            refine ins fun z hz' => ?_
            rw [hz] at hz'
            cases hz'
            exact o.tot _ _ (hge _ hz) fun e => by rw [(o.en _ _).mpr e] at hb; cases hb
          | false =>
            walk_at "rd"
            exact next M _ (fun p hp => .inl hp) (fun p hp => hp) ⟨_, List.getElem_mem c1', (o.en _ _).mp hb⟩ (Nat.le_succ _) m3 s1 hM
      · intro N' hN'
        refine Rd.whW (fun m σ H2 => ∃ kk : Nat, m = M.length - kk ∧ kk ≤ M.length ∧ H2 = H' ∧ σ = [some (.ref a), some (.ref D), some x.1, some (.int (kk : Nat))] ∧ ∀ p ∈ M.take kk, o.lt p.2 x.2 = true) M.length ⟨0, rfl, Nat.zero_le _, rfl, rfl, fun p hp => absurd hp List.not_mem_nil⟩ ?_
        rintro m σ H2 ⟨kk, rfl, hk, rfl, rfl, hlt⟩
        walk_at "rd"
        rw [lM2]
        refine Rd.iteD (fun c1 => ?_) (fun c1 => ?_)
        · have c1' : kk < M.length := by omega
          have hz : M[kk]? = some M[kk] := List.getElem?_eq_getElem c1'
          have az := itV_at' hz
          have rz := o.mono s1 (hR _ (m1 _ (List.getElem_mem c1')))
          walk_at "rd"
          refine o.rl rz rx ?_
          walk_at "rd"
          cases hb : o.lt M[kk].2 x.2 with
          | true =>
            walk_at "rd"
            refine Rd.whGo ?_
            walk_at "rd"
            refine ⟨M.length - (kk + 1), by omega, kk + 1, rfl, by omega, rfl, rfl, fun p hp => ?_⟩
            rw [List.take_add_one, hz] at hp
            rcases List.mem_append.mp hp with q | q
            · exact hlt p q
            · rw [List.mem_singleton.mp q]; exact hb
          | false =>
            walk_at "rd"
            exact hN' _ _ ⟨rfl, kk, hk, rfl, hlt, fun z hz' => by rw [hz] at hz'; cases hz'; exact hb⟩
        · walk_at "rd"
          exact hN' _ _ ⟨rfl, kk, hk, rfl, hlt, fun z hz' => absurd (List.getElem?_eq_some_iff.mp hz').1 (by omega)⟩
    · rintro σ H' ⟨o1, o2, M, rfl, s1, hM, lM, m1, m2, m3⟩
      rw [lL, List.take_length] at m2
      walk_at "rd"
      exact k D H' M hD s1 hM m1 m2 m3
/-- texts -/
def ordS (K : PySem.W.Frag) : Ord K (List Nat) where
  R := fun _ x v => v = .str (S x)
  lt := fun x y => decide (x < y)
  ne := fun x y => !decide (x = y)
  rL := rLtA
  rN := rNeA K
  mono := fun _ h => h
  upd := fun _ h => h
  rl := fun {H x y v u Q} h1 h2 q => by subst h1 h2; exact Rd.ltS q
  rn := fun {H x y v u Q} h1 h2 q => by subst h1 h2; exact RS.ne q
  en := fun x y => by
    rw [Bool.not_eq_false', decide_eq_true_iff]
  irr := fun x => decide_eq_false (List.lt_irrefl x)
  tr := fun x y z h1 h2 => decide_eq_true (List.lt_trans (of_decide_eq_true h1) (of_decide_eq_true h2))
  tot := fun x y h1 h2 => decide_eq_true (Classical.byContradiction fun z => h2 (List.le_antisymm z (of_decide_eq_false h1)))
abbrev txts (ls : List (List Nat)) : List V := ls.map fun l => V.str (S l)
abbrev Rise (ls : List (List Nat)) : Prop := ls.Pairwise (· < ·)
/-- _law_sorted of texts -/
theorem sort_texts {a : Addr} {ls : List (List Nat)} {H : Hp} {Q : VK} {E : XK} (ha : H a = some (.lst (txts ls))) (hl : ls.length ≤ 5000) (k : ∀ t H' rs, H t = none → Same H H' → H' t = some (.lst (txts rs)) → Rise rs → (∀ x, x ∈ rs ↔ x ∈ ls) → Q (.ref t) H') : spSort (ordS K) [.ref a] H Q E := by
  have e0 : itV (ls.map fun l => (V.str (S l), l)) = txts ls := by unfold itV txts; rw [List.map_map]; rfl
  refine ⟨a, ls.map fun l => (V.str (S l), l), rfl, by rw [e0]; exact ha, fun p hp => ?_, by rw [List.length_map]; exact hl, fun t H' M hn s h1 h2 h3 h4 => ?_⟩
  · obtain ⟨l, _, rfl⟩ := List.mem_map.mp hp
    rfl
  · have hM : ∀ p ∈ M, p.1 = V.str (S p.2) ∧ p.2 ∈ ls := fun p hp => by
      obtain ⟨l, hl, e⟩ := List.mem_map.mp (h2 p hp)
      rw [← e]
      exact ⟨rfl, hl⟩
    have e1 : itV M = txts (M.map (·.2)) := by
      unfold itV txts
      rw [List.map_map]
      exact List.map_congr_left fun p hp => (hM p hp).1
    refine k t H' (M.map (·.2)) hn s (by rw [← e1]; exact h1) (List.pairwise_map.mpr (h4.imp fun h => of_decide_eq_true h)) fun x => ⟨fun hx => ?_, fun hx => ?_⟩
    · obtain ⟨p, hp, rfl⟩ := List.mem_map.mp hx
      exact (hM p hp).2
    · obtain ⟨q, hq, e⟩ := h3 _ (List.mem_map.mpr ⟨x, hx, rfl⟩)
      exact List.mem_map.mpr ⟨q, hq, e⟩
/-! ### rows of waits -/
abbrev Rw := List Nat × List Nat × List Nat
abbrev Rr := Addr × Rw
abbrev rits (r : Rw) : List NS.Itm := [.inr r.1, .inr r.2.1, .inr r.2.2]
abbrev rvs (r : Rw) : List V := [.str (S r.1), .str (S r.2.1), .str (S r.2.2)]
def RwAt (H : Hp) (a : Addr) (r : Rw) : Prop := H a = some (.tup (rvs r))
abbrev rrefs (xs : List Rr) : List V := xs.map fun q => V.ref q.1
def RrOk (H : Hp) (xs : List Rr) : Prop := ∀ q ∈ xs, RwAt H q.1 q.2
theorem RrOk.mono {H H' : Hp} {xs : List Rr} (h : RrOk H xs) (e : Same H H') : RrOk H' xs := fun q hq => e _ _ (h q hq)
def rkey (r : Rw) : NestedKey := .tup [.text (S r.1), .text (S r.2.1), .text (S r.2.2)]
def rdat (r : Rw) : PyData := .tuple [.str (S r.1), .str (S r.2.1), .str (S r.2.2)]
theorem RwAt.nk {H : Hp} {a : Addr} {r : Rw} (h : RwAt H a r) : ND.NkAt H (.ref a) (rkey r) := .tup h (.cons (.str _) (.cons (.str _) (.cons (.str _) .nil)))
theorem RwAt.dp {H : Hp} {a : Addr} {r : Rw} (h : RwAt H a r) : Dp K H (.ref a) (rdat r) := .tup (SqT.of h) (.cons (.str _) (.cons (.str _) (.cons (.str _) .nil)))
theorem rkey_inj {a b : Rw} (h : rkey a = rkey b) : a = b := by
  obtain ⟨a1, a2, a3⟩ := a
  obtain ⟨b1, b2, b3⟩ := b
  simp only [rkey, NestedKey.tup.injEq, List.cons.injEq, NestedKey.text.injEq, and_true] at h
  rw [SX.S_inj h.1, SX.S_inj h.2.1, SX.S_inj h.2.2]
theorem rflat (r : Rw) : NS.flV (fun _ => true) 0 (rvs r) = some (rits r) := by
  unfold rvs rits
  simp [NS.flV, S]
def rowOk (r : Rw) : Prop := Nm r.1 ∧ Nm r.2.1 ∧ Nm r.2.2
theorem can_str {l : List Nat} (h : Nm l) : PyData.canLay0 (.str (S l)) = true := ok_S h
theorem rdat_can {r : Rw} (h : rowOk r) : PyData.canLay0 (rdat r) = true := by
  show (PyData.canLay0 (.str (S r.1)) && (PyData.canLay0 (.str (S r.2.1)) && (PyData.canLay0 (.str (S r.2.2)) && true))) = true
  rw [can_str h.1, can_str h.2.1, can_str h.2.2]; rfl
theorem rdat_sh {r : Rw} (h : rowOk r) : SeqAt.shaped (rdat r) = true := by
  show (PyData.canLay0 (rdat r) && decide (PyData.depth (rdat r) ≤ 64)) = true
  rw [rdat_can h]
  rfl
theorem rdat_eqv_of {a b : Rw} (h : PyData.eqv (rdat a) (rdat b) = true) : a = b := by
  obtain ⟨a1, a2, a3⟩ := a
  obtain ⟨b1, b2, b3⟩ := b
  simp only [rdat, PyData.eqv, PyData.eqvAll, Bool.and_eq_true, Bool.and_true, beq_iff_eq] at h
  rw [SX.S_inj h.1, SX.S_inj h.2.1, SX.S_inj h.2.2]
theorem rdat_eqv {a b : Rw} (h : rowOk a) : PyData.eqv (rdat a) (rdat b) = decide (a = b) := by
  by_cases e : a = b
  · subst e
    rw [decide_eq_true rfl]
    exact SeqAt.eqv_refl _ (rdat_can h)
  · rw [decide_eq_false e]
    exact Bool.eq_false_iff.mpr fun z => e (rdat_eqv_of z)
/-- the order of rows -/
def rlt (a b : Rw) : Bool := PyProof.Rows.lexLt PyProof.Rows.itemOrd (rits a) (rits b)
theorem rits_inj {a b : Rw} (h : rits a = rits b) : a = b := by
  obtain ⟨a1, a2, a3⟩ := a
  obtain ⟨b1, b2, b3⟩ := b
  simp only [List.cons.injEq, Sum.inr.injEq, and_true] at h
  rw [h.1, h.2.1, h.2.2]
theorem rlt_irr (a : Rw) : rlt a a = false := PyProof.Rows.lex_irrefl _
theorem rlt_tr (a b c : Rw) (h : rlt a b = true) (g : rlt b c = true) : rlt a c = true := PyProof.Rows.lex_trans _ _ _ h g
theorem rlt_tot (a b : Rw) (h : rlt a b = false) (n : a ≠ b) : rlt b a = true := by
  cases z : rlt b a with
  | true => rfl
  | false => exact absurd (rits_inj (PyProof.Rows.lex_total _ _ h z)) n
theorem rlt_third {k r x y : List Nat} : rlt (k, r, x) (k, r, y) = decide (x < y) := by
  unfold rlt rits
  rw [PyProof.Rows.lex_self, PyProof.Rows.lex_self, PyProof.Rows.lex_cons]
  show (decide (x < y) || (!decide (y < x) && false)) = decide (x < y)
  rw [Bool.and_false, Bool.or_false]
def ordR (K : PySem.W.Frag) : Ord K Rw where
  R := fun H r v => rowOk r ∧ ∃ a, v = .ref a ∧ RwAt H a r
  lt := rlt
  ne := fun x y => !decide (x = y)
  rL := NS.rLtF K
  rN := rNeA K
  mono := fun e ⟨o, a, h, g⟩ => ⟨o, a, h, e _ _ g⟩
  upd := fun {H D zs ys x v} hD ⟨o, a, h, g⟩ => ⟨o, a, h, by
    unfold RwAt at g ⊢
    rw [upd_ne (fun e => by rw [e, hD] at g; cases g)]; exact g⟩
  rl := fun {H x y v u Q} ⟨_, a, h1, g1⟩ ⟨_, b, h2, g2⟩ q => ⟨a, b, fun _ => true, rvs x, rvs y, rits x, rits y, h1, h2, SqT.of g1, SqT.of g2, rflat x, rflat y, q⟩
  rn := fun {H x y v u Q} ⟨o1, a, h1, g1⟩ ⟨o2, b, h2, g2⟩ q => by
    subst h1 h2
    exact Rd.neD g1.dp g2.dp (rdat_sh o1) (rdat_sh o2) (by rw [rdat_eqv o1]; exact q)
  en := fun x y => by rw [Bool.not_eq_false', decide_eq_true_iff]
  irr := rlt_irr
  tr := rlt_tr
  tot := rlt_tot
/-- _law_sorted of rows -/
theorem sort_rows {a : Addr} {xs : List Rr} {H : Hp} {Q : VK} {E : XK} (ha : H a = some (.lst (rrefs xs))) (ok : RrOk H xs) (nm : ∀ q ∈ xs, rowOk q.2) (hl : xs.length ≤ 5000)
    (k : ∀ t H' (ys : List Rr), H t = none → Same H H' → H' t = some (.lst (rrefs ys)) → (ys.map (·.2)).Pairwise (fun a b => rlt a b = true) → (∀ y ∈ ys, y ∈ xs) → (∀ x ∈ xs, x.2 ∈ ys.map (·.2)) → Q (.ref t) H') : spSort (ordR K) [.ref a] H Q E := by
  have e0 : itV (xs.map fun q => (V.ref q.1, q.2)) = rrefs xs := by unfold itV rrefs; rw [List.map_map]; rfl
  refine ⟨a, xs.map fun q => (V.ref q.1, q.2), rfl, by rw [e0]; exact ha, fun p hp => ?_, by rw [List.length_map]; exact hl, fun t H' M hn s h1 h2 h3 h4 => ?_⟩
  · obtain ⟨q, hq, rfl⟩ := List.mem_map.mp hp
    exact ⟨nm q hq, q.1, rfl, ok q hq⟩
  · have hM : ∀ p ∈ M, ∃ q ∈ xs, p = (V.ref q.1, q.2) := fun p hp => by
      obtain ⟨q, hq, e⟩ := List.mem_map.mp (h2 p hp)
      exact ⟨q, hq, e.symm⟩
    have ex : ∀ M : List (V × Rw), (∀ p ∈ M, ∃ q ∈ xs, p = (V.ref q.1, q.2)) → ∃ ys : List Rr, M = ys.map (fun q => (V.ref q.1, q.2)) ∧ ∀ y ∈ ys, y ∈ xs := by
      intro M
      induction M with
      | nil => intro _; exact ⟨[], rfl, fun y hy => absurd hy List.not_mem_nil⟩
      | cons p M ih =>
        intro hM
        obtain ⟨ys, e, m⟩ := ih fun x hx => hM x (List.mem_cons_of_mem _ hx)
        obtain ⟨q, hq, eq⟩ := hM p List.mem_cons_self
        refine ⟨q :: ys, by rw [e, eq]; rfl, fun y hy => ?_⟩
        rcases List.mem_cons.mp hy with z | z
        · rw [z]; exact hq
        · exact m y z
    obtain ⟨ys, e, m⟩ := ex M hM
    subst e
    have e1 : itV (ys.map fun q => (V.ref q.1, q.2)) = rrefs ys := by unfold itV rrefs; rw [List.map_map]; rfl
    rw [e1] at h1
    refine k t H' ys hn s h1 (List.pairwise_map.mpr (List.pairwise_map.mp h4)) m fun x hx => ?_
    obtain ⟨q, hq, e⟩ := h3 _ (List.mem_map.mpr ⟨x, hx, rfl⟩)
    obtain ⟨y, hy, rfl⟩ := List.mem_map.mp hq
    exact List.mem_map.mpr ⟨y, hy, e⟩

end
section
variable {P : Program} {w : World} {K : PySem.W.Frag} {mg : Str → Option Value} {base : Heap} {tk : Tok}
/-! ### a lot of waits -/
abbrev s_BadWait___init : Stmt := inClass (top 7) 0
theorem sc_BadWait___init : FnScope ["self", "row"] ["self", "row"] (defScope s_BadWait___init) := ⟨rfl, rfl, rfl, by decide +kernel, rfl, by decide +kernel, by decide +kernel⟩
abbrev ErW (K : PySem.W.Frag) (mg : Str → Option Value) := Er K mg "BadWait" "BadWait.__init__" "row" s_BadWait___init
theorem ok_bwi (r : ErW K mg) : FnOk P w K mg base CX0 1 r.f r.fd ["self", "row"] (spErI r.C "row") := by
  refine r.F.ok sc_BadWait___init (fun vs H Q E h => ?_) (fun cdv A outer s H vs Q E hr h => ?_)
  · obtain ⟨a, v, rfl, _⟩ := h
    rfl
  · obtain ⟨a, v, rfl, ha, k⟩ := h
    refine ⟨_, (pss_one (kost K (pv 0) (pv 1))), ?_⟩
    refine Rd.start_ (σ' := [some (.ref a), some v]) rfl ?_
    walk_at "rd"
    exact ⟨a, r.C, rfl, r.T, r.no, .inl ⟨ha, k⟩⟩
structure Wc (K : PySem.W.Frag) (mg : Str → Option Value) (mC : Addr) where
  C : Addr
  g : mg "Waits" = some (.ref C)
  cl : Cls K C
  M : Mk K C mC
  nR : NoAttr K C "rows"
def wfl (t : Addr) : List (Str × V) := [("rows", .ref t)]
theorem wfl_rows (t : Addr) : (wfl t).lookup ("rows" : Str) = some (.ref t) := by
  unfold wfl; simp [List.lookup]
theorem wfl_no (t : Addr) {m : Str} (h1 : (m == ("rows" : Str)) = false) : (wfl t).lookup m = none := by
  unfold wfl; simp [List.lookup, h1]
abbrev Up (xs : List Rr) : Prop := (xs.map (·.2)).Pairwise (fun a b => rlt a b = true)
/-- the lot at p: its tuple at t, its rows xs -/
structure WtAt (C : Addr) (H : Hp) (p t : Addr) (xs : List Rr) : Prop where
  ins : ∃ dx, H p = some (.ins C dx (wfl t))
  tup : H t = some (.tup (rrefs xs))
  ok : RrOk H xs
  up : Up xs
  few : xs.length < 300
theorem WtAt.mono {C : Addr} {H H' : Hp} {p t : Addr} {xs : List Rr} (h : WtAt C H p t xs) (e : Same H H') : WtAt C H' p t xs := by
  obtain ⟨dx, h1⟩ := h.ins
  exact ⟨⟨dx, e _ _ h1⟩, e _ _ h.tup, h.ok.mono e, h.up, h.few⟩
def kits : NestedKey → List NS.Itm
  | .tup [.text a, .text b, .text c] => [.inr a.cps.toList, .inr b.cps.toList, .inr c.cps.toList]
  | _ => []
theorem kits_rkey (r : Rw) : kits (rkey r) = rits r := rfl
abbrev ents (xs : List Rr) : List NS.Ent := xs.map fun q => (q.1, rkey q.2)
theorem ents_of {xs : List Rr} : ∀ {L : List NS.Ent}, (∀ q ∈ L, q ∈ ents xs) → ∃ ys : List Rr, L = ents ys ∧ ∀ y ∈ ys, y ∈ xs
  | [], _ => ⟨[], rfl, fun y hy => absurd hy List.not_mem_nil⟩
  | q :: L, h => by
    obtain ⟨ys, e, m⟩ := ents_of fun x hx => h x (List.mem_cons_of_mem _ hx)
    obtain ⟨x, hx, eq⟩ := List.mem_map.mp (h q List.mem_cons_self)
    refine ⟨x :: ys, by rw [e, ← eq]; rfl, fun y hy => ?_⟩
    rcases List.mem_cons.mp hy with z | z
    · rw [z]; exact hx
    · exact m y z
theorem ents_up {ys : List Rr} (nd : ((ents ys).map (·.2)).Nodup) (p : (ents ys).Pairwise fun q r => NS.leI (kits q.2) (kits r.2)) : Up ys := by
  unfold Up
  unfold ents at nd p
  rw [List.map_map] at nd
  rw [List.pairwise_map] at p ⊢
  have nd' := List.pairwise_map.mp nd
  refine (p.and nd').imp fun {a b} h => rlt_tot _ _ h.1 fun e => h.2 ?_
  show rkey a.2 = rkey b.2
  rw [e]
theorem ents_refs (xs : List Rr) : (ents xs).map (fun q => V.ref q.1) = rrefs xs := by
  unfold ents rrefs
  rw [List.map_map]; rfl
/-- the first row with the same role twice -/
def FBad (xs : List Rr) (q : Rr) : Prop := ∃ i, xs[i]? = some q ∧ q.2.2.1 = q.2.2.2 ∧ ∀ (j : Nat) (x : Rr), j < i → xs[j]? = some x → x.2.2.1 ≠ x.2.2.2
def spWI (K : PySem.W.Frag) (eC : Addr) : Sp := fun vs H Q E => ∃ (b : Bool) (p l C dx : Addr) (xs : List Rr), vs = [.ref p, .ref l] ∧ Cls K C ∧ NoAttr K C "rows" ∧ H p = some (.ins C dx []) ∧ SqX K b H l (rrefs xs) ∧ RrOk H xs ∧ xs.length < 300 ∧
  (∀ q, FBad xs q → Raised E eC "row" (.ref q.1) H) ∧
  ((∀ q ∈ xs, q.2.2.1 ≠ q.2.2.2) → ∀ H' t (ys : List Rr), SameB p H H' → H t = none → WtAt C H' p t ys → (∀ y ∈ ys, y ∈ xs) → (∀ x ∈ xs, x.2 ∈ ys.map (·.2)) → Q .non H')
abbrev s_Waits___init : Stmt := inClass (top 23) 0
theorem sc_Waits___init : FnScope ["self", "rows", "row"] ["self", "rows"] (defScope s_Waits___init) := ⟨rfl, rfl, rfl, by decide +kernel, rfl, by decide +kernel, by decide +kernel⟩
abbrev MWi (K : PySem.W.Frag) := Mf K "__init__" "Waits.__init__" s_Waits___init ["self", "rows"]
theorem rref_at {xs : List Rr} {i : Nat} {v : V} (h : (rrefs xs)[i]? = some v) : ∃ q, xs[i]? = some q ∧ v = .ref q.1 := by
  rw [List.getElem?_map] at h
  obtain ⟨r, h1, h2⟩ := Option.map_eq_some_iff.mp h
  exact ⟨r, h1, h2.symm⟩
theorem sqx_mono {H H' : Hp} {b : Bool} {a : Addr} {xs : List V} (e : Same H H') (h : SqX K b H a xs) : SqX K b H' a xs := Fw.Same.sqx e h
theorem ok_wi (m : MWi K) (T : Bt mg) (eW : ErW K mg) : FnOk P w K mg base (L2.CX P w) 3 m.f m.fd ["self", "rows"] (spWI K eW.C) := by
  have GW : FnOk P w K mg base CX0 1 eW.f eW.fd _ (spErI eW.C "row") := ok_bwi eW
  refine m.F.okX sc_Waits___init (fun vs H Q E h => ?_) (fun cdv A outer s H vs Q E hr h => ?_)
  · obtain ⟨b, p, l, C, dx, xs, rfl, _⟩ := h
    rfl
  · obtain ⟨b, p, l, C, dx, xs, rfl, cl, nR, hp, hl, ok, few, kE, k⟩ := h
    have hu := hr.units
    have lx : (rrefs xs).length = xs.length := List.length_map ..
    refine ⟨_, (pss_cons (ps_for (passes_of rfl) rfl (kpx K (pv 1)) (pg_name (i := 2) sc_Waits___init.nd rfl (Or.inl rfl))
  (pss_one (ps_if (pt_cmpR (keq K hu) (pe_ix (kix K) (pv 2) pe_int (fun _ _ => rfl)) (pe_ix (kix K) (pv 2) pe_int (fun _ _ => rfl)) (nomark _)) (pss_one (ps_raise rfl (takes_of rfl rfl rfl rfl) (pmk_er eW GW hr (pa_cons (pv 2) pa_nil))))
  pss_nil)))
  (pss_one (kset (pv 0) (pe_callTy (ktuple K) (by rfl) T.tuple (by decide +kernel) (pa_cons (NS.ksortsetX K (fun _ => true) T hu (pv 1)) pa_nil))))), ?_⟩
    refine Rd.start_ (σ' := [some (.ref p), some (.ref l), none]) rfl ?_
    walk_at "rd"
    refine Rd.foX ?_
    walk_at "rd"
    refine Rd.exseq hl ?_
    refine Rd.foW walk_seqX (fun i σ H' => H' = H ∧ (∀ (j : Nat) (x : Rr), j < i → xs[j]? = some x → x.2.2.1 ≠ x.2.2.2) ∧ ∃ o, σ = [some (.ref p), some (.ref l), o]) ⟨rfl, fun j x hj => absurd hj (Nat.not_lt_zero _), _, rfl⟩ (fun i σ H' hi ⟨e, _⟩ => by rw [e]; exact hl) ?_ ?_
    · rintro i x σ H' hi hx ⟨rfl, low, o, rfl⟩
      obtain ⟨q, hq, rfl⟩ := rref_at hx
      have hr0 : H' q.1 = some (.tup (rvs q.2)) := ok q (List.mem_of_getElem? hq)
      dsimp only [List.set]
      walk_at "rd"
      refine Rd.iteD (fun c => ?_) (fun c => ?_)
      · walk_at "rd"
        exact Rd.erGo fun d hd => kE q ⟨i, hq, c, low⟩ d _ (same_new hd) upd_same
      · walk_at "rd"
        refine ⟨rfl, fun j x hj hx2 => ?_, _, rfl⟩
        rcases Nat.lt_or_ge j i with lt | ge
        · exact low j x lt hx2
        · have e : j = i := by omega
          subst e
          rw [hq] at hx2; cases hx2; exact c
    · rintro σ H' ⟨rfl, low, o, rfl⟩
      have k := k fun q hq => by
        obtain ⟨j, hj⟩ := List.mem_iff_getElem?.mp hq
        exact low j q (by rw [lx]; exact (List.getElem?_eq_some_iff.mp hj).1) hj
      walk_at "rd"
      refine Rd.sortSetX ?_
      walk_at "rd"
      refine ⟨b, l, ents xs, fun q => kits q.2, rfl, by rw [ents_refs]; exact hl, ?_⟩
      refine ⟨by rw [List.length_map]; exact few, fun q hq => ?_, fun L t nd sub all srt ht => ?_⟩
      · obtain ⟨x, hx, rfl⟩ := List.mem_map.mp hq
        exact ⟨(ok x hx).nk, by show (1 : Nat) ≤ 8; decide, .str (S x.2.1), _, ok x hx, rflat x.2⟩
      · obtain ⟨ys, rfl, my⟩ := ents_of sub
        have up := ents_up nd srt
        have mem : ∀ x ∈ xs, x.2 ∈ ys.map (·.2) := fun x hx => by
          have h1 := all (x.1, rkey x.2) (List.mem_map.mpr ⟨x, hx, rfl⟩)
          unfold ents at h1
          rw [List.map_map] at h1
          obtain ⟨y, hy, e⟩ := List.mem_map.mp h1
          exact List.mem_map.mpr ⟨y, hy, rkey_inj e⟩
        have ndy : (ys.map (·.2)).Nodup := up.imp fun {a b} h e => by rw [e, rlt_irr] at h; cases h
        have fy : ys.length < 300 := by
          have h1 := len_le (F := ys.map (·.2)) (U := xs.map (·.2)) ndy fun r hr => by
            obtain ⟨y, hy, rfl⟩ := List.mem_map.mp hr
            exact List.mem_map.mpr ⟨y, my y hy, rfl⟩
          rw [List.length_map, List.length_map] at h1
          omega
        rw [ents_refs]
        have s1 := same_new (o := .lst (rrefs ys)) ht
        have hp1 := s1 _ _ hp
        have e1 : (upd H' t (.lst (rrefs ys))) t = some (.lst (rrefs ys)) := upd_same
        generalize upd H' t (.lst (rrefs ys)) = H1 at s1 hp1 e1 ⊢
        walk_at "rd"
        refine Rd.tupL (SqL.of e1) fun u hu1 => ?_
        have s2 := same_new (o := .tup (rrefs ys)) hu1
        have hp2 := s2 _ _ hp1
        have e2 : (upd H1 u (.tup (rrefs ys))) u = some (.tup (rrefs ys)) := upd_same
        generalize upd H1 u (.tup (rrefs ys)) = H2 at s2 hp2 e2 ⊢
        walk_at "rd"
        refine ⟨p, C, dx, [], rfl, hp2, cl, nR, by show 0 < 1000; decide, ?_⟩
        have npu : u ≠ p := fun e => by rw [e, hp1] at hu1; cases hu1
        refine k _ u ys (fun a o na ha => ?_) (none_same s1 hu1) ⟨⟨dx, upd_same⟩, by rw [upd_ne npu]; exact e2, fun y hy => ?_, up, fy⟩ my mem
        · rw [upd_ne na]; exact s2 _ _ (s1 _ _ ha)
        · unfold RwAt
          have h0 := ok y (my y hy)
          have n0 : y.1 ≠ p := fun e => by
            unfold RwAt at h0
            rw [e, hp] at h0; cases h0
          rw [upd_ne n0]
          exact s2 _ _ (s1 _ _ h0)

end
section
variable {P : Program} {w : World} {K : PySem.W.Frag} {mg : Str → Option Value} {base : Heap} {tk : Tok}
/-! ### data of rows -/
theorem rs_can : ∀ {xs : List Rr}, (∀ q ∈ xs, rowOk q.2) → PyData.canLayAll0 (xs.map fun q => rdat q.2) = true
  | [], _ => rfl
  | q :: xs, h => by
    show (PyData.canLay0 (rdat q.2) && PyData.canLayAll0 (xs.map fun q => rdat q.2)) = true
    rw [rdat_can (h q List.mem_cons_self), rs_can fun x hx => h x (List.mem_cons_of_mem _ hx)]; rfl
theorem rs_depth : ∀ xs : List Rr, PyData.depthAll (xs.map fun q => rdat q.2) ≤ 1
  | [] => Nat.zero_le _
  | q :: xs => by
    show max (PyData.depth (rdat q.2)) (PyData.depthAll (xs.map fun q => rdat q.2)) ≤ 1
    exact Nat.max_le.mpr ⟨by show (1 : Nat) ≤ 1; decide, rs_depth xs⟩
theorem rs_sh {xs : List Rr} (h : ∀ q ∈ xs, rowOk q.2) : SeqAt.shaped (.list (xs.map fun q => rdat q.2)) = true := by
  show (PyData.canLayAll0 (xs.map fun q => rdat q.2) && decide (PyData.depthAll (xs.map fun q => rdat q.2) + 1 ≤ 64)) = true
  have := rs_depth xs
  rw [rs_can h, Bool.true_and]
  exact decide_eq_true (by omega)
theorem rs_shT {xs : List Rr} (h : ∀ q ∈ xs, rowOk q.2) : SeqAt.shaped (.tuple (xs.map fun q => rdat q.2)) = true := by
  show (PyData.canLayAll0 (xs.map fun q => rdat q.2) && decide (PyData.depthAll (xs.map fun q => rdat q.2) + 1 ≤ 64)) = true
  have := rs_depth xs
  rw [rs_can h, Bool.true_and]
  exact decide_eq_true (by omega)
theorem rs_dp {H : Hp} : ∀ {xs : List Rr}, RrOk H xs → DpAll K H (rrefs xs) (xs.map fun q => rdat q.2)
  | [], _ => .nil
  | q :: xs, h => .cons (h q List.mem_cons_self).dp (rs_dp fun x hx => h x (List.mem_cons_of_mem _ hx))
theorem rs_eqv : ∀ {xs ys : List Rr}, (∀ q ∈ xs, rowOk q.2) → PyData.eqvAll (xs.map fun q => rdat q.2) (ys.map fun q => rdat q.2) = decide (xs.map (·.2) = ys.map (·.2))
  | [], [], _ => rfl
  | [], _ :: _, _ => rfl
  | _ :: _, [], _ => rfl
  | q :: xs, p :: ys, h => by
    show (PyData.eqv (rdat q.2) (rdat p.2) && PyData.eqvAll (xs.map fun q => rdat q.2) (ys.map fun q => rdat q.2)) = _
    rw [rdat_eqv (h q List.mem_cons_self), rs_eqv fun x hx => h x (List.mem_cons_of_mem _ hx), List.map_cons, List.map_cons]
    by_cases h1 : q.2 = p.2 <;> by_cases h2 : xs.map (·.2) = ys.map (·.2) <;> simp [h1, h2]
theorem rs_any {xs : List Rr} {f : Rw} (h : ∀ q ∈ xs, rowOk q.2) : ((xs.map fun q => rdat q.2).any fun z => PyData.eqv z (rdat f)) = decide (f ∈ xs.map (·.2)) := by
  induction xs with
  | nil => rfl
  | cons q xs ih =>
    rw [List.map_cons, List.any_cons, ih fun x hx => h x (List.mem_cons_of_mem _ hx), rdat_eqv (h q List.mem_cons_self), List.map_cons]
    by_cases h1 : q.2 = f
    · subst h1; simp
    · have h2 : ¬ f = q.2 := fun e => h1 e.symm
      simp [h1, h2]
theorem in_rs {H : Hp} {b : Bool} {t l : Addr} {r : Rw} {xs : List Rr} {Q : VK} (ht : RwAt H t r) (hr : rowOk r) (hl : SqX K b H l (rrefs xs)) (ok : RrOk H xs) (nm : ∀ q ∈ xs, rowOk q.2) (q : Q (.bl (decide (r ∈ xs.map (·.2)))) H) : rInX K (.ref t) (.ref l) H Q :=
  Rd.inX ht.dp hl (rs_dp ok) (rdat_sh hr) (rs_sh nm) (by rw [rs_any nm]; exact q)
theorem eq_tup {H : Hp} {a b : Addr} {xs ys : List Rr} {Q : VK} (ha : SqT K H a (rrefs xs)) (hb : SqT K H b (rrefs ys)) (oa : RrOk H xs) (ob : RrOk H ys) (na : ∀ q ∈ xs, rowOk q.2) (nb : ∀ q ∈ ys, rowOk q.2) (q : Q (.bl (decide (xs.map (·.2) = ys.map (·.2)))) H) : rEqA K (.ref a) (.ref b) H Q :=
  Rd.eqD (.tup ha (rs_dp oa)) (.tup hb (rs_dp ob)) (rs_shT na) (rs_shT nb) (by
    rw [show PyData.eqv (.tuple (xs.map fun q => rdat q.2)) (.tuple (ys.map fun q => rdat q.2)) = _ from rs_eqv na]; exact q)
theorem ne_tup {H : Hp} {a b : Addr} {xs ys : List Rr} {Q : VK} (ha : SqT K H a (rrefs xs)) (hb : SqT K H b (rrefs ys)) (oa : RrOk H xs) (ob : RrOk H ys) (na : ∀ q ∈ xs, rowOk q.2) (nb : ∀ q ∈ ys, rowOk q.2) (q : Q (.bl (!decide (xs.map (·.2) = ys.map (·.2)))) H) : rNeA K (.ref a) (.ref b) H Q :=
  Rd.neD (.tup ha (rs_dp oa)) (.tup hb (rs_dp ob)) (rs_shT na) (rs_shT nb) (by
    rw [show PyData.eqv (.tuple (xs.map fun q => rdat q.2)) (.tuple (ys.map fun q => rdat q.2)) = _ from rs_eqv na]; exact q)
theorem eq_lst {H : Hp} {a b : Addr} {xs ys : List Rr} {Q : VK} (ha : SqL K H a (rrefs xs)) (hb : SqL K H b (rrefs ys)) (oa : RrOk H xs) (ob : RrOk H ys) (na : ∀ q ∈ xs, rowOk q.2) (nb : ∀ q ∈ ys, rowOk q.2) (q : Q (.bl (decide (xs.map (·.2) = ys.map (·.2)))) H) : rEqA K (.ref a) (.ref b) H Q :=
  Rd.eqD (.lst ha (rs_dp oa)) (.lst hb (rs_dp ob)) (rs_sh na) (rs_sh nb) (by
    rw [show PyData.eqv (.list (xs.map fun q => rdat q.2)) (.list (ys.map fun q => rdat q.2)) = _ from rs_eqv na]; exact q)
theorem ne_lst {H : Hp} {a b : Addr} {xs ys : List Rr} {Q : VK} (ha : SqL K H a (rrefs xs)) (hb : SqL K H b (rrefs ys)) (oa : RrOk H xs) (ob : RrOk H ys) (na : ∀ q ∈ xs, rowOk q.2) (nb : ∀ q ∈ ys, rowOk q.2) (q : Q (.bl (!decide (xs.map (·.2) = ys.map (·.2)))) H) : rNeA K (.ref a) (.ref b) H Q :=
  Rd.neD (.lst ha (rs_dp oa)) (.lst hb (rs_dp ob)) (rs_sh na) (rs_sh nb) (by
    rw [show PyData.eqv (.list (xs.map fun q => rdat q.2)) (.list (ys.map fun q => rdat q.2)) = _ from rs_eqv na]; exact q)
/-! ### a lot, made and kept -/
def Good (r : Rw) : Prop := rowOk r ∧ r.2.1 ≠ r.2.2
/-- at p a lot whose waits are those of M, at most n -/
def Lot (C : Addr) (H : Hp) (p : Addr) (n : Nat) (M : Rw → Prop) : Prop := ∃ t ys, WtAt C H p t ys ∧ ys.length ≤ n ∧ (∀ y ∈ ys, Good y.2) ∧ ∀ v, v ∈ ys.map (·.2) ↔ M v
theorem Lot.mono {C : Addr} {H H' : Hp} {p : Addr} {n : Nat} {M : Rw → Prop} (h : Lot C H p n M) (e : Same H H') : Lot C H' p n M := by
  obtain ⟨t, ys, a, b⟩ := h
  exact ⟨t, ys, a.mono e, b⟩
theorem Lot.imp {C : Addr} {H : Hp} {p : Addr} {n : Nat} {M N : Rw → Prop} (h : Lot C H p n M) (e : ∀ v, M v ↔ N v) : Lot C H p n N := by
  obtain ⟨t, ys, a, b, c, d⟩ := h
  exact ⟨t, ys, a, b, c, fun v => (d v).trans (e v)⟩
theorem up_nodup {ys : List Rr} (h : Up ys) : (ys.map (·.2)).Nodup := h.imp fun {a b} h e => by rw [e, rlt_irr] at h; cases h
theorem lot_len {xs ys : List Rr} (up : Up ys) (my : ∀ y ∈ ys, y ∈ xs) : ys.length ≤ xs.length := by
  have h1 := len_le (F := ys.map (·.2)) (U := xs.map (·.2)) (up_nodup up) fun r hr => by
    obtain ⟨y, hy, rfl⟩ := List.mem_map.mp hr
    exact List.mem_map.mpr ⟨y, my y hy, rfl⟩
  rw [List.length_map, List.length_map] at h1
  exact h1
theorem lot_of {C : Addr} {H : Hp} {p t : Addr} {xs ys : List Rr} {n : Nat} (wt : WtAt C H p t ys) (good : ∀ x ∈ xs, Good x.2) (hn : xs.length ≤ n) (my : ∀ y ∈ ys, y ∈ xs) (mem : ∀ x ∈ xs, x.2 ∈ ys.map (·.2)) : Lot C H p n (· ∈ xs.map (·.2)) :=
  ⟨t, ys, wt, Nat.le_trans (lot_len wt.up my) hn, fun y hy => good y (my y hy), fun v => ⟨fun h => by
    obtain ⟨y, hy, rfl⟩ := List.mem_map.mp h
    exact List.mem_map.mpr ⟨y, my y hy, rfl⟩, fun h => by
    obtain ⟨x, hx, rfl⟩ := List.mem_map.mp h
    exact mem x hx⟩⟩
theorem wt_go {mC eC : Addr} (wc : Wc K mg mC) {H : Hp} {Q : VK} {E : XK} {b : Bool} {l : Addr} {xs : List Rr} {n : Nat} (hl : SqX K b H l (rrefs xs)) (ok : RrOk H xs) (few : xs.length < 300) (good : ∀ q ∈ xs, Good q.2) (hn : xs.length ≤ n)
    (k : ∀ p H', H p = none → Same H H' → Lot wc.C H' p n (· ∈ xs.map (·.2)) → Q (.ref p) H') : MkGo wc.C (spWI K eC) [.ref l] H Q E := by
  intro x dx hx hd hne
  have s0 : Same H (upd (upd H dx (.own x)) x (.ins wc.C dx [])) := fun b o e => by
    rw [upd_ne (ne_of_none e hx), upd_ne (ne_of_none e hd)]; exact e
  refine ⟨b, x, l, wc.C, dx, xs, rfl, wc.cl, wc.nR, upd_same, sqx_mono s0 hl, ok.mono s0, few, fun q ⟨i, hq, e, _⟩ => absurd e (good q (List.mem_of_getElem? hq)).2, fun _ H' t ys sB ht wt my mem => ⟨rfl, ?_⟩⟩
  exact k x H' hx (fun b o e => sB b o (ne_of_none e hx) (s0 b o e)) (lot_of wt good hn my mem)
theorem wt_bad {mC eC : Addr} (wc : Wc K mg mC) {H : Hp} {Q : VK} {E : XK} {b : Bool} {l : Addr} {xs : List Rr} {q : Rr} (hl : SqX K b H l (rrefs xs)) (ok : RrOk H xs) (few : xs.length < 300) (hq : FBad xs q)
    (k : ∀ d H', Same H H' → H' d = some (.xd [("row", .ref q.1)]) → E (.ref eC) (some d) H') : MkGo wc.C (spWI K eC) [.ref l] H Q E := by
  intro x dx hx hd hne
  have s0 : Same H (upd (upd H dx (.own x)) x (.ins wc.C dx [])) := fun b o e => by
    rw [upd_ne (ne_of_none e hx), upd_ne (ne_of_none e hd)]; exact e
  refine ⟨b, x, l, wc.C, dx, xs, rfl, wc.cl, wc.nR, upd_same, sqx_mono s0 hl, ok.mono s0, few, fun q2 hq2 d H' s1 hd' => ?_, fun good => ?_⟩
  · have e : q2 = q := by
      obtain ⟨i, a1, a2, a3⟩ := hq
      obtain ⟨j, b1, b2, b3⟩ := hq2
      rcases Nat.lt_trichotomy i j with lt | eq | gt
      · exact absurd a2 (b3 i q lt a1)
      · subst eq; rw [a1] at b1; exact (Option.some.inj b1).symm
      · exact absurd b2 (a3 j q2 gt b1)
    subst e
    exact k d H' (s0.trans s1) hd'
  · obtain ⟨i, a1, a2, _⟩ := hq
    exact absurd a2 (good q (List.mem_of_getElem? a1))

end
section
variable {P : Program} {w : World} {K : PySem.W.Frag} {mg : Str → Option Value} {base : Heap} {tk : Tok}
/-! ### the dangers of a catalog -/
theorem kown {X : Cx} (K : PySem.W.Frag) {n : Nat} {f C : Addr} {fd : FuncData} {L : Hp → Addr → Addr → Prop} {tg o : Expr} {te : TE} {ps : List Str} (he : PE X o te) (hs : PySem.W.findIn K (.ref C) "__iter__" = some (some (.ref f))) (hf : PySem.W.isFn K (.ref f) = true) (F : FnY X.prog X.w K X.mg X.base n f fd ps (spIterT L)) (b : Binds K fd ps []) (hr : Room n X.A) (h : X.K = K := by rfl) :
    PI X tg o (iOwn C L K te) := by subst h; exact pi_own he hs hf F b hr
theorem same_rname {rs : List Ro} (h : (rs.map (·.n)).Nodup) {r r2 : Ro} (h1 : r ∈ rs) (h2 : r2 ∈ rs) (e : r2.n = r.n) : r2 = r := by
  induction rs with
  | nil => exact absurd h1 List.not_mem_nil
  | cons x rs ih =>
    rw [List.map_cons, List.nodup_cons] at h
    rcases List.mem_cons.mp h1 with a | a <;> rcases List.mem_cons.mp h2 with b | b
    · rw [a, b]
    · exact absurd (List.mem_map.mpr ⟨r2, b, by rw [e, a]⟩) h.1
    · exact absurd (List.mem_map.mpr ⟨r, a, by rw [← e, b]⟩) h.1
    · exact ih h.2 a b
/-- kinds as the law's catalogs have them -/
structure KsGood (ks : List Kd) : Prop where
  few : ks.length ≤ 4
  six : ∀ k ∈ ks, k.rs.length ≤ 6
  nd : (ks.map (·.n)).Nodup
  rnd : ∀ k ∈ ks, (k.rs.map (·.n)).Nodup
  nm : ∀ k ∈ ks, Nm k.n ∧ ∀ r ∈ k.rs, Nm r.n ∧ Nm r.g ∧ r.m < 5
def spGroupAt (CC D : Addr) (C : Nat → Addr) : Sp := fun vs H Q _ => ∃ (p t : Addr) (ks : List Kd) (kd : Kd) (r : Ro), vs = [.ref p, .str (S kd.n), .str (S r.n)] ∧ CatAt CC H p t ks ∧ KdsOk D C H ks ∧ KsGood ks ∧ kd ∈ ks ∧ r ∈ kd.rs ∧ Q (.str (S r.g)) H
abbrev s_group_at : Stmt := top 25
theorem sc_group_at : FnScope ["catalog", "kind", "role"] ["catalog", "kind", "role"] (defScope s_group_at) := ⟨rfl, rfl, rfl, by decide +kernel, rfl, by decide +kernel, by decide +kernel⟩
abbrev DGa (K : PySem.W.Frag) (mg : Str → Option Value) := Df K mg "group_at" "group_at" s_group_at ["catalog", "kind", "role"]
abbrev MCn (K : PySem.W.Frag) := Mf K "named" "Catalog.named" s_Catalog_named ["self", "name"]
theorem ok_groupat {mI mK mC : Addr} {eR : ErR K mg} {eO : ErO K mg} (d : DGa K mg) (c : Six K mg mI) (kc : Kc K mg mK) (cc : Cc K mg mC) (mN : MCn K) (hN : Meth K cc.C "named" mN.f) (mRn : MKn K) (hRn : Meth K kc.C "role_named" mRn.f)
    (GN : FnOk P w K mg base (L2.CX P w) 3 mN.f mN.fd ["self", "name"] (spNamed cc.C kc.C c.C eR.C)) (GRn : FnOk P w K mg base (L2.CX P w) 3 mRn.f mRn.fd ["self", "name"] (spRNamed kc.C c.C eO.C)) : FnOk P w K mg base CX0 4 d.f d.fd ["catalog", "kind", "role"] (spGroupAt cc.C kc.C c.C) := by
  refine d.F.ok sc_group_at (fun vs H Q E h => ?_) (fun cdv A outer s H vs Q E hr h => ?_)
  · obtain ⟨p, t, ks, kd, r, rfl, _⟩ := h
    rfl
  · obtain ⟨p, t, ks, kd, r, rfl, hc, hks, hg, hk, hr1, k⟩ := h
    have hu := hr.units
    obtain ⟨⟨dx, hp⟩, ht⟩ := id hc
    refine ⟨_, (pss_one (ps_ret (kfld K (pe_mA (pe_mA (pv 0) cc.cl mN hN GN hr passL (pa_cons (pv 1) pa_nil)) kc.cl mRn hRn GRn hr passL (pa_cons (pv 2) pa_nil))))), ?_⟩
    refine Rd.start_ (σ' := [some (.ref p), some (.str (S kd.n)), some (.str (S r.n))]) rfl ?_
    walk_at "rd"
    refine ⟨p, dx, _, rfl, hp, cflds_no _ (by decide +kernel), ?_⟩
    walk_at "rd"
    obtain ⟨⟨dk, hka⟩, hkt, hro⟩ := hks kd hk
    have mem6 := hg.six kd hk
    refine ⟨p, t, dx, kd.n, ks, rfl, hp, ht, hks, fun k2 hk2 e => ?_, fun z => absurd rfl (z kd hk)⟩
    obtain rfl := same_kname hg.nd hk hk2 e
    refine ⟨_, _, _, rfl, hka, kflds_no _ _ (by decide +kernel) (by decide +kernel), ?_⟩
    walk_at "rd"
    refine ⟨_, _, _, r.n, _, rfl, ⟨⟨dk, hka⟩, hkt⟩, hro, by omega, fun r2 hr2 e => ?_, fun z => absurd rfl (z r hr1)⟩
    obtain rfl := same_rname (hg.rnd _ hk) hr1 hr2 e
    obtain ⟨rm, dr, hat⟩ := hro r2 hr1
    exact ⟨_, _, dr, _, _, rfl, hat, c.cl r2.m, c.nG r2.m, flds_group _ _, k⟩
/-! dangers -/
def Mg (zs : List NT) (g : List Nat) : Prop := ∃ z ∈ zs, ∃ r ∈ z.2, mkB r.2.2 = true ∧ r.2.1 = g
def Pr (zs : List NT) (v : Rw) : Prop := ∃ z ∈ zs, ∃ f ∈ z.2, ∃ s ∈ z.2, v = (z.1, f.1, s.1) ∧ rdB f.2.2 = true ∧ dvB s.2.2 = true ∧ f.1 ≠ s.1
/-- v is a danger of the kinds zs -/
def IsD (zs : List NT) (v : Rw) : Prop := ∃ z ∈ zs, ∃ f ∈ z.2, ∃ s ∈ z.2, v = (z.1, f.1, s.1) ∧ rdB f.2.2 = true ∧ dvB s.2.2 = true ∧ f.1 ≠ s.1 ∧ Mg zs f.2.1
theorem mem_pairs {rs : List (List Nat × Nat)} {q : List Nat × List Nat} : q ∈ pairsOf rs ↔ ∃ f ∈ rs, ∃ s ∈ rs, rdB f.2 = true ∧ dvB s.2 = true ∧ f.1 ≠ s.1 ∧ q = (f.1, s.1) := by
  unfold pairsOf
  constructor
  · intro h
    obtain ⟨f, hf, h2⟩ := List.mem_flatMap.mp h
    obtain ⟨s, hs, e⟩ := List.mem_map.mp h2
    obtain ⟨hs, hb⟩ := List.mem_filter.mp hs
    simp only [Bool.and_eq_true, Bool.not_eq_true', decide_eq_false_iff_not] at hb
    exact ⟨f, hf, s, hs, hb.1, hb.2.1, hb.2.2, e.symm⟩
  · rintro ⟨f, hf, s, hs, h1, h2, h3, rfl⟩
    refine List.mem_flatMap.mpr ⟨f, hf, List.mem_map.mpr ⟨s, List.mem_filter.mpr ⟨hs, ?_⟩, rfl⟩⟩
    simp only [Bool.and_eq_true, Bool.not_eq_true', decide_eq_false_iff_not]
    exact ⟨h1, h2, h3⟩
theorem pairs_len (rs : List (List Nat × Nat)) (h : rs.length ≤ 6) : (pairsOf rs).length ≤ 36 := by
  have e : ∀ l : List (List Nat × Nat), (l.flatMap fun f => (rs.filter fun s => rdB f.2 && (dvB s.2 && !decide (f.1 = s.1))).map fun s => (f.1, s.1)).length ≤ l.length * 6 := by
    intro l
    induction l with
    | nil => exact Nat.zero_le _
    | cons f l ih =>
      rw [List.flatMap_cons, List.length_append, List.length_map, List.length_cons]
      have := List.length_filter_le (fun s : List Nat × Nat => rdB f.2 && (dvB s.2 && !decide (f.1 = s.1))) rs
      omega
  have := e rs
  unfold pairsOf
  omega
theorem PrAt.len {H : Hp} {vs : List V} {ps : List (List Nat × List Nat)} (h : PrAt H vs ps) : vs.length = ps.length := by
  induction h with
  | nil => rfl
  | cons _ _ ih => rw [List.length_cons, List.length_cons, ih]
theorem PrAt.get {H : Hp} {vs : List V} {ps : List (List Nat × List Nat)} (h : PrAt H vs ps) : ∀ {i : Nat} {v : V}, vs[i]? = some v → ∃ a x y, v = .ref a ∧ ps[i]? = some (x, y) ∧ H a = some (.tup [.str (S x), .str (S y)]) := by
  induction h with
  | nil => intro i v h; simp at h
  | @cons a x y vs ps h _ ih =>
    intro i v e
    cases i with
    | zero => exact ⟨a, x, y, (Option.some.inj e).symm, rfl, h⟩
    | succ i => exact ih e
theorem PrAt.updL {H : Hp} {D : Addr} {zs : List V} {vs : List V} {ps : List (List Nat × List Nat)} (h : PrAt H vs ps) (hD : ∀ o, H D = some (.tup o) → False) : PrAt (upd H D (.lst zs)) vs ps := by
  induction h with
  | nil => exact .nil
  | @cons a x y vs ps h _ ih => exact .cons (by rw [upd_ne (fun z => hD _ (by rw [← z]; exact h))]; exact h) ih
theorem RrOk.updL {H : Hp} {D : Addr} {zs : List V} {xs : List Rr} (h : RrOk H xs) (hD : ∀ o, H D = some (.tup o) → False) : RrOk (upd H D (.lst zs)) xs := fun q hq => by
  have e := h q hq
  unfold RwAt at e ⊢
  rw [upd_ne (fun z => hD _ (by rw [← z]; exact e))]
  exact e
theorem RrOk.one {H : Hp} {xs : List Rr} {a : Addr} {r : Rw} (h : RrOk H xs) (k : RwAt H a r) : RrOk H (xs ++ [(a, r)]) := fun q hq => by
  rcases List.mem_append.mp hq with z | z
  · exact h q z
  · rw [List.mem_singleton.mp z]; exact k
theorem rrefs_one (xs : List Rr) (a : Addr) (r : Rw) : rrefs xs ++ [V.ref a] = rrefs (xs ++ [(a, r)]) := by
  unfold rrefs
  rw [List.map_append]; rfl
theorem rises_gs {gs0 : List (List Nat)} {ss : List Str} (h : Rises gs0 ss) : ∃ gs : List (List Nat), ss = gs.map S ∧ ∀ g, g ∈ gs ↔ g ∈ gs0 := by
  have es : ∀ s : Str, S s.cps.toList = s := fun s => by cases s; simp [S]
  refine ⟨ss.map fun s => s.cps.toList, ?_, fun g => ?_⟩
  · rw [List.map_map]
    exact ((List.map_congr_left (g := id) fun s _ => es s).trans (List.map_id _)).symm
  · constructor
    · intro hg
      obtain ⟨s, hs, rfl⟩ := List.mem_map.mp hg
      obtain ⟨g2, h2, rfl⟩ := List.mem_map.mp ((h.2.2 s).mp hs)
      simpa [S] using h2
    · intro hg
      exact List.mem_map.mpr ⟨S g, (h.2.2 _).mpr (List.mem_map.mpr ⟨g, hg, rfl⟩), by simp [S]⟩
theorem mem_mgrps {ks : List Kd} {g : List Nat} : g ∈ mgrps ks ↔ Mg (ks.map ntOf) g := by
  unfold mgrps
  constructor
  · intro h
    obtain ⟨kd, hkd, h2⟩ := List.mem_flatMap.mp h
    obtain ⟨r, hr, rfl⟩ := List.mem_map.mp h2
    obtain ⟨hr, hb⟩ := List.mem_filter.mp hr
    exact ⟨ntOf kd, List.mem_map.mpr ⟨kd, hkd, rfl⟩, (r.n, r.g, r.m), List.mem_map.mpr ⟨r, hr, rfl⟩, hb, rfl⟩
  · rintro ⟨z, hz, t, ht, hb, rfl⟩
    obtain ⟨kd, hkd, rfl⟩ := List.mem_map.mp hz
    obtain ⟨r, hr, rfl⟩ := List.mem_map.mp ht
    exact List.mem_flatMap.mpr ⟨kd, hkd, List.mem_map.mpr ⟨r, List.mem_filter.mpr ⟨hr, hb⟩, rfl⟩⟩
abbrev vr (xs : List Rr) : List Rw := xs.map (·.2)
def kdRows (k : Kd) : List Rw := (pairsOf (nm2 k.rs)).map fun q => (k.n, q.1, q.2)
def spDangers (WC CC D : Addr) (C : Nat → Addr) : Sp := fun vs H Q _ => ∃ (p t : Addr) (ks : List Kd), vs = [.ref p] ∧ CatAt CC H p t ks ∧ KdsOk D C H ks ∧ KsGood ks ∧
  ∀ d H', H d = none → Same H H' → Lot WC H' d 144 (IsD (ks.map ntOf)) → Q (.ref d) H'
abbrev s_dangers : Stmt := top 27
theorem sc_dangers : FnScope ["catalog", "made", "rows", "kind", "first", "second", "row"] ["catalog"] (defScope s_dangers) := ⟨rfl, rfl, rfl, by decide +kernel, rfl, by decide +kernel, by decide +kernel⟩
abbrev DDg (K : PySem.W.Frag) (mg : Str → Option Value) := Df K mg "dangers" "dangers" s_dangers ["catalog"]
abbrev MCit (K : PySem.W.Frag) := Mf K "__iter__" "Catalog.__iter__" s_Catalog___iter ["self"]
abbrev MCm (K : PySem.W.Frag) := Mf K "made_groups" "Catalog.made_groups" s_Catalog_made_groups ["self"]
theorem ok_dangers {mI mK mC : Addr} (mWi : MWi K) {eW : ErW K mg} (d : DDg K mg) (T : Bt mg) (c : Six K mg mI) (kc : Kc K mg mK) (cc : Cc K mg mC) (wc : Wc K mg mWi.f) (mIt : MCit K) (hI1 : PySem.W.findIn K (.ref cc.C) "__iter__" = some (some (.ref mIt.f))) (hI2 : PySem.W.isFn K (.ref mIt.f) = true) (hIt : mg "iter" = none)
    (mM : MCm K) (hM : Meth K cc.C "made_groups" mM.f) (GM : FnOk P w K mg base CX0 2 mM.f mM.fd ["self"] (spGroups cc.C kc.C c.C mgrps)) (mP : MKp K) (hP : Meth K kc.C "pairs" mP.f) (GP : FnOk P w K mg base CX0 2 mP.f mP.fd ["self"] (spPairs kc.C c.C))
    (dGa : DGa K mg) (GGa : FnOk P w K mg base CX0 4 dGa.f dGa.fd ["catalog", "kind", "role"] (spGroupAt cc.C kc.C c.C)) (GWi : FnOk P w K mg base (L2.CX P w) 3 mWi.f mWi.fd ["self", "rows"] (spWI K eW.C)) : FnOk P w K mg base CX0 5 d.f d.fd ["catalog"] (spDangers wc.C cc.C kc.C c.C) := by
  have GIt : FnY P w K mg base 1 mIt.f mIt.fd _ (spIterT (KindsAt K cc.C)) := ok_citer mIt cc hIt
  refine d.F.ok sc_dangers (fun vs H Q E h => ?_) (fun cdv A outer s H vs Q E hr h => ?_)
  · obtain ⟨p, t, ks, rfl, _⟩ := h
    rfl
  · obtain ⟨p, t, ks, rfl, hc, hks, hg, k⟩ := h
    have hu := hr.units
    have hu2 := u65 hr
    have hr4 : Room 4 _ := hr.mono (by decide)
    have hr2 : Room 2 _ := hr.mono (by decide)
    have hr1 : Room 1 _ := hr.mono (by decide)
    have lk : (krefs ks).length = ks.length := List.length_map ..
    obtain ⟨⟨dx, hp⟩, ht⟩ := id hc
    refine ⟨_, (pss_cons (ps_set (i := 1) sc_dangers.nd rfl (Or.inr rfl) (pe_m0g (pv 0) cc.cl hM GM hr2 pass0 mM.b))
  (pss_cons (ps_setLc2 (i := 2) (own := [("kind", 3), ("first", 4), ("second", 5)]) (vs1 := [4, 5]) (g := gName 3) (g1 := _) (tt := tYes) (tt1 := tYes) rfl sc_dangers.nd rfl rfl (sw_true rfl rfl rfl (by decide +kernel)) (kown K (pv 0) hI1 hI2 GIt mIt.b hr1) (blkOk_by (N := ["catalog", "made", "rows", "kind", "first", "second", "row"]) (sc := defScope s_dangers) (by decide +kernel)) (by decide) (fun _ _ _ _ _ => (pg_name (i := 3) sc_dangers.nd rfl (Or.inl rfl))) (fun _ _ _ _ _ => pts_nil) (fun _ _ _ _ _ => (kpl K (pe_m0g (pv 3) kc.cl hP GP hr2 pass0 mP.b))) (fun _ _ _ _ _ => (kgt2 K (pg_name (i := 4) sc_dangers.nd rfl (Or.inl rfl)) (pg_name (i := 5) sc_dangers.nd rfl (Or.inl rfl)))) (fun _ _ _ _ _ => pts_nil) (fun _ _ _ _ _ => (pe_tup (pa_cons (kfld K (pv 3)) (pa_cons (pv 4) (pa_cons (pv 5) pa_nil))))))
  (pss_one (ps_ret (pe_mk mWi wc.M wc.g GWi hr4 passL (pa_cons (pe_lc (own := [("row", 6)]) (g := gName 6) rfl sc_dangers.nd (kpl K (pv 2)) (blkOk_by (N := ["catalog", "made", "rows", "kind", "first", "second", "row"]) (sc := defScope s_dangers) (by decide +kernel)) (fun _ _ _ _ _ => (pg_name (i := 6) sc_dangers.nd rfl (Or.inl rfl))) (fun _ _ _ _ _ => (pts_one (pt_cmpR (kin K) (pe_cf dGa GGa hr pass0 (pa_cons (pv 0) (pa_cons (pe_ix (kix K) (pv 6) pe_int (fun _ _ => rfl)) (pa_cons (pe_ix (kix K) (pv 6) pe_int (fun _ _ => rfl)) pa_nil)))) (pv 1) rfl))) (fun _ _ _ _ _ => (pv 6))) pa_nil)))))), ?_⟩
    refine Rd.start_ (σ' := [some (.ref p), none, none, none, none, none, none]) rfl ?_
    walk_at "rd"
    refine ⟨p, dx, _, rfl, hp, cflds_no _ (by decide +kernel), ?_⟩
    walk_at "rd"
    have hf4 := hg.few
    refine ⟨p, t, dx, ks, rfl, hp, ht, hks, by omega, hg.six, fun lm ss H1 hn1 s1 hlm rise => ?_⟩
    have hc1 := hc.mono s1
    have hks1 := hks.mono s1
    obtain ⟨⟨dx1, hp1⟩, ht1⟩ := id hc1
    walk_at "rd"
    refine Rd.lc2O ?_
    walk_at "rd"
    refine ⟨p, dx1, _, t, rfl, hp1, ⟨dx1, _, hp1, ht1⟩, ?_⟩
    refine Rd.lc2G (ι := Addr × List V × Kd) (M := 36) Rd.wTup (fun e => Itl K e.1) (fun e => e.2.1.length) (fun e H' => SqL K H' e.1 e.2.1) (fun e j y => e.2.1[j]? = some y) (fun e => Rd.wList) (by rw [lk]; walk_at "sz")
      (fun i acc H' => Same H1 H' ∧ ∃ xs : List Rr, acc = rrefs xs ∧ RrOk H' xs ∧ xs.map (·.2) = (ks.take i).flatMap kdRows)
      (fun D i e σ2 j acc H' => Same H1 H' ∧ σ2 = [some (.ref p), some (.ref lm), none, some (.ref e.2.2.a), none, none, none] ∧ ks[i]? = some e.2.2 ∧ H' e.1 = some (.lst e.2.1) ∧ e.1 ≠ D ∧ PrAt H' e.2.1 (pairsOf (nm2 e.2.2.rs)) ∧ ∃ xs : List Rr, acc = rrefs xs ∧ RrOk H' xs ∧ xs.map (·.2) = (ks.take i).flatMap kdRows ++ (kdRows e.2.2).take j)
      ⟨Same.refl _, [], rfl, fun q hq => absurd hq List.not_mem_nil, rfl⟩ ?_ ?_ (fun i acc H' hi j => SqT.of (j.1 _ _ ht1)) (fun D i e σ2 j acc H' hi hj q => SqL.of q.2.2.2.1) ?_ ?_ ?_ ?_
    · rintro D hD i acc zs H' hl ⟨q1, xs, q2, q3, q4⟩
      refine ⟨same_upd q1 hD, xs, q2, q3.updL fun o e => ?_, q4⟩
      obtain ⟨ys, e2⟩ := hl _ e
      cases e2
    · rintro D hD i e σ2 j acc zs H' hl ⟨q1, q2, q3, q4, q5, q6, xs, q7, q8, q9⟩
      have nt : ∀ o, H' D = some (.tup o) → False := fun o e => by
        obtain ⟨ys, e2⟩ := hl _ e
        cases e2
      exact ⟨same_upd q1 hD, q2, q3, by rw [upd_ne q5]; exact q4, q5, q6.updL nt, xs, q7, q8.updL nt, q9⟩
    · rintro D hD i x acc H' hi hx hacc ⟨q1, xs, rfl, q3, q4⟩ R hR
      obtain ⟨kd, hkd, rfl⟩ := kref_at hx
      have hkm := List.mem_of_getElem? hkd
      obtain ⟨⟨dk, hka⟩, hkt, hro⟩ := hks1.mono q1 kd hkm
      have h6 := hg.six kd hkm
      refine ⟨rfl, ?_⟩
      dsimp only [wipe, List.set, List.map]
      unfold iList
      walk_at "rd"
      refine ⟨kd.a, dk, _, rfl, hka, kflds_no _ _ (by decide +kernel) (by decide +kernel), ?_⟩
      walk_at "rd"
      refine ⟨kd.a, kd.t, kd.n, kd.rs, rfl, ⟨⟨dk, hka⟩, hkt⟩, hro, by omega, fun l vs H4 hl4 s4 hl5 pr => ?_⟩
      have lv := pr.len
      have l36 := pairs_len (nm2 kd.rs) (by unfold nm2; rw [List.length_map]; exact h6)
      refine ⟨l, rfl, ⟨_, SqL.of hl5⟩, hR ⟨l, vs, kd⟩ _ H4 (by show vs.length ≤ 36; omega) (s4 _ _ hacc) ⟨q1.trans s4, rfl, hkd, hl5, fun e => ?_, pr, xs, rfl, q3.mono s4, by rw [q4, List.take_zero, List.append_nil]⟩⟩
      rw [show l = D from e, hacc] at hl4
      cases hl4
    · rintro D i ⟨l, vs, kd⟩ σ2 acc H' hi ⟨q1, _, q3, _, _, q6, xs, q7, q8, q9⟩
      refine ⟨q1, xs, q7, q8, ?_⟩
      have e1 : (kdRows kd).length = vs.length := by
        unfold kdRows
        rw [List.length_map]; exact q6.len.symm
      rw [q9, show (kdRows kd).take vs.length = kdRows kd from by rw [← e1, List.take_length], List.take_add_one, show ks[i]? = some kd from q3, List.flatMap_append]
      show _ = _ ++ (kdRows kd ++ [])
      rw [List.append_nil]
    · rintro D hD i ⟨l, vs, kd⟩ σ2 j y acc H' hi hj hy hacc ⟨q1, rfl, q3, q4, q5, q6, xs, rfl, q8, q9⟩ Kt Kf hT hF
      obtain ⟨ya, f, s2, rfl, hpr, hya⟩ := q6.get (show vs[j]? = some y from hy)
      obtain ⟨⟨dk, hka⟩, _, _⟩ := hks1.mono q1 kd (List.mem_of_getElem? q3)
      refine ⟨ya, _, rfl, SqT.of hya, rfl, _, _, rfl, _, _, rfl, rfl, rfl, ?_⟩
      dsimp only [wipe, List.set]
      walk_at "rd"
      refine ⟨kd.a, _, dk, _, _, rfl, hka, kc.cl, kc.nN, kflds_name _ _, ?_⟩
      walk_at "rd"
      refine ⟨by show 3 ≤ sizeLine; decide, fun tp htp => ?_⟩
      have stp := same_new (o := .tup [V.str (S kd.n), V.str (S f), V.str (S s2)]) htp
      have etp : upd H' tp (.tup [V.str (S kd.n), V.str (S f), V.str (S s2)]) tp = some (.tup [V.str (S kd.n), V.str (S f), V.str (S s2)]) := upd_same
      generalize upd H' tp (.tup [V.str (S kd.n), V.str (S f), V.str (S s2)]) = H5 at stp etp ⊢
      refine hT _ _ (stp _ _ hacc) ⟨q1.trans stp, rfl, q3, stp _ _ q4, q5, q6.mono stp, xs ++ [(tp, (kd.n, f, s2))], rrefs_one _ _ _, (q8.mono stp).one etp, ?_⟩
      have e1 : (kdRows kd)[j]? = some (kd.n, f, s2) := by
        unfold kdRows
        rw [List.getElem?_map, hpr]; rfl
      show List.map _ (xs ++ [_]) = _ ++ (kdRows kd).take (j + 1)
      rw [List.map_append, q9, List.take_add_one, e1, List.append_assoc]
      rfl
    · rintro D acc H2 hD hacc hlen ⟨s2, xs, rfl, ok, ev⟩
      rw [lk, List.take_length] at ev
      have lx : (rrefs xs).length = xs.length := List.length_map ..
      rw [lx, lk] at hlen
      have s12 := s1.trans s2
      have hc2 := hc.mono s12
      have hks2 := hks.mono s12
      have hlm2 := s2 _ _ hlm
      have rowsP : ∀ x ∈ xs, ∃ kd ∈ ks, ∃ f ∈ kd.rs, ∃ s ∈ kd.rs, x.2 = (kd.n, f.n, s.n) ∧ rdB f.m = true ∧ dvB s.m = true ∧ f.n ≠ s.n := fun x hx => by
        have h1 : x.2 ∈ ks.flatMap kdRows := by rw [← ev]; exact List.mem_map.mpr ⟨x, hx, rfl⟩
        obtain ⟨kd, hkd, h2⟩ := List.mem_flatMap.mp h1
        obtain ⟨q, hq, e⟩ := List.mem_map.mp h2
        obtain ⟨f, hf, s, hs, b1, b2, b3, rfl⟩ := mem_pairs.mp hq
        obtain ⟨f, hf2, rfl⟩ := List.mem_map.mp hf
        obtain ⟨s, hs2, rfl⟩ := List.mem_map.mp hs
        exact ⟨kd, hkd, f, hf2, s, hs2, e.symm, b1, b2, b3⟩
      walk_at "rd"
      obtain ⟨gs, rfl, hgs⟩ := rises_gs rise
      have hlm2' : SqL K H2 lm (gs.map fun l => V.str (S l)) := by
        have e := hlm2
        rw [List.map_map] at e
        exact SqL.of e
      refine Rd.lcW Rd.wList (by rw [lx]; walk_at "sz") (fun i acc H' => Same H2 H' ∧ ∃ ys : List Rr, acc = rrefs ys ∧ ys.length ≤ i ∧ (∀ y ∈ ys, y ∈ xs) ∧ ∀ v : Rw, v ∈ vr ys ↔ v ∈ vr (xs.take i) ∧ ∃ kd ∈ ks, ∃ f ∈ kd.rs, v.1 = kd.n ∧ v.2.1 = f.n ∧ f.g ∈ gs)
        ⟨Same.refl _, [], rfl, Nat.le_refl _, fun y hy => absurd hy List.not_mem_nil, fun v => by simp⟩ (fun D hD i acc ys H' j => ⟨same_upd j.1 hD, j.2⟩) (fun i acc H' hi j => SqL.of (j.1 _ _ hacc)) ?_ ?_
      · rintro D2 hD2 i x acc H' hi hx hacc2 hlen2 ⟨q1, ys, rfl, q3, q4, q5⟩ Kt Kf hT hF
        obtain ⟨x, hx', rfl⟩ := rref_at hx
        have hxm := List.mem_of_getElem? hx'
        obtain ⟨kd, hkd, f, hf, s2', hs2', ev2, b1, b2, b3⟩ := rowsP x hxm
        have hrow : H' x.1 = some (.tup (rvs x.2)) := q1 _ _ (ok x hxm)
        rw [ev2] at hrow
        dsimp only [List.set]
        walk_at "rd"
        refine ⟨p, t, ks, kd, f, rfl, hc2.mono q1, hks2.mono q1, hg, hkd, hf, ?_⟩
        walk_at "rd"
        refine ⟨lm, _, rfl, .inl (q1.seq hlm2'), rfl, flat_strs _, ?_⟩
        show ∃ k, V.bl (inV _ _) = .bl k ∧ _
        rw [inV_strs]
        have tk1 : ∀ v, v ∈ (xs.take (i + 1)).map (·.2) ↔ v ∈ (xs.take i).map (·.2) ∨ v = x.2 := fun v => by
          rw [List.take_add_one, hx', List.map_append, List.mem_append]
          simp
        refine ⟨_, rfl, ?_⟩
        by_cases hin : f.g ∈ gs
        · rw [decide_eq_true hin]
          walk_at "rd"
          refine hT _ _ hacc2 ⟨q1, ys ++ [x], by unfold rrefs; rw [List.map_append]; rfl, by rw [List.length_append, List.length_singleton]; omega, fun y hy => ?_, fun v => ?_⟩
          · rcases List.mem_append.mp hy with z | z
            · exact q4 y z
            · rw [List.mem_singleton.mp z]; exact hxm
          · have e0 : v ∈ vr (ys ++ [x]) ↔ v ∈ vr ys ∨ v = x.2 := by simp [vr]
            rw [e0, q5]
            have tk1 := tk1 v
            rw [show v ∈ vr (xs.take (i + 1)) ↔ _ from tk1]
            constructor
            · rintro (⟨h1, h2⟩ | h1)
              · exact ⟨.inl h1, h2⟩
              · have e : v = x.2 := h1
                exact ⟨.inr e, kd, hkd, f, hf, by rw [e, ev2], by rw [e, ev2], hin⟩
            · rintro ⟨h1 | h1, h2⟩
              · exact .inl ⟨h1, h2⟩
              · exact .inr h1
        · rw [decide_eq_false hin]
          walk_at "rd"
          refine hF _ hacc2 ⟨q1, ys, rfl, by omega, q4, fun v => ?_⟩
          rw [q5, show v ∈ vr (xs.take (i + 1)) ↔ _ from tk1 v]
          constructor
          · rintro ⟨h1, h2⟩
            exact ⟨.inl h1, h2⟩
          · rintro ⟨h1 | h1, kd2, hkd2, f2, hf2, e1, e2, hin2⟩
            · exact ⟨h1, kd2, hkd2, f2, hf2, e1, e2, hin2⟩
            · exfalso
              rw [h1, ev2] at e1 e2
              obtain rfl := same_kname hg.nd hkd2 hkd e1
              obtain rfl := same_rname (hg.rnd _ hkd) hf2 hf e2
              exact hin hin2
      · rintro D2 acc H3 hD2 hacc2 hlen2 ⟨q1, ys, rfl, q3, q4, q5⟩
        rw [lx, List.take_length] at q5
        have q3' : ys.length ≤ xs.length := by rw [lx] at q3; exact q3
        have s13 := s12.trans q1
        have okY : RrOk H3 ys := fun y hy => q1 _ _ (ok y (q4 y hy))
        walk_at "rd"
        refine wt_go wc (b := false) (n := 144) (SqL.of hacc2) okY (by omega) (fun y hy => ?_) (by omega) fun d H4 hd s4 lot => ?_
        · obtain ⟨kd, hkd, f, hf, s2', hs2', ev2, b1, b2, b3⟩ := rowsP y (q4 y hy)
          have nk := hg.nm kd hkd
          rw [ev2]
          exact ⟨⟨nk.1, (nk.2 f hf).1, (nk.2 s2' hs2').1⟩, b3⟩
        · refine k d H4 (none_same s13 hd) (s13.trans s4) (lot.imp fun v => ?_)
          rw [q5]
          constructor
          · rintro ⟨h1, kd2, hkd2, f2, hf2, e1, e2, hin2⟩
            obtain ⟨x, hx, rfl⟩ := List.mem_map.mp h1
            obtain ⟨kd, hkd, f, hf, s2', hs2', ev2, b1, b2, b3⟩ := rowsP x hx
            rw [ev2] at e1 e2 ⊢
            obtain rfl := same_kname hg.nd hkd2 hkd e1
            obtain rfl := same_rname (hg.rnd _ hkd) hf2 hf e2
            exact ⟨ntOf kd, List.mem_map.mpr ⟨kd, hkd, rfl⟩, _, List.mem_map.mpr ⟨f, hf, rfl⟩, _, List.mem_map.mpr ⟨s2', hs2', rfl⟩, rfl, b1, b2, b3, mem_mgrps.mp ((hgs _).mp hin2)⟩
          · rintro ⟨z, hz, f, hf, s3, hs3, e, b1, b2, b3, mg1⟩
            obtain ⟨kd, hkd, rfl⟩ := List.mem_map.mp hz
            obtain ⟨f, hf2, rfl⟩ := List.mem_map.mp hf
            obtain ⟨s3, hs4, rfl⟩ := List.mem_map.mp hs3
            subst e
            refine ⟨?_, kd, hkd, f, hf2, rfl, rfl, (hgs _).mpr (mem_mgrps.mpr mg1)⟩
            show _ ∈ vr xs
            rw [show vr xs = _ from ev]
            refine List.mem_flatMap.mpr ⟨kd, hkd, List.mem_map.mpr ⟨(f.n, s3.n), mem_pairs.mpr ⟨(f.n, f.m), List.mem_map.mpr ⟨f, hf2, rfl⟩, (s3.n, s3.m), List.mem_map.mpr ⟨s3, hs4, rfl⟩, b1, b2, b3, rfl⟩, rfl⟩⟩

end
section
variable {P : Program} {w : World} {K : PySem.W.Frag} {mg : Str → Option Value} {base : Heap} {tk : Tok}
/-! ### the law's own dangers -/
def pmgrps (ps : List Kp) : List (List Nat) := ps.flatMap fun k => (k.ts.filter fun r => decide (0 < r.2.2)).map (·.2.1)
theorem fm_take {α β : Type} {f : α → List β} {l : List α} {i : Nat} {x : α} (h : l[i]? = some x) : (l.take (i + 1)).flatMap f = (l.take i).flatMap f ++ f x := by
  rw [List.take_add_one, h, List.flatMap_append]
  show _ ++ (f x ++ []) = _
  rw [List.append_nil]
theorem fm_len {α β : Type} {f : α → List β} {m : Nat} : ∀ {l : List α}, (∀ x ∈ l, (f x).length ≤ m) → (l.flatMap f).length ≤ l.length * m
  | [], _ => Nat.zero_le _
  | x :: l, h => by
    have h1 := h x List.mem_cons_self
    have h2 := fm_len (f := f) (l := l) fun y hy => h y (List.mem_cons_of_mem _ hy)
    rw [List.flatMap_cons, List.length_append, List.length_cons, Nat.succ_mul]
    omega
theorem tri_key {ts : List Tri} {r : Tri} {i : Nat} (h : ts[i]? = some r) (f : Tri → List Nat) : (ts.take (i + 1)).map f = (ts.take i).map f ++ [f r] := by
  rw [List.take_add_one, h, List.map_append]
  rfl
def spLGroups (gr : List Kp → List (List Nat)) : Sp := fun vs H Q _ => ∃ (a : Addr) (ps : List Kp), vs = [.ref a] ∧ H a = some (.lst (prefs ps)) ∧ KpsOk H ps ∧ ps.length ≤ 8 ∧ (∀ k ∈ ps, k.ts.length ≤ 6) ∧
  ∀ t H' rs, H t = none → Same H H' → H' t = some (.lst (txts rs)) → Rise rs → (∀ x, x ∈ rs ↔ x ∈ gr ps) → Q (.ref t) H'
abbrev s_law_made_groups : Stmt := top 44
theorem sc_law_made_groups : FnScope ["_law_kinds_here", "_law_groups", "_law_kind_here", "_law_role_here"] ["_law_kinds_here"] (defScope s_law_made_groups) := ⟨rfl, rfl, rfl, by decide +kernel, rfl, by decide +kernel, by decide +kernel⟩
abbrev DLm (K : PySem.W.Frag) (mg : Str → Option Value) := Df K mg "_law_made_groups" "_law_made_groups" s_law_made_groups ["_law_kinds_here"]
theorem pmgrps_le {ps : List Kp} (h8 : ps.length ≤ 8) (h6 : ∀ k ∈ ps, k.ts.length ≤ 6) (i : Nat) : (pmgrps (ps.take i)).length ≤ 48 := by
  have h := fm_len (f := fun k : Kp => (k.ts.filter fun r => decide (0 < r.2.2)).map (·.2.1)) (m := 6) (l := ps.take i) fun k hk => by
    rw [List.length_map]; exact Nat.le_trans (List.length_filter_le _ _) (h6 k (List.mem_of_mem_take hk))
  have h2 : (ps.take i).length ≤ 8 := by rw [List.length_take]; omega
  have h3 : (ps.take i).length * 6 ≤ 8 * 6 := Nat.mul_le_mul_right _ h2
  unfold pmgrps
  omega
theorem ok_lmgroups (d : DLm K mg) (T : Bt mg) (dSo : DSo K mg) : FnOk P w K mg base CX0 2 d.f d.fd ["_law_kinds_here"] (spLGroups pmgrps) := by
  have GSo : FnOk P w K mg base CX0 1 dSo.f dSo.fd _ (spSort (ordS K)) := ok_sorted (ordS K) (fun X _ _ => op_ltA) (fun X h hu => kne K hu h) dSo T
  refine d.F.ok sc_law_made_groups (fun vs H Q E h => ?_) (fun cdv A outer s H vs Q E hr h => ?_)
  · obtain ⟨a, ps, rfl, _⟩ := h
    rfl
  · obtain ⟨a, ps, rfl, ha, hps, h8, h6, k⟩ := h
    have hu := hr.units
    have hr1 : Room 1 _ := hr.mono (by decide)
    have lP : (prefs ps).length = ps.length := List.length_map ..
    refine ⟨_, (pss_cons (ps_set (i := 1) sc_law_made_groups.nd rfl (Or.inl rfl) (pe_lst pa_nil))
  (pss_cons (ps_for PassesOwn.never rfl (kpl K (pv 0)) (pg_name (i := 2) sc_law_made_groups.nd rfl (Or.inl rfl))
  (pss_one (ps_for PassesOwn.never rfl (kpl K (pe_ix (kix K) (pv 2) pe_int (fun _ _ => rfl))) (pg_name (i := 3) sc_law_made_groups.nd rfl (Or.inl rfl))
  (pss_one (ps_if (pt_cmpR op_gtI (pe_ix (kix K) (pv 3) pe_int (fun _ _ => rfl)) pe_int (nomark _)) (pss_one (ps_expr (kapp K (pv 1) (pa_cons (pe_ix (kix K) (pv 3) pe_int (fun _ _ => rfl)) pa_nil))))
  pss_nil)))))
  (pss_one (ps_ret (pe_cf dSo GSo hr1 pass0 (pa_cons (pv 1) pa_nil)))))), ?_⟩
    refine Rd.start_ (σ' := [some (.ref a), none, none, none]) rfl ?_
    walk_at "rd"
    refine ⟨by show 0 ≤ sizeLine; decide, fun D hD => ?_⟩
    have s0 := same_new (o := .lst []) hD
    walk_at "rd"
    refine Rd.exlist (SqL.of (s0 _ _ ha)) ?_
    refine Rd.foW Rd.wList (fun i σ H' => ∃ (o1 o2 : Option V), σ = [some (.ref a), some (.ref D), o1, o2] ∧ Same H H' ∧ H' D = some (.lst (txts (pmgrps (ps.take i))))) ⟨_, _, rfl, s0, upd_same⟩ (fun i σ H' hi ⟨_, _, _, j, _⟩ => SqL.of (j _ _ ha)) ?_ ?_
    · rintro i y σ H' hi hy ⟨o1, o2, rfl, s1, hM⟩
      obtain ⟨kk, hx, rfl⟩ := pref_at hy
      obtain ⟨k1, k2, k3⟩ := (hps.mono s1) kk (List.mem_of_getElem? hx)
      have hT := (hps kk (List.mem_of_getElem? hx)).2.2
      dsimp only [List.set]
      walk_at "rd"
      refine Rd.foW Rd.wList (fun j σ H2 => ∃ o2, σ = [some (.ref a), some (.ref D), some (.ref kk.a), o2] ∧ Same H H2 ∧ H2 D = some (.lst (txts (pmgrps (ps.take i) ++ ((kk.ts.take j).filter fun r => decide (0 < r.2.2)).map (·.2.1))))) ⟨_, rfl, s1, by rw [List.take_zero, List.filter_nil, List.map_nil, List.append_nil]; exact hM⟩
        (fun j σ H2 hj ⟨_, _, q, _⟩ => SqL.of (q _ _ (hps kk (List.mem_of_getElem? hx)).2.1)) ?_ ?_
      · rintro j y σ H2 hj hy2 ⟨o2, rfl, s2, hM2⟩
        obtain ⟨ta, r, rfl, hr', hat⟩ := tri_at (hT.mono s2) hy2
        dsimp only [List.set]
        have e0 := filt_take (p := fun r : Tri => decide (0 < r.2.2)) hr'
        walk_at "rd"
        refine Rd.iteD (fun c1 => ?_) (fun c1 => ?_)
        · rw [if_pos (decide_eq_true (by omega))] at e0
          walk_at "rd"
          refine Rd.append hM2 ?_ ?_
          · have e1 := pmgrps_le h8 h6 i
            have e2 := h6 kk (List.mem_of_getElem? hx)
            have e3 : (((kk.ts.take j).filter fun r => decide (0 < r.2.2)).map fun r => r.2.1).length ≤ 6 := by
              rw [List.length_map]
              refine Nat.le_trans (List.length_filter_le _ _) ?_
              rw [List.length_take]; omega
            rw [List.length_map, List.length_append]
            walk_at "sz"
          · walk_at "rd"
            refine ⟨_, rfl, same_upd s2 hD, ?_⟩
            rw [upd_same, e0, List.map_append, ← List.append_assoc]
            simp only [txts, List.map_append, List.map_cons, List.map_nil]
        · rw [if_neg (by rw [decide_eq_false (by omega)]; decide), List.append_nil] at e0
          walk_at "rd"
          exact ⟨_, rfl, s2, by rw [e0]; exact hM2⟩
      · rintro σ H2 ⟨o2, rfl, s2, hM2⟩
        walk_at "rd"
        refine ⟨_, _, rfl, s2, ?_⟩
        rw [hM2, tri_len hT, List.take_length]
        unfold pmgrps
        rw [fm_take hx]
    · rintro σ H' ⟨o1, o2, rfl, s1, hM⟩
      rw [lP, List.take_length] at hM
      walk_at "rd"
      have hle := pmgrps_le h8 h6 ps.length
      rw [List.take_length] at hle
      exact sort_texts hM (by omega) fun t H2 rs hn s2 ht h1 h2 => k t H2 rs (none_same s1 hn) (s1.trans s2) ht h1 h2

theorem mem_pmgrps {ps : List Kp} (g : ∀ k ∈ ps, KpGood k) {x : List Nat} : x ∈ pmgrps ps ↔ Mg (ps.map ntP) x := by
  unfold pmgrps
  have mk : ∀ k ∈ ps, ∀ r ∈ k.ts, (mkB r.2.2 = true ↔ 0 < r.2.2) := fun k hk r hr => by
    have h5 := ((g k hk).2.2.2.2.1 r hr).2.2
    unfold mkB
    rw [decide_eq_true_iff]
    omega
  constructor
  · intro h
    obtain ⟨k, hk, h2⟩ := List.mem_flatMap.mp h
    obtain ⟨r, hr, rfl⟩ := List.mem_map.mp h2
    obtain ⟨hr, hb⟩ := List.mem_filter.mp hr
    exact ⟨ntP k, List.mem_map.mpr ⟨k, hk, rfl⟩, r, hr, (mk k hk r hr).mpr (of_decide_eq_true hb), rfl⟩
  · rintro ⟨z, hz, r, hr, hb, rfl⟩
    obtain ⟨k, hk, rfl⟩ := List.mem_map.mp hz
    exact List.mem_flatMap.mpr ⟨k, hk, List.mem_map.mpr ⟨r, List.mem_filter.mpr ⟨hr, decide_eq_true ((mk k hk r hr).mp hb)⟩, rfl⟩⟩
/-- rows that stand in a list at l -/
structure Rws (H : Hp) (l : Addr) (xs : List Rr) : Prop where
  at_ : H l = some (.lst (rrefs xs))
  ok : RrOk H xs
  nm : ∀ x ∈ xs, rowOk x.2
theorem Rws.mono {H H' : Hp} {l : Addr} {xs : List Rr} (h : Rws H l xs) (e : Same H H') : Rws H' l xs := ⟨e _ _ h.at_, h.ok.mono e, h.nm⟩
def spLDangers : Sp := fun vs H Q _ => ∃ (a : Addr) (ps : List Kp), vs = [.ref a] ∧ H a = some (.lst (prefs ps)) ∧ KpsOk H ps ∧ ps.length ≤ 4 ∧ (∀ k ∈ ps, KpGood k) ∧
  ∀ l xs H', H l = none → Same H H' → Rws H' l xs → xs.length ≤ 144 → (∀ v, v ∈ vr xs ↔ IsD (ps.map ntP) v) → Q (.ref l) H'
theorem ex_take {α : Type} {P : α → Prop} {l : List α} {i : Nat} {x : α} (h : l[i]? = some x) : (∃ a ∈ l.take (i + 1), P a) ↔ (∃ a ∈ l.take i, P a) ∨ P x := by
  rw [List.take_add_one, h]
  constructor
  · rintro ⟨a, h1, h2⟩
    rcases List.mem_append.mp h1 with z | z
    · exact .inl ⟨a, z, h2⟩
    · have e : a = x := by simpa using z
      rw [e] at h2
      exact .inr h2
  · rintro (⟨a, h1, h2⟩ | h2)
    · exact ⟨a, List.mem_append_left _ h1, h2⟩
    · exact ⟨x, by simp, h2⟩
def DD (rs : List (List Nat)) (k : Kp) (f s : Tri) (v : Rw) : Prop := v = (k.n, f.1, s.1) ∧ rdB f.2.2 = true ∧ dvB s.2.2 = true ∧ f.1 ≠ s.1 ∧ f.2.1 ∈ rs
def InK (rs : List (List Nat)) (k : Kp) (v : Rw) : Prop := ∃ f ∈ k.ts, ∃ s ∈ k.ts, DD rs k f s v
theorem Rws.app {H H' : Hp} {l : Addr} {xs : List Rr} {a : Addr} {r : Rw} (h : Rws H l xs) (k : RwAt H a r) (nm : rowOk r) (e : H' = upd H l (.lst (rrefs xs ++ [.ref a]))) : Rws H' l (xs ++ [(a, r)]) := by
  subst e
  refine ⟨by rw [upd_same, rrefs_one], (h.ok.one k).updL (fun o e => by rw [h.at_] at e; cases e), fun x hx => ?_⟩
  rcases List.mem_append.mp hx with z | z
  · exact h.nm x z
  · rw [List.mem_singleton.mp z]; exact nm
abbrev s_law_dangers : Stmt := top 46
theorem sc_law_dangers : FnScope ["_law_kinds_here", "_law_made", "_law_rows", "_law_kind_here", "_law_first", "_law_second"] ["_law_kinds_here"] (defScope s_law_dangers) := ⟨rfl, rfl, rfl, by decide +kernel, rfl, by decide +kernel, by decide +kernel⟩
abbrev DLg (K : PySem.W.Frag) (mg : Str → Option Value) := Df K mg "_law_dangers" "_law_dangers" s_law_dangers ["_law_kinds_here"]
abbrev DLr (K : PySem.W.Frag) (mg : Str → Option Value) := Df K mg "_law_reads" "_law_reads" s_law_reads ["_law_mode"]
abbrev DLd (K : PySem.W.Frag) (mg : Str → Option Value) := Df K mg "_law_derived" "_law_derived" s_law_derived ["_law_mode"]
theorem ok_ldangers (d : DLg K mg) (T : Bt mg) (dSo : DSo K mg) (dLm : DLm K mg) (dLr : DLr K mg) (dLd : DLd K mg) : FnOk P w K mg base CX0 3 d.f d.fd ["_law_kinds_here"] spLDangers := by
  have GLm : FnOk P w K mg base CX0 2 dLm.f dLm.fd _ (spLGroups pmgrps) := ok_lmgroups dLm T dSo
  have GLr : FnOk P w K mg base CX0 1 dLr.f dLr.fd _ spLr := ok_lr dLr.F
  have GLd : FnOk P w K mg base CX0 1 dLd.f dLd.fd _ spLd := ok_ld dLd.F
  refine d.F.ok sc_law_dangers (fun vs H Q E h => ?_) (fun cdv A outer s H vs Q E hr h => ?_)
  · obtain ⟨a, ps, rfl, _⟩ := h
    rfl
  · obtain ⟨a, ps, rfl, ha, hps, l4, good, k⟩ := h
    have hu := hr.units
    have hr2 : Room 2 _ := hr.mono (by decide)
    have hr1 : Room 1 _ := hr.mono (by decide)
    have lP : (prefs ps).length = ps.length := List.length_map ..
    refine ⟨_, (pss_cons (ps_set (i := 1) sc_law_dangers.nd rfl (Or.inl rfl) (pe_cf dLm GLm hr2 pass0 (pa_cons (pv 0) pa_nil)))
  (pss_cons (ps_set (i := 2) sc_law_dangers.nd rfl (Or.inl rfl) (pe_lst pa_nil))
  (pss_cons (ps_for PassesOwn.never rfl (kpl K (pv 0)) (pg_name (i := 3) sc_law_dangers.nd rfl (Or.inl rfl))
  (pss_one (ps_for PassesOwn.never rfl (kpl K (pe_ix (kix K) (pv 3) pe_int (fun _ _ => rfl))) (pg_name (i := 4) sc_law_dangers.nd rfl (Or.inl rfl))
  (pss_one (ps_if (PW.pt (pw_and (pt_val (pe_cf dLr GLr hr1 pass0 (pa_cons (pe_ix (kix K) (pv 4) pe_int (fun _ _ => rfl)) pa_nil))) (pw_and1 (pt_cmpR (kin K) (pe_ix (kix K) (pv 4) pe_int (fun _ _ => rfl)) (pv 1) rfl)))) (pss_one (ps_for PassesOwn.never rfl (kpl K (pe_ix (kix K) (pv 3) pe_int (fun _ _ => rfl))) (pg_name (i := 5) sc_law_dangers.nd rfl (Or.inl rfl))
  (pss_one (ps_if (PW.pt (pw_and (pt_val (pe_cf dLd GLd hr1 pass0 (pa_cons (pe_ix (kix K) (pv 5) pe_int (fun _ _ => rfl)) pa_nil))) (pw_and1 (pt_cmpR (kne K hu) (pe_ix (kix K) (pv 5) pe_int (fun _ _ => rfl)) (pe_ix (kix K) (pv 4) pe_int (fun _ _ => rfl)) (nomark _))))) (pss_one (ps_expr (kapp K (pv 2) (pa_cons (pe_tup (pa_cons (pe_ix (kix K) (pv 3) pe_int (fun _ _ => rfl)) (pa_cons (pe_ix (kix K) (pv 4) pe_int (fun _ _ => rfl)) (pa_cons (pe_ix (kix K) (pv 5) pe_int (fun _ _ => rfl)) pa_nil)))) pa_nil))))
  pss_nil))))
  pss_nil)))))
  (pss_one (ps_ret (pv 2)))))), ?_⟩
    refine Rd.start_ (σ' := [some (.ref a), none, none, none, none, none]) rfl ?_
    walk_at "rd"
    refine ⟨a, ps, rfl, ha, hps, by omega, fun k hk => (good k hk).2.2.1, fun lm H1 rs hn1 s1 hlm q1 q2 => ?_⟩
    walk_at "rd"
    refine ⟨by show 0 ≤ sizeLine; decide, fun D hD => ?_⟩
    have s2 := same_new (o := .lst []) hD
    have hDl : upd H1 D (.lst []) D = some (.lst []) := upd_same
    generalize upd H1 D (.lst []) = H2 at s2 hDl ⊢
    have s12 := s1.trans s2
    walk_at "rd"
    refine Rd.exlist (SqL.of (s12 _ _ ha)) ?_
    have hD0 : H D = none := none_same s1 hD
    have hlm' : SqL K H1 lm (rs.map fun l => V.str (S l)) := SqL.of hlm
    have lD : lm ≠ D := ne_of_none hlm hD
    refine Rd.foW Rd.wList (fun i σ H' => ∃ o3 o4 o5, σ = [some (.ref a), some (.ref lm), some (.ref D), o3, o4, o5] ∧ Same H1 H' ∧ ∃ xs, Rws H' D xs ∧ xs.length ≤ 36 * i ∧ ∀ v, v ∈ vr xs ↔ ∃ k ∈ ps.take i, InK rs k v)
      ⟨_, _, _, rfl, s2, [], ⟨hDl, fun q hq => absurd hq List.not_mem_nil, fun q hq => absurd hq List.not_mem_nil⟩, Nat.zero_le _, fun v => by simp⟩ (fun i σ H' hi ⟨_, _, _, _, q, _⟩ => SqL.of ((s1.trans q) _ _ ha)) ?_ ?_
    · rintro i y σ H3 hi hy ⟨o3, o4, o5, rfl, s3, xs, rw3, ln3, iff3⟩
      obtain ⟨kp, hkp, rfl⟩ := pref_at hy
      have hkm := List.mem_of_getElem? hkp
      have g := good kp hkm
      have l6 := g.2.2.1
      have kp3 := (hps.mono (s1.trans s3)) kp hkm
      have lts := tri_len kp3.2.2
      obtain ⟨kp1, kp2, _⟩ := id kp3
      rw [lP] at hi
      dsimp only [List.set]
      walk_at "rd"
      refine Rd.foW Rd.wList (fun j σ H' => ∃ o4 o5, σ = [some (.ref a), some (.ref lm), some (.ref D), some (.ref kp.a), o4, o5] ∧ Same H1 H' ∧ ∃ xs, Rws H' D xs ∧ xs.length ≤ 36 * i + 6 * j ∧ ∀ v, v ∈ vr xs ↔ (∃ k ∈ ps.take i, InK rs k v) ∨ ∃ f ∈ kp.ts.take j, ∃ s ∈ kp.ts, DD rs kp f s v)
        ⟨_, _, rfl, s3, xs, rw3, by omega, fun v => by rw [iff3]; simp⟩ (fun j σ H' hj ⟨_, _, _, q, _⟩ => SqL.of (((hps.mono (s1.trans q)) kp hkm).2.1)) ?_ ?_
      · rintro j y σ H4 hj hy2 ⟨o4, o5, rfl, s4, xs, rw4, ln4, iff4⟩
        have kp4 := (hps.mono (s1.trans s4)) kp hkm
        obtain ⟨fa, f, rfl, hf, hfa0⟩ := tri_at (hps kp hkm).2.2 hy2
        have hfa := (s1.trans s4) _ _ hfa0
        have hfm := List.mem_of_getElem? hf
        have gf := g.2.2.2.2.1 f hfm
        obtain ⟨kq1, kq2, _⟩ := id kp4
        have hlm4 := s4.seq hlm'
        rw [lts] at hj
        have next : (∀ s ∈ kp.ts, ∀ v, ¬ DD rs kp f s v) → ∀ o4 o5, ∃ o4' o5', [some (V.ref a), some (V.ref lm), some (V.ref D), some (V.ref kp.a), o4, o5] = [some (V.ref a), some (V.ref lm), some (V.ref D), some (V.ref kp.a), o4', o5'] ∧ Same H1 H4 ∧ ∃ xs, Rws H4 D xs ∧ xs.length ≤ 36 * i + 6 * (j + 1) ∧ ∀ v, v ∈ vr xs ↔ (∃ k ∈ ps.take i, InK rs k v) ∨ ∃ f ∈ kp.ts.take (j + 1), ∃ s ∈ kp.ts, DD rs kp f s v := fun no o4 o5 =>
          ⟨o4, o5, rfl, s4, xs, rw4, by omega, fun v => by
            rw [iff4, ex_take hf]
            constructor
            · rintro (h | h)
              · exact .inl h
              · exact .inr (.inl h)
            · rintro (h | h | ⟨s, hs, h⟩)
              · exact .inl h
              · exact .inr h
              · exact absurd h (no s hs v)⟩
        dsimp only [List.set]
        walk_at "rd"
        refine ⟨f.2.2, gf.2.2, rfl, ?_⟩
        walk_at "rd"
        cases hb : rdB f.2.2 with
        | false =>
          walk_at "rd"
          exact next (fun s hs v h => absurd (h.2.1.symm.trans hb) (by decide)) _ _
        | true =>
          walk_at "rd"
          refine ⟨lm, _, rfl, .inl hlm4, rfl, flat_strs _, ?_⟩
          show ∃ k, V.bl (inV _ _) = .bl k ∧ _
          rw [inV_strs]
          refine ⟨_, rfl, ?_⟩
          by_cases hin : f.2.1 ∈ rs
          · rw [decide_eq_true hin]
            walk_at "rd"
            refine Rd.foW Rd.wList (fun m σ H' => ∃ o5, σ = [some (.ref a), some (.ref lm), some (.ref D), some (.ref kp.a), some (.ref fa), o5] ∧ Same H1 H' ∧ ∃ xs, Rws H' D xs ∧ xs.length ≤ 36 * i + 6 * j + m ∧ ∀ v, v ∈ vr xs ↔ ((∃ k ∈ ps.take i, InK rs k v) ∨ ∃ f ∈ kp.ts.take j, ∃ s ∈ kp.ts, DD rs kp f s v) ∨ ∃ s ∈ kp.ts.take m, DD rs kp f s v)
              ⟨_, rfl, s4, xs, rw4, by omega, fun v => by rw [iff4]; simp⟩ (fun m σ H' hm ⟨_, _, q, _⟩ => SqL.of (((hps.mono (s1.trans q)) kp hkm).2.1)) ?_ ?_
            · rintro m y σ H5 hm hy3 ⟨o5, rfl, s5, xs, rw5, ln5, iff5⟩
              have kp5 := (hps.mono (s1.trans s5)) kp hkm
              obtain ⟨sa, s, rfl, hs, hsa⟩ := tri_at kp5.2.2 hy3
              have hsm := List.mem_of_getElem? hs
              have gs := g.2.2.2.2.1 s hsm
              obtain ⟨kr1, kr2, kr3⟩ := id kp5
              have hfa5 := (s1.trans s5) _ _ hfa0
              have hD5 := rw5.at_
              rw [lts] at hm
              have skip : (∀ v, ¬ DD rs kp f s v) → ∃ o5', [some (V.ref a), some (V.ref lm), some (V.ref D), some (V.ref kp.a), some (V.ref fa), some (V.ref sa)] = [some (V.ref a), some (V.ref lm), some (V.ref D), some (V.ref kp.a), some (V.ref fa), o5'] ∧ Same H1 H5 ∧ ∃ xs, Rws H5 D xs ∧ xs.length ≤ 36 * i + 6 * j + (m + 1) ∧ ∀ v, v ∈ vr xs ↔ ((∃ k ∈ ps.take i, InK rs k v) ∨ ∃ f ∈ kp.ts.take j, ∃ s ∈ kp.ts, DD rs kp f s v) ∨ ∃ s ∈ kp.ts.take (m + 1), DD rs kp f s v := fun no =>
                ⟨_, rfl, s5, xs, rw5, by omega, fun v => by
                  rw [iff5, ex_take hs]
                  constructor
                  · rintro (h | h)
                    · exact .inl h
                    · exact .inr (.inl h)
                  · rintro (h | h | h)
                    · exact .inl h
                    · exact .inr h
                    · exact absurd h (no v)⟩
              dsimp only [List.set]
              walk_at "rd"
              refine ⟨s.2.2, by have := gs.2.2; omega, rfl, ?_⟩
              walk_at "rd"
              cases hb2 : dvB s.2.2 with
              | false =>
                walk_at "rd"
                exact skip fun v h => absurd (h.2.2.1.symm.trans hb2) (by decide)
              | true =>
                walk_at "rd"
                refine Rd.iteN (fun c1 => ?_) (fun c1 => ?_)
                · walk_at "rd"
                  refine ⟨by show 3 ≤ sizeLine; decide, fun tp htp => ?_⟩
                  have stp := same_new (o := .tup [V.str (S kp.n), V.str (S f.1), V.str (S s.1)]) htp
                  have etp : RwAt (upd H5 tp (.tup [V.str (S kp.n), V.str (S f.1), V.str (S s.1)])) tp (kp.n, f.1, s.1) := upd_same
                  have rw6 := rw5.mono stp
                  have s6 := s5.trans stp
                  generalize upd H5 tp (.tup [V.str (S kp.n), V.str (S f.1), V.str (S s.1)]) = H6 at stp etp rw6 s6 ⊢
                  walk_at "rd"
                  refine Rd.append rw6.at_ (by rw [List.length_map]; walk_at "sz") ?_
                  walk_at "rd"
                  refine ⟨_, rfl, same_upd s6 hD, xs ++ [(tp, (kp.n, f.1, s.1))], rw6.app etp ⟨g.1, gf.1, gs.1⟩ rfl, by rw [List.length_append, List.length_singleton]; omega, fun v => ?_⟩
                  have e0 : v ∈ vr (xs ++ [(tp, (kp.n, f.1, s.1))]) ↔ v ∈ vr xs ∨ v = (kp.n, f.1, s.1) := by simp [vr]
                  rw [e0, iff5, ex_take hs]
                  constructor
                  · rintro ((h | h) | h)
                    · exact .inl h
                    · exact .inr (.inl h)
                    · exact .inr (.inr ⟨h, hb, hb2, fun e => c1 e.symm, hin⟩)
                  · rintro (h | h | h)
                    · exact .inl (.inl h)
                    · exact .inl (.inr h)
                    · exact .inr h.1
                · walk_at "rd"
                  exact skip fun v h => h.2.2.2.1 c1.symm
            · rintro σ H5 ⟨o5, rfl, s5, xs, rw5, ln5, iff5⟩
              rw [lts, List.take_length] at iff5
              rw [lts] at ln5
              walk_at "rd"
              refine ⟨_, _, rfl, s5, xs, rw5, by omega, fun v => ?_⟩
              rw [iff5, ex_take hf, or_assoc]
          · rw [decide_eq_false hin]
            walk_at "rd"
            exact next (fun s hs v h => hin h.2.2.2.2) _ _
      · rintro σ H4 ⟨o4, o5, rfl, s4, xs, rw4, ln4, iff4⟩
        rw [lts, List.take_length] at iff4
        rw [lts] at ln4
        walk_at "rd"
        refine ⟨_, _, _, rfl, s4, xs, rw4, by omega, fun v => ?_⟩
        rw [iff4, ex_take hkp]
        rfl
    · rintro σ H3 ⟨o3, o4, o5, rfl, s3, xs, rw3, ln3, iff3⟩
      rw [lP, List.take_length] at iff3
      rw [lP] at ln3
      walk_at "rd"
      refine k D xs H3 hD0 (s1.trans s3) rw3 (by omega) fun v => ?_
      rw [iff3]
      constructor
      · rintro ⟨kp, hkp, f, hf, s, hs, e, b1, b2, b3, b4⟩
        exact ⟨ntP kp, List.mem_map.mpr ⟨kp, hkp, rfl⟩, f, hf, s, hs, e, b1, b2, b3, (mem_pmgrps good).mp ((q2 _).mp b4)⟩
      · rintro ⟨z, hz, f, hf, s, hs, e, b1, b2, b3, b4⟩
        obtain ⟨kp, hkp, rfl⟩ := List.mem_map.mp hz
        exact ⟨kp, hkp, f, hf, s, hs, e, b1, b2, b3, (q2 _).mpr ((mem_pmgrps good).mpr b4)⟩

end
section
variable {P : Program} {w : World} {K : PySem.W.Frag} {mg : Str → Option Value} {base : Heap} {tk : Tok}
/-! ### imaged -/
/-- imaged: the role itself, or a new one of the class at D -/
def spSelf : Sp := fun vs H Q _ => ∃ p : Addr, vs = [.ref p] ∧ Q (.ref p) H
abbrev s_Role_imaged : Stmt := inClass (top 14) 6
theorem sc_Role_imaged : FnScope ["self"] ["self"] (defScope s_Role_imaged) := ⟨rfl, rfl, rfl, by decide +kernel, rfl, by decide +kernel, by decide +kernel⟩
abbrev MRi (K : PySem.W.Frag) := Mf K "imaged" "Role.imaged" s_Role_imaged ["self"]
theorem ok_Ri (m : MRi K) : FnOk P w K mg base CX0 1 m.f m.fd ["self"] spSelf := by
  refine m.F.ok sc_Role_imaged (fun vs H Q E h => ?_) (fun cdv A outer s H vs Q E hr h => ?_)
  · obtain ⟨p, rfl, _⟩ := h
    rfl
  · obtain ⟨p, rfl, k⟩ := h
    refine ⟨_, (pss_one (ps_ret (pv 0))), ?_⟩
    refine Rd.start_ (σ' := [some (.ref p)]) rfl ?_
    walk_at "rd"
    exact k
def spImg (K : PySem.W.Frag) (C D : Addr) : Sp := fun vs H Q _ => ∃ (p : Addr) (n g : List Nat), vs = [.ref p] ∧ Cls K C ∧ NoAttr K C "name" ∧ NoAttr K C "group" ∧ RoleAt C H p n g ∧ Nm n ∧ Nm g ∧ ∀ x H', Same H H' → RoleAt D H' x n g → Q (.ref x) H'
abbrev s_Made_imaged : Stmt := inClass (top 18) 4
theorem sc_Made_imaged : FnScope ["self"] ["self"] (defScope s_Made_imaged) := ⟨rfl, rfl, rfl, by decide +kernel, rfl, by decide +kernel, by decide +kernel⟩
abbrev s_Both_imaged : Stmt := inClass (top 19) 1
theorem sc_Both_imaged : FnScope ["self"] ["self"] (defScope s_Both_imaged) := ⟨rfl, rfl, rfl, by decide +kernel, rfl, by decide +kernel, by decide +kernel⟩
abbrev MMi (K : PySem.W.Frag) := Mf K "imaged" "Made.imaged" s_Made_imaged ["self"]
abbrev MBi (K : PySem.W.Frag) := Mf K "imaged" "Both.imaged" s_Both_imaged ["self"]
theorem ok_Mi {mk : List Nat} {C : Addr} (m : MMi K) (mI : MInit K) (cF : Rc K mg mI.f "Fresh" mk) (T : Bt mg) (dR : DReq K mg) (eN : ErN K mg) (gL : mg "LONGEST_NAME" = some (.int 8 tk)) : FnOk P w K mg base CX0 6 m.f m.fd ["self"] (spImg K C cF.C) := by
  have GI : FnOk P w K mg base (L2.CX P w) 4 mI.f mI.fd _ (spInit K eN.C) := ok_init mI T dR eN gL
  refine m.F.ok sc_Made_imaged (fun vs H Q E h => ?_) (fun cdv A outer s H vs Q E hr h => ?_)
  · obtain ⟨p, n, g, rfl, _⟩ := h
    rfl
  · obtain ⟨p, n, g, rfl, cl, nN, nG, ⟨dx, hp⟩, hn, hg, k⟩ := h
    refine ⟨_, (pss_one (ps_ret (pe_mk mI cF.M cF.g GI hr passL (pa_cons (kfld K (pv 0)) (pa_cons (kfld K (pv 0)) pa_nil))))), ?_⟩
    refine Rd.start_ (σ' := [some (.ref p)]) rfl ?_
    walk_at "rd"
    refine ⟨p, C, dx, _, _, rfl, hp, cl, nN, flds_name _ _, ?_⟩
    walk_at "rd"
    refine ⟨p, C, dx, _, _, rfl, hp, cl, nG, flds_group _ _, ?_⟩
    walk_at "rd"
    exact mk_go cF (by have := hn.2.1; omega) (by have := hg.2.1; omega) (fun _ _ x H' _ s r => k x H' s r) (fun a => absurd hn a) (fun _ a => absurd hg a)
theorem ok_Bi {mk : List Nat} {C : Addr} (m : MBi K) (mI : MInit K) (cF : Rc K mg mI.f "Renewed" mk) (T : Bt mg) (dR : DReq K mg) (eN : ErN K mg) (gL : mg "LONGEST_NAME" = some (.int 8 tk)) : FnOk P w K mg base CX0 6 m.f m.fd ["self"] (spImg K C cF.C) := by
  have GI : FnOk P w K mg base (L2.CX P w) 4 mI.f mI.fd _ (spInit K eN.C) := ok_init mI T dR eN gL
  refine m.F.ok sc_Both_imaged (fun vs H Q E h => ?_) (fun cdv A outer s H vs Q E hr h => ?_)
  · obtain ⟨p, n, g, rfl, _⟩ := h
    rfl
  · obtain ⟨p, n, g, rfl, cl, nN, nG, ⟨dx, hp⟩, hn, hg, k⟩ := h
    refine ⟨_, (pss_one (ps_ret (pe_mk mI cF.M cF.g GI hr passL (pa_cons (kfld K (pv 0)) (pa_cons (kfld K (pv 0)) pa_nil))))), ?_⟩
    refine Rd.start_ (σ' := [some (.ref p)]) rfl ?_
    walk_at "rd"
    refine ⟨p, C, dx, _, _, rfl, hp, cl, nN, flds_name _ _, ?_⟩
    walk_at "rd"
    refine ⟨p, C, dx, _, _, rfl, hp, cl, nG, flds_group _ _, ?_⟩
    walk_at "rd"
    exact mk_go cF (by have := hn.2.1; omega) (by have := hg.2.1; omega) (fun _ _ x H' _ s r => k x H' s r) (fun a => absurd hn a) (fun _ a => absurd hg a)

def imOf : Nat → Nat
  | 1 => 2
  | 3 => 4
  | n => n
def spIm (C : Nat → Addr) (m : Nat) : Sp := fun vs H Q _ => ∃ (p : Addr) (n g : List Nat), vs = [.ref p] ∧ RoleAt (C m) H p n g ∧ Nm n ∧ Nm g ∧ ∀ x H', Same H H' → RoleAt (C (imOf m)) H' x n g → Q (.ref x) H'
def TellsI (P : Program) (w : World) (K : PySem.W.Frag) (mg : Str → Option Value) (base : Heap) (C : Nat → Addr) (m : Nat) : Prop := ∃ (f : Addr) (fd : FuncData), Meth K (C m) "imaged" f ∧ Binds K fd ["self"] [] ∧ FnOk P w K mg base CX0 6 f fd ["self"] (spIm C m)
theorem im_self {C : Nat → Addr} {m k : Nat} {f : Addr} {fd : FuncData} (hk : k ≤ 6) (hm : imOf m = m) (G : FnOk P w K mg base CX0 k f fd ["self"] spSelf) : FnOk P w K mg base CX0 6 f fd ["self"] (spIm C m) :=
  (G.mono hk).imp fun vs H Q E ⟨p, n, g, hv, hr, hn, hg, q⟩ => ⟨p, hv, q p H (Same.refl H) (by rw [hm]; exact hr)⟩
theorem im_new {C : Nat → Addr} {m : Nat} {D f : Addr} {fd : FuncData} (cl : Cls K (C m)) (nN : NoAttr K (C m) "name") (nG : NoAttr K (C m) "group") (hm : C (imOf m) = D) (G : FnOk P w K mg base CX0 6 f fd ["self"] (spImg K (C m) D)) : FnOk P w K mg base CX0 6 f fd ["self"] (spIm C m) :=
  G.imp fun vs H Q E ⟨p, n, g, hv, hr, hn, hg, q⟩ => ⟨p, n, g, hv, cl, nN, nG, hr, hn, hg, fun x H' s r => q x H' s (by rw [hm]; exact r)⟩

end
section
variable {P : Program} {w : World} {K : PySem.W.Frag} {mg : Str → Option Value} {base : Heap} {tk : Tok}
/-! ### slots -/
abbrev Sl := List Nat × List Nat
abbrev Sr := Addr × Sl
abbrev slv (q : Sl) : List V := [.str (S q.1), .str (S q.2)]
def SlAt (H : Hp) (a : Addr) (q : Sl) : Prop := H a = some (.tup (slv q))
abbrev srefs (xs : List Sr) : List V := xs.map fun x => V.ref x.1
abbrev sv (xs : List Sr) : List Sl := xs.map (·.2)
def slOk (q : Sl) : Prop := Nm q.1 ∧ Nm q.2
/-- slots that stand in a list at l -/
structure Sls (H : Hp) (l : Addr) (xs : List Sr) : Prop where
  at_ : H l = some (.lst (srefs xs))
  ok : ∀ x ∈ xs, SlAt H x.1 x.2
  nm : ∀ x ∈ xs, slOk x.2
theorem Sls.mono {H H' : Hp} {l : Addr} {xs : List Sr} (h : Sls H l xs) (e : Same H H') : Sls H' l xs := ⟨e _ _ h.at_, fun x hx => e _ _ (h.ok x hx), h.nm⟩
theorem sref_at {xs : List Sr} {i : Nat} {v : V} (h : (srefs xs)[i]? = some v) : ∃ q, xs[i]? = some q ∧ v = .ref q.1 := by
  rw [List.getElem?_map] at h
  obtain ⟨r, h1, h2⟩ := Option.map_eq_some_iff.mp h
  exact ⟨r, h1, h2.symm⟩
theorem srefs_one (xs : List Sr) (a : Addr) (q : Sl) : srefs xs ++ [V.ref a] = srefs (xs ++ [(a, q)]) := by
  unfold srefs
  rw [List.map_append]; rfl
def sdat (q : Sl) : PyData := .tuple [.str (S q.1), .str (S q.2)]
theorem SlAt.dp {H : Hp} {a : Addr} {q : Sl} (h : SlAt H a q) : Dp K H (.ref a) (sdat q) := .tup (SqT.of h) (.cons (.str _) (.cons (.str _) .nil))
theorem sdat_can {q : Sl} (h : slOk q) : PyData.canLay0 (sdat q) = true := by
  show (PyData.canLay0 (.str (S q.1)) && (PyData.canLay0 (.str (S q.2)) && true)) = true
  rw [can_str h.1, can_str h.2]; rfl
theorem sdat_sh {q : Sl} (h : slOk q) : SeqAt.shaped (sdat q) = true := by
  show (PyData.canLay0 (sdat q) && decide (PyData.depth (sdat q) ≤ 64)) = true
  rw [sdat_can h]; rfl
theorem sdat_eqv {a b : Sl} (h : slOk a) : PyData.eqv (sdat a) (sdat b) = decide (a = b) := by
  by_cases e : a = b
  · subst e
    rw [decide_eq_true rfl]
    exact SeqAt.eqv_refl _ (sdat_can h)
  · rw [decide_eq_false e]
    refine Bool.eq_false_iff.mpr fun z => e ?_
    obtain ⟨a1, a2⟩ := a
    obtain ⟨b1, b2⟩ := b
    simp only [sdat, PyData.eqv, PyData.eqvAll, Bool.and_eq_true, Bool.and_true, beq_iff_eq] at z
    rw [SX.S_inj z.1, SX.S_inj z.2]
theorem ss_can : ∀ {xs : List Sr}, (∀ x ∈ xs, slOk x.2) → PyData.canLayAll0 (xs.map fun x => sdat x.2) = true
  | [], _ => rfl
  | x :: xs, h => by
    show (PyData.canLay0 (sdat x.2) && PyData.canLayAll0 (xs.map fun x => sdat x.2)) = true
    rw [sdat_can (h x List.mem_cons_self), ss_can fun y hy => h y (List.mem_cons_of_mem _ hy)]; rfl
theorem ss_depth : ∀ xs : List Sr, PyData.depthAll (xs.map fun x => sdat x.2) ≤ 1
  | [] => Nat.zero_le _
  | x :: xs => by
    show max (PyData.depth (sdat x.2)) (PyData.depthAll (xs.map fun x => sdat x.2)) ≤ 1
    exact Nat.max_le.mpr ⟨by show (1 : Nat) ≤ 1; decide, ss_depth xs⟩
theorem ss_sh {xs : List Sr} (h : ∀ x ∈ xs, slOk x.2) : SeqAt.shaped (.list (xs.map fun x => sdat x.2)) = true := by
  show (PyData.canLayAll0 (xs.map fun x => sdat x.2) && decide (PyData.depthAll (xs.map fun x => sdat x.2) + 1 ≤ 64)) = true
  have := ss_depth xs
  rw [ss_can h, Bool.true_and]
  exact decide_eq_true (by omega)
theorem ss_dp {H : Hp} : ∀ {xs : List Sr}, (∀ x ∈ xs, SlAt H x.1 x.2) → DpAll K H (srefs xs) (xs.map fun x => sdat x.2)
  | [], _ => .nil
  | x :: xs, h => .cons (h x List.mem_cons_self).dp (ss_dp fun y hy => h y (List.mem_cons_of_mem _ hy))
theorem ss_any {xs : List Sr} {f : Sl} (h : ∀ x ∈ xs, slOk x.2) : ((xs.map fun x => sdat x.2).any fun z => PyData.eqv z (sdat f)) = decide (f ∈ sv xs) := by
  induction xs with
  | nil => rfl
  | cons x xs ih =>
    rw [List.map_cons, List.any_cons, ih fun y hy => h y (List.mem_cons_of_mem _ hy), sdat_eqv (h x List.mem_cons_self)]
    unfold sv
    rw [List.map_cons]
    by_cases h1 : x.2 = f
    · subst h1; simp
    · have h2 : ¬ f = x.2 := fun e => h1 e.symm
      simp [h1, h2]
theorem in_sl {H : Hp} {t l : Addr} {q : Sl} {xs : List Sr} {Q : VK} (ht : SlAt H t q) (hq : slOk q) (h : Sls H l xs) (k : Q (.bl (decide (q ∈ sv xs))) H) : rInX K (.ref t) (.ref l) H Q :=
  Rd.inX (b := false) ht.dp (SqL.of h.at_) (ss_dp h.ok) (sdat_sh hq) (ss_sh h.nm) (by rw [ss_any h.nm]; exact k)
theorem nin_sl {H : Hp} {t l : Addr} {q : Sl} {xs : List Sr} {Q : VK} (ht : SlAt H t q) (hq : slOk q) (h : Sls H l xs) (k : Q (.bl (!decide (q ∈ sv xs))) H) : rNotInD K (.ref t) (.ref l) H Q :=
  ⟨sdat q, _, ht.dp, .lst (SqL.of h.at_) (ss_dp h.ok), sdat_sh hq, ss_sh h.nm, by rw [ss_any h.nm]; exact k⟩
theorem Sls.app {H H' : Hp} {l : Addr} {xs : List Sr} {a : Addr} {r : Sl} (h : Sls H l xs) (k : SlAt H a r) (nm : slOk r) (e : H' = upd H l (.lst (srefs xs ++ [.ref a]))) : Sls H' l (xs ++ [(a, r)]) := by
  subst e
  have nl : ∀ (b : Addr) (q : Sl), SlAt H b q → b ≠ l := fun b q hb z => by
    unfold SlAt at hb
    rw [z, h.at_] at hb; cases hb
  refine ⟨by rw [upd_same, srefs_one], fun x hx => ?_, fun x hx => ?_⟩
  · rcases List.mem_append.mp hx with z | z
    · unfold SlAt
      rw [upd_ne (nl _ _ (h.ok x z))]; exact h.ok x z
    · rw [List.mem_singleton.mp z]
      unfold SlAt
      rw [upd_ne (nl _ _ k)]; exact k
  · rcases List.mem_append.mp hx with z | z
    · exact h.nm x z
    · rw [List.mem_singleton.mp z]; exact nm
/-! ### a catalog's slots, asked for -/
abbrev s_BadSlot___init : Stmt := inClass (top 8) 0
theorem sc_BadSlot___init : FnScope ["self", "row"] ["self", "row"] (defScope s_BadSlot___init) := ⟨rfl, rfl, rfl, by decide +kernel, rfl, by decide +kernel, by decide +kernel⟩
abbrev ErL (K : PySem.W.Frag) (mg : Str → Option Value) := Er K mg "BadSlot" "BadSlot.__init__" "row" s_BadSlot___init
theorem ok_bsi (r : ErL K mg) : FnOk P w K mg base CX0 1 r.f r.fd ["self", "row"] (spErI r.C "row") := by
  refine r.F.ok sc_BadSlot___init (fun vs H Q E h => ?_) (fun cdv A outer s H vs Q E hr h => ?_)
  · obtain ⟨a, v, rfl, _⟩ := h
    rfl
  · obtain ⟨a, v, rfl, ha, k⟩ := h
    refine ⟨_, (pss_one (kost K (pv 0) (pv 1))), ?_⟩
    refine Rd.start_ (σ' := [some (.ref a), some v]) rfl ?_
    walk_at "rd"
    exact ⟨a, r.C, rfl, r.T, r.no, .inl ⟨ha, k⟩⟩
def IsSl (zs : List NT) (q : Sl) : Prop := ∃ z ∈ zs, ∃ r ∈ z.2, q = (z.1, r.1) ∧ dvB r.2.2 = true
def kdSl (k : Kd) (i : Nat) : List Sl := ((k.rs.take i).filter fun r => dvB r.m).map fun r => (k.n, r.n)
def spRSlots (CC D : Addr) (C : Nat → Addr) : Sp := fun vs H Q _ => ∃ (p t l : Addr) (ks : List Kd) (xs : List Sr), vs = [.ref p, .ref l] ∧ CatAt CC H p t ks ∧ KdsOk D C H ks ∧ KsGood ks ∧ Sls H l xs ∧ xs.length ≤ 100 ∧ (∀ x ∈ xs, IsSl (ks.map ntOf) x.2) ∧ ∀ H', Same H H' → Q .non H'
abbrev s_require_slots : Stmt := top 29
theorem sc_require_slots : FnScope ["catalog", "slots", "known", "row", "kind", "role"] ["catalog", "slots"] (defScope s_require_slots) := ⟨rfl, rfl, rfl, by decide +kernel, rfl, by decide +kernel, by decide +kernel⟩
abbrev DRs (K : PySem.W.Frag) (mg : Str → Option Value) := Df K mg "require_slots" "require_slots" s_require_slots ["catalog", "slots"]
theorem ok_rslots {mI mK mC : Addr} (d : DRs K mg) (T : Bt mg) (c : Six K mg mI) (kc : Kc K mg mK) (cc : Cc K mg mC) (eL : ErL K mg) (mIt : MCit K) (hI1 : PySem.W.findIn K (.ref cc.C) "__iter__" = some (some (.ref mIt.f))) (hI2 : PySem.W.isFn K (.ref mIt.f) = true) (hIt : mg "iter" = none)
    (t3 : ∀ m, m < 5 → Tells P w K mg base (c.C m) "derived" (.bl (dvB m))) : FnOk P w K mg base (L2.CX P w) 3 d.f d.fd ["catalog", "slots"] (spRSlots cc.C kc.C c.C) := by
  have GIt : FnY P w K mg base 1 mIt.f mIt.fd _ (spIterT (KindsAt K cc.C)) := ok_citer mIt cc hIt
  have GSl : FnOk P w K mg base CX0 1 eL.f eL.fd _ (spErI eL.C "row") := ok_bsi eL
  refine d.F.okX sc_require_slots (fun vs H Q E h => ?_) (fun cdv A outer s H vs Q E hr h => ?_)
  · obtain ⟨p, t, l, ks, xs, rfl, _⟩ := h
    rfl
  · obtain ⟨p, t, l, ks, xs, rfl, hc, hks, hg, hx, lx, inz, k⟩ := h
    have hu := hr.units
    have hu2 := u65 hr
    have hr1 : Room 1 _ := hr.mono (by decide)
    have lk : (krefs ks).length = ks.length := List.length_map ..
    have hf4 := hg.few
    obtain ⟨⟨dx, hp⟩, ht⟩ := id hc
    refine ⟨_, (pss_cons (ps_setLc2 (i := 2) (own := [("kind", 4), ("role", 5)]) (vs1 := [5]) (g := gName 4) (g1 := gName 5) (tt := tYes) rfl sc_require_slots.nd rfl rfl (sw_true rfl rfl rfl (by decide +kernel)) (kown K (pv 0) hI1 hI2 GIt mIt.b hr1) (blkOk_by (N := ["catalog", "slots", "known", "row", "kind", "role"]) (sc := defScope s_require_slots) (by decide +kernel)) (by decide) (fun _ _ _ _ _ => (pg_name (i := 4) sc_require_slots.nd rfl (Or.inl rfl))) (fun _ _ _ _ _ => pts_nil) (fun _ _ _ _ _ => (kpt K (kfld K (pv 4)))) (fun _ _ _ _ _ => (pg_name (i := 5) sc_require_slots.nd rfl (Or.inl rfl))) (fun _ _ _ _ _ => (pts_one (pt_val (pe_altN (n := 5) (t := fun m => tMeth (c.C m) "derived" (spTells (.bl (dvB m))) [] E0 (tVar 5) tNil) fun m hm => by obtain ⟨_, _, _, dd, mm, GG⟩ := t3 m hm; exact pe_m0g (pv 5) (c.cl m) mm GG hr1 pass0 dd.b)))) (fun _ _ _ _ _ => (pe_tup (pa_cons (kfld K (pv 4)) (pa_cons (kfld K (pv 5)) pa_nil)))))
  (pss_one (ps_for (passes_of rfl) rfl (kpl K (pv 1)) (pg_name (i := 3) sc_require_slots.nd rfl (Or.inl rfl))
  (pss_one (ps_if (pt_cmpR (kninD K hu hu2) (pv 3) (pv 2) rfl) (pss_one (ps_raise rfl (takes_of rfl rfl rfl rfl) (pmk_er eL GSl hr (pa_cons (pv 3) pa_nil))))
  pss_nil))))), ?_⟩
    refine Rd.start_ (σ' := [some (.ref p), some (.ref l), none, none, none, none]) rfl ?_
    walk_at "rd"
    refine Rd.lc2O ?_
    walk_at "rd"
    refine ⟨p, dx, _, t, rfl, hp, ⟨dx, _, hp, ht⟩, ?_⟩
    refine Rd.lc2G (ι := Kd) (M := 6) Rd.wTup (fun e => Itt K e.t) (fun e => e.rs.length) (fun e H' => SqT K H' e.t (refs e.rs)) (fun e j y => (refs e.rs)[j]? = some y) (fun e => by have w := Rd.wTup (K := K) (a := e.t) (xs := refs e.rs); rw [List.length_map] at w; exact w) (by rw [lk]; walk_at "sz")
      (fun i acc H' => Same H H' ∧ ∃ ys : List Sr, acc = srefs ys ∧ (∀ y ∈ ys, SlAt H' y.1 y.2) ∧ sv ys = (ks.take i).flatMap fun k => kdSl k k.rs.length)
      (fun D i e σ2 j acc H' => Same H H' ∧ σ2 = [some (.ref p), some (.ref l), none, none, some (.ref e.a), none] ∧ ks[i]? = some e ∧ ∃ ys : List Sr, acc = srefs ys ∧ (∀ y ∈ ys, SlAt H' y.1 y.2) ∧ sv ys = ((ks.take i).flatMap fun k => kdSl k k.rs.length) ++ kdSl e j)
      ⟨Same.refl _, [], rfl, fun q hq => absurd hq List.not_mem_nil, rfl⟩ ?_ ?_ (fun i acc H' hi j => SqT.of (j.1 _ _ ht)) (fun D i e σ2 j acc H' hi hj q => SqT.of (q.1 _ _ (hks e (List.mem_of_getElem? q.2.2.1)).2.1)) ?_ ?_ ?_ ?_
    · rintro D hD i acc zs H' hl ⟨q1, ys, q2, q3, q4⟩
      refine ⟨same_upd q1 hD, ys, q2, fun y hy => ?_, q4⟩
      have h1 := q3 y hy
      unfold SlAt at h1 ⊢
      rw [upd_ne fun e => ?_]
      · exact h1
      · rw [e] at h1
        obtain ⟨_, e2⟩ := hl _ h1
        cases e2
    · rintro D hD i e σ2 j acc zs H' hl ⟨q1, q2, q3, ys, q7, q8, q9⟩
      refine ⟨same_upd q1 hD, q2, q3, ys, q7, fun y hy => ?_, q9⟩
      have h1 := q8 y hy
      unfold SlAt at h1 ⊢
      rw [upd_ne fun e => ?_]
      · exact h1
      · rw [e] at h1
        obtain ⟨_, e2⟩ := hl _ h1
        cases e2
    · rintro D hD i x acc H' hi hx hacc ⟨q1, ys, rfl, q3, q4⟩ R hR
      obtain ⟨kd, hkd, rfl⟩ := kref_at hx
      have hkm := List.mem_of_getElem? hkd
      obtain ⟨⟨dk, hka⟩, hkt, hro⟩ := hks.mono q1 kd hkm
      have h6 := hg.six kd hkm
      refine ⟨rfl, ?_⟩
      dsimp only [wipe, List.set, List.map]
      unfold iTup
      walk_at "rd"
      refine ⟨kd.a, _, dk, _, _, rfl, hka, kc.cl, kc.nR, kflds_roles _ _, kd.t, rfl, ⟨_, SqT.of hkt⟩, hR kd _ H' h6 hacc ⟨q1, rfl, hkd, ys, rfl, q3, ?_⟩⟩
      rw [q4]
      show _ = _ ++ List.map _ (List.filter _ (List.take 0 _))
      rw [List.take_zero, List.filter_nil, List.map_nil, List.append_nil]
    · rintro D i kd σ2 acc H' hi ⟨q1, _, q3, ys, q7, q8, q9⟩
      refine ⟨q1, ys, q7, q8, ?_⟩
      rw [q9, List.take_add_one, q3, List.flatMap_append]
      show _ = _ ++ (kdSl kd kd.rs.length ++ [])
      rw [List.append_nil]
    · rintro D hD i kd σ2 j y acc H' hi hj hy hacc ⟨q1, rfl, q3, ys, rfl, q8, q9⟩ Kt Kf hT hF
      have hkm := List.mem_of_getElem? q3
      obtain ⟨r, hr', rfl⟩ := ref_at hy
      obtain ⟨⟨dk, hka⟩, _, hro⟩ := hks.mono q1 kd hkm
      obtain ⟨rm, dr, hat⟩ := hro r (List.mem_of_getElem? hr')
      have e1 : kdSl kd (j + 1) = kdSl kd j ++ (if dvB r.m then [(kd.n, r.n)] else []) := by
        unfold kdSl
        rw [filt_take (p := fun r : Ro => dvB r.m) hr', List.map_append]
        congr 1
        cases dvB r.m <;> rfl
      refine ⟨rfl, ?_⟩
      dsimp only [wipe, List.set]
      walk_at "rd"
      refine Rd.alt rm ?_
      walk_at "rd"
      refine ⟨r.a, dr, _, rfl, hat, flds_no _ _ (by decide +kernel) (by decide +kernel), ?_⟩
      walk_at "rd"
      refine ⟨r.a, rfl, ?_⟩
      walk_at "rd"
      cases hb : dvB r.m with
      | true =>
        rw [hb, if_pos rfl] at e1
        walk_at "rd"
        refine ⟨kd.a, _, dk, _, _, rfl, hka, kc.cl, kc.nN, kflds_name _ _, ?_⟩
        walk_at "rd"
        refine ⟨r.a, _, dr, _, _, rfl, hat, c.cl r.m, c.nN r.m, flds_name _ _, ?_⟩
        walk_at "rd"
        refine ⟨by show 2 ≤ sizeLine; decide, fun tp htp => ?_⟩
        have stp := same_new (o := .tup [V.str (S kd.n), V.str (S r.n)]) htp
        have etp : SlAt (upd H' tp (.tup [V.str (S kd.n), V.str (S r.n)])) tp (kd.n, r.n) := upd_same
        generalize upd H' tp (.tup [V.str (S kd.n), V.str (S r.n)]) = H5 at stp etp ⊢
        refine hT _ _ (stp _ _ hacc) ⟨q1.trans stp, rfl, q3, ys ++ [(tp, (kd.n, r.n))], srefs_one _ _ _, fun y hy => ?_, ?_⟩
        · rcases List.mem_append.mp hy with z | z
          · exact stp _ _ (q8 y z)
          · rw [List.mem_singleton.mp z]; exact etp
        · show List.map _ (ys ++ [_]) = _
          rw [List.map_append, show ys.map (·.2) = _ from q9, e1, List.append_assoc]
          rfl
      | false =>
        rw [hb, if_neg Bool.false_ne_true, List.append_nil] at e1
        walk_at "rd"
        refine hF _ hacc ⟨q1, rfl, q3, ys, rfl, q8, ?_⟩
        rw [q9, e1]
    · rintro D acc H2 hD hacc hlen ⟨s2, ys, rfl, ok, ev⟩
      rw [lk, List.take_length] at ev
      have kn : Sls H2 D ys := by
        refine ⟨hacc, ok, fun y hy => ?_⟩
        have h1 : y.2 ∈ ks.flatMap fun k => kdSl k k.rs.length := by rw [← ev]; exact List.mem_map.mpr ⟨y, hy, rfl⟩
        obtain ⟨kd, hkd, h2⟩ := List.mem_flatMap.mp h1
        unfold kdSl at h2
        rw [List.take_length] at h2
        obtain ⟨r, hr', e⟩ := List.mem_map.mp h2
        have nk := hg.nm kd hkd
        rw [← e]
        exact ⟨nk.1, (nk.2 r (List.mem_filter.mp hr').1).1⟩
      have all : ∀ x ∈ xs, x.2 ∈ sv ys := fun x hxm => by
        obtain ⟨z, hz, r, hr', e, b⟩ := inz x hxm
        obtain ⟨kd, hkd, rfl⟩ := List.mem_map.mp hz
        obtain ⟨r, hr2, rfl⟩ := List.mem_map.mp hr'
        rw [ev]
        refine List.mem_flatMap.mpr ⟨kd, hkd, ?_⟩
        unfold kdSl
        rw [List.take_length, e]
        exact List.mem_map.mpr ⟨r, List.mem_filter.mpr ⟨hr2, b⟩, rfl⟩
      have lxs : (srefs xs).length = xs.length := List.length_map ..
      walk_at "rd"
      refine Rd.exlist (SqL.of (s2 _ _ hx.at_)) ?_
      refine Rd.foW Rd.wList (fun i σ H' => ∃ o, σ = [some (.ref p), some (.ref l), some (.ref D), o, none, none] ∧ H' = H2) ⟨_, rfl, rfl⟩ (fun i σ H' hi ⟨_, _, e⟩ => by rw [e]; exact SqL.of (s2 _ _ hx.at_)) ?_ ?_
      · rintro i y σ H' hi hy ⟨o, rfl, rfl⟩
        obtain ⟨x, hxi, rfl⟩ := sref_at hy
        have hxm := List.mem_of_getElem? hxi
        dsimp only [List.set]
        walk_at "rd"
        refine nin_sl (s2 _ _ (hx.ok x hxm)) (hx.nm x hxm) kn ?_
        rw [decide_eq_true (all x hxm)]
        walk_at "rd"
        exact ⟨_, rfl, rfl⟩
      · rintro σ H' ⟨o, rfl, rfl⟩
        walk_at "rd"
        exact k _ s2

end
section
variable {P : Program} {w : World} {K : PySem.W.Frag} {mg : Str → Option Value} {base : Heap} {tk : Tok}
/-! ### a catalog with images -/
def imgT (sl : List Sl) (n : List Nat) (r : Tri) : Tri := (r.1, r.2.1, if (n, r.1) ∈ sl then imOf r.2.2 else r.2.2)
def imgZ (sl : List Sl) (z : NT) : NT := (z.1, z.2.map (imgT sl z.1))
theorem im_lt {m : Nat} (h : m < 5) : imOf m < 5 := by
  have h' : m = 0 ∨ m = 1 ∨ m = 2 ∨ m = 3 ∨ m = 4 := by omega
  rcases h' with rfl | rfl | rfl | rfl | rfl <;> decide
theorem im_mk {m : Nat} (h : m < 5) : mkB (imOf m) = mkB m := by
  have h' : m = 0 ∨ m = 1 ∨ m = 2 ∨ m = 3 ∨ m = 4 := by omega
  rcases h' with rfl | rfl | rfl | rfl | rfl <;> decide
theorem im_rd {m : Nat} (h : m < 5) : rdB (imOf m) = rdB m := by
  have h' : m = 0 ∨ m = 1 ∨ m = 2 ∨ m = 3 ∨ m = 4 := by omega
  rcases h' with rfl | rfl | rfl | rfl | rfl <;> decide
theorem im_dv {m : Nat} (h : m < 5) : dvB (imOf m) = false := by
  have h' : m = 0 ∨ m = 1 ∨ m = 2 ∨ m = 3 ∨ m = 4 := by omega
  rcases h' with rfl | rfl | rfl | rfl | rfl <;> decide
theorem imgT_lt {sl : List Sl} {n : List Nat} {r : Tri} (h : r.2.2 < 5) : (imgT sl n r).2.2 < 5 := by
  unfold imgT
  dsimp only
  split
  · exact im_lt h
  · exact h
theorem imgT_mk {sl : List Sl} {n : List Nat} {r : Tri} (h : r.2.2 < 5) : mkB (imgT sl n r).2.2 = mkB r.2.2 := by
  unfold imgT
  dsimp only
  split
  · exact im_mk h
  · rfl
theorem trs_kind {rs rs' : List Ro} {sl : List Sl} {n : List Nat} (e : trs rs' = (trs rs).map (imgT sl n)) (m5 : ∀ r ∈ rs, r.m < 5) (g : KindOk rs) : KindOk rs' := by
  obtain ⟨h1, h2, h3, r, hr, h4⟩ := g
  have el := congrArg List.length e
  unfold trs at el
  rw [List.length_map, List.length_map, List.length_map] at el
  have en : rs'.map (·.n) = rs.map (·.n) := by
    have := congrArg (List.map (fun t : Tri => t.1)) e
    unfold trs at this
    rw [List.map_map, List.map_map, List.map_map] at this
    exact this
  refine ⟨by omega, by omega, by rw [en]; exact h3, ?_⟩
  have hm : imgT sl n (r.n, r.g, r.m) ∈ trs rs' := by
    rw [e]
    exact List.mem_map.mpr ⟨_, List.mem_map.mpr ⟨r, hr, rfl⟩, rfl⟩
  obtain ⟨r', hr', e2⟩ := List.mem_map.mp hm
  refine ⟨r', hr', ?_⟩
  have e3 : r'.m = (imgT sl n (r.n, r.g, r.m)).2.2 := congrArg (fun t : Tri => t.2.2) e2
  rw [e3, imgT_mk (m5 r hr)]
  exact h4
def spWith (CC D : Addr) (C : Nat → Addr) : Sp := fun vs H Q _ => ∃ (p t l : Addr) (ks : List Kd) (xs : List Sr), vs = [.ref p, .ref l] ∧ CatAt CC H p t ks ∧ KdsOk D C H ks ∧ KsGood ks ∧ (∀ k ∈ ks, KindOk k.rs) ∧ Sls H l xs ∧ xs.length ≤ 100 ∧ (∀ x ∈ xs, IsSl (ks.map ntOf) x.2) ∧
  ∀ p' t' ks' H', H p' = none → Same H H' → CatAt CC H' p' t' ks' → KdsOk D C H' ks' → ks'.map ntOf = (ks.map ntOf).map (imgZ (sv xs)) → Q (.ref p') H'
abbrev s_with_images : Stmt := top 30
theorem sc_with_images : FnScope ["catalog", "slots", "kinds", "kind", "roles", "role"] ["catalog", "slots"] (defScope s_with_images) := ⟨rfl, rfl, rfl, by decide +kernel, rfl, by decide +kernel, by decide +kernel⟩
abbrev DWi (K : PySem.W.Frag) (mg : Str → Option Value) := Df K mg "with_images" "with_images" s_with_images ["catalog", "slots"]
theorem ok_with {mI : Addr} {eN eK : Addr} (d : DWi K mg) (T : Bt mg) (c : Six K mg mI) (mK : MKi K) (kc : Kc K mg mK.f) (mC : MCin K) (cc : Cc K mg mC.f) (mIt : MCit K) (hI1 : PySem.W.findIn K (.ref cc.C) "__iter__" = some (some (.ref mIt.f))) (hI2 : PySem.W.isFn K (.ref mIt.f) = true) (hIt : mg "iter" = none)
    (ti : ∀ m, m < 5 → TellsI P w K mg base c.C m) (dRs : DRs K mg) (GRs : FnOk P w K mg base (L2.CX P w) 3 dRs.f dRs.fd ["catalog", "slots"] (spRSlots cc.C kc.C c.C)) (GK : FnOk P w K mg base (L2.CX P w) 4 mK.f mK.fd ["self", "name", "roles"] (spKInit K c.C eN eK))
    (GC : FnOk P w K mg base (L2.CX P w) 3 mC.f mC.fd ["self", "kinds"] (spCInit cc.C kc.C c.C eK)) : FnOk P w K mg base CX0 7 d.f d.fd ["catalog", "slots"] (spWith cc.C kc.C c.C) := by
  have GIt : FnY P w K mg base 1 mIt.f mIt.fd _ (spIterT (KindsAt K cc.C)) := ok_citer mIt cc hIt
  refine d.F.ok sc_with_images (fun vs H Q E h => ?_) (fun cdv A outer s H vs Q E hr h => ?_)
  · obtain ⟨p, t, l, ks, xs, rfl, _⟩ := h
    rfl
  · obtain ⟨p, t, l, ks, xs, rfl, hc, hks, hg, hko, hx, lx, inz, k⟩ := h
    have hu := hr.units
    have hu2 := u65 hr
    have hr6 : Room 6 _ := hr.mono (by decide)
    have hr5 : Room 5 _ := hr.mono (by decide)
    have hr4 : Room 4 _ := hr.mono (by decide)
    have hr3 : Room 3 _ := hr.mono (by decide)
    have hr1 : Room 1 _ := hr.mono (by decide)
    have lk : (krefs ks).length = ks.length := List.length_map ..
    have hf4 := hg.few
    refine ⟨_, (pss_cons (ps_expr (pe_cf dRs GRs hr3 passL (pa_cons (pv 0) (pa_cons (pv 1) pa_nil))))
  (pss_cons (ps_set (i := 2) sc_with_images.nd rfl (Or.inl rfl) (pe_lst pa_nil))
  (pss_cons (ps_for PassesOwn.never rfl (kown K (pv 0) hI1 hI2 GIt mIt.b hr1) (pg_name (i := 3) sc_with_images.nd rfl (Or.inr rfl))
  (pss_cons (ps_setLc (i := 4) (own := [("role", 5)]) (g := gName 5) (tt := tYes) rfl sc_with_images.nd rfl rfl (sw_true rfl rfl rfl (by decide +kernel)) (kpt K (kfld K (pv 3))) (blkOk_by (N := ["catalog", "slots", "kinds", "kind", "roles", "role"]) (sc := defScope s_with_images) (by decide +kernel)) (fun _ _ _ _ _ => (pg_name (i := 5) sc_with_images.nd rfl (Or.inl rfl))) (fun _ _ _ _ _ => pts_nil) (fun _ _ _ _ _ => (pe_ifExp (pt_cmpR (kinX K hu2) (pe_tup (pa_cons (kfld K (pv 3)) (pa_cons (kfld K (pv 5)) pa_nil))) (pv 1) rfl) (pe_altN (n := 5) (t := fun m => tMeth (c.C m) "imaged" (spIm c.C m) [] E0 (tVar 5) tNil) fun m hm => by obtain ⟨fi, fdi, hM, hB, hG⟩ := ti m hm; exact pe_m0g (pv 5) (c.cl m) hM hG hr6 pass0 hB) (pv 5))))
  (pss_one (ps_expr (kapp K (pv 2) (pa_cons (pe_mk mK kc.M kc.g GK hr5 passL (pa_cons (kfld K (pv 3)) (pa_cons (pv 4) pa_nil))) pa_nil))))))
  (pss_one (ps_ret (pe_mk mC cc.M cc.g GC hr4 passL (pa_cons (pv 2) pa_nil))))))), ?_⟩
    refine Rd.start_ (σ' := [some (.ref p), some (.ref l), none, none, none, none]) rfl ?_
    walk_at "rd"
    refine ⟨p, t, l, ks, xs, rfl, hc, hks, hg, hx, lx, inz, fun H1 s1 => ?_⟩
    walk_at "rd"
    refine ⟨by show 0 ≤ sizeLine; decide, fun D hD => ?_⟩
    have s2 := same_new (o := .lst []) hD
    have hDl : upd H1 D (.lst []) D = some (.lst []) := upd_same
    generalize upd H1 D (.lst []) = H2 at s2 hDl ⊢
    have s12 := s1.trans s2
    have hD0 : H D = none := none_same s1 hD
    obtain ⟨⟨dx, hp⟩, ht⟩ := id (hc.mono s12)
    walk_at "rd"
    refine Rd.foO ?_
    walk_at "rd"
    refine ⟨p, dx, _, t, rfl, hp, ⟨dx, _, hp, ht⟩, ?_⟩
    obtain ⟨_, ht0⟩ := id hc
    refine Rd.foW Rd.wTup (fun i σ H' => ∃ o3 o4, σ = [some (.ref p), some (.ref l), some (.ref D), o3, o4, none] ∧ Same H H' ∧ ∃ ks' : List Kd, H' D = some (.lst (krefs ks')) ∧ KdsOk kc.C c.C H' ks' ∧ ks'.map ntOf = ((ks.take i).map ntOf).map (imgZ (sv xs)))
      ⟨_, _, rfl, s12, [], hDl, fun k hk => absurd hk List.not_mem_nil, rfl⟩ (fun i σ H' hi ⟨_, _, _, q, _⟩ => SqT.of (q _ _ ht0)) ?_ ?_
    · rintro i y σ H3 hi hy ⟨o3, o4, rfl, s3, ks', hD3, kok3, nt3⟩
      obtain ⟨kd, hkd, rfl⟩ := kref_at hy
      have hkm := List.mem_of_getElem? hkd
      have hkd0 := hks kd hkm
      obtain ⟨⟨dk, hka⟩, hkt, hro⟩ := hks.mono s3 kd hkm
      have h6 := hg.six kd hkm
      have nk := hg.nm kd hkm
      have lks' : ks'.length ≤ 4 := by
        have e := congrArg List.length nt3
        rw [List.length_map, List.length_map, List.length_map, List.length_take] at e
        omega
      have lrs : (refs kd.rs).length = kd.rs.length := List.length_map ..
      dsimp only [List.set]
      walk_at "rd"
      refine ⟨kd.a, kc.C, dk, _, _, rfl, hka, kc.cl, kc.nR, kflds_roles _ _, ?_⟩
      refine Rd.extup (SqT.of hkt) ?_
      refine Rd.lcZ Rd.wTup (by rw [lrs]; walk_at "sz") (fun D2 j acc H' => Same H3 H' ∧ ∃ rs, acc = refs rs ∧ trs rs = (trs (kd.rs.take j)).map (imgT (sv xs) kd.n) ∧ RosOk c.C H' rs) (fun D2 hD2 => ⟨same_new hD2, [], rfl, rfl, fun r hr => absurd hr List.not_mem_nil⟩) (fun D2 j acc H' hi q => SqT.of (q.1 _ _ hkt)) ?_ ?_
      · rintro D2 hD2 j x acc H' hj hx2 hacc hlen2 ⟨j1, rs, rfl, j3, j4⟩ Kt Kf hT' hF
        dsimp only [List.set]
        obtain ⟨r, hr', rfl⟩ := ref_at hx2
        have hrm := List.mem_of_getElem? hr'
        have nr := nk.2 r hrm
        obtain ⟨rm, dr, hat⟩ := hro.mono j1 r hrm
        have hka2 := j1 _ _ hka
        have tk : (trs (kd.rs.take (j + 1))).map (imgT (sv xs) kd.n) = (trs (kd.rs.take j)).map (imgT (sv xs) kd.n) ++ [imgT (sv xs) kd.n (r.n, r.g, r.m)] := by
          rw [List.take_add_one, hr']
          unfold trs
          rw [List.map_append, List.map_append]; rfl
        have hs := hx.mono (s3.trans j1)
        have go : ∀ (x : Addr) (H5 : Hp), Same H' H5 → RoleAt (c.C (imgT (sv xs) kd.n (r.n, r.g, r.m)).2.2) H5 x r.n r.g → Kt (.ref x) H5 := fun x H5 s5 ra => by
          have hacc5 := s5 _ _ hacc
          refine hT' _ _ hacc5 ⟨same_upd (j1.trans s5) hD2, rs ++ [⟨x, r.n, r.g, (imgT (sv xs) kd.n (r.n, r.g, r.m)).2.2⟩], ?_, ?_, ?_⟩
          · unfold refs; rw [List.map_append]; rfl
          · rw [tk, ← j3]
            unfold trs
            rw [List.map_append]
            rfl
          · refine RosOk.updL (fun r2 hr2 => ?_) fun o e => by rw [hacc5] at e; cases e; exact ⟨_, rfl⟩
            rcases List.mem_append.mp hr2 with hr2 | hr2
            · exact (j4.mono s5) r2 hr2
            · rw [List.mem_singleton.mp hr2]
              exact ⟨imgT_lt nr.2.2, ra⟩
        walk_at "rd"
        unfold tIf
        walk_at "rd"
        refine ⟨kd.a, _, dk, _, _, rfl, hka2, kc.cl, kc.nN, kflds_name _ _, ?_⟩
        walk_at "rd"
        refine ⟨r.a, _, dr, _, _, rfl, hat, c.cl r.m, c.nN r.m, flds_name _ _, ?_⟩
        walk_at "rd"
        refine ⟨by show 2 ≤ sizeLine; decide, fun tp htp => ?_⟩
        have stp := same_new (o := .tup [V.str (S kd.n), V.str (S r.n)]) htp
        have etp : SlAt (upd H' tp (.tup [V.str (S kd.n), V.str (S r.n)])) tp (kd.n, r.n) := upd_same
        generalize upd H' tp (.tup [V.str (S kd.n), V.str (S r.n)]) = H5 at stp etp ⊢
        walk_at "rd"
        refine in_sl etp ⟨nk.1, nr.1⟩ (hs.mono stp) ?_
        refine ⟨_, rfl, ?_⟩
        have hat5 := stp _ _ hat
        by_cases hin : (kd.n, r.n) ∈ sv xs
        · rw [decide_eq_true hin]
          have em : (imgT (sv xs) kd.n (r.n, r.g, r.m)).2.2 = imOf r.m := by
            unfold imgT
            dsimp only
            rw [if_pos hin]
          rw [em] at go
          walk_at "rd"
          refine Rd.alt rm ?_
          walk_at "rd"
          refine ⟨r.a, dr, _, rfl, hat5, flds_no _ _ (by decide +kernel) (by decide +kernel), ?_⟩
          walk_at "rd"
          exact ⟨r.a, r.n, r.g, rfl, ⟨dr, hat5⟩, nr.1, nr.2.1, fun x H6 s6 ra => go x H6 (stp.trans s6) ra⟩
        · rw [decide_eq_false hin]
          have em : (imgT (sv xs) kd.n (r.n, r.g, r.m)).2.2 = r.m := by
            unfold imgT
            dsimp only
            rw [if_neg hin]
          rw [em] at go
          walk_at "rd"
          exact go r.a H5 stp ⟨dr, hat5⟩
      · rintro B acc H4 hB hacc hlen2 ⟨s4, rs, rfl, j3, hro4⟩
        rw [lrs, List.take_length] at j3
        have hD4 := s4 _ _ hD3
        have hka4 := s4 _ _ hka
        have lks : (krefs ks').length < sizeLine := by rw [List.length_map]; walk_at "sz"
        have kr := trs_kind j3 (fun r hr' => (hro r hr').1) (hko kd hkm)
        walk_at "rd"
        refine ⟨kd.a, kc.C, dk, _, _, rfl, hka4, kc.cl, kc.nN, kflds_name _ _, ?_⟩
        walk_at "rd"
        refine kmk_go kc (by have := nk.1.2.1; omega) hacc hro4 (by have := kr.2.1; omega) (fun _ _ kk H5 hk5 s5 hkd5 e1 e2 => ?_) (fun q => absurd nk.1 q) (fun _ q => absurd kr q)
        have s35 := s4.trans s5
        have hD5 := s5 _ _ hD4
        walk_at "rd"
        have en : krefs ks' ++ [V.ref kk.a] = krefs (ks' ++ [kk]) := by unfold krefs; rw [List.map_append]; rfl
        rw [en]
        have gl : ∀ o, H5 D = some o → ∃ zs, o = .lst zs := fun o e => by rw [hD5] at e; cases e; exact ⟨_, rfl⟩
        refine ⟨_, _, rfl, same_upd (s3.trans s35) hD0, ks' ++ [kk], upd_same, fun k hk => ?_, ?_⟩
        · rcases List.mem_append.mp hk with z | z
          · exact KdOk.updL ((kok3.mono s35) k z) gl
          · rw [List.mem_singleton.mp z]; exact hkd5.updL gl
        · rw [List.map_append, nt3, List.take_add_one, hkd, List.map_append, List.map_append]
          show _ ++ [(kk.n, trs kk.rs)] = _ ++ [imgZ (sv xs) (kd.n, trs kd.rs)]
          rw [e1, e2, j3]
          rfl
    · rintro σ H3 ⟨o3, o4, rfl, s3, ks', hD3, kok3, nt3⟩
      rw [lk, List.take_length] at nt3
      have enm : ks'.map (·.n) = ks.map (·.n) := by
        have h := congrArg (List.map Prod.fst) nt3
        rw [List.map_map, List.map_map, List.map_map] at h
        exact h
      have elen : ks'.length = ks.length := by
        have h := congrArg List.length nt3
        rw [List.length_map, List.length_map, List.length_map] at h
        exact h
      walk_at "rd"
      refine cmk_go cc hD3 kok3 (by omega) (fun _ pc pt H5 hpc s5 cat => ?_) (fun i x fr => absurd (by rw [enm]; exact hg.nd) (not_nodup fr.1 fr.2.1))
      exact k pc pt ks' H5 (none_same s3 hpc) (s3.trans s5) cat (kok3.mono s5) nt3

end
section
variable {P : Program} {w : World} {K : PySem.W.Frag} {mg : Str → Option Value} {base : Heap} {tk : Tok}
/-! ### kinds told, kinds plain -/
def tms (ts : List Tri) : List (List V) := ts.map fun r => mrk r.1 r.2.1 r.2.2
theorem tms_at {H : Hp} {vs : List V} {ts : List Tri} (h : TlAt H vs (tms ts)) {i : Nat} {v : V} (e : vs[i]? = some v) : ∃ a r, v = .ref a ∧ ts[i]? = some r ∧ H a = some (.tup (mrk r.1 r.2.1 r.2.2)) := by
  obtain ⟨a, xs, rfl, h2, h3⟩ := h.get e
  unfold tms at h2
  rw [List.getElem?_map] at h2
  obtain ⟨r, h4, rfl⟩ := Option.map_eq_some_iff.mp h2
  exact ⟨a, r, rfl, h4, h3⟩
structure Kt where
  t : Addr
  l : Addr
  vs : List V
  z : NT
def KtOk (H : Hp) (k : Kt) : Prop := H k.t = some (.tup [.str (S k.z.1), .ref k.l]) ∧ H k.l = some (.lst k.vs) ∧ TlAt H k.vs (tms k.z.2)
theorem KtOk.mono {H H' : Hp} {k : Kt} (h : KtOk H k) (e : Same H H') : KtOk H' k := ⟨e _ _ h.1, e _ _ h.2.1, h.2.2.mono e⟩
theorem KtOk.updL {H : Hp} {k : Kt} {D : Addr} {zs ys : List V} (h : KtOk H k) (hD : H D = some (.lst zs)) (hl : k.l ≠ D) : KtOk (upd H D (.lst ys)) k := by
  refine ⟨?_, ?_, h.2.2.upd fun o e => by rw [hD] at e; cases e⟩
  · rw [upd_ne (fun z => by have := h.1; rw [z, hD] at this; cases this)]
    exact h.1
  · rw [upd_ne hl]; exact h.2.1
def NtOk (z : NT) : Prop := Nm z.1 ∧ ∀ r ∈ z.2, Nm r.1 ∧ Nm r.2.1 ∧ r.2.2 < 5
def datK (z : NT) : PyData := .tuple [.str (S z.1), .list (datL (tms z.2))]
theorem mrk_ok {n g : List Nat} {m : Nat} (hn : Nm n) (hg : Nm g) (hm : m < 5) : (mrk n g m).all okV = true := by
  unfold mrk
  rw [List.all_cons, List.all_cons, List.all_cons, ok_S hn, ok_S hg, ok_S (mark_nm hm)]
  rfl
theorem tms_ok {ts : List Tri} (h : ∀ r ∈ ts, Nm r.1 ∧ Nm r.2.1 ∧ r.2.2 < 5) : (tms ts).all (fun xs => xs.all okV) = true := by
  rw [List.all_eq_true]
  intro xs hx
  obtain ⟨r, hr, rfl⟩ := List.mem_map.mp hx
  exact mrk_ok (h r hr).1 (h r hr).2.1 (h r hr).2.2
theorem KtOk.dp {H : Hp} {k : Kt} (h : KtOk H k) (g : NtOk k.z) : Dp K H (.ref k.t) (datK k.z) :=
  .tup (SqT.of h.1) (.cons (.str _) (.cons (.lst (SqL.of h.2.1) (h.2.2.dp (tms_ok g.2))) .nil))
abbrev trefs (L : List Kt) : List V := L.map fun k => V.ref k.t
theorem kts_dp {H : Hp} : ∀ {L : List Kt}, (∀ k ∈ L, KtOk H k ∧ NtOk k.z) → DpAll K H (trefs L) (L.map fun k => datK k.z)
  | [], _ => .nil
  | k :: L, h => .cons ((h k List.mem_cons_self).1.dp (h k List.mem_cons_self).2) (kts_dp fun x hx => h x (List.mem_cons_of_mem _ hx))
theorem can_datK {z : NT} (g : NtOk z) : PyData.canLay0 (datK z) = true := by
  show (PyData.canLay0 (.str (S z.1)) && (PyData.canLay0 (.list (datL (tms z.2))) && true)) = true
  have e1 : PyData.canLay0 (.str (S z.1)) = true := ok_S g.1
  have e2 : PyData.canLay0 (.list (datL (tms z.2))) = true := can_datL (tms_ok g.2)
  rw [e1, e2]; rfl
theorem can_datKs : ∀ {L : List NT}, (∀ z ∈ L, NtOk z) → PyData.canLayAll0 (L.map datK) = true
  | [], _ => rfl
  | z :: L, h => by
    show (PyData.canLay0 (datK z) && PyData.canLayAll0 (L.map datK)) = true
    rw [can_datK (h z List.mem_cons_self), can_datKs fun x hx => h x (List.mem_cons_of_mem _ hx)]; rfl
theorem depth_datK (z : NT) : PyData.depth (datK z) ≤ 3 := by
  show PyData.depthAll [.str (S z.1), .list (datL (tms z.2))] + 1 ≤ 3
  show max 0 (max (PyData.depthAll (datL (tms z.2)) + 1) 0) + 1 ≤ 3
  have := depth_datL (tms z.2)
  omega
theorem depth_datKs : ∀ L : List NT, PyData.depthAll (L.map datK) ≤ 3
  | [] => Nat.zero_le _
  | z :: L => by
    show max (PyData.depth (datK z)) (PyData.depthAll (L.map datK)) ≤ 3
    exact Nat.max_le.mpr ⟨depth_datK z, depth_datKs L⟩
theorem sh_datKs {L : List NT} (h : ∀ z ∈ L, NtOk z) : SeqAt.shaped (.list (L.map datK)) = true := by
  show (PyData.canLayAll0 (L.map datK) && decide (PyData.depthAll (L.map datK) + 1 ≤ 64)) = true
  have := depth_datKs L
  rw [can_datKs h, Bool.true_and]
  exact decide_eq_true (by omega)
theorem sh_datK {z : NT} (h : NtOk z) : SeqAt.shaped (datK z) = true := by
  show (PyData.canLay0 (datK z) && decide (PyData.depth (datK z) ≤ 64)) = true
  have := depth_datK z
  rw [can_datK h, Bool.true_and]
  exact decide_eq_true (by omega)
theorem neKts {H : Hp} {Q : VK} {a b : Addr} {L M : List Kt} (h1 : H a = some (.lst (trefs L))) (h2 : H b = some (.lst (trefs M))) (t1 : ∀ k ∈ L, KtOk H k) (t2 : ∀ k ∈ M, KtOk H k) (e : L.map (·.z) = M.map (·.z)) (g : ∀ k ∈ M, NtOk k.z) (q : Q (.bl false) H) : rNeA K (.ref a) (.ref b) H Q := by
  have g' : ∀ z ∈ M.map (·.z), NtOk z := fun z hz => by
    obtain ⟨k, hk, rfl⟩ := List.mem_map.mp hz
    exact g k hk
  have gL : ∀ k ∈ L, NtOk k.z := fun k hk => g' _ (by rw [← e]; exact List.mem_map.mpr ⟨k, hk, rfl⟩)
  have d1 := kts_dp (K := K) fun k hk => ⟨t1 k hk, gL k hk⟩
  have d2 := kts_dp (K := K) fun k hk => ⟨t2 k hk, g k hk⟩
  have e1 : (L.map fun k => datK k.z) = (M.map (·.z)).map datK := by rw [← e, List.map_map]; rfl
  have e2 : (M.map fun k => datK k.z) = (M.map (·.z)).map datK := by rw [List.map_map]; rfl
  rw [e1] at d1
  rw [e2] at d2
  exact Rd.neD (.lst (SqL.of h1) d1) (.lst (SqL.of h2) d2) (sh_datKs g') (sh_datKs g') (by rw [SeqAt.eqv_refl (.list ((M.map (·.z)).map datK)) (can_datKs g')]; exact q)
theorem neKt {H : Hp} {Q : VK} {k m : Kt} (t1 : KtOk H k) (t2 : KtOk H m) (e : k.z = m.z) (g : NtOk m.z) (q : Q (.bl false) H) : rNeA K (.ref k.t) (.ref m.t) H Q := by
  have d1 := t1.dp (K := K) (by rw [e]; exact g)
  rw [e] at d1
  exact Rd.neD d1 (t2.dp g) (sh_datK g) (sh_datK g) (by rw [SeqAt.eqv_refl _ (can_datK g)]; exact q)
def spToldL (CC D : Addr) (C : Nat → Addr) : Sp := fun vs H Q _ => ∃ (p t : Addr) (ks : List Kd), vs = [.ref p] ∧ CatAt CC H p t ks ∧ KdsOk D C H ks ∧ KsGood ks ∧
  ∀ l (L : List Kt) H', H l = none → Same H H' → H' l = some (.lst (trefs L)) → (∀ k ∈ L, KtOk H' k) → L.map (·.z) = ks.map ntOf → Q (.ref l) H'
abbrev s_law_told : Stmt := top 47
theorem sc_law_told : FnScope ["_law_catalog_here", "_law_kinds_here", "_law_kind_here", "_law_roles", "_law_role_here"] ["_law_catalog_here"] (defScope s_law_told) := ⟨rfl, rfl, rfl, by decide +kernel, rfl, by decide +kernel, by decide +kernel⟩
abbrev DTo (K : PySem.W.Frag) (mg : Str → Option Value) := Df K mg "_law_told" "_law_told" s_law_told ["_law_catalog_here"]
theorem ok_told {mI mK mC : Addr} (d : DTo K mg) (T : Bt mg) (c : Six K mg mI) (kc : Kc K mg mK) (cc : Cc K mg mC) (mIt : MCit K) (hI1 : PySem.W.findIn K (.ref cc.C) "__iter__" = some (some (.ref mIt.f))) (hI2 : PySem.W.isFn K (.ref mIt.f) = true) (hIt : mg "iter" = none) : FnOk P w K mg base CX0 2 d.f d.fd ["_law_catalog_here"] (spToldL cc.C kc.C c.C) := by
  have GIt : FnY P w K mg base 1 mIt.f mIt.fd _ (spIterT (KindsAt K cc.C)) := ok_citer mIt cc hIt
  refine d.F.ok sc_law_told (fun vs H Q E h => ?_) (fun cdv A outer s H vs Q E hr h => ?_)
  · obtain ⟨p, t, ks, rfl, _⟩ := h
    rfl
  · obtain ⟨p, t, ks, rfl, hc, hks, hg, k⟩ := h
    have hu := hr.units
    have hr1 : Room 1 _ := hr.mono (by decide)
    have lk : (krefs ks).length = ks.length := List.length_map ..
    have hf4 := hg.few
    refine ⟨_, (pss_cons (ps_set (i := 1) sc_law_told.nd rfl (Or.inl rfl) (pe_lst pa_nil))
  (pss_cons (ps_for PassesOwn.never rfl (kown K (pv 0) hI1 hI2 GIt mIt.b hr1) (pg_name (i := 2) sc_law_told.nd rfl (Or.inl rfl))
  (pss_cons (ps_setLc (i := 3) (own := [("_law_role_here", 4)]) (g := gName 4) (tt := tYes) rfl sc_law_told.nd rfl rfl (sw_true rfl rfl rfl (by decide +kernel)) (kpt K (kfld K (pv 2))) (blkOk_by (N := ["_law_catalog_here", "_law_kinds_here", "_law_kind_here", "_law_roles", "_law_role_here"]) (sc := defScope s_law_told) (by decide +kernel)) (fun _ _ _ _ _ => (pg_name (i := 4) sc_law_told.nd rfl (Or.inl rfl))) (fun _ _ _ _ _ => pts_nil) (fun _ _ _ _ _ => (pe_tup (pa_cons (kfld K (pv 4)) (pa_cons (kfld K (pv 4)) (pa_cons (kcon K (pv 4)) pa_nil))))))
  (pss_one (ps_expr (kapp K (pv 1) (pa_cons (pe_tup (pa_cons (kfld K (pv 2)) (pa_cons (pv 3) pa_nil))) pa_nil))))))
  (pss_one (ps_ret (pv 1))))), ?_⟩
    refine Rd.start_ (σ' := [some (.ref p), none, none, none, none]) rfl ?_
    walk_at "rd"
    refine ⟨by show 0 ≤ sizeLine; decide, fun D hD => ?_⟩
    have s2 := same_new (o := .lst []) hD
    have hDl : upd H D (.lst []) D = some (.lst []) := upd_same
    generalize upd H D (.lst []) = H2 at s2 hDl ⊢
    obtain ⟨⟨dx, hp⟩, ht⟩ := id (hc.mono s2)
    obtain ⟨_, ht0⟩ := id hc
    walk_at "rd"
    refine Rd.foO ?_
    walk_at "rd"
    refine ⟨p, dx, _, t, rfl, hp, ⟨dx, _, hp, ht⟩, ?_⟩
    refine Rd.foW Rd.wTup (fun i σ H' => ∃ o3 o4, σ = [some (.ref p), some (.ref D), o3, o4, none] ∧ Same H H' ∧ ∃ L : List Kt, H' D = some (.lst (trefs L)) ∧ (∀ k ∈ L, KtOk H' k ∧ k.l ≠ D) ∧ L.map (·.z) = (ks.take i).map ntOf)
      ⟨_, _, rfl, s2, [], hDl, fun k hk => absurd hk List.not_mem_nil, rfl⟩ (fun i σ H' hi ⟨_, _, _, q, _⟩ => SqT.of (q _ _ ht0)) ?_ ?_
    · rintro i y σ H3 hi hy ⟨o3, o4, rfl, s3, L, hD3, kok3, nt3⟩
      obtain ⟨kd, hkd, rfl⟩ := kref_at hy
      have hkm := List.mem_of_getElem? hkd
      obtain ⟨⟨dk, hka⟩, hkt, hro⟩ := hks.mono s3 kd hkm
      have h6 := hg.six kd hkm
      have lL : L.length ≤ 4 := by
        have e := congrArg List.length nt3
        rw [List.length_map, List.length_map, List.length_take] at e
        omega
      have lrs : (refs kd.rs).length = kd.rs.length := List.length_map ..
      dsimp only [List.set]
      walk_at "rd"
      refine ⟨kd.a, kc.C, dk, _, _, rfl, hka, kc.cl, kc.nR, kflds_roles _ _, ?_⟩
      refine Rd.extup (SqT.of hkt) ?_
      refine Rd.lcZ Rd.wTup (by rw [lrs]; walk_at "sz") (fun D2 j acc H' => Same H3 H' ∧ TlAt H' acc (tms (trs (kd.rs.take j)))) (fun D2 hD2 => ⟨same_new hD2, .nil⟩) (fun D2 j acc H' hi q => SqT.of (q.1 _ _ hkt)) ?_ ?_
      · rintro D2 hD2 j x acc H' hj hx2 hacc hlen2 ⟨j1, j2⟩ Kt Kf hT' hF
        obtain ⟨r, hr', rfl⟩ := ref_at hx2
        obtain ⟨rm, dr, hat⟩ := (hro.mono j1) r (List.mem_of_getElem? hr')
        obtain ⟨u, hm⟩ := c.mark r.m
        dsimp only [List.set]
        walk_at "rd"
        refine ⟨r.a, _, dr, _, _, rfl, hat, c.cl r.m, c.nN r.m, flds_name _ _, ?_⟩
        walk_at "rd"
        refine ⟨r.a, _, dr, _, _, rfl, hat, c.cl r.m, c.nG r.m, flds_group _ _, ?_⟩
        walk_at "rd"
        refine ⟨r.a, _, dr, _, _, u, rfl, hat, c.cl r.m, hm, flds_no _ _ (by decide +kernel) (by decide +kernel), ?_⟩
        walk_at "rd"
        refine ⟨by show 3 ≤ sizeLine; decide, fun t ht => ?_⟩
        have s3' := same_new (o := .tup (mrk r.n r.g r.m)) ht
        have hacc3 := s3' _ _ hacc
        refine hT' _ _ hacc3 ⟨same_upd (j1.trans s3') hD2, ?_⟩
        rw [List.take_add_one, hr']
        unfold tms trs
        rw [List.map_append, List.map_append]
        exact ((j2.mono s3').one upd_same).upd fun o e => by rw [hacc3] at e; cases e
      · rintro B acc H4 hB hacc hlen2 ⟨s4, j2⟩
        rw [lrs, List.take_length] at j2
        have hka4 := s4 _ _ hka
        have hD4 := s4 _ _ hD3
        walk_at "rd"
        refine ⟨kd.a, kc.C, dk, _, _, rfl, hka4, kc.cl, kc.nN, kflds_name _ _, ?_⟩
        walk_at "rd"
        refine ⟨by show 2 ≤ sizeLine; decide, fun tp htp => ?_⟩
        have s6 := same_new (o := .tup [V.str (S kd.n), V.ref B]) htp
        have e6 : upd H4 tp (.tup [V.str (S kd.n), V.ref B]) tp = some (.tup [V.str (S kd.n), V.ref B]) := upd_same
        generalize upd H4 tp (.tup [V.str (S kd.n), V.ref B]) = H6 at s6 e6 ⊢
        have s36 := s4.trans s6
        have hD6 := s6 _ _ hD4
        have hB6 := s6 _ _ hacc
        have nBD : B ≠ D := fun e => by rw [e, hD3] at hB; cases hB
        have lpr : (trefs L).length < sizeLine := by rw [List.length_map]; walk_at "sz"
        walk_at "rd"
        have en : trefs L ++ [V.ref tp] = trefs (L ++ [⟨tp, B, acc, ntOf kd⟩]) := by unfold trefs; rw [List.map_append]; rfl
        rw [en]
        refine ⟨_, _, rfl, same_upd (s3.trans s36) hD, L ++ [⟨tp, B, acc, ntOf kd⟩], upd_same, fun k hk => ?_, ?_⟩
        · rcases List.mem_append.mp hk with z | z
          · exact ⟨((kok3 k z).1.mono s36).updL hD6 (kok3 k z).2, (kok3 k z).2⟩
          · rw [List.mem_singleton.mp z]
            exact ⟨KtOk.updL ⟨e6, hB6, j2.mono s6⟩ hD6 nBD, nBD⟩
        · rw [List.map_append, nt3, List.take_add_one, hkd, List.map_append]
          rfl
    · rintro σ H3 ⟨o3, o4, rfl, s3, L, hD3, kok3, nt3⟩
      rw [lk, List.take_length] at nt3
      walk_at "rd"
      exact k D L H3 hD s3 hD3 (fun k hk => (kok3 k hk).1) nt3
def spPlainL : Sp := fun vs H Q _ => ∃ (a : Addr) (ps : List Kp), vs = [.ref a] ∧ H a = some (.lst (prefs ps)) ∧ KpsOk H ps ∧ ps.length ≤ 4 ∧ (∀ k ∈ ps, k.ts.length ≤ 6 ∧ ∀ r ∈ k.ts, r.2.2 < 5) ∧
  ∀ l (L : List Kt) H', H l = none → Same H H' → H' l = some (.lst (trefs L)) → (∀ k ∈ L, KtOk H' k) → L.map (·.z) = ps.map ntP → Q (.ref l) H'
abbrev s_law_plain : Stmt := top 48
theorem sc_law_plain : FnScope ["_law_kinds_here", "_law_marks", "_law_told_here", "_law_kind_here", "_law_roles", "_law_role_here"] ["_law_kinds_here"] (defScope s_law_plain) := ⟨rfl, rfl, rfl, by decide +kernel, rfl, by decide +kernel, by decide +kernel⟩
abbrev DPl (K : PySem.W.Frag) (mg : Str → Option Value) := Df K mg "_law_plain" "_law_plain" s_law_plain ["_law_kinds_here"]
theorem ok_plain (d : DPl K mg) (T : Bt mg) : FnOk P w K mg base CX0 1 d.f d.fd ["_law_kinds_here"] spPlainL := by
  refine d.F.ok sc_law_plain (fun vs H Q E h => ?_) (fun cdv A outer s H vs Q E hr h => ?_)
  · obtain ⟨a, ps, rfl, _⟩ := h
    rfl
  · obtain ⟨a, ps, rfl, ha, hps, l4, good, k⟩ := h
    have hu := hr.units
    have lP : (prefs ps).length = ps.length := List.length_map ..
    refine ⟨_, (pss_cons (ps_set (i := 1) sc_law_plain.nd rfl (Or.inr rfl) (pe_lst (pa_cons (pe_lit [114] (by decide +kernel)) (pa_cons (pe_lit [109] (by decide +kernel)) (pa_cons (pe_lit [102] (by decide +kernel)) (pa_cons (pe_lit [114, 109] (by decide +kernel)) (pa_cons (pe_lit [114, 102] (by decide +kernel)) pa_nil)))))))
  (pss_cons (ps_set (i := 2) sc_law_plain.nd rfl (Or.inl rfl) (pe_lst pa_nil))
  (pss_cons (ps_for PassesOwn.never rfl (kpl K (pv 0)) (pg_name (i := 3) sc_law_plain.nd rfl (Or.inl rfl))
  (pss_cons (ps_setLc (i := 4) (own := [("_law_role_here", 5)]) (g := gName 5) (tt := tYes) rfl sc_law_plain.nd rfl rfl (sw_true rfl rfl rfl (by decide +kernel)) (kpl K (pe_ix (kix K) (pv 3) pe_int (fun _ _ => rfl))) (blkOk_by (N := ["_law_kinds_here", "_law_marks", "_law_told_here", "_law_kind_here", "_law_roles", "_law_role_here"]) (sc := defScope s_law_plain) (by decide +kernel)) (fun _ _ _ _ _ => (pg_name (i := 5) sc_law_plain.nd rfl (Or.inl rfl))) (fun _ _ _ _ _ => pts_nil) (fun _ _ _ _ _ => (pe_tup (pa_cons (pe_ix (kix K) (pv 5) pe_int (fun _ _ => rfl)) (pa_cons (pe_ix (kix K) (pv 5) pe_int (fun _ _ => rfl)) (pa_cons (pe_ix (kix K) (pv 1) (pe_ix (kix K) (pv 5) pe_int (fun _ _ => rfl)) (fun _ _ => rfl)) pa_nil))))))
  (pss_one (ps_expr (kapp K (pv 2) (pa_cons (pe_tup (pa_cons (pe_ix (kix K) (pv 3) pe_int (fun _ _ => rfl)) (pa_cons (pv 4) pa_nil))) pa_nil))))))
  (pss_one (ps_ret (pv 2)))))), ?_⟩
    refine Rd.start_ (σ' := [some (.ref a), none, none, none, none, none]) rfl ?_
    walk_at "rd"
    refine ⟨by show 5 ≤ sizeLine; decide, fun M hM => ?_⟩
    have s1 := same_new (o := .lst marksV) hM
    have hM1 : upd H M (.lst marksV) M = some (.lst marksV) := upd_same
    show tSeq _ _ _ _ (upd H M (.lst marksV))
    generalize upd H M (.lst marksV) = H1 at s1 hM1
    walk_at "rd"
    refine ⟨by show 0 ≤ sizeLine; decide, fun D hD => ?_⟩
    have s2 := same_new (o := .lst []) hD
    have hDl : upd H1 D (.lst []) D = some (.lst []) := upd_same
    generalize upd H1 D (.lst []) = H2 at s2 hDl ⊢
    have s12 := s1.trans s2
    have hD0 : H D = none := none_same s1 hD
    have nMD : M ≠ D := ne_of_none hM1 hD
    walk_at "rd"
    refine Rd.exlist (SqL.of (s12 _ _ ha)) ?_
    refine Rd.foW Rd.wList (fun i σ H' => ∃ o3 o4, σ = [some (.ref a), some (.ref M), some (.ref D), o3, o4, none] ∧ Same H1 H' ∧ ∃ L : List Kt, H' D = some (.lst (trefs L)) ∧ (∀ k ∈ L, KtOk H' k ∧ k.l ≠ D) ∧ L.map (·.z) = (ps.take i).map ntP)
      ⟨_, _, rfl, s2, [], hDl, fun k hk => absurd hk List.not_mem_nil, rfl⟩ (fun i σ H' hi ⟨_, _, _, q, _⟩ => SqL.of ((s1.trans q) _ _ ha)) ?_ ?_
    · rintro i y σ H3 hi hy ⟨o3, o4, rfl, s3, L, hD3, kok3, nt3⟩
      obtain ⟨kp, hkp, rfl⟩ := pref_at hy
      have hkm := List.mem_of_getElem? hkp
      have gk := good kp hkm
      have kp3 := (hps.mono (s1.trans s3)) kp hkm
      have lts := tri_len kp3.2.2
      obtain ⟨kq1, kq2, kq3⟩ := id kp3
      have lL : L.length ≤ 4 := by
        have e := congrArg List.length nt3
        rw [List.length_map, List.length_map, List.length_take] at e
        omega
      have hM3 := s3 _ _ hM1
      have l6 := gk.1
      dsimp only [List.set]
      walk_at "rd"
      refine Rd.lcZ Rd.wList (by rw [lts]; walk_at "sz") (fun D2 j acc H' => Same H3 H' ∧ TlAt H' acc (tms (kp.ts.take j))) (fun D2 hD2 => ⟨same_new hD2, .nil⟩) (fun D2 j acc H' hi q => SqL.of (q.1 _ _ kq2)) ?_ ?_
      · rintro D2 hD2 j x acc H' hj hx2 hacc hlen2 ⟨j1, j2⟩ Kt Kf hT' hF
        obtain ⟨ta, r, rfl, hr', hat⟩ := tri_at (kq3.mono j1) hx2
        have hMx := j1 _ _ hM3
        dsimp only [List.set]
        walk_at "rd"
        refine Rd.ixL (SqL.of hMx) (marks_at (gk.2 r (List.mem_of_getElem? hr'))) ?_
        walk_at "rd"
        refine ⟨by show 3 ≤ sizeLine; decide, fun t ht => ?_⟩
        have s3' := same_new (o := .tup (mrk r.1 r.2.1 r.2.2)) ht
        have hacc3 := s3' _ _ hacc
        refine hT' _ _ hacc3 ⟨same_upd (j1.trans s3') hD2, ?_⟩
        rw [List.take_add_one, hr']
        unfold tms
        rw [List.map_append]
        exact ((j2.mono s3').one upd_same).upd fun o e => by rw [hacc3] at e; cases e
      · rintro B acc H4 hB hacc hlen2 ⟨s4, j2⟩
        rw [lts, List.take_length] at j2
        have hka4 := s4 _ _ kq1
        have hD4 := s4 _ _ hD3
        walk_at "rd"
        refine ⟨by show 2 ≤ sizeLine; decide, fun tp htp => ?_⟩
        have s6 := same_new (o := .tup [V.str (S kp.n), V.ref B]) htp
        have e6 : upd H4 tp (.tup [V.str (S kp.n), V.ref B]) tp = some (.tup [V.str (S kp.n), V.ref B]) := upd_same
        generalize upd H4 tp (.tup [V.str (S kp.n), V.ref B]) = H6 at s6 e6 ⊢
        have s36 := s4.trans s6
        have hD6 := s6 _ _ hD4
        have hB6 := s6 _ _ hacc
        have nBD : B ≠ D := fun e => by rw [e, hD3] at hB; cases hB
        have lpr : (trefs L).length < sizeLine := by rw [List.length_map]; walk_at "sz"
        walk_at "rd"
        have en : trefs L ++ [V.ref tp] = trefs (L ++ [⟨tp, B, acc, ntP kp⟩]) := by unfold trefs; rw [List.map_append]; rfl
        rw [en]
        refine ⟨_, _, rfl, same_upd (s3.trans s36) hD, L ++ [⟨tp, B, acc, ntP kp⟩], upd_same, fun k hk => ?_, ?_⟩
        · rcases List.mem_append.mp hk with z | z
          · exact ⟨((kok3 k z).1.mono s36).updL hD6 (kok3 k z).2, (kok3 k z).2⟩
          · rw [List.mem_singleton.mp z]
            exact ⟨KtOk.updL ⟨e6, hB6, j2.mono s6⟩ hD6 nBD, nBD⟩
        · rw [List.map_append, nt3, List.take_add_one, hkp, List.map_append]
          rfl
    · rintro σ H3 ⟨o3, o4, rfl, s3, L, hD3, kok3, nt3⟩
      rw [lP, List.take_length] at nt3
      walk_at "rd"
      exact k D L H3 hD0 (s1.trans s3) hD3 (fun k hk => (kok3 k hk).1) nt3

end
section
variable {P : Program} {w : World} {K : PySem.W.Frag} {mg : Str → Option Value} {base : Heap} {tk : Tok}
/-! ### the law's slots and images -/
def spLSlots : Sp := fun vs H Q _ => ∃ (a : Addr) (ps : List Kp), vs = [.ref a] ∧ H a = some (.lst (prefs ps)) ∧ KpsOk H ps ∧ ps.length ≤ 4 ∧ (∀ k ∈ ps, KpGood k) ∧
  ∀ l xs H', H l = none → Same H H' → Sls H' l xs → xs.length ≤ 24 → (∀ x ∈ xs, IsSl (ps.map ntP) x.2) → Q (.ref l) H'
abbrev s_law_slots : Stmt := top 41
theorem sc_law_slots : FnScope ["_law_kinds_here", "_law_slots_here", "_law_kind_here", "_law_role_here"] ["_law_kinds_here"] (defScope s_law_slots) := ⟨rfl, rfl, rfl, by decide +kernel, rfl, by decide +kernel, by decide +kernel⟩
abbrev DLs (K : PySem.W.Frag) (mg : Str → Option Value) := Df K mg "_law_slots" "_law_slots" s_law_slots ["_law_kinds_here"]
theorem ok_lslots (d : DLs K mg) (T : Bt mg) (dLd : DLd K mg) : FnOk P w K mg base CX0 2 d.f d.fd ["_law_kinds_here"] spLSlots := by
  have GLd : FnOk P w K mg base CX0 1 dLd.f dLd.fd _ spLd := ok_ld dLd.F
  refine d.F.ok sc_law_slots (fun vs H Q E h => ?_) (fun cdv A outer s H vs Q E hr h => ?_)
  · obtain ⟨a, ps, rfl, _⟩ := h
    rfl
  · obtain ⟨a, ps, rfl, ha, hps, l4, good, k⟩ := h
    have hu := hr.units
    have hr1 : Room 1 _ := hr.mono (by decide)
    have lP : (prefs ps).length = ps.length := List.length_map ..
    refine ⟨_, (pss_cons (ps_set (i := 1) sc_law_slots.nd rfl (Or.inl rfl) (pe_lst pa_nil))
  (pss_cons (ps_for PassesOwn.never rfl (kpl K (pv 0)) (pg_name (i := 2) sc_law_slots.nd rfl (Or.inl rfl))
  (pss_one (ps_for PassesOwn.never rfl (kpl K (pe_ix (kix K) (pv 2) pe_int (fun _ _ => rfl))) (pg_name (i := 3) sc_law_slots.nd rfl (Or.inl rfl))
  (pss_one (ps_if (pt_val (pe_cf dLd GLd hr1 pass0 (pa_cons (pe_ix (kix K) (pv 3) pe_int (fun _ _ => rfl)) pa_nil))) (pss_one (ps_expr (kapp K (pv 1) (pa_cons (pe_tup (pa_cons (pe_ix (kix K) (pv 2) pe_int (fun _ _ => rfl)) (pa_cons (pe_ix (kix K) (pv 3) pe_int (fun _ _ => rfl)) pa_nil))) pa_nil))))
  pss_nil)))))
  (pss_one (ps_ret (pv 1))))), ?_⟩
    refine Rd.start_ (σ' := [some (.ref a), none, none, none]) rfl ?_
    walk_at "rd"
    refine ⟨by show 0 ≤ sizeLine; decide, fun D hD => ?_⟩
    have s2 := same_new (o := .lst []) hD
    have hDl : upd H D (.lst []) D = some (.lst []) := upd_same
    generalize upd H D (.lst []) = H2 at s2 hDl ⊢
    walk_at "rd"
    refine Rd.exlist (SqL.of (s2 _ _ ha)) ?_
    refine Rd.foW Rd.wList (fun i σ H' => ∃ o3 o4, σ = [some (.ref a), some (.ref D), o3, o4] ∧ Same H H' ∧ ∃ xs, Sls H' D xs ∧ xs.length ≤ 6 * i ∧ ∀ x ∈ xs, IsSl (ps.map ntP) x.2)
      ⟨_, _, rfl, s2, [], ⟨hDl, fun q hq => absurd hq List.not_mem_nil, fun q hq => absurd hq List.not_mem_nil⟩, Nat.zero_le _, fun x hx => absurd hx List.not_mem_nil⟩ (fun i σ H' hi ⟨_, _, _, q, _⟩ => SqL.of (q _ _ ha)) ?_ ?_
    · rintro i y σ H3 hi hy ⟨o3, o4, rfl, s3, xs, sx3, ln3, in3⟩
      obtain ⟨kp, hkp, rfl⟩ := pref_at hy
      have hkm := List.mem_of_getElem? hkp
      have g := good kp hkm
      have l6 := g.2.2.1
      have kp3 := (hps.mono s3) kp hkm
      have lts := tri_len kp3.2.2
      obtain ⟨kp1, kp2, _⟩ := id kp3
      rw [lP] at hi
      dsimp only [List.set]
      walk_at "rd"
      refine Rd.foW Rd.wList (fun j σ H' => ∃ o4, σ = [some (.ref a), some (.ref D), some (.ref kp.a), o4] ∧ Same H H' ∧ ∃ xs, Sls H' D xs ∧ xs.length ≤ 6 * i + j ∧ ∀ x ∈ xs, IsSl (ps.map ntP) x.2)
        ⟨_, rfl, s3, xs, sx3, by omega, in3⟩ (fun j σ H' hj ⟨_, _, q, _⟩ => SqL.of (((hps.mono q) kp hkm).2.1)) ?_ ?_
      · rintro j y σ H4 hj hy2 ⟨o4, rfl, s4, xs, sx4, ln4, in4⟩
        obtain ⟨fa, f, rfl, hf, hfa0⟩ := tri_at (hps kp hkm).2.2 hy2
        have hfm := List.mem_of_getElem? hf
        have gf := g.2.2.2.2.1 f hfm
        have hfa := s4 _ _ hfa0
        obtain ⟨kq1, kq2, _⟩ := id ((hps.mono s4) kp hkm)
        have hD4 := sx4.at_
        rw [lts] at hj
        dsimp only [List.set]
        walk_at "rd"
        refine ⟨f.2.2, by have := gf.2.2; omega, rfl, ?_⟩
        walk_at "rd"
        cases hb : dvB f.2.2 with
        | false =>
          walk_at "rd"
          exact ⟨_, rfl, s4, xs, sx4, by omega, in4⟩
        | true =>
          walk_at "rd"
          refine ⟨by show 2 ≤ sizeLine; decide, fun tp htp => ?_⟩
          have stp := same_new (o := .tup [V.str (S kp.n), V.str (S f.1)]) htp
          have etp : SlAt (upd H4 tp (.tup [V.str (S kp.n), V.str (S f.1)])) tp (kp.n, f.1) := upd_same
          have sx5 := sx4.mono stp
          have s5 := s4.trans stp
          generalize upd H4 tp (.tup [V.str (S kp.n), V.str (S f.1)]) = H5 at stp etp sx5 s5 ⊢
          have hD5 := sx5.at_
          walk_at "rd"
          refine Rd.append hD5 (by rw [List.length_map]; walk_at "sz") ?_
          walk_at "rd"
          refine ⟨_, rfl, same_upd s5 hD, xs ++ [(tp, (kp.n, f.1))], sx5.app etp ⟨g.1, gf.1⟩ rfl, by rw [List.length_append, List.length_singleton]; omega, fun x hx => ?_⟩
          rcases List.mem_append.mp hx with z | z
          · exact in4 x z
          · rw [List.mem_singleton.mp z]
            exact ⟨ntP kp, List.mem_map.mpr ⟨kp, hkm, rfl⟩, f, hfm, rfl, hb⟩
      · rintro σ H4 ⟨o4, rfl, s4, xs, sx4, ln4, in4⟩
        rw [lts] at ln4
        walk_at "rd"
        exact ⟨_, _, rfl, s4, xs, sx4, by omega, in4⟩
    · rintro σ H3 ⟨o3, o4, rfl, s3, xs, sx3, ln3, in3⟩
      rw [lP] at ln3
      walk_at "rd"
      exact k D xs H3 hD s3 sx3 (by omega) in3
def spLImaged : Sp := fun vs H Q _ => ∃ (a l : Addr) (ps : List Kp) (xs : List Sr), vs = [.ref a, .ref l] ∧ H a = some (.lst (prefs ps)) ∧ KpsOk H ps ∧ ps.length ≤ 4 ∧ (∀ k ∈ ps, KpGood k) ∧ Sls H l xs ∧ xs.length ≤ 100 ∧
  ∀ R (ps' : List Kp) H', H R = none → Same H H' → H' R = some (.lst (prefs ps')) → KpsOk H' ps' → ps'.map ntP = (ps.map ntP).map (imgZ (sv xs)) → Q (.ref R) H'
abbrev s_law_imaged : Stmt := top 42
theorem sc_law_imaged : FnScope ["_law_kinds_here", "_law_slots_here", "_law_after", "_law_kind_here", "_law_roles", "_law_role_here", "_law_mode"] ["_law_kinds_here", "_law_slots_here"] (defScope s_law_imaged) := ⟨rfl, rfl, rfl, by decide +kernel, rfl, by decide +kernel, by decide +kernel⟩
abbrev DIg (K : PySem.W.Frag) (mg : Str → Option Value) := Df K mg "_law_imaged" "_law_imaged" s_law_imaged ["_law_kinds_here", "_law_slots_here"]
theorem tri_one (ts : List Tri) (r : Tri) : tri (ts ++ [r]) = tri ts ++ [[V.str (S r.1), V.str (S r.2.1), V.int (r.2.2 : Nat)]] := by
  unfold tri
  rw [List.map_append]; rfl
theorem ok_limaged (d : DIg K mg) (T : Bt mg) : FnOk P w K mg base CX0 2 d.f d.fd ["_law_kinds_here", "_law_slots_here"] spLImaged := by
  refine d.F.ok sc_law_imaged (fun vs H Q E h => ?_) (fun cdv A outer s H vs Q E hr h => ?_)
  · obtain ⟨a, l, ps, xs, rfl, _⟩ := h
    rfl
  · obtain ⟨a, l, ps, xs, rfl, ha, hps, l4, good, hx, lx, k⟩ := h
    have hu := hr.units
    have hu2 := u65 hr
    have lP : (prefs ps).length = ps.length := List.length_map ..
    refine ⟨_, (pss_cons (ps_set (i := 2) sc_law_imaged.nd rfl (Or.inl rfl) (pe_lst pa_nil))
  (pss_cons (ps_for PassesOwn.never rfl (kpl K (pv 0)) (pg_name (i := 3) sc_law_imaged.nd rfl (Or.inl rfl))
  (pss_cons (ps_set (i := 4) sc_law_imaged.nd rfl (Or.inl rfl) (pe_lst pa_nil))
  (pss_cons (ps_for PassesOwn.never rfl (kpl K (pe_ix (kix K) (pv 3) pe_int (fun _ _ => rfl))) (pg_name (i := 5) sc_law_imaged.nd rfl (Or.inl rfl))
  (pss_cons (ps_set (i := 6) sc_law_imaged.nd rfl (Or.inl rfl) (pe_ix (kix K) (pv 5) pe_int (fun _ _ => rfl)))
  (pss_cons (ps_if (pt_cmpR (kinX K hu2) (pe_tup (pa_cons (pe_ix (kix K) (pv 3) pe_int (fun _ _ => rfl)) (pa_cons (pe_ix (kix K) (pv 5) pe_int (fun _ _ => rfl)) pa_nil))) (pv 1) rfl) (pss_one (ps_set (i := 6) sc_law_imaged.nd rfl (Or.inl rfl) (pe_ix (kix K) (pe_lst (pa_cons pe_int (pa_cons pe_int (pa_cons pe_int (pa_cons pe_int (pa_cons pe_int pa_nil)))))) (pv 6) (fun _ _ => rfl))))
  pss_nil)
  (pss_one (ps_expr (kapp K (pv 4) (pa_cons (pe_tup (pa_cons (pe_ix (kix K) (pv 5) pe_int (fun _ _ => rfl)) (pa_cons (pe_ix (kix K) (pv 5) pe_int (fun _ _ => rfl)) (pa_cons (pv 6) pa_nil)))) pa_nil)))))))
  (pss_one (ps_expr (kapp K (pv 2) (pa_cons (pe_tup (pa_cons (pe_ix (kix K) (pv 3) pe_int (fun _ _ => rfl)) (pa_cons (pv 4) pa_nil))) pa_nil)))))))
  (pss_one (ps_ret (pv 2))))), ?_⟩
    refine Rd.start_ (σ' := [some (.ref a), some (.ref l), none, none, none, none, none]) rfl ?_
    walk_at "rd"
    refine ⟨by show 0 ≤ sizeLine; decide, fun D hD => ?_⟩
    have s2 := same_new (o := .lst []) hD
    have hDl : upd H D (.lst []) D = some (.lst []) := upd_same
    generalize upd H D (.lst []) = H2 at s2 hDl ⊢
    walk_at "rd"
    refine Rd.exlist (SqL.of (s2 _ _ ha)) ?_
    refine Rd.foW Rd.wList (fun i σ H' => ∃ o3 o4 o5 o6, σ = [some (.ref a), some (.ref l), some (.ref D), o3, o4, o5, o6] ∧ Same H H' ∧ ∃ ps' : List Kp, H' D = some (.lst (prefs ps')) ∧ KpsOk H' ps' ∧ (∀ k ∈ ps', k.l ≠ D) ∧ ps'.map ntP = ((ps.take i).map ntP).map (imgZ (sv xs)))
      ⟨_, _, _, _, rfl, s2, [], hDl, fun k hk => absurd hk List.not_mem_nil, fun k hk => absurd hk List.not_mem_nil, rfl⟩ (fun i σ H' hi ⟨_, _, _, _, _, q, _⟩ => SqL.of (q _ _ ha)) ?_ ?_
    · rintro i y σ H3 hi hy ⟨o3, o4, o5, o6, rfl, s3, ps', hD3, kps3, nl3, nm3⟩
      obtain ⟨kp, hkp, rfl⟩ := pref_at hy
      have hkm := List.mem_of_getElem? hkp
      have g := good kp hkm
      have l6 := g.2.2.1
      have kp3 := (hps.mono s3) kp hkm
      have lts := tri_len kp3.2.2
      obtain ⟨kp1, kp2, _⟩ := id kp3
      have lps' : ps'.length ≤ 4 := by
        have e := congrArg List.length nm3
        rw [List.length_map, List.length_map, List.length_map, List.length_take] at e
        omega
      dsimp only [List.set]
      walk_at "rd"
      refine ⟨by show 0 ≤ sizeLine; decide, fun L hL => ?_⟩
      have s4 := same_new (o := .lst []) hL
      have hLl : upd H3 L (.lst []) L = some (.lst []) := upd_same
      generalize upd H3 L (.lst []) = H4 at s4 hLl ⊢
      have kp4 := kp3.mono s4
      obtain ⟨kq1, kq2, _⟩ := id kp4
      walk_at "rd"
      refine Rd.foW Rd.wList (fun j σ H' => ∃ o5 o6, σ = [some (.ref a), some (.ref l), some (.ref D), some (.ref kp.a), some (.ref L), o5, o6] ∧ Same H3 H' ∧ ∃ us, H' L = some (.lst us) ∧ TlAt H' us (tri ((kp.ts.take j).map (imgT (sv xs) kp.n))) ∧ us.length ≤ j)
        ⟨_, _, rfl, s4, [], hLl, .nil, Nat.zero_le _⟩ (fun j σ H' hj ⟨_, _, _, q, _⟩ => SqL.of (q _ _ kp2)) ?_ ?_
      · rintro j y σ H5 hj hy2 ⟨o5, o6, rfl, s5, us, hL5, tl5, lu5⟩
        obtain ⟨ra, r, rfl, hrj, hra0⟩ := tri_at kp3.2.2 hy2
        have hra := s5 _ _ hra0
        have gr := g.2.2.2.2.1 r (List.mem_of_getElem? hrj)
        rw [lts] at hj
        have hkp5 := s5 _ _ kp1
        have fin : ∀ (H6 : Hp) (tp : Addr), Same H5 H6 → H6 tp = some (.tup [V.str (S r.1), V.str (S r.2.1), V.int ((imgT (sv xs) kp.n r).2.2 : Nat)]) → Same H3 (upd H6 L (.lst (us ++ [.ref tp]))) ∧ ∃ us2, upd H6 L (.lst (us ++ [.ref tp])) L = some (.lst us2) ∧ TlAt (upd H6 L (.lst (us ++ [.ref tp]))) us2 (tri ((kp.ts.take (j + 1)).map (imgT (sv xs) kp.n))) ∧ us2.length ≤ j + 1 := fun H6 tp s6 e6 => by
          have hL6 := s6 _ _ hL5
          refine ⟨same_upd (s5.trans s6) hL, _, upd_same, ?_, by rw [List.length_append, List.length_singleton]; omega⟩
          rw [List.take_add_one, hrj, List.map_append]
          show TlAt _ _ (tri (_ ++ [imgT (sv xs) kp.n r]))
          rw [tri_one]
          exact ((tl5.mono s6).one e6).upd fun o e => by rw [hL6] at e; cases e
        have hs5 := hx.mono (s3.trans s5)
        dsimp only [List.set]
        walk_at "rd"
        refine ⟨by show 2 ≤ sizeLine; decide, fun tp htp => ?_⟩
        have stp := same_new (o := .tup [V.str (S kp.n), V.str (S r.1)]) htp
        have etp : SlAt (upd H5 tp (.tup [V.str (S kp.n), V.str (S r.1)])) tp (kp.n, r.1) := upd_same
        generalize upd H5 tp (.tup [V.str (S kp.n), V.str (S r.1)]) = H6 at stp etp ⊢
        have hra6 := stp _ _ hra
        have hL6 := stp _ _ hL5
        walk_at "rd"
        refine in_sl etp ⟨g.1, gr.1⟩ (hs5.mono stp) ?_
        refine ⟨_, rfl, ?_⟩
        by_cases hin : (kp.n, r.1) ∈ sv xs
        · rw [decide_eq_true hin]
          have em : (imgT (sv xs) kp.n r).2.2 = imOf r.2.2 := by
            unfold imgT
            dsimp only
            rw [if_pos hin]
          rw [em] at fin
          walk_at "rd"
          refine ⟨by show 5 ≤ sizeLine; decide, fun z hz => ?_⟩
          have s7 := same_new (o := .lst [V.int 0, V.int 2, V.int 2, V.int 4, V.int 4]) hz
          have e7 : upd H6 z (.lst [V.int 0, V.int 2, V.int 2, V.int 4, V.int 4]) z = some (.lst [V.int 0, V.int 2, V.int 2, V.int 4, V.int 4]) := upd_same
          generalize upd H6 z (.lst [V.int 0, V.int 2, V.int 2, V.int 4, V.int 4]) = H7 at s7 e7 ⊢
          have hra7 := s7 _ _ hra6
          have hL7 := s7 _ _ hL6
          have hix : atI ([V.int 0, V.int 2, V.int 2, V.int 4, V.int 4] : List V) (r.2.2 : Int) = some (.int (imOf r.2.2 : Nat)) := by
            have h5 := gr.2.2
            generalize r.2.2 = m at h5
            have : m = 0 ∨ m = 1 ∨ m = 2 ∨ m = 3 ∨ m = 4 := by omega
            rcases this with rfl | rfl | rfl | rfl | rfl <;> rfl
          walk_at "rd"
          refine ⟨by show 3 ≤ sizeLine; decide, fun tq htq => ?_⟩
          have s8 := same_new (o := .tup [V.str (S r.1), V.str (S r.2.1), V.int (imOf r.2.2 : Nat)]) htq
          have e8 : upd H7 tq (.tup [V.str (S r.1), V.str (S r.2.1), V.int (imOf r.2.2 : Nat)]) tq = some (.tup [V.str (S r.1), V.str (S r.2.1), V.int (imOf r.2.2 : Nat)]) := upd_same
          generalize upd H7 tq (.tup [V.str (S r.1), V.str (S r.2.1), V.int (imOf r.2.2 : Nat)]) = H8 at s8 e8 ⊢
          have hL8 := s8 _ _ hL7
          walk_at "rd"
          obtain ⟨f1, us2, f2, f3, f4⟩ := fin H8 tq ((stp.trans s7).trans s8) e8
          exact ⟨_, _, rfl, f1, us2, f2, f3, f4⟩
        · rw [decide_eq_false hin]
          have em : (imgT (sv xs) kp.n r).2.2 = r.2.2 := by
            unfold imgT
            dsimp only
            rw [if_neg hin]
          rw [em] at fin
          walk_at "rd"
          refine ⟨by show 3 ≤ sizeLine; decide, fun tq htq => ?_⟩
          have s8 := same_new (o := .tup [V.str (S r.1), V.str (S r.2.1), V.int (r.2.2 : Nat)]) htq
          have e8 : upd H6 tq (.tup [V.str (S r.1), V.str (S r.2.1), V.int (r.2.2 : Nat)]) tq = some (.tup [V.str (S r.1), V.str (S r.2.1), V.int (r.2.2 : Nat)]) := upd_same
          generalize upd H6 tq (.tup [V.str (S r.1), V.str (S r.2.1), V.int (r.2.2 : Nat)]) = H8 at s8 e8 ⊢
          have hL8 := s8 _ _ hL6
          walk_at "rd"
          obtain ⟨f1, us2, f2, f3, f4⟩ := fin H8 tq (stp.trans s8) e8
          exact ⟨_, _, rfl, f1, us2, f2, f3, f4⟩
      · rintro σ H5 ⟨o5, o6, rfl, s5, us, hL5, tl5, lu5⟩
        rw [lts, List.take_length] at tl5
        have hD5 := s5 _ _ hD3
        obtain ⟨kr1, kr2, _⟩ := id (kp3.mono s5)
        walk_at "rd"
        refine ⟨by show 2 ≤ sizeLine; decide, fun tp htp => ?_⟩
        have s6 := same_new (o := .tup [V.str (S kp.n), V.ref L]) htp
        have e6 : upd H5 tp (.tup [V.str (S kp.n), V.ref L]) tp = some (.tup [V.str (S kp.n), V.ref L]) := upd_same
        generalize upd H5 tp (.tup [V.str (S kp.n), V.ref L]) = H6 at s6 e6 ⊢
        have s36 := s5.trans s6
        have hD6 := s6 _ _ hD5
        have hL6 := s6 _ _ hL5
        have nLD : L ≠ D := fun e => by rw [e, hD3] at hL; cases hL
        have lpr : (prefs ps').length < sizeLine := by rw [List.length_map]; walk_at "sz"
        walk_at "rd"
        have en : prefs ps' ++ [V.ref tp] = prefs (ps' ++ [⟨tp, kp.n, L, us, kp.ts.map (imgT (sv xs) kp.n)⟩]) := by unfold prefs; rw [List.map_append]; rfl
        rw [en]
        refine ⟨_, _, _, _, rfl, same_upd (s3.trans s36) hD, ps' ++ [⟨tp, kp.n, L, us, kp.ts.map (imgT (sv xs) kp.n)⟩], upd_same, fun k hk => ?_, fun k hk => ?_, ?_⟩
        · rcases List.mem_append.mp hk with z | z
          · exact ((kps3.mono s36) k z).updL hD6 (nl3 k z)
          · rw [List.mem_singleton.mp z]
            exact KpOk.updL ⟨e6, hL6, tl5.mono s6⟩ hD6 nLD
        · rcases List.mem_append.mp hk with z | z
          · exact nl3 k z
          · rw [List.mem_singleton.mp z]; exact nLD
        · rw [List.map_append, nm3, List.take_add_one, hkp, List.map_append, List.map_append]
          rfl
    · rintro σ H3 ⟨o3, o4, o5, o6, rfl, s3, ps', hD3, kps3, nl3, nm3⟩
      rw [lP, List.take_length] at nm3
      walk_at "rd"
      exact k D ps' H3 hD s3 hD3 kps3 nm3

end
section
variable {P : Program} {w : World} {K : PySem.W.Frag} {mg : Str → Option Value} {base : Heap} {tk : Tok}
/-! ### dangers with images; slots under draws -/
structure IsC (K : PySem.W.Frag) (C : Addr) : Prop where
  ca : PySem.W.findIn K (.ref C) "__class__" = some (some (.builtin "object.__class__"))
  gn : PySem.W.specialIn K (.builtin "object.__class__") "__get__" = some (some (.builtin "getset_descriptor.__get__"))
  tk : PySem.W.takesIn K (.builtin "object.__class__") = some true
  mo : PySem.W.mroIn K C (.type "object") = some true
  me : PySem.W.kitOne K (.ref C) (.ref C) = some true
abbrev UpW (vs : List Rw) : Prop := vs.Pairwise fun a b => rlt a b = true
theorem up_uniq : ∀ {as bs : List Rw}, UpW as → UpW bs → (∀ v, v ∈ as ↔ v ∈ bs) → as = bs
  | [], [], _, _, _ => rfl
  | [], b :: bs, _, _, m => absurd ((m b).mpr List.mem_cons_self) List.not_mem_nil
  | a :: as, [], _, _, m => absurd ((m a).mp List.mem_cons_self) List.not_mem_nil
  | a :: as, b :: bs, ha, hb, m => by
    obtain ⟨h1, h2⟩ := List.pairwise_cons.mp ha
    obtain ⟨g1, g2⟩ := List.pairwise_cons.mp hb
    have e : a = b := by
      rcases List.mem_cons.mp ((m a).mp List.mem_cons_self) with e | e
      · exact e
      · rcases List.mem_cons.mp ((m b).mpr List.mem_cons_self) with e2 | e2
        · exact e2.symm
        · have := rlt_tr _ _ _ (h1 _ e2) (g1 _ e)
          rw [rlt_irr] at this; cases this
    subst e
    rw [up_uniq h2 g2 fun v => ⟨fun hv => ?_, fun hv => ?_⟩]
    · rcases List.mem_cons.mp ((m v).mp (List.mem_cons_of_mem _ hv)) with e | e
      · have := h1 v hv
        rw [e, rlt_irr] at this; cases this
      · exact e
    · rcases List.mem_cons.mp ((m v).mpr (List.mem_cons_of_mem _ hv)) with e | e
      · have := g1 v hv
        rw [e, rlt_irr] at this; cases this
      · exact e
theorem ks_good {ks : List Kd} {ps : List Kp} {D : Addr} {C : Nat → Addr} {H : Hp} (e : ks.map ntOf = ps.map ntP) (g : ∀ k ∈ ps, KpGood k) (l4 : ps.length ≤ 4) (nd : (ps.map (·.n)).Nodup) : KsGood ks := by
  refine ⟨by rw [ks_len e]; exact l4, fun k hk => ?_, by rw [ks_names e]; exact nd, fun k hk => ?_, fun k hk => ?_⟩
  all_goals
    obtain ⟨p, hp, e2⟩ := ks_mem e hk
    have gp := g p hp
    have en : k.n = p.n := congrArg Prod.fst e2
    have et : trs k.rs = p.ts := congrArg Prod.snd e2
  · have h := gp.2.2.1
    rw [← et] at h
    unfold trs at h
    rw [List.length_map] at h
    exact h
  · have h := gp.2.2.2.1
    rw [← et] at h
    unfold trs at h
    rw [List.map_map] at h
    exact h
  · refine ⟨by rw [en]; exact gp.1, fun r hr => ?_⟩
    have h := gp.2.2.2.2.1 (r.n, r.g, r.m) (by rw [← et]; exact List.mem_map.mpr ⟨r, hr, rfl⟩)
    exact h
theorem cutV_from (xs : List V) (i : Nat) : cutV xs (some (i : Int)) none = xs.drop i := by
  unfold cutV
  rw [sIx_ge (by omega)]
  show (xs.drop (min (i : Int).toNat xs.length)).take (xs.length - min (i : Int).toNat xs.length) = xs.drop i
  rw [Int.toNat_natCast]
  by_cases h : i ≤ xs.length
  · rw [Nat.min_eq_left h, List.take_of_length_le (by rw [List.length_drop]; omega)]
  · rw [Nat.min_eq_right (by omega), List.drop_of_length_le (Nat.le_refl _), List.drop_of_length_le (by omega), List.take_nil]
theorem imgZ_congr {a b : List Sl} (h : ∀ q, q ∈ a ↔ q ∈ b) : imgZ a = imgZ b := by
  funext z
  unfold imgZ
  congr 1
  refine List.map_congr_left fun r _ => ?_
  unfold imgT
  by_cases c : (z.1, r.1) ∈ a
  · rw [if_pos c, if_pos ((h _).mp c)]
  · rw [if_neg c, if_neg fun y => c ((h _).mpr y)]
theorem imgZ_nil (z : NT) : imgZ [] z = z := by
  unfold imgZ imgT
  simp
theorem img_mg {zs : List NT} {sl : List Sl} (m5 : ∀ z ∈ zs, ∀ r ∈ z.2, r.2.2 < 5) {g : List Nat} : Mg (zs.map (imgZ sl)) g ↔ Mg zs g := by
  constructor
  · rintro ⟨z', hz', r', hr', hb, rfl⟩
    obtain ⟨z, hz, rfl⟩ := List.mem_map.mp hz'
    obtain ⟨r, hr, rfl⟩ := List.mem_map.mp hr'
    exact ⟨z, hz, r, hr, by rw [← imgT_mk (sl := sl) (n := z.1) (m5 z hz r hr)]; exact hb, rfl⟩
  · rintro ⟨z, hz, r, hr, hb, rfl⟩
    exact ⟨imgZ sl z, List.mem_map.mpr ⟨z, hz, rfl⟩, imgT sl z.1 r, List.mem_map.mpr ⟨r, hr, rfl⟩, by rw [imgT_mk (m5 z hz r hr)]; exact hb, rfl⟩
theorem imgT_rd {sl : List Sl} {n : List Nat} {r : Tri} (h : r.2.2 < 5) : rdB (imgT sl n r).2.2 = rdB r.2.2 := by
  unfold imgT
  dsimp only
  split
  · exact im_rd h
  · rfl
theorem imgT_dv {sl : List Sl} {n : List Nat} {r : Tri} (h : r.2.2 < 5) : dvB (imgT sl n r).2.2 = true ↔ dvB r.2.2 = true ∧ (n, r.1) ∉ sl := by
  unfold imgT
  dsimp only
  by_cases c : (n, r.1) ∈ sl
  · rw [if_pos c, im_dv h]
    exact ⟨fun z => absurd z (by decide), fun z => absurd c z.2⟩
  · rw [if_neg c]
    exact ⟨fun z => ⟨z, c⟩, fun z => z.1⟩
theorem img_dg {zs : List NT} {sl : List Sl} (m5 : ∀ z ∈ zs, ∀ r ∈ z.2, r.2.2 < 5) {v : Rw} : IsD (zs.map (imgZ sl)) v ↔ IsD zs v ∧ (v.1, v.2.2) ∉ sl := by
  constructor
  · rintro ⟨z', hz', f', hf', s', hs', e, b1, b2, b3, b4⟩
    obtain ⟨z, hz, rfl⟩ := List.mem_map.mp hz'
    obtain ⟨f, hf, rfl⟩ := List.mem_map.mp hf'
    obtain ⟨s, hs, rfl⟩ := List.mem_map.mp hs'
    obtain ⟨b2, b5⟩ := (imgT_dv (m5 z hz s hs)).mp b2
    rw [imgT_rd (m5 z hz f hf)] at b1
    subst e
    exact ⟨⟨z, hz, f, hf, s, hs, rfl, b1, b2, b3, (img_mg m5).mp b4⟩, b5⟩
  · rintro ⟨⟨z, hz, f, hf, s, hs, e, b1, b2, b3, b4⟩, b5⟩
    subst e
    exact ⟨imgZ sl z, List.mem_map.mpr ⟨z, hz, rfl⟩, imgT sl z.1 f, List.mem_map.mpr ⟨f, hf, rfl⟩, imgT sl z.1 s, List.mem_map.mpr ⟨s, hs, rfl⟩, rfl, by rw [imgT_rd (m5 z hz f hf)]; exact b1, (imgT_dv (m5 z hz s hs)).mpr ⟨b2, b5⟩, b3, (img_mg m5).mpr b4⟩
theorem good_img {ps ps' : List Kp} {sl : List Sl} (g : ∀ k ∈ ps, KpGood k) (e : ps'.map ntP = (ps.map ntP).map (imgZ sl)) : ∀ k ∈ ps', KpGood k := fun k' hk' => by
  have h1 : ntP k' ∈ (ps.map ntP).map (imgZ sl) := by rw [← e]; exact List.mem_map.mpr ⟨k', hk', rfl⟩
  obtain ⟨z, hz, e2⟩ := List.mem_map.mp h1
  obtain ⟨k, hk, rfl⟩ := List.mem_map.mp hz
  obtain ⟨g1, g2, g3, g4, g5, r, hr, g6⟩ := g k hk
  have en : k.n = k'.n := congrArg Prod.fst e2
  have et : k.ts.map (imgT sl k.n) = k'.ts := congrArg Prod.snd e2
  refine ⟨en ▸ g1, ?_, ?_, ?_, ?_, ?_⟩
  · rw [← et, List.length_map]; exact g2
  · rw [← et, List.length_map]; exact g3
  · rw [← et, List.map_map]; exact g4
  · rw [← et]
    intro x hx
    obtain ⟨y, hy, rfl⟩ := List.mem_map.mp hx
    have h := g5 y hy
    exact ⟨h.1, h.2.1, imgT_lt h.2.2⟩
  · refine ⟨imgT sl k.n r, by rw [← et]; exact List.mem_map.mpr ⟨r, hr, rfl⟩, ?_⟩
    have h5 := (g5 r hr).2.2
    have hm := imgT_mk (sl := sl) (n := k.n) h5
    have h6 : mkB r.2.2 = true := decide_eq_true ⟨g6, by omega⟩
    rw [h6] at hm
    have := of_decide_eq_true hm
    omega
theorem Sls.drawn {H H' : Hp} {l p : Addr} {xs : List Sr} (h : Sls H l xs) (hp : PoolAt H p) (e : ∀ b, b ≠ p → H' b = H b) (n : l ≠ p) : Sls H' l xs := by
  refine ⟨by rw [e l n]; exact h.at_, fun x hx => ?_, h.nm⟩
  have h1 := h.ok x hx
  unfold SlAt at h1 ⊢
  rw [e _ fun z => ?_]
  · exact h1
  · rw [z] at h1
    exact pool_tup hp _ h1
theorem Sls.updL {H : Hp} {l D : Addr} {xs : List Sr} {zs ys : List V} (h : Sls H l xs) (hD : H D = some (.lst zs)) (n : l ≠ D) : Sls (upd H D (.lst ys)) l xs := by
  refine ⟨by rw [upd_ne n]; exact h.at_, fun x hx => ?_, h.nm⟩
  have h1 := h.ok x hx
  unfold SlAt at h1 ⊢
  rw [upd_ne fun z => by rw [z, hD] at h1; cases h1]
  exact h1
theorem Sls.of {H : Hp} {l : Addr} {xs : List Sr} (h : H l = some (.lst (srefs xs))) (ok : ∀ x ∈ xs, SlAt H x.1 x.2 ∧ slOk x.2) : Sls H l xs := ⟨h, fun x hx => (ok x hx).1, fun x hx => (ok x hx).2⟩
theorem ne_sls {H : Hp} {Q : VK} {a b : Addr} {xs : List Sr} (h1 : Sls H a xs) (h2 : H b = some (.lst (srefs xs))) (q : Q (.bl false) H) : rNeA K (.ref a) (.ref b) H Q :=
  Rd.neD (.lst (SqL.of h1.at_) (ss_dp h1.ok)) (.lst (SqL.of h2) (ss_dp h1.ok)) (ss_sh h1.nm) (ss_sh h1.nm) (by
    have h := ss_sh h1.nm
    unfold SeqAt.shaped at h
    rw [Bool.and_eq_true] at h
    rw [SeqAt.eqv_refl _ h.1]; exact q)
/-- what stands while slots are drawn: the pool p, all slots at l0, those drawn at L -/
structure Sin (H4 : Hp) (p l0 : Addr) (xs : List Sr) (L : Addr) (ys : List Sr) (i : Nat) (H' : Hp) : Prop where
  sm : Same H4 H'
  pl : PoolAt H' p
  s0 : Sls H' l0 xs
  sL : Sls H' L ys
  nL : H4 L = none
  np : H4 p = none
  Lp : L ≠ p
  Ll : L ≠ l0
  lp : l0 ≠ p
  ln : ys.length ≤ i
  sub : ∀ y ∈ ys, y ∈ xs
section
variable {H4 : Hp} {p l0 : Addr} {xs : List Sr} {L : Addr} {ys : List Sr} {i : Nat} {H' H'' : Hp}
theorem Sin.drawn (h : Sin H4 p l0 xs L ys i H') (e : ∀ b, b ≠ p → H'' b = H' b) (q : PoolAt H'' p) : Sin H4 p l0 xs L ys i H'' :=
  ⟨fun b o z => by rw [e b (ne_of_none z h.np)]; exact h.sm b o z, q, h.s0.drawn h.pl e h.lp, h.sL.drawn h.pl e h.Lp, h.nL, h.np, h.Lp, h.Ll, h.lp, h.ln, h.sub⟩
theorem Sin.same (h : Sin H4 p l0 xs L ys i H') (e : Same H' H'') : Sin H4 p l0 xs L ys i H'' :=
  ⟨h.sm.trans e, pool_of h.pl e, h.s0.mono e, h.sL.mono e, h.nL, h.np, h.Lp, h.Ll, h.lp, h.ln, h.sub⟩
theorem Sin.next (h : Sin H4 p l0 xs L ys i H') : Sin H4 p l0 xs L ys (i + 1) H' := ⟨h.sm, h.pl, h.s0, h.sL, h.nL, h.np, h.Lp, h.Ll, h.lp, Nat.le_succ_of_le h.ln, h.sub⟩
theorem Sin.app (h : Sin H4 p l0 xs L ys i H') {x : Sr} (hx : x ∈ xs) : Sin H4 p l0 xs L (ys ++ [x]) (i + 1) (upd H' L (.lst (srefs ys ++ [.ref x.1]))) :=
  ⟨same_upd h.sm h.nL, h.pl.upd (Ne.symm h.Lp), h.s0.updL h.sL.at_ (Ne.symm h.Ll), h.sL.app (h.s0.ok x hx) (h.s0.nm x hx) rfl, h.nL, h.np, h.Lp, h.Ll, h.lp, by rw [List.length_append, List.length_singleton]; exact Nat.succ_le_succ h.ln, fun y hy => by
    rcases List.mem_append.mp hy with z | z
    · exact h.sub y z
    · rw [List.mem_singleton.mp z]; exact hx⟩
theorem Sin.new (h : Sin H4 p l0 xs L ys i H') {x : Sr} (hx : x ∈ xs) {W : Addr} (hW : H' W = none) (e : H'' = upd H' W (.lst (srefs (x :: ys)))) : Sin H4 p l0 xs W (x :: ys) (i + 1) H'' := by
  subst e
  have s := same_new (o := .lst (srefs (x :: ys))) hW
  have h' := h.same s
  refine ⟨h'.sm, h'.pl, h'.s0, ⟨upd_same, fun y hy => ?_, fun y hy => ?_⟩, none_same h.sm hW, h.np, fun z => (pool_ne h.pl hW) z.symm, fun z => (ne_of_none h.s0.at_ hW) z.symm, h.lp, Nat.succ_le_succ h.ln, fun y hy => ?_⟩
  all_goals
    rcases List.mem_cons.mp hy with z | z
    rw [z]
  · exact h'.s0.ok x hx
  · exact h'.sL.ok y z
  · exact h.s0.nm x hx
  · exact h.sL.nm y z
  · exact hx
  · exact h.sub y z
end
theorem srt_mem {xs ys : List Rr} (sub : ∀ y ∈ ys, y ∈ xs) (all : ∀ x ∈ xs, x.2 ∈ ys.map (·.2)) : ∀ v, v ∈ vr ys ↔ v ∈ vr xs := fun v => by
  constructor
  · intro h
    obtain ⟨q, hq, rfl⟩ := List.mem_map.mp h
    exact List.mem_map.mpr ⟨q, sub q hq, rfl⟩
  · intro h
    obtain ⟨q, hq, rfl⟩ := List.mem_map.mp h
    exact all q hq
theorem eqKts {H : Hp} {Q : VK} {a b : Addr} {L M : List Kt} (h1 : H a = some (.lst (trefs L))) (h2 : H b = some (.lst (trefs M))) (t1 : ∀ k ∈ L, KtOk H k) (t2 : ∀ k ∈ M, KtOk H k) (e : L.map (·.z) = M.map (·.z)) (g : ∀ z ∈ M.map (·.z), NtOk z) (q : Q (.bl true) H) : rEqA K (.ref a) (.ref b) H Q := by
  have gM : ∀ k ∈ M, NtOk k.z := fun k hk => g _ (List.mem_map.mpr ⟨k, hk, rfl⟩)
  have gL : ∀ k ∈ L, NtOk k.z := fun k hk => g _ (by rw [← e]; exact List.mem_map.mpr ⟨k, hk, rfl⟩)
  have d1 := kts_dp (K := K) fun k hk => ⟨t1 k hk, gL k hk⟩
  have d2 := kts_dp (K := K) fun k hk => ⟨t2 k hk, gM k hk⟩
  have e2 : (M.map fun k => datK k.z) = (L.map fun k => datK k.z) := by
    have h := congrArg (List.map datK) e
    rw [List.map_map, List.map_map] at h
    exact h.symm
  have sM : SeqAt.shaped (.list (M.map fun k => datK k.z)) = true := by
    have h := sh_datKs g
    rw [List.map_map] at h
    exact h
  refine Rd.eqD (.lst (SqL.of h1) d1) (.lst (SqL.of h2) d2) (e2 ▸ sM) sM ?_
  rw [e2]
  have h := sM
  unfold SeqAt.shaped at h
  rw [Bool.and_eq_true, e2] at h
  rw [SeqAt.eqv_refl _ h.1]
  exact q

end
section
variable {P : Program} {w : World} {K : PySem.W.Frag} {mg : Str → Option Value} {base : Heap} {tk : Tok}
/-! ### the law -/
def spLaw (K : PySem.W.Frag) : Sp := fun vs H Q _ => ∃ (a : Addr) (ns : List Int), vs = [.ref a] ∧ SqL K H a (ns.map V.int) ∧ ns.length ≤ 63 ∧ ∀ H', Q (.bl true) H'
abbrev s_law : Stmt := top 49
theorem sc_law : FnScope ["_law_script", "_law_kinds_here", "_law_catalog_here", "_law_pool_here", "_law_slots_here", "_law_slot", "_law_given", "_law_kept", "_law_after", "_law_told_here", "_law_left", "_law_row"] ["_law_script"] (defScope s_law) := ⟨rfl, rfl, rfl, by decide +kernel, rfl, by decide +kernel, by decide +kernel⟩
abbrev DLaw (K : PySem.W.Frag) (mg : Str → Option Value) := Df K mg "law" "law" s_law ["_law_script"]
theorem ok_law {mI mK mC mW : Addr} (d : DLaw K mg) (T : Bt mg) (c : Six K mg mI) (kc : Kc K mg mK) (cc : Cc K mg mC) (wc : Wc K mg mW) (ic : IsC K cc.C) (dP : DPool K mg) (dD : DDraw K mg) (dKs : DKs K mg) (dCa : DCa K mg) (dLs : DLs K mg) (dIg : DIg K mg) (dWi : DWi K mg) (dTo : DTo K mg) (dPl : DPl K mg) (dDg : DDg K mg) (dSo : DSo K mg) (dLg : DLg K mg)
    (GP : FnOk P w K mg base CX0 1 dP.f dP.fd ["_law_script", "_law_k"] (spPool K)) (GD : FnOk P w K mg base CX0 1 dD.f dD.fd ["_law_pool_here", "_law_many"] spDraw) (GKs : FnOk P w K mg base CX0 3 dKs.f dKs.fd ["_law_script", "_law_wide", "_law_sizes"] (spKinds K))
    (GCa : FnOk P w K mg base CX0 8 dCa.f dCa.fd ["_law_kinds_here"] (spCatalog cc.C kc.C c.C)) (GLs : FnOk P w K mg base CX0 2 dLs.f dLs.fd ["_law_kinds_here"] spLSlots) (GIg : FnOk P w K mg base CX0 2 dIg.f dIg.fd ["_law_kinds_here", "_law_slots_here"] spLImaged)
    (GWi : FnOk P w K mg base CX0 7 dWi.f dWi.fd ["catalog", "slots"] (spWith cc.C kc.C c.C)) (GTo : FnOk P w K mg base CX0 2 dTo.f dTo.fd ["_law_catalog_here"] (spToldL cc.C kc.C c.C)) (GPl : FnOk P w K mg base CX0 1 dPl.f dPl.fd ["_law_kinds_here"] spPlainL)
    (GDg : FnOk P w K mg base CX0 5 dDg.f dDg.fd ["catalog"] (spDangers wc.C cc.C kc.C c.C)) (GSo : FnOk P w K mg base CX0 1 dSo.f dSo.fd ["_law_rows"] (spSort (ordR K))) (GLg : FnOk P w K mg base CX0 3 dLg.f dLg.fd ["_law_kinds_here"] spLDangers) :
    FnOk P w K mg base CX0 9 d.f d.fd ["_law_script"] (spLaw K) := by
  refine d.F.ok sc_law (fun vs H Q E h => ?_) (fun cdv A outer s H vs Q E hr h => ?_)
  · obtain ⟨a, ns, rfl, _⟩ := h
    rfl
  · obtain ⟨a, ns, rfl, hS, hl, k⟩ := h
    have hu := hr.units
    have hu2 := u65 hr
    have hr1 : Room 1 _ := hr.mono (by decide)
    have hr2 : Room 2 _ := hr.mono (by decide)
    have hr3 : Room 3 _ := hr.mono (by decide)
    have hr5 : Room 5 _ := hr.mono (by decide)
    have hr7 : Room 7 _ := hr.mono (by decide)
    have hr8 : Room 8 _ := hr.mono (by decide)
    refine ⟨_, (pss_cons (ps_set (i := 1) sc_law.nd rfl (Or.inl rfl) (pe_cf dKs GKs hr3 pass0 (pa_cons (pv 0) (pa_cons pe_int (pa_cons (pe_lst (pa_cons pe_int (pa_cons pe_int (pa_cons pe_int (pa_cons pe_int (pa_cons pe_int (pa_cons pe_int (pa_cons pe_int (pa_cons pe_int (pa_cons pe_int (pa_cons pe_int pa_nil))))))))))) pa_nil)))))
  (pss_cons (ps_set (i := 2) sc_law.nd rfl (Or.inl rfl) (pe_cf dCa GCa hr8 pass0 (pa_cons (pv 1) pa_nil)))
  (pss_cons (ps_set (i := 3) sc_law.nd rfl (Or.inl rfl) (pe_cf dP GP hr1 pass0 (pa_cons (pv 0) (pa_cons pe_int pa_nil))))
  (pss_cons (ps_set (i := 4) sc_law.nd rfl (Or.inr rfl) (pe_lst pa_nil))
  (pss_cons (ps_for PassesOwn.never rfl (kpl K (pe_cf dLs GLs hr2 pass0 (pa_cons (pv 1) pa_nil))) (pg_name (i := 5) sc_law.nd rfl (Or.inl rfl))
  (pss_one (ps_if (pt_cmpR (keq K hu) (pe_cf dD GD hr1 pass0 (pa_cons (pv 3) (pa_cons pe_int pa_nil))) pe_int (nomark _)) (pss_one (ps_set (i := 4) sc_law.nd rfl (Or.inr rfl) (pe_op op_addA (pe_lst (pa_cons (pv 5) pa_nil)) (pv 4))))
  (pss_one (ps_if (pt_cmpR (keq K hu) (pe_cf dD GD hr1 pass0 (pa_cons (pv 3) (pa_cons pe_int pa_nil))) pe_int (nomark _)) (pss_one (ps_expr (kapp K (pv 4) (pa_cons (pv 5) pa_nil))))
  pss_nil)))))
  (pss_cons (ps_set (i := 6) sc_law.nd rfl (Or.inl rfl) (pe_op op_addA (pe_callTy (klist K) (by rfl) T.list (by decide +kernel) (pa_cons (pv 4) pa_nil)) (pe_slice (ksl K) (pv 4) po_none (po_some pe_int))))
  (pss_cons (ps_if (PW.pt (pw_and (pt_cmpR op_gtI (pe_callB (klen K) (by rfl) T.len (by decide +kernel) (pa_cons (pv 4) pa_nil)) pe_int (nomark _)) (pw_and1 (pt_cmpR (keq K hu) (pe_cf dD GD hr1 pass0 (pa_cons (pv 3) (pa_cons pe_int pa_nil))) pe_int (nomark _))))) (pss_one (ps_set (i := 6) sc_law.nd rfl (Or.inl rfl) (pe_op op_addA (pe_slice (ksl K) (pv 4) (po_some pe_int) po_none) (pe_lst (pa_cons (pe_ix (kix K) (pv 4) pe_int (fun _ _ => rfl)) pa_nil)))))
  pss_nil)
  (pss_cons (ps_set (i := 7) sc_law.nd rfl (Or.inl rfl) (pe_callTy (klist K) (by rfl) T.list (by decide +kernel) (pa_cons (pv 6) pa_nil)))
  (pss_cons (ps_set (i := 8) sc_law.nd rfl (Or.inl rfl) (pe_cf dIg GIg hr2 pass0 (pa_cons (pv 1) (pa_cons (pv 4) pa_nil))))
  (pss_cons (ps_set (i := 9) sc_law.nd rfl (Or.inl rfl) (pe_cf dWi GWi hr7 pass0 (pa_cons (pv 2) (pa_cons (pv 6) pa_nil))))
  (pss_cons (ps_if (PW.pt (pw_or (pt_not (pt_val (pe_callB (kisi K) (by rfl) T.isinstance (by decide +kernel) (pa_cons (pv 9) (pa_cons (pe_glob (v := .ref cc.C) rfl cc.g rfl) pa_nil))))) (pw_or1 (pt_cmpR (kne K hu) (pv 6) (pv 7) (nomark _))))) (pss_one (ps_ret pe_bl))
  pss_nil)
  (pss_cons (ps_if (pt_cmpR (kne K hu) (pe_cf dTo GTo hr2 pass0 (pa_cons (pv 9) pa_nil)) (pe_cf dPl GPl hr1 pass0 (pa_cons (pv 8) pa_nil)) (nomark _)) (pss_one (ps_ret pe_bl))
  pss_nil)
  (pss_cons (ps_if (pt_cmpR (kne K hu) (kfld K (pe_cf dDg GDg hr5 pass0 (pa_cons (pv 2) pa_nil))) (pe_callTy (ktuple K) (by rfl) T.tuple (by decide +kernel) (pa_cons (pe_cf dSo GSo hr1 pass0 (pa_cons (pe_cf dLg GLg hr3 pass0 (pa_cons (pv 1) pa_nil)) pa_nil)) pa_nil)) (nomark _)) (pss_one (ps_ret pe_bl))
  pss_nil)
  (pss_cons (ps_setLc (i := 10) (own := [("_law_row", 11)]) (g := gName 11) rfl sc_law.nd rfl rfl (sw_true rfl rfl rfl (by decide +kernel)) (kpl K (pe_cf dLg GLg hr3 pass0 (pa_cons (pv 1) pa_nil))) (blkOk_by (N := ["_law_script", "_law_kinds_here", "_law_catalog_here", "_law_pool_here", "_law_slots_here", "_law_slot", "_law_given", "_law_kept", "_law_after", "_law_told_here", "_law_left", "_law_row"]) (sc := defScope s_law) (by decide +kernel)) (fun _ _ _ _ _ => (pg_name (i := 11) sc_law.nd rfl (Or.inl rfl))) (fun _ _ _ _ _ => (pts_one (pt_cmpR (kninD K hu hu2) (pe_tup (pa_cons (pe_ix (kix K) (pv 11) pe_int (fun _ _ => rfl)) (pa_cons (pe_ix (kix K) (pv 11) pe_int (fun _ _ => rfl)) pa_nil))) (pv 4) rfl))) (fun _ _ _ _ _ => (pv 11)))
  (pss_cons (ps_if (pt_cmpR (kne K hu) (pe_cf dSo GSo hr1 pass0 (pa_cons (pv 10) pa_nil)) (pe_cf dSo GSo hr1 pass0 (pa_cons (pe_cf dLg GLg hr3 pass0 (pa_cons (pv 8) pa_nil)) pa_nil)) (nomark _)) (pss_one (ps_ret pe_bl))
  pss_nil)
  (pss_cons (ps_if (pt_cmpR (kne K hu) (kfld K (pe_cf dDg GDg hr5 pass0 (pa_cons (pv 9) pa_nil))) (pe_callTy (ktuple K) (by rfl) T.tuple (by decide +kernel) (pa_cons (pe_cf dSo GSo hr1 pass0 (pa_cons (pv 10) pa_nil)) pa_nil)) (nomark _)) (pss_one (ps_ret pe_bl))
  pss_nil)
  (pss_cons (ps_if (pt_cmpR (kne K hu) (pe_cf dTo GTo hr2 pass0 (pa_cons (pe_cf dWi GWi hr7 pass0 (pa_cons (pv 2) (pa_cons (pe_lst pa_nil) pa_nil))) pa_nil)) (pe_cf dPl GPl hr1 pass0 (pa_cons (pv 1) pa_nil)) (nomark _)) (pss_one (ps_ret pe_bl))
  pss_nil)
  (pss_one (ps_ret (pe_cmpR (keq K hu) (pe_cf dTo GTo hr2 pass0 (pa_cons (pv 2) pa_nil)) (pe_cf dPl GPl hr1 pass0 (pa_cons (pv 1) pa_nil)) (nomark _))))))))))))))))))))), ?_⟩
    refine Rd.start_ (σ' := [some (.ref a), none, none, none, none, none, none, none, none, none, none, none]) rfl ?_
    walk_at "rd"
    refine ⟨by show 10 ≤ sizeLine; decide, fun z hz => ?_⟩
    have s1 := same_new (o := .lst [V.int 1, V.int 2, V.int 2, V.int 2, V.int 3, V.int 3, V.int 3, V.int 4, V.int 5, V.int 6]) hz
    have z1 : upd H z (.lst [V.int 1, V.int 2, V.int 2, V.int 2, V.int 3, V.int 3, V.int 3, V.int 4, V.int 5, V.int 6]) z = some (.lst [V.int 1, V.int 2, V.int 2, V.int 2, V.int 3, V.int 3, V.int 3, V.int 4, V.int 5, V.int 6]) := upd_same
    generalize upd H z (.lst [V.int 1, V.int 2, V.int 2, V.int 2, V.int 3, V.int 3, V.int 3, V.int 4, V.int 5, V.int 6]) = H1 at s1 z1 ⊢
    refine ⟨a, z, ns, [1, 2, 2, 2, 3, 3, 3, 4, 5, 6], 8, rfl, s1.seq hS, hl, by decide, by decide, SqL.of z1, by decide, by decide, by decide, fun R ps H2 hR2 s2 hR hps l4 good hsz nd => ?_⟩
    have s02 := s1.trans s2
    have lP : (prefs ps).length = ps.length := List.length_map ..
    have plain5 : ∀ k ∈ ps, k.ts.length ≤ 6 ∧ ∀ r ∈ k.ts, r.2.2 < 5 := fun k hk => ⟨(good k hk).2.2.1, fun r hr' => ((good k hk).2.2.2.2.1 r hr').2.2⟩
    have m5 : ∀ z ∈ ps.map ntP, ∀ r ∈ z.2, r.2.2 < 5 := fun z hz r hr' => by
      obtain ⟨k, hk, rfl⟩ := List.mem_map.mp hz
      exact (plain5 k hk).2 r hr'
    walk_at "rd"
    refine ⟨R, ps, rfl, hR, hps, by omega, good, nd, fun pc pt ks H4 hp4 s4 cat hks e => ?_⟩
    have s04 := s02.trans s4
    have hR4 := s4 _ _ hR
    have hps4 := hps.mono s4
    have kg := ks_good (D := kc.C) (C := c.C) (H := H4) e good l4 nd
    have kok : ∀ k ∈ ks, KindOk k.rs := fun k hk => by
      obtain ⟨p, hp, e2⟩ := ks_mem e hk
      exact good_kind (good p hp) (congrArg Prod.snd e2) (hks k hk).2.2
    clear hR hps s2 s1 z1 hz hR2
    walk_at "rd"
    refine ⟨a, ns, 0, rfl, s04.seq hS, hl, by decide, by decide, fun p H5 hp5 s5 p5 => ?_⟩
    walk_at "rd"
    refine ⟨by show 0 ≤ sizeLine; decide, fun L0 hL0 => ?_⟩
    have s6 := same_new (o := .lst []) hL0
    have hL6 : upd H5 L0 (.lst []) L0 = some (.lst []) := upd_same
    have nL0p : L0 ≠ p := fun y => (pool_ne p5 hL0) y.symm
    have p6 := pool_of p5 s6
    have nL0 : H4 L0 = none := none_same s5 hL0
    show tSeq _ _ _ _ (upd H5 L0 (.lst []))
    generalize upd H5 L0 (.lst []) = H6 at s6 hL6 p6 ⊢
    have s46 := s5.trans s6
    walk_at "rd"
    refine ⟨R, ps, rfl, s46 _ _ hR4, hps4.mono s46, l4, good, fun l0 xs H7 hl7 s7 sx lxs inz => ?_⟩
    have lxs' : (srefs xs).length = xs.length := List.length_map ..
    have nl0p : l0 ≠ p := fun y => (pool_ne p6 hl7) y.symm
    have in0 : Sin H4 p l0 xs L0 [] 0 H7 := ⟨s46.trans s7, pool_of p6 s7, sx, ⟨s7 _ _ hL6, fun y hy => absurd hy List.not_mem_nil, fun y hy => absurd hy List.not_mem_nil⟩, nL0, hp5, nL0p, ne_of_none hL6 hl7, nl0p, Nat.le_refl _, fun y hy => absurd hy List.not_mem_nil⟩
    clear sx hL6 s46 s6 s7 p6 p5 s5
    dsimp only
    refine Rd.exlist (SqL.of in0.s0.at_) ?_
    refine Rd.foW Rd.wList (fun i σ H' => ∃ (L : Addr) (ys : List Sr) (o5 : Option V), σ = [some (.ref a), some (.ref R), some (.ref pc), some (.ref p), some (.ref L), o5, none, none, none, none, none, none] ∧ Sin H4 p l0 xs L ys i H')
      ⟨L0, [], _, rfl, in0⟩ (fun i σ H' hi ⟨_, _, _, _, q⟩ => SqL.of q.s0.at_) ?_ ?_
    · rintro i y σ G hi hy ⟨L, ys, o5, rfl, q⟩
      obtain ⟨x, hxi, rfl⟩ := sref_at hy
      have hxm := List.mem_of_getElem? hxi
      rw [lxs'] at hi
      have lys : (srefs ys).length = ys.length := List.length_map ..
      have lny := q.ln
      dsimp only [List.set]
      walk_at "rd"
      refine ⟨p, 2, rfl, by decide, by decide, q.pl, fun rv G1 r0 r1 e1 p1 => ?_⟩
      have q1 := q.drawn e1 p1
      walk_at "rd"
      refine Rd.iteD (fun c1 => ?_) (fun c1 => ?_)
      · walk_at "rd"
        refine ⟨by show 1 ≤ sizeLine; decide, fun tl htl => ?_⟩
        have s2 := same_new (o := .lst [V.ref x.1]) htl
        have e2 : upd G1 tl (.lst [V.ref x.1]) tl = some (.lst [V.ref x.1]) := upd_same
        have q2 := q1.same s2
        generalize upd G1 tl (.lst [V.ref x.1]) = G2 at s2 e2 q2 ⊢
        walk_at "rd"
        refine Rd.addL e2 q2.sL.at_ (by rw [lys]; show 1 + ys.length ≤ sizeLine; walk_at "sz") fun W hW => ?_
        walk_at "rd"
        exact ⟨W, x :: ys, _, rfl, q2.new hxm hW rfl⟩
      · walk_at "rd"
        refine ⟨p, 4, rfl, by decide, by decide, q1.pl, fun rv2 G2 r02 r12 e2 p2 => ?_⟩
        have q2 := q1.drawn e2 p2
        walk_at "rd"
        refine Rd.iteD (fun c2 => ?_) (fun c2 => ?_)
        · have hL2 := q2.sL.at_
          walk_at "rd"
          exact ⟨L, ys ++ [x], _, rfl, q2.app hxm⟩
        · walk_at "rd"
          exact ⟨L, ys, _, rfl, q2.next⟩
    · rintro σ G ⟨L, ys, o5, rfl, q⟩
      have lys : (srefs ys).length = ys.length := List.length_map ..
      have lny := q.ln
      rw [lxs'] at lny
      walk_at "rd"
      refine Rd.listL (SqL.of q.sL.at_) fun t1 ht1 => ?_
      have s1 := same_new (o := .lst (srefs ys)) ht1
      have e1 : upd G t1 (.lst (srefs ys)) t1 = some (.lst (srefs ys)) := upd_same
      have q1 := q.same s1
      generalize upd G t1 (.lst (srefs ys)) = G1 at s1 e1 q1 ⊢
      walk_at "rd"
      refine Rd.slL (SqL.of q1.sL.at_) fun t2 ht2 => ?_
      have c1 : cutV (srefs ys) none (some 1) = srefs (ys.take 1) := (cutV_to (srefs ys) 1).trans (List.map_take ..).symm
      rw [c1]
      have s2 := same_new (o := .lst (srefs (ys.take 1))) ht2
      have e2 : upd G1 t2 (.lst (srefs (ys.take 1))) t2 = some (.lst (srefs (ys.take 1))) := upd_same
      have q2 := q1.same s2
      have e12 := s2 _ _ e1
      generalize upd G1 t2 (.lst (srefs (ys.take 1))) = G2 at s2 e2 q2 e12 ⊢
      walk_at "rd"
      have lt1 : (srefs (ys.take 1)).length ≤ 1 := by rw [List.length_map, List.length_take]; omega
      refine Rd.addL e12 e2 (by rw [lys]; walk_at "sz") fun W hW => ?_
      have e3 : srefs ys ++ srefs (ys.take 1) = srefs (ys ++ ys.take 1) := by unfold srefs; rw [List.map_append]
      rw [e3]
      have s3 := same_new (o := .lst (srefs (ys ++ ys.take 1))) hW
      have w3 : upd G2 W (.lst (srefs (ys ++ ys.take 1))) W = some (.lst (srefs (ys ++ ys.take 1))) := upd_same
      have q3 := q2.same s3
      have nWp : W ≠ p := fun z => (pool_ne q2.pl hW) z.symm
      show tSeq _ _ _ _ _
      generalize upd G2 W (.lst (srefs (ys ++ ys.take 1))) = G3 at s3 w3 q3 ⊢
      have sub4 : ∀ q ∈ sv ys, IsSl (ps.map ntP) q := fun v hv => by
        obtain ⟨y, hy, rfl⟩ := List.mem_map.mp hv
        exact inz y (q.sub y hy)
      have gW : Sls G3 W (ys ++ ys.take 1) := .of w3 fun y hy => by
        have hy' : y ∈ ys := by
          rcases List.mem_append.mp hy with z | z
          · exact z
          · exact List.mem_of_mem_take z
        exact ⟨q3.sL.ok y hy', q3.sL.nm y hy'⟩
      have mW : ∀ q, q ∈ sv (ys ++ ys.take 1) ↔ q ∈ sv ys := fun v => by
        unfold sv
        rw [List.map_append, List.mem_append]
        refine ⟨fun h => h.elim id fun h => ?_, .inl⟩
        obtain ⟨y, hy, rfl⟩ := List.mem_map.mp h
        exact List.mem_map.mpr ⟨y, List.mem_of_mem_take hy, rfl⟩
      have lW : (ys ++ ys.take 1).length ≤ 100 := by rw [List.length_append, List.length_take]; omega
      clear e1 e12 e2 s1 s2 q1 q2 c1 e3 w3 in0
      refine Rd.seq ?_
      refine Rd.mid (fun σ H' => ∃ (L G : Addr) (ys gs : List Sr) (o5 : Option V), σ = [some (.ref a), some (.ref R), some (.ref pc), some (.ref p), some (.ref L), o5, some (.ref G), none, none, none, none, none] ∧ Same H4 H' ∧ Sls H' L ys ∧ Sls H' G gs ∧ (∀ q, q ∈ sv gs ↔ q ∈ sv ys) ∧ gs.length ≤ 100 ∧ ys.length ≤ 24 ∧ ∀ q ∈ sv ys, IsSl (ps.map ntP) q) ?_ ?_
      · clear nWp q q3 gW mW lW sub4 lny lys lt1 s3 hW ht1 ht2 inz lxs lxs' hl7 nl0p nL0 nL0p hL0 hp5
        rintro σ H5 ⟨L, G, ys, gs, o5, rfl, s5, sL, sG, mgs, lg, lys, inz⟩
        walk_at "rd"
        refine Rd.listL (SqL.of sG.at_) fun K1 hK1 => ?_
        have s6 := same_new (o := .lst (srefs gs)) hK1
        have e6 : upd H5 K1 (.lst (srefs gs)) K1 = some (.lst (srefs gs)) := upd_same
        generalize upd H5 K1 (.lst (srefs gs)) = H6 at s6 e6 ⊢
        have s46 := s5.trans s6
        walk_at "rd"
        refine ⟨R, L, ps, ys, rfl, s46 _ _ hR4, hps4.mono s46, l4, good, sL.mono s6, by omega, fun R2 ps2 H7 hR7 s7 hR2 hps2 e2 => ?_⟩
        have s47 := s46.trans s7
        have good2 := good_img good e2
        have l42 : ps2.length ≤ 4 := by
          have h := congrArg List.length e2
          rw [List.length_map, List.length_map, List.length_map] at h
          omega
        have nd2 : (ps2.map (·.n)).Nodup := by
          have h := congrArg (List.map Prod.fst) e2
          rw [List.map_map, List.map_map, List.map_map] at h
          have h' : ps2.map (·.n) = ps.map (·.n) := h
          rw [h']; exact nd
        walk_at "rd"
        have s67 := s6.trans s7
        refine ⟨pc, pt, G, ks, gs, rfl, cat.mono s47, hks.mono s47, kg, kok, sG.mono s67, lg, fun x hx => by rw [e]; exact inz _ ((mgs _).mp (List.mem_map.mpr ⟨x, hx, rfl⟩)), fun p2 t2 ks2 H8 hp8 s8 cat2 hks2 e3 => ?_⟩
        have s48 := s47.trans s8
        have e4 : ks2.map ntOf = ps2.map ntP := by rw [e3, e2, e, imgZ_congr mgs]
        have kg2 := ks_good (D := kc.C) (C := c.C) (H := H8) e4 good2 l42 nd2
        have plain2 : ∀ k ∈ ps2, k.ts.length ≤ 6 ∧ ∀ r ∈ k.ts, r.2.2 < 5 := fun k hk => ⟨(good2 k hk).2.2.1, fun r hr' => ((good2 k hk).2.2.2.2.1 r hr').2.2⟩
        have ntk : ∀ {ps : List Kp}, (∀ k ∈ ps, KpGood k) → ∀ z ∈ ps.map ntP, NtOk z := fun g z hz => by
          obtain ⟨k, hk, rfl⟩ := List.mem_map.mp hz
          exact ⟨(g k hk).1, (g k hk).2.2.2.2.1⟩
        obtain ⟨⟨dx2, hp2⟩, _⟩ := id cat2
        walk_at "rd"
        refine Rd.isi (.own _) (.base (.ins hp2 cc.cl ic.ca ic.gn ic.tk ic.mo)) ic.me ?_
        walk_at "rd"
        refine ne_sls (sG.mono (s67.trans s8)) ((s7.trans s8) _ _ e6) ?_
        walk_at "rd"
        refine ⟨p2, t2, ks2, rfl, cat2, hks2, kg2, fun l9 L9 H9 hl9 s9 h9 k9 z9 => ?_⟩
        walk_at "rd"
        have s89 := s8.trans s9
        refine ⟨R2, ps2, rfl, s89 _ _ hR2, hps2.mono s89, l42, plain2, fun l10 L10 H10 hl10 s10 h10 k10 z10 => ?_⟩
        refine neKts (s10 _ _ h9) h10 (fun k hk => (k9 k hk).mono s10) k10 (by rw [z9, z10, e4]) (fun k hk => ntk good2 _ (by rw [← z10]; exact List.mem_map.mpr ⟨k, hk, rfl⟩)) ?_
        walk_at "rd"
        have s410 := (s48.trans s9).trans s10
        refine ⟨pc, pt, ks, rfl, cat.mono s410, hks.mono s410, kg, fun d1 H11 hd1 s11 lot => ?_⟩
        obtain ⟨t11, ys11, wt11, ly11, gy11, my11⟩ := lot
        obtain ⟨dw, hdw⟩ := wt11.ins
        have s411 := s410.trans s11
        refine ⟨d1, wc.C, dw, _, _, rfl, hdw, wc.cl, wc.nR, wfl_rows _, ?_⟩
        walk_at "rd"
        refine ⟨R, ps, rfl, s411 _ _ hR4, hps4.mono s411, l4, good, fun l12 xs12 H12 hl12 s12 rx12 lx12 mx12 => ?_⟩
        walk_at "rd"
        refine sort_rows rx12.at_ rx12.ok rx12.nm (by omega) fun l13 H13 zs13 hl13 s13 hz13 up13 sub13 all13 => ?_
        have mz13 := srt_mem sub13 all13
        have lz13 : zs13.length ≤ 144 := Nat.le_trans (lot_len up13 sub13) lx12
        walk_at "rd"
        refine Rd.tupL (SqL.of hz13) fun u14 hu14 => ?_
        have s14 := same_new (o := .tup (rrefs zs13)) hu14
        have e14 : upd H13 u14 (.tup (rrefs zs13)) u14 = some (.tup (rrefs zs13)) := upd_same
        have okz : RrOk H13 zs13 := fun q hq => s13 _ _ (rx12.ok q (sub13 q hq))
        have okz14 := okz.mono s14
        have s1114 := (s12.trans s13).trans s14
        generalize upd H13 u14 (.tup (rrefs zs13)) = H14 at s14 e14 okz14 s1114 ⊢
        have s414 := s411.trans s1114
        refine ne_tup (SqT.of (s1114 _ _ wt11.tup)) (SqT.of e14) (wt11.ok.mono s1114) okz14 (fun q hq => (gy11 q hq).1) (fun q hq => rx12.nm q (sub13 q hq)) ?_
        have eD : ys11.map (·.2) = zs13.map (·.2) := up_uniq wt11.up up13 fun v => by
          have h1 := my11 v
          rw [e] at h1
          exact h1.trans ((mx12 v).symm.trans (mz13 v).symm)
        rw [decide_eq_true eD]
        walk_at "rd"
        have s514 : Same H5 H14 := (((((s6.trans s7).trans s8).trans s9).trans s10).trans s11).trans s1114
        have sL14 := sL.mono s514
        have hR14 := s414 _ _ hR4
        have hps14 := hps4.mono s414
        have cat14 := cat.mono s414
        have hks14 := hks.mono s414
        have s814 : Same H8 H14 := ((s9.trans s10).trans s11).trans s1114
        have cat214 := cat2.mono s814
        have hks214 := hks2.mono s814
        have hR214 := (s8.trans s814) _ _ hR2
        have hps214 := hps2.mono (s8.trans s814)
        clear s514 s1114 e14 okz14 okz hz13 s13 s12 rx12 wt11 hdw s11 s10 s9 h9 h10 k9 k10
        refine ⟨R, ps, rfl, hR14, hps14, l4, good, fun l15 xs15 H15 hl15 s15 rx15 lx15 mx15 => ?_⟩
        have l15e : (rrefs xs15).length = xs15.length := List.length_map ..
        have sL15 := sL14.mono s15
        dsimp only
        refine Rd.exlist (SqL.of rx15.at_) ?_
        refine Rd.lcW Rd.wList (by rw [l15e]; walk_at "sz") (fun i acc H' => Same H15 H' ∧ ∃ zs : List Rr, acc = rrefs zs ∧ zs.length ≤ i ∧ (∀ y ∈ zs, y ∈ xs15) ∧ ∀ v : Rw, v ∈ vr zs ↔ v ∈ vr (xs15.take i) ∧ (v.1, v.2.2) ∉ sv ys)
          ⟨Same.refl _, [], rfl, Nat.le_refl _, fun y hy => absurd hy List.not_mem_nil, fun v => by simp⟩ (fun D hD i acc ys H' j => ⟨same_upd j.1 hD, j.2⟩) (fun i acc H' hi j => SqL.of (j.1 _ _ rx15.at_)) ?_ ?_
        · rintro D2 hD2 i x acc H' hi hy hacc2 hlen2 ⟨q1, zs, rfl, r3, r4, r5⟩ Kt Kf hT hF
          obtain ⟨x, hx', rfl⟩ := rref_at hy
          have hxm := List.mem_of_getElem? hx'
          have nx := rx15.nm x hxm
          have hrow : H' x.1 = some (.tup (rvs x.2)) := q1 _ _ (rx15.ok x hxm)
          have tk1 : ∀ v, v ∈ vr (xs15.take (i + 1)) ↔ v ∈ vr (xs15.take i) ∨ v = x.2 := fun v => by
            unfold vr
            rw [List.take_add_one, hx', List.map_append, List.mem_append]
            simp
          dsimp only [List.set]
          walk_at "rd"
          refine ⟨by show 2 ≤ sizeLine; decide, fun tp htp => ?_⟩
          have stp := same_new (o := .tup [V.str (S x.2.1), V.str (S x.2.2.2)]) htp
          have etp : SlAt (upd H' tp (.tup [V.str (S x.2.1), V.str (S x.2.2.2)])) tp (x.2.1, x.2.2.2) := upd_same
          generalize upd H' tp (.tup [V.str (S x.2.1), V.str (S x.2.2.2)]) = H'' at stp etp ⊢
          have q2 := q1.trans stp
          have hacc3 := stp _ _ hacc2
          walk_at "rd"
          refine nin_sl etp ⟨nx.1, nx.2.2⟩ (sL15.mono q2) ?_
          refine ⟨_, rfl, ?_⟩
          by_cases hin : (x.2.1, x.2.2.2) ∈ sv ys
          · rw [decide_eq_true hin]
            walk_at "rd"
            refine hF _ hacc3 ⟨q2, zs, rfl, by omega, r4, fun v => ?_⟩
            rw [r5, tk1]
            constructor
            · rintro ⟨h1, h2⟩
              exact ⟨.inl h1, h2⟩
            · rintro ⟨h1 | h1, h2⟩
              · exact ⟨h1, h2⟩
              · rw [h1] at h2; exact absurd hin h2
          · rw [decide_eq_false hin]
            walk_at "rd"
            refine hT _ _ hacc3 ⟨q2, zs ++ [x], by unfold rrefs; rw [List.map_append]; rfl, by rw [List.length_append, List.length_singleton]; omega, fun y hy => ?_, fun v => ?_⟩
            · rcases List.mem_append.mp hy with z | z
              · exact r4 y z
              · rw [List.mem_singleton.mp z]; exact hxm
            · have e0 : v ∈ vr (zs ++ [x]) ↔ v ∈ vr zs ∨ v = x.2 := by simp [vr]
              rw [e0, r5, tk1]
              constructor
              · rintro (⟨h1, h2⟩ | h1)
                · exact ⟨.inl h1, h2⟩
                · exact ⟨.inr h1, by rw [h1]; exact hin⟩
              · rintro ⟨h1 | h1, h2⟩
                · exact .inl ⟨h1, h2⟩
                · exact .inr h1
        · rintro LF acc H16 hLF hacc hlen16 ⟨s16, zs, rfl, r3, r4, r5⟩
          rw [l15e, List.take_length] at r5
          rw [l15e] at r3
          have rxF : Rws H16 LF zs := ⟨hacc, fun y hy => s16 _ _ (rx15.ok y (r4 y hy)), fun y hy => rx15.nm y (r4 y hy)⟩
          have mF : ∀ v, v ∈ vr zs ↔ IsD (ps2.map ntP) v := fun v => by
            rw [r5, e2, img_dg m5]
            exact and_congr_left fun _ => mx15 v
          have s1416 := s15.trans s16
          have lF : zs.length ≤ 144 := by omega
          clear r3 r4 r5 rx15 mx15 s15 s16 sL15 hl15 lx15 l15e
          walk_at "rd"
          refine sort_rows rxF.at_ rxF.ok rxF.nm (by omega) fun l17 H17 zs17 hl17 s17 hz17 up17 sub17 all17 => ?_
          have m17 := srt_mem sub17 all17
          have s1417 := s1416.trans s17
          walk_at "rd"
          refine ⟨R2, ps2, rfl, s1417 _ _ hR214, hps214.mono s1417, l42, good2, fun l18 xs18 H18 hl18 s18 rx18 lx18 mx18 => ?_⟩
          walk_at "rd"
          refine sort_rows rx18.at_ rx18.ok rx18.nm (by omega) fun l19 H19 zs19 hl19 s19 hz19 up19 sub19 all19 => ?_
          have m19 := srt_mem sub19 all19
          have s1719 := s18.trans s19
          refine ne_lst (SqL.of (s1719 _ _ hz17)) (SqL.of hz19) (fun q hq => s1719 _ _ (s17 _ _ (rxF.ok q (sub17 q hq)))) (fun q hq => s19 _ _ (rx18.ok q (sub19 q hq))) (fun q hq => rxF.nm q (sub17 q hq)) (fun q hq => rx18.nm q (sub19 q hq)) ?_
          have eF : zs17.map (·.2) = zs19.map (·.2) := up_uniq up17 up19 fun v => ((m17 v).trans (mF v)).trans ((m19 v).trans (mx18 v)).symm
          rw [decide_eq_true eF]
          walk_at "rd"
          have s1419 := s1417.trans s1719
          refine ⟨p2, t2, ks2, rfl, cat214.mono s1419, hks214.mono s1419, kg2, fun d20 H20 hd20 s20 lot20 => ?_⟩
          obtain ⟨t20, ys20, wt20, ly20, gy20, my20⟩ := lot20
          obtain ⟨dw20, hdw20⟩ := wt20.ins
          have s1920 := s20
          refine ⟨d20, wc.C, dw20, _, _, rfl, hdw20, wc.cl, wc.nR, wfl_rows _, ?_⟩
          have rxG := rxF.mono ((s17.trans s1719).trans s20)
          walk_at "rd"
          refine sort_rows rxG.at_ rxG.ok rxG.nm (by omega) fun l21 H21 zs21 hl21 s21 hz21 up21 sub21 all21 => ?_
          have m21 := srt_mem sub21 all21
          have lz21 : zs21.length ≤ 144 := Nat.le_trans (lot_len up21 sub21) lF
          walk_at "rd"
          refine Rd.tupL (SqL.of hz21) fun u22 hu22 => ?_
          have s22 := same_new (o := .tup (rrefs zs21)) hu22
          have e22 : upd H21 u22 (.tup (rrefs zs21)) u22 = some (.tup (rrefs zs21)) := upd_same
          have okz : RrOk H21 zs21 := fun q hq => s21 _ _ (rxG.ok q (sub21 q hq))
          have okz22 := okz.mono s22
          have s2022 := s21.trans s22
          generalize upd H21 u22 (.tup (rrefs zs21)) = H22 at s22 e22 okz22 s2022 ⊢
          refine ne_tup (SqT.of (s2022 _ _ wt20.tup)) (SqT.of e22) (wt20.ok.mono s2022) okz22 (fun q hq => (gy20 q hq).1) (fun q hq => rxG.nm q (sub21 q hq)) ?_
          have eG : ys20.map (·.2) = zs21.map (·.2) := up_uniq wt20.up up21 fun v => by
            have h1 := my20 v
            rw [e4] at h1
            exact h1.trans ((m21 v).trans (mF v)).symm
          rw [decide_eq_true eG]
          have s1422 := (s1419.trans s20).trans s2022
          clear okz okz22 e22 hz21 rxG rxF wt20 hdw20 s21 s22 s2022 s20 s1920
          walk_at "rd"
          refine ⟨by show 0 ≤ sizeLine; decide, fun z23 hz23 => ?_⟩
          have s23 := same_new (o := .lst []) hz23
          have e23 : upd H22 z23 (.lst []) z23 = some (.lst []) := upd_same
          generalize upd H22 z23 (.lst []) = H23 at s23 e23 ⊢
          have s1423 := s1422.trans s23
          walk_at "rd"
          refine ⟨pc, pt, z23, ks, [], rfl, cat14.mono s1423, hks14.mono s1423, kg, kok, ⟨e23, fun x hx => absurd hx List.not_mem_nil, fun x hx => absurd hx List.not_mem_nil⟩, by decide, fun x hx => absurd hx List.not_mem_nil, fun p3 t3 ks3 H24 hp24 s24 cat3 hks3 e5 => ?_⟩
          have e6' : ks3.map ntOf = ps.map ntP := by
            rw [e5, e]
            exact (List.map_congr_left (g := id) fun z _ => imgZ_nil z).trans (List.map_id _)
          have kg3 := ks_good (D := kc.C) (C := c.C) (H := H24) e6' good l4 nd
          walk_at "rd"
          refine ⟨p3, t3, ks3, rfl, cat3, hks3, kg3, fun l25 L25 H25 hl25 s25 h25 k25 z25 => ?_⟩
          have s1425 := (s1423.trans s24).trans s25
          walk_at "rd"
          refine ⟨R, ps, rfl, s1425 _ _ hR14, hps14.mono s1425, l4, plain5, fun l26 L26 H26 hl26 s26 h26 k26 z26 => ?_⟩
          refine neKts (s26 _ _ h25) h26 (fun k hk => (k25 k hk).mono s26) k26 (by rw [z25, z26, e6']) (fun k hk => ntk good _ (by rw [← z26]; exact List.mem_map.mpr ⟨k, hk, rfl⟩)) ?_
          have s1426 := s1425.trans s26
          clear h25 k25 h26 k26 s26 s25
          walk_at "rd"
          refine ⟨pc, pt, ks, rfl, cat14.mono s1426, hks14.mono s1426, kg, fun l27 L27 H27 hl27 s27 h27 k27 z27 => ?_⟩
          have s1427 := s1426.trans s27
          walk_at "rd"
          refine ⟨R, ps, rfl, s1427 _ _ hR14, hps14.mono s1427, l4, plain5, fun l28 L28 H28 hl28 s28 h28 k28 z28 => ?_⟩
          refine eqKts (s28 _ _ h27) h28 (fun k hk => (k27 k hk).mono s28) k28 (by rw [z27, z28, e]) (fun z hz => ntk good _ (by rw [← z28]; exact hz)) ?_
          exact k _
      · intro N' hN'
        have hL3 := q3.sL.at_
        walk_at "rd"
        rw [lys]
        refine Rd.iteD (fun c1 => ?_) (fun c1 => ?_)
        · walk_at "rd"
          refine ⟨p, 2, rfl, by decide, by decide, q3.pl, fun rv G4 r0 r1 e4 p4 => ?_⟩
          have q4 := q3.drawn e4 p4
          have gW4 := gW.drawn q3.pl e4 nWp
          walk_at "rd"
          refine Rd.iteD (fun c2 => ?_) (fun c2 => ?_)
          · obtain ⟨y0, yr, rfl⟩ : ∃ y0 yr, ys = y0 :: yr := by
              cases ys with
              | nil => exact absurd c1 (by decide)
              | cons y0 yr => exact ⟨y0, yr, rfl⟩
            have hL4 := q4.sL.at_
            walk_at "rd"
            refine Rd.slL (SqL.of hL4) fun t3 ht3 => ?_
            have c3 : cutV (srefs (y0 :: yr)) (some 1) none = srefs yr := cutV_from (srefs (y0 :: yr)) 1
            rw [c3]
            have s5 := same_new (o := .lst (srefs yr)) ht3
            have e5 : upd G4 t3 (.lst (srefs yr)) t3 = some (.lst (srefs yr)) := upd_same
            have q5 := q4.same s5
            generalize upd G4 t3 (.lst (srefs yr)) = G5 at s5 e5 q5 ⊢
            have hL5 : G5 L = some (.lst (V.ref y0.1 :: srefs yr)) := q5.sL.at_
            walk_at "rd"
            have a0 : atI (V.ref y0.1 :: srefs yr) 0 = some (V.ref y0.1) := by
              have h1 : atI (V.ref y0.1 :: srefs yr) ((0 : Nat) : Int) = some (V.ref y0.1) := atI_nat rfl
              exact h1
            refine Rd.ixL (SqL.of hL5) a0 ?_
            walk_at "rd"
            refine ⟨by show 1 ≤ sizeLine; decide, fun t4 ht4 => ?_⟩
            have s6 := same_new (o := .lst [V.ref y0.1]) ht4
            have e6 : upd G5 t4 (.lst [V.ref y0.1]) t4 = some (.lst [V.ref y0.1]) := upd_same
            have q6 := q5.same s6
            have e56 := s6 _ _ e5
            generalize upd G5 t4 (.lst [V.ref y0.1]) = G6 at s6 e6 q6 e56 ⊢
            walk_at "rd"
            have lyr : (srefs yr).length = yr.length := List.length_map ..
            refine Rd.addL e56 e6 (by rw [lyr]; rw [List.length_cons] at lny; show yr.length + 1 ≤ sizeLine; walk_at "sz") fun W2 hW2 => ?_
            have e7 : srefs yr ++ [V.ref y0.1] = srefs (yr ++ [y0]) := by unfold srefs; rw [List.map_append]; rfl
            rw [e7]
            have s7 := same_new (o := .lst (srefs (yr ++ [y0]))) hW2
            have w7 : upd G6 W2 (.lst (srefs (yr ++ [y0]))) W2 = some (.lst (srefs (yr ++ [y0]))) := upd_same
            have q7 := q6.same s7
            refine hN' _ _ ⟨L, W2, y0 :: yr, yr ++ [y0], _, rfl, q7.sm, q7.sL, .of w7 fun y hy => ?_, fun v => ?_, ?_, by omega, sub4⟩
            · have hy' : y ∈ y0 :: yr := by
                rcases List.mem_append.mp hy with z | z
                · exact List.mem_cons_of_mem _ z
                · rw [List.mem_singleton.mp z]; exact List.mem_cons_self
              exact ⟨q7.sL.ok y hy', q7.sL.nm y hy'⟩
            · unfold sv
              rw [List.map_append, List.mem_append, List.map_cons, List.mem_cons]
              simp [or_comm]
            · rw [List.length_append, List.length_singleton]
              rw [List.length_cons] at lny
              omega
          · walk_at "rd"
            exact hN' _ _ ⟨L, W, ys, _, _, rfl, q4.sm, q4.sL, gW4, mW, lW, by omega, sub4⟩
        · walk_at "rd"
          exact hN' _ _ ⟨L, W, ys, _, _, rfl, q3.sm, q3.sL, gW, mW, lW, by omega, sub4⟩

end
section
variable {P : Program} {w : World} {K : PySem.W.Frag} {mg : Str → Option Value} {base : Heap} {tk : Tok}
/-! ### what the top has left -/
theorem all_mk {P : Program} {w : World} {K : PySem.W.Frag} {h : Heap} {mg : Str → Option Value} {fP fD fW fN fR fFr fRo fKi fKs fCa fSo fLm fLr fLd fLg fLs fIg fPl fTo fGa fDg fRs fWm Cr Ce Cm Cf Cb Cw Ckd Cct Cwc fInit fRr fEr fRm fFm fMm fRd fMd fRi fMi fBi fKin fCi fCn fMg fIt fRn fKp fWi CExN fIxN CExK fIxK CExR fIxR CExO fIxO CExW fIxW CExL fIxL fa fLaw : Addr} (X : K.In h) (G : h.Ns mainGlobals mg) (hfa : mg "law" = some (.ref fa))
    {odP anP : Option Addr} {slP : Array (Option Value)} {ocP kVP dcP pmP cdP ctP : Value}
    {odD anD : Option Addr} {slD : Array (Option Value)} {ocD kVD dcD pmD cdD ctD : Value}
    {odW anW : Option Addr} {slW : Array (Option Value)} {ocW kVW dcW pmW cdW ctW : Value}
    {odN anN : Option Addr} {slN : Array (Option Value)} {ocN kVN dcN pmN cdN ctN : Value}
    {odR anR : Option Addr} {slR : Array (Option Value)} {ocR kVR dcR pmR cdR ctR : Value}
    {odFr anFr : Option Addr} {slFr : Array (Option Value)} {ocFr kVFr dcFr pmFr cdFr ctFr : Value}
    {odRo anRo : Option Addr} {slRo : Array (Option Value)} {ocRo kVRo dcRo pmRo cdRo ctRo : Value}
    {odKi anKi : Option Addr} {slKi : Array (Option Value)} {ocKi kVKi dcKi pmKi cdKi ctKi : Value}
    {odKs anKs : Option Addr} {slKs : Array (Option Value)} {ocKs kVKs dcKs pmKs cdKs ctKs : Value}
    {odCa anCa : Option Addr} {slCa : Array (Option Value)} {ocCa kVCa dcCa pmCa cdCa ctCa : Value}
    {odSo anSo : Option Addr} {slSo : Array (Option Value)} {ocSo kVSo dcSo pmSo cdSo ctSo : Value}
    {odLm anLm : Option Addr} {slLm : Array (Option Value)} {ocLm kVLm dcLm pmLm cdLm ctLm : Value}
    {odLr anLr : Option Addr} {slLr : Array (Option Value)} {ocLr kVLr dcLr pmLr cdLr ctLr : Value}
    {odLd anLd : Option Addr} {slLd : Array (Option Value)} {ocLd kVLd dcLd pmLd cdLd ctLd : Value}
    {odLg anLg : Option Addr} {slLg : Array (Option Value)} {ocLg kVLg dcLg pmLg cdLg ctLg : Value}
    {odLs anLs : Option Addr} {slLs : Array (Option Value)} {ocLs kVLs dcLs pmLs cdLs ctLs : Value}
    {odIg anIg : Option Addr} {slIg : Array (Option Value)} {ocIg kVIg dcIg pmIg cdIg ctIg : Value}
    {odPl anPl : Option Addr} {slPl : Array (Option Value)} {ocPl kVPl dcPl pmPl cdPl ctPl : Value}
    {odTo anTo : Option Addr} {slTo : Array (Option Value)} {ocTo kVTo dcTo pmTo cdTo ctTo : Value}
    {odGa anGa : Option Addr} {slGa : Array (Option Value)} {ocGa kVGa dcGa pmGa cdGa ctGa : Value}
    {odDg anDg : Option Addr} {slDg : Array (Option Value)} {ocDg kVDg dcDg pmDg cdDg ctDg : Value}
    {odRs anRs : Option Addr} {slRs : Array (Option Value)} {ocRs kVRs dcRs pmRs cdRs ctRs : Value}
    {odWm anWm : Option Addr} {slWm : Array (Option Value)} {ocWm kVWm dcWm pmWm cdWm ctWm : Value}
    {xr : Str} {tr : Tok}
    {xe : Str} {te : Tok}
    {xm : Str} {tm : Tok}
    {xf : Str} {tf : Tok}
    {xb : Str} {tb : Tok}
    {xw : Str} {tw : Tok}
    {odInit anInit : Option Addr} {slInit : Array (Option Value)} {ocInit kVInit dcInit pmInit cdInit ctInit : Value}
    {odRr anRr : Option Addr} {slRr : Array (Option Value)} {ocRr kVRr dcRr pmRr cdRr ctRr : Value}
    {odEr anEr : Option Addr} {slEr : Array (Option Value)} {ocEr kVEr dcEr pmEr cdEr ctEr : Value}
    {odRm anRm : Option Addr} {slRm : Array (Option Value)} {ocRm kVRm dcRm pmRm cdRm ctRm : Value}
    {odFm anFm : Option Addr} {slFm : Array (Option Value)} {ocFm kVFm dcFm pmFm cdFm ctFm : Value}
    {odMm anMm : Option Addr} {slMm : Array (Option Value)} {ocMm kVMm dcMm pmMm cdMm ctMm : Value}
    {odRd anRd : Option Addr} {slRd : Array (Option Value)} {ocRd kVRd dcRd pmRd cdRd ctRd : Value}
    {odMd anMd : Option Addr} {slMd : Array (Option Value)} {ocMd kVMd dcMd pmMd cdMd ctMd : Value}
    {odRi anRi : Option Addr} {slRi : Array (Option Value)} {ocRi kVRi dcRi pmRi cdRi ctRi : Value}
    {odMi anMi : Option Addr} {slMi : Array (Option Value)} {ocMi kVMi dcMi pmMi cdMi ctMi : Value}
    {odBi anBi : Option Addr} {slBi : Array (Option Value)} {ocBi kVBi dcBi pmBi cdBi ctBi : Value}
    {odKin anKin : Option Addr} {slKin : Array (Option Value)} {ocKin kVKin dcKin pmKin cdKin ctKin : Value}
    {odCi anCi : Option Addr} {slCi : Array (Option Value)} {ocCi kVCi dcCi pmCi cdCi ctCi : Value}
    {odCn anCn : Option Addr} {slCn : Array (Option Value)} {ocCn kVCn dcCn pmCn cdCn ctCn : Value}
    {odMg anMg : Option Addr} {slMg : Array (Option Value)} {ocMg kVMg dcMg pmMg cdMg ctMg : Value}
    {odIt anIt : Option Addr} {slIt : Array (Option Value)} {ocIt kVIt dcIt pmIt cdIt ctIt : Value}
    {odRn anRn : Option Addr} {slRn : Array (Option Value)} {ocRn kVRn dcRn pmRn cdRn ctRn : Value}
    {odKp anKp : Option Addr} {slKp : Array (Option Value)} {ocKp kVKp dcKp pmKp cdKp ctKp : Value}
    {odWi anWi : Option Addr} {slWi : Array (Option Value)} {ocWi kVWi dcWi pmWi cdWi ctWi : Value}
    {enmxN eqxN : Str} {eAxN : Addr} {ebsxN ebmxN : List Value} {esnxN : List Str} {esubxN : List Value} {eabxN : Bool} {ecolxN : Option Bool} {eddxN : Option Addr} {eaxN ebxN ecxN edxN eexN : Option Value}
    {odIxN anIxN : Option Addr} {slIxN : Array (Option Value)} {ocIxN kVIxN dcIxN pmIxN cdIxN ctIxN : Value}
    {enmxK eqxK : Str} {eAxK : Addr} {ebsxK ebmxK : List Value} {esnxK : List Str} {esubxK : List Value} {eabxK : Bool} {ecolxK : Option Bool} {eddxK : Option Addr} {eaxK ebxK ecxK edxK eexK : Option Value}
    {odIxK anIxK : Option Addr} {slIxK : Array (Option Value)} {ocIxK kVIxK dcIxK pmIxK cdIxK ctIxK : Value}
    {enmxR eqxR : Str} {eAxR : Addr} {ebsxR ebmxR : List Value} {esnxR : List Str} {esubxR : List Value} {eabxR : Bool} {ecolxR : Option Bool} {eddxR : Option Addr} {eaxR ebxR ecxR edxR eexR : Option Value}
    {odIxR anIxR : Option Addr} {slIxR : Array (Option Value)} {ocIxR kVIxR dcIxR pmIxR cdIxR ctIxR : Value}
    {enmxO eqxO : Str} {eAxO : Addr} {ebsxO ebmxO : List Value} {esnxO : List Str} {esubxO : List Value} {eabxO : Bool} {ecolxO : Option Bool} {eddxO : Option Addr} {eaxO ebxO ecxO edxO eexO : Option Value}
    {odIxO anIxO : Option Addr} {slIxO : Array (Option Value)} {ocIxO kVIxO dcIxO pmIxO cdIxO ctIxO : Value}
    {enmxW eqxW : Str} {eAxW : Addr} {ebsxW ebmxW : List Value} {esnxW : List Str} {esubxW : List Value} {eabxW : Bool} {ecolxW : Option Bool} {eddxW : Option Addr} {eaxW ebxW ecxW edxW eexW : Option Value}
    {odIxW anIxW : Option Addr} {slIxW : Array (Option Value)} {ocIxW kVIxW dcIxW pmIxW cdIxW ctIxW : Value}
    {enmxL eqxL : Str} {eAxL : Addr} {ebsxL ebmxL : List Value} {esnxL : List Str} {esubxL : List Value} {eabxL : Bool} {ecolxL : Option Bool} {eddxL : Option Addr} {eaxL ebxL ecxL edxL eexL : Option Value}
    {odIxL anIxL : Option Addr} {slIxL : Array (Option Value)} {ocIxL kVIxL dcIxL pmIxL cdIxL ctIxL : Value}
    {tkL : Tok}
    {tkM : Tok}
    {odLaw anLaw : Option Addr} {slLaw : Array (Option Value)} {ocLaw kVLaw dcLaw pmLaw cdLaw ctLaw : Value}
    (spc : PySem.W.specialIn K (.builtin "object.__class__") "__get__" = some (some (.builtin "getset_descriptor.__get__")))
    (tkc : PySem.W.takesIn K (.builtin "object.__class__") = some true)
    (aP : PySem.W.nsIn K mainGlobals "_law_pool" = some (some (.ref fP)))
    (lP : K.lookup fP = some ⟨ocP, odP, .func (PySem.W.fnOf "_law_pool" "_law_pool" (defArgs s_law_pool) (defBody s_law_pool) (defScope s_law_pool) .none kVP dcP pmP anP cdP ctP), slP⟩)
    (cP : PySem.W.codeIn K cdP "_law_pool" = true)
    (kP : PySem.W.keepIn K (.ref fP) = true)
    (aD : PySem.W.nsIn K mainGlobals "_law_draw" = some (some (.ref fD)))
    (lD : K.lookup fD = some ⟨ocD, odD, .func (PySem.W.fnOf "_law_draw" "_law_draw" (defArgs s_law_draw) (defBody s_law_draw) (defScope s_law_draw) .none kVD dcD pmD anD cdD ctD), slD⟩)
    (cD : PySem.W.codeIn K cdD "_law_draw" = true)
    (kD : PySem.W.keepIn K (.ref fD) = true)
    (aW : PySem.W.nsIn K mainGlobals "_law_word" = some (some (.ref fW)))
    (lW : K.lookup fW = some ⟨ocW, odW, .func (PySem.W.fnOf "_law_word" "_law_word" (defArgs s_law_word) (defBody s_law_word) (defScope s_law_word) .none kVW dcW pmW anW cdW ctW), slW⟩)
    (cW : PySem.W.codeIn K cdW "_law_word" = true)
    (kW : PySem.W.keepIn K (.ref fW) = true)
    (aN : PySem.W.nsIn K mainGlobals "_law_names" = some (some (.ref fN)))
    (lN : K.lookup fN = some ⟨ocN, odN, .func (PySem.W.fnOf "_law_names" "_law_names" (defArgs s_law_names) (defBody s_law_names) (defScope s_law_names) .none kVN dcN pmN anN cdN ctN), slN⟩)
    (cN : PySem.W.codeIn K cdN "_law_names" = true)
    (kN : PySem.W.keepIn K (.ref fN) = true)
    (aR : PySem.W.nsIn K mainGlobals "require_name" = some (some (.ref fR)))
    (lR : K.lookup fR = some ⟨ocR, odR, .func (PySem.W.fnOf "require_name" "require_name" (defArgs s_require_name) (defBody s_require_name) (defScope s_require_name) .none kVR dcR pmR anR cdR ctR), slR⟩)
    (cR : PySem.W.codeIn K cdR "require_name" = true)
    (kR : PySem.W.keepIn K (.ref fR) = true)
    (aFr : PySem.W.nsIn K mainGlobals "first_repeated" = some (some (.ref fFr)))
    (lFr : K.lookup fFr = some ⟨ocFr, odFr, .func (PySem.W.fnOf "first_repeated" "first_repeated" (defArgs s_first_repeated) (defBody s_first_repeated) (defScope s_first_repeated) .none kVFr dcFr pmFr anFr cdFr ctFr), slFr⟩)
    (cFr : PySem.W.codeIn K cdFr "first_repeated" = true)
    (kFr : PySem.W.keepIn K (.ref fFr) = true)
    (aRo : PySem.W.nsIn K mainGlobals "_law_role" = some (some (.ref fRo)))
    (lRo : K.lookup fRo = some ⟨ocRo, odRo, .func (PySem.W.fnOf "_law_role" "_law_role" (defArgs s_law_role) (defBody s_law_role) (defScope s_law_role) .none kVRo dcRo pmRo anRo cdRo ctRo), slRo⟩)
    (cRo : PySem.W.codeIn K cdRo "_law_role" = true)
    (kRo : PySem.W.keepIn K (.ref fRo) = true)
    (aKi : PySem.W.nsIn K mainGlobals "_law_kind" = some (some (.ref fKi)))
    (lKi : K.lookup fKi = some ⟨ocKi, odKi, .func (PySem.W.fnOf "_law_kind" "_law_kind" (defArgs s_law_kind) (defBody s_law_kind) (defScope s_law_kind) .none kVKi dcKi pmKi anKi cdKi ctKi), slKi⟩)
    (cKi : PySem.W.codeIn K cdKi "_law_kind" = true)
    (kKi : PySem.W.keepIn K (.ref fKi) = true)
    (aKs : PySem.W.nsIn K mainGlobals "_law_kinds" = some (some (.ref fKs)))
    (lKs : K.lookup fKs = some ⟨ocKs, odKs, .func (PySem.W.fnOf "_law_kinds" "_law_kinds" (defArgs s_law_kinds) (defBody s_law_kinds) (defScope s_law_kinds) .none kVKs dcKs pmKs anKs cdKs ctKs), slKs⟩)
    (cKs : PySem.W.codeIn K cdKs "_law_kinds" = true)
    (kKs : PySem.W.keepIn K (.ref fKs) = true)
    (aCa : PySem.W.nsIn K mainGlobals "_law_catalog" = some (some (.ref fCa)))
    (lCa : K.lookup fCa = some ⟨ocCa, odCa, .func (PySem.W.fnOf "_law_catalog" "_law_catalog" (defArgs s_law_catalog) (defBody s_law_catalog) (defScope s_law_catalog) .none kVCa dcCa pmCa anCa cdCa ctCa), slCa⟩)
    (cCa : PySem.W.codeIn K cdCa "_law_catalog" = true)
    (kCa : PySem.W.keepIn K (.ref fCa) = true)
    (aSo : PySem.W.nsIn K mainGlobals "_law_sorted" = some (some (.ref fSo)))
    (lSo : K.lookup fSo = some ⟨ocSo, odSo, .func (PySem.W.fnOf "_law_sorted" "_law_sorted" (defArgs s_law_sorted) (defBody s_law_sorted) (defScope s_law_sorted) .none kVSo dcSo pmSo anSo cdSo ctSo), slSo⟩)
    (cSo : PySem.W.codeIn K cdSo "_law_sorted" = true)
    (kSo : PySem.W.keepIn K (.ref fSo) = true)
    (aLm : PySem.W.nsIn K mainGlobals "_law_made_groups" = some (some (.ref fLm)))
    (lLm : K.lookup fLm = some ⟨ocLm, odLm, .func (PySem.W.fnOf "_law_made_groups" "_law_made_groups" (defArgs s_law_made_groups) (defBody s_law_made_groups) (defScope s_law_made_groups) .none kVLm dcLm pmLm anLm cdLm ctLm), slLm⟩)
    (cLm : PySem.W.codeIn K cdLm "_law_made_groups" = true)
    (kLm : PySem.W.keepIn K (.ref fLm) = true)
    (aLr : PySem.W.nsIn K mainGlobals "_law_reads" = some (some (.ref fLr)))
    (lLr : K.lookup fLr = some ⟨ocLr, odLr, .func (PySem.W.fnOf "_law_reads" "_law_reads" (defArgs s_law_reads) (defBody s_law_reads) (defScope s_law_reads) .none kVLr dcLr pmLr anLr cdLr ctLr), slLr⟩)
    (cLr : PySem.W.codeIn K cdLr "_law_reads" = true)
    (kLr : PySem.W.keepIn K (.ref fLr) = true)
    (aLd : PySem.W.nsIn K mainGlobals "_law_derived" = some (some (.ref fLd)))
    (lLd : K.lookup fLd = some ⟨ocLd, odLd, .func (PySem.W.fnOf "_law_derived" "_law_derived" (defArgs s_law_derived) (defBody s_law_derived) (defScope s_law_derived) .none kVLd dcLd pmLd anLd cdLd ctLd), slLd⟩)
    (cLd : PySem.W.codeIn K cdLd "_law_derived" = true)
    (kLd : PySem.W.keepIn K (.ref fLd) = true)
    (aLg : PySem.W.nsIn K mainGlobals "_law_dangers" = some (some (.ref fLg)))
    (lLg : K.lookup fLg = some ⟨ocLg, odLg, .func (PySem.W.fnOf "_law_dangers" "_law_dangers" (defArgs s_law_dangers) (defBody s_law_dangers) (defScope s_law_dangers) .none kVLg dcLg pmLg anLg cdLg ctLg), slLg⟩)
    (cLg : PySem.W.codeIn K cdLg "_law_dangers" = true)
    (kLg : PySem.W.keepIn K (.ref fLg) = true)
    (aLs : PySem.W.nsIn K mainGlobals "_law_slots" = some (some (.ref fLs)))
    (lLs : K.lookup fLs = some ⟨ocLs, odLs, .func (PySem.W.fnOf "_law_slots" "_law_slots" (defArgs s_law_slots) (defBody s_law_slots) (defScope s_law_slots) .none kVLs dcLs pmLs anLs cdLs ctLs), slLs⟩)
    (cLs : PySem.W.codeIn K cdLs "_law_slots" = true)
    (kLs : PySem.W.keepIn K (.ref fLs) = true)
    (aIg : PySem.W.nsIn K mainGlobals "_law_imaged" = some (some (.ref fIg)))
    (lIg : K.lookup fIg = some ⟨ocIg, odIg, .func (PySem.W.fnOf "_law_imaged" "_law_imaged" (defArgs s_law_imaged) (defBody s_law_imaged) (defScope s_law_imaged) .none kVIg dcIg pmIg anIg cdIg ctIg), slIg⟩)
    (cIg : PySem.W.codeIn K cdIg "_law_imaged" = true)
    (kIg : PySem.W.keepIn K (.ref fIg) = true)
    (aPl : PySem.W.nsIn K mainGlobals "_law_plain" = some (some (.ref fPl)))
    (lPl : K.lookup fPl = some ⟨ocPl, odPl, .func (PySem.W.fnOf "_law_plain" "_law_plain" (defArgs s_law_plain) (defBody s_law_plain) (defScope s_law_plain) .none kVPl dcPl pmPl anPl cdPl ctPl), slPl⟩)
    (cPl : PySem.W.codeIn K cdPl "_law_plain" = true)
    (kPl : PySem.W.keepIn K (.ref fPl) = true)
    (aTo : PySem.W.nsIn K mainGlobals "_law_told" = some (some (.ref fTo)))
    (lTo : K.lookup fTo = some ⟨ocTo, odTo, .func (PySem.W.fnOf "_law_told" "_law_told" (defArgs s_law_told) (defBody s_law_told) (defScope s_law_told) .none kVTo dcTo pmTo anTo cdTo ctTo), slTo⟩)
    (cTo : PySem.W.codeIn K cdTo "_law_told" = true)
    (kTo : PySem.W.keepIn K (.ref fTo) = true)
    (aGa : PySem.W.nsIn K mainGlobals "group_at" = some (some (.ref fGa)))
    (lGa : K.lookup fGa = some ⟨ocGa, odGa, .func (PySem.W.fnOf "group_at" "group_at" (defArgs s_group_at) (defBody s_group_at) (defScope s_group_at) .none kVGa dcGa pmGa anGa cdGa ctGa), slGa⟩)
    (cGa : PySem.W.codeIn K cdGa "group_at" = true)
    (kGa : PySem.W.keepIn K (.ref fGa) = true)
    (aDg : PySem.W.nsIn K mainGlobals "dangers" = some (some (.ref fDg)))
    (lDg : K.lookup fDg = some ⟨ocDg, odDg, .func (PySem.W.fnOf "dangers" "dangers" (defArgs s_dangers) (defBody s_dangers) (defScope s_dangers) .none kVDg dcDg pmDg anDg cdDg ctDg), slDg⟩)
    (cDg : PySem.W.codeIn K cdDg "dangers" = true)
    (kDg : PySem.W.keepIn K (.ref fDg) = true)
    (aRs : PySem.W.nsIn K mainGlobals "require_slots" = some (some (.ref fRs)))
    (lRs : K.lookup fRs = some ⟨ocRs, odRs, .func (PySem.W.fnOf "require_slots" "require_slots" (defArgs s_require_slots) (defBody s_require_slots) (defScope s_require_slots) .none kVRs dcRs pmRs anRs cdRs ctRs), slRs⟩)
    (cRs : PySem.W.codeIn K cdRs "require_slots" = true)
    (kRs : PySem.W.keepIn K (.ref fRs) = true)
    (aWm : PySem.W.nsIn K mainGlobals "with_images" = some (some (.ref fWm)))
    (lWm : K.lookup fWm = some ⟨ocWm, odWm, .func (PySem.W.fnOf "with_images" "with_images" (defArgs s_with_images) (defBody s_with_images) (defScope s_with_images) .none kVWm dcWm pmWm anWm cdWm ctWm), slWm⟩)
    (cWm : PySem.W.codeIn K cdWm "with_images" = true)
    (kWm : PySem.W.keepIn K (.ref fWm) = true)
    (gr : PySem.W.nsIn K mainGlobals "Role" = some (some (.ref Cr)))
    (in_r : PySem.W.findIn K (.ref Cr) "__init__" = some (some (.ref fInit)))
    (at_reads_r : PySem.W.findIn K (.ref Cr) "reads" = some (some (.ref fRr)))
    (at_makes_r : PySem.W.findIn K (.ref Cr) "makes" = some (some (.ref fRm)))
    (at_derived_r : PySem.W.findIn K (.ref Cr) "derived" = some (some (.ref fRd)))
    (at_imaged_r : PySem.W.findIn K (.ref Cr) "imaged" = some (some (.ref fRi)))
    (pgr : PySem.W.plainGet K Cr Str.empty = true)
    (hdr : PySem.W.hasDictIn K Cr = true)
    (por : PySem.W.plainOver K Cr = true)
    (sar : PySem.W.findIn K (.ref Cr) "__setattr__" = some (some (.builtin "object.__setattr__")))
    (mkr : PySem.W.makesIn K Cr = true)
    (kcr : PySem.W.keepIn K (.ref Cr) = true)
    (n_name_r : PySem.W.findIn K (.ref Cr) "name" = some none)
    (n_group_r : PySem.W.findIn K (.ref Cr) "group" = some none)
    (car : PySem.W.findIn K (.ref Cr) "__class__" = some (some (.builtin "object.__class__")))
    (mor : PySem.W.mroIn K Cr (.type "object") = some true)
    (mar : PySem.W.findIn K (.ref Cr) "MARK" = some (some (.str xr tr)))
    (mxr : xr = S [])
    (msr : PySem.W.specialIn K (.str xr tr) "__get__" = some none)
    (ge : PySem.W.nsIn K mainGlobals "Read" = some (some (.ref Ce)))
    (in_e : PySem.W.findIn K (.ref Ce) "__init__" = some (some (.ref fInit)))
    (at_reads_e : PySem.W.findIn K (.ref Ce) "reads" = some (some (.ref fEr)))
    (at_makes_e : PySem.W.findIn K (.ref Ce) "makes" = some (some (.ref fRm)))
    (at_derived_e : PySem.W.findIn K (.ref Ce) "derived" = some (some (.ref fRd)))
    (at_imaged_e : PySem.W.findIn K (.ref Ce) "imaged" = some (some (.ref fRi)))
    (pge : PySem.W.plainGet K Ce Str.empty = true)
    (hde : PySem.W.hasDictIn K Ce = true)
    (poe : PySem.W.plainOver K Ce = true)
    (sae : PySem.W.findIn K (.ref Ce) "__setattr__" = some (some (.builtin "object.__setattr__")))
    (mke : PySem.W.makesIn K Ce = true)
    (kce : PySem.W.keepIn K (.ref Ce) = true)
    (n_name_e : PySem.W.findIn K (.ref Ce) "name" = some none)
    (n_group_e : PySem.W.findIn K (.ref Ce) "group" = some none)
    (cae : PySem.W.findIn K (.ref Ce) "__class__" = some (some (.builtin "object.__class__")))
    (moe : PySem.W.mroIn K Ce (.type "object") = some true)
    (mae : PySem.W.findIn K (.ref Ce) "MARK" = some (some (.str xe te)))
    (mxe : xe = S [114])
    (mse : PySem.W.specialIn K (.str xe te) "__get__" = some none)
    (gm : PySem.W.nsIn K mainGlobals "Made" = some (some (.ref Cm)))
    (in_m : PySem.W.findIn K (.ref Cm) "__init__" = some (some (.ref fInit)))
    (at_reads_m : PySem.W.findIn K (.ref Cm) "reads" = some (some (.ref fRr)))
    (at_makes_m : PySem.W.findIn K (.ref Cm) "makes" = some (some (.ref fMm)))
    (at_derived_m : PySem.W.findIn K (.ref Cm) "derived" = some (some (.ref fMd)))
    (at_imaged_m : PySem.W.findIn K (.ref Cm) "imaged" = some (some (.ref fMi)))
    (pgm : PySem.W.plainGet K Cm Str.empty = true)
    (hdm : PySem.W.hasDictIn K Cm = true)
    (pom : PySem.W.plainOver K Cm = true)
    (sam : PySem.W.findIn K (.ref Cm) "__setattr__" = some (some (.builtin "object.__setattr__")))
    (mkm : PySem.W.makesIn K Cm = true)
    (kcm : PySem.W.keepIn K (.ref Cm) = true)
    (n_name_m : PySem.W.findIn K (.ref Cm) "name" = some none)
    (n_group_m : PySem.W.findIn K (.ref Cm) "group" = some none)
    (cam : PySem.W.findIn K (.ref Cm) "__class__" = some (some (.builtin "object.__class__")))
    (mom : PySem.W.mroIn K Cm (.type "object") = some true)
    (mam : PySem.W.findIn K (.ref Cm) "MARK" = some (some (.str xm tm)))
    (mxm : xm = S [109])
    (msm : PySem.W.specialIn K (.str xm tm) "__get__" = some none)
    (gf : PySem.W.nsIn K mainGlobals "Fresh" = some (some (.ref Cf)))
    (in_f : PySem.W.findIn K (.ref Cf) "__init__" = some (some (.ref fInit)))
    (at_reads_f : PySem.W.findIn K (.ref Cf) "reads" = some (some (.ref fRr)))
    (at_makes_f : PySem.W.findIn K (.ref Cf) "makes" = some (some (.ref fFm)))
    (at_derived_f : PySem.W.findIn K (.ref Cf) "derived" = some (some (.ref fRd)))
    (at_imaged_f : PySem.W.findIn K (.ref Cf) "imaged" = some (some (.ref fRi)))
    (pgf : PySem.W.plainGet K Cf Str.empty = true)
    (hdf : PySem.W.hasDictIn K Cf = true)
    (pof : PySem.W.plainOver K Cf = true)
    (saf : PySem.W.findIn K (.ref Cf) "__setattr__" = some (some (.builtin "object.__setattr__")))
    (mkf : PySem.W.makesIn K Cf = true)
    (kcf : PySem.W.keepIn K (.ref Cf) = true)
    (n_name_f : PySem.W.findIn K (.ref Cf) "name" = some none)
    (n_group_f : PySem.W.findIn K (.ref Cf) "group" = some none)
    (caf : PySem.W.findIn K (.ref Cf) "__class__" = some (some (.builtin "object.__class__")))
    (mof : PySem.W.mroIn K Cf (.type "object") = some true)
    (maf : PySem.W.findIn K (.ref Cf) "MARK" = some (some (.str xf tf)))
    (mxf : xf = S [102])
    (msf : PySem.W.specialIn K (.str xf tf) "__get__" = some none)
    (gb : PySem.W.nsIn K mainGlobals "Both" = some (some (.ref Cb)))
    (in_b : PySem.W.findIn K (.ref Cb) "__init__" = some (some (.ref fInit)))
    (at_reads_b : PySem.W.findIn K (.ref Cb) "reads" = some (some (.ref fEr)))
    (at_makes_b : PySem.W.findIn K (.ref Cb) "makes" = some (some (.ref fMm)))
    (at_derived_b : PySem.W.findIn K (.ref Cb) "derived" = some (some (.ref fMd)))
    (at_imaged_b : PySem.W.findIn K (.ref Cb) "imaged" = some (some (.ref fBi)))
    (pgb : PySem.W.plainGet K Cb Str.empty = true)
    (hdb : PySem.W.hasDictIn K Cb = true)
    (pob : PySem.W.plainOver K Cb = true)
    (sab : PySem.W.findIn K (.ref Cb) "__setattr__" = some (some (.builtin "object.__setattr__")))
    (mkb : PySem.W.makesIn K Cb = true)
    (kcb : PySem.W.keepIn K (.ref Cb) = true)
    (n_name_b : PySem.W.findIn K (.ref Cb) "name" = some none)
    (n_group_b : PySem.W.findIn K (.ref Cb) "group" = some none)
    (cab : PySem.W.findIn K (.ref Cb) "__class__" = some (some (.builtin "object.__class__")))
    (mob : PySem.W.mroIn K Cb (.type "object") = some true)
    (mab : PySem.W.findIn K (.ref Cb) "MARK" = some (some (.str xb tb)))
    (mxb : xb = S [114, 109])
    (msb : PySem.W.specialIn K (.str xb tb) "__get__" = some none)
    (gw : PySem.W.nsIn K mainGlobals "Renewed" = some (some (.ref Cw)))
    (in_w : PySem.W.findIn K (.ref Cw) "__init__" = some (some (.ref fInit)))
    (at_reads_w : PySem.W.findIn K (.ref Cw) "reads" = some (some (.ref fEr)))
    (at_makes_w : PySem.W.findIn K (.ref Cw) "makes" = some (some (.ref fFm)))
    (at_derived_w : PySem.W.findIn K (.ref Cw) "derived" = some (some (.ref fRd)))
    (at_imaged_w : PySem.W.findIn K (.ref Cw) "imaged" = some (some (.ref fRi)))
    (pgw : PySem.W.plainGet K Cw Str.empty = true)
    (hdw : PySem.W.hasDictIn K Cw = true)
    (pow : PySem.W.plainOver K Cw = true)
    (saw : PySem.W.findIn K (.ref Cw) "__setattr__" = some (some (.builtin "object.__setattr__")))
    (mkw : PySem.W.makesIn K Cw = true)
    (kcw : PySem.W.keepIn K (.ref Cw) = true)
    (n_name_w : PySem.W.findIn K (.ref Cw) "name" = some none)
    (n_group_w : PySem.W.findIn K (.ref Cw) "group" = some none)
    (caw : PySem.W.findIn K (.ref Cw) "__class__" = some (some (.builtin "object.__class__")))
    (mow : PySem.W.mroIn K Cw (.type "object") = some true)
    (maw : PySem.W.findIn K (.ref Cw) "MARK" = some (some (.str xw tw)))
    (mxw : xw = S [114, 102])
    (msw : PySem.W.specialIn K (.str xw tw) "__get__" = some none)
    (gkd : PySem.W.nsIn K mainGlobals "Kind" = some (some (.ref Ckd)))
    (in_kd : PySem.W.findIn K (.ref Ckd) "__init__" = some (some (.ref fKin)))
    (at_role_named_kd : PySem.W.findIn K (.ref Ckd) "role_named" = some (some (.ref fRn)))
    (at_pairs_kd : PySem.W.findIn K (.ref Ckd) "pairs" = some (some (.ref fKp)))
    (pgkd : PySem.W.plainGet K Ckd Str.empty = true)
    (hdkd : PySem.W.hasDictIn K Ckd = true)
    (pokd : PySem.W.plainOver K Ckd = true)
    (sakd : PySem.W.findIn K (.ref Ckd) "__setattr__" = some (some (.builtin "object.__setattr__")))
    (mkkd : PySem.W.makesIn K Ckd = true)
    (kckd : PySem.W.keepIn K (.ref Ckd) = true)
    (n_name_kd : PySem.W.findIn K (.ref Ckd) "name" = some none)
    (n_roles_kd : PySem.W.findIn K (.ref Ckd) "roles" = some none)
    (gct : PySem.W.nsIn K mainGlobals "Catalog" = some (some (.ref Cct)))
    (in_ct : PySem.W.findIn K (.ref Cct) "__init__" = some (some (.ref fCi)))
    (at_named_ct : PySem.W.findIn K (.ref Cct) "named" = some (some (.ref fCn)))
    (at_made_groups_ct : PySem.W.findIn K (.ref Cct) "made_groups" = some (some (.ref fMg)))
    (at_iter_ct : PySem.W.findIn K (.ref Cct) "__iter__" = some (some (.ref fIt)))
    (pgct : PySem.W.plainGet K Cct Str.empty = true)
    (hdct : PySem.W.hasDictIn K Cct = true)
    (poct : PySem.W.plainOver K Cct = true)
    (sact : PySem.W.findIn K (.ref Cct) "__setattr__" = some (some (.builtin "object.__setattr__")))
    (mkct : PySem.W.makesIn K Cct = true)
    (kcct : PySem.W.keepIn K (.ref Cct) = true)
    (n_kinds_ct : PySem.W.findIn K (.ref Cct) "kinds" = some none)
    (gwc : PySem.W.nsIn K mainGlobals "Waits" = some (some (.ref Cwc)))
    (in_wc : PySem.W.findIn K (.ref Cwc) "__init__" = some (some (.ref fWi)))
    (pgwc : PySem.W.plainGet K Cwc Str.empty = true)
    (hdwc : PySem.W.hasDictIn K Cwc = true)
    (powc : PySem.W.plainOver K Cwc = true)
    (sawc : PySem.W.findIn K (.ref Cwc) "__setattr__" = some (some (.builtin "object.__setattr__")))
    (mkwc : PySem.W.makesIn K Cwc = true)
    (kcwc : PySem.W.keepIn K (.ref Cwc) = true)
    (n_rows_wc : PySem.W.findIn K (.ref Cwc) "rows" = some none)
    (cact : PySem.W.findIn K (.ref Cct) "__class__" = some (some (.builtin "object.__class__")))
    (moct : PySem.W.mroIn K Cct (.type "object") = some true)
    (me_ct : PySem.W.kitOne K (.ref Cct) (.ref Cct) = some true)
    (lInit : K.lookup fInit = some ⟨ocInit, odInit, .func (PySem.W.fnOf "__init__" "Role.__init__" (defArgs s_Role___init) (defBody s_Role___init) (defScope s_Role___init) .none kVInit dcInit pmInit anInit cdInit ctInit), slInit⟩)
    (cInit : PySem.W.codeIn K cdInit "Role.__init__" = true)
    (kInit : PySem.W.keepIn K (.ref fInit) = true)
    (fnInit : PySem.W.isFn K (.ref fInit) = true)
    (lRr : K.lookup fRr = some ⟨ocRr, odRr, .func (PySem.W.fnOf "reads" "Role.reads" (defArgs s_Role_reads) (defBody s_Role_reads) (defScope s_Role_reads) .none kVRr dcRr pmRr anRr cdRr ctRr), slRr⟩)
    (cRr : PySem.W.codeIn K cdRr "Role.reads" = true)
    (kRr : PySem.W.keepIn K (.ref fRr) = true)
    (fnRr : PySem.W.isFn K (.ref fRr) = true)
    (lEr : K.lookup fEr = some ⟨ocEr, odEr, .func (PySem.W.fnOf "reads" "Read.reads" (defArgs s_Read_reads) (defBody s_Read_reads) (defScope s_Read_reads) .none kVEr dcEr pmEr anEr cdEr ctEr), slEr⟩)
    (cEr : PySem.W.codeIn K cdEr "Read.reads" = true)
    (kEr : PySem.W.keepIn K (.ref fEr) = true)
    (fnEr : PySem.W.isFn K (.ref fEr) = true)
    (lRm : K.lookup fRm = some ⟨ocRm, odRm, .func (PySem.W.fnOf "makes" "Role.makes" (defArgs s_Role_makes) (defBody s_Role_makes) (defScope s_Role_makes) .none kVRm dcRm pmRm anRm cdRm ctRm), slRm⟩)
    (cRm : PySem.W.codeIn K cdRm "Role.makes" = true)
    (kRm : PySem.W.keepIn K (.ref fRm) = true)
    (fnRm : PySem.W.isFn K (.ref fRm) = true)
    (lFm : K.lookup fFm = some ⟨ocFm, odFm, .func (PySem.W.fnOf "makes" "Fresh.makes" (defArgs s_Fresh_makes) (defBody s_Fresh_makes) (defScope s_Fresh_makes) .none kVFm dcFm pmFm anFm cdFm ctFm), slFm⟩)
    (cFm : PySem.W.codeIn K cdFm "Fresh.makes" = true)
    (kFm : PySem.W.keepIn K (.ref fFm) = true)
    (fnFm : PySem.W.isFn K (.ref fFm) = true)
    (lMm : K.lookup fMm = some ⟨ocMm, odMm, .func (PySem.W.fnOf "makes" "Made.makes" (defArgs s_Made_makes) (defBody s_Made_makes) (defScope s_Made_makes) .none kVMm dcMm pmMm anMm cdMm ctMm), slMm⟩)
    (cMm : PySem.W.codeIn K cdMm "Made.makes" = true)
    (kMm : PySem.W.keepIn K (.ref fMm) = true)
    (fnMm : PySem.W.isFn K (.ref fMm) = true)
    (lRd : K.lookup fRd = some ⟨ocRd, odRd, .func (PySem.W.fnOf "derived" "Role.derived" (defArgs s_Role_derived) (defBody s_Role_derived) (defScope s_Role_derived) .none kVRd dcRd pmRd anRd cdRd ctRd), slRd⟩)
    (cRd : PySem.W.codeIn K cdRd "Role.derived" = true)
    (kRd : PySem.W.keepIn K (.ref fRd) = true)
    (fnRd : PySem.W.isFn K (.ref fRd) = true)
    (lMd : K.lookup fMd = some ⟨ocMd, odMd, .func (PySem.W.fnOf "derived" "Made.derived" (defArgs s_Made_derived) (defBody s_Made_derived) (defScope s_Made_derived) .none kVMd dcMd pmMd anMd cdMd ctMd), slMd⟩)
    (cMd : PySem.W.codeIn K cdMd "Made.derived" = true)
    (kMd : PySem.W.keepIn K (.ref fMd) = true)
    (fnMd : PySem.W.isFn K (.ref fMd) = true)
    (lRi : K.lookup fRi = some ⟨ocRi, odRi, .func (PySem.W.fnOf "imaged" "Role.imaged" (defArgs s_Role_imaged) (defBody s_Role_imaged) (defScope s_Role_imaged) .none kVRi dcRi pmRi anRi cdRi ctRi), slRi⟩)
    (cRi : PySem.W.codeIn K cdRi "Role.imaged" = true)
    (kRi : PySem.W.keepIn K (.ref fRi) = true)
    (fnRi : PySem.W.isFn K (.ref fRi) = true)
    (lMi : K.lookup fMi = some ⟨ocMi, odMi, .func (PySem.W.fnOf "imaged" "Made.imaged" (defArgs s_Made_imaged) (defBody s_Made_imaged) (defScope s_Made_imaged) .none kVMi dcMi pmMi anMi cdMi ctMi), slMi⟩)
    (cMi : PySem.W.codeIn K cdMi "Made.imaged" = true)
    (kMi : PySem.W.keepIn K (.ref fMi) = true)
    (fnMi : PySem.W.isFn K (.ref fMi) = true)
    (lBi : K.lookup fBi = some ⟨ocBi, odBi, .func (PySem.W.fnOf "imaged" "Both.imaged" (defArgs s_Both_imaged) (defBody s_Both_imaged) (defScope s_Both_imaged) .none kVBi dcBi pmBi anBi cdBi ctBi), slBi⟩)
    (cBi : PySem.W.codeIn K cdBi "Both.imaged" = true)
    (kBi : PySem.W.keepIn K (.ref fBi) = true)
    (fnBi : PySem.W.isFn K (.ref fBi) = true)
    (lKin : K.lookup fKin = some ⟨ocKin, odKin, .func (PySem.W.fnOf "__init__" "Kind.__init__" (defArgs s_Kind___init) (defBody s_Kind___init) (defScope s_Kind___init) .none kVKin dcKin pmKin anKin cdKin ctKin), slKin⟩)
    (cKin : PySem.W.codeIn K cdKin "Kind.__init__" = true)
    (kKin : PySem.W.keepIn K (.ref fKin) = true)
    (fnKin : PySem.W.isFn K (.ref fKin) = true)
    (lCi : K.lookup fCi = some ⟨ocCi, odCi, .func (PySem.W.fnOf "__init__" "Catalog.__init__" (defArgs s_Catalog___init) (defBody s_Catalog___init) (defScope s_Catalog___init) .none kVCi dcCi pmCi anCi cdCi ctCi), slCi⟩)
    (cCi : PySem.W.codeIn K cdCi "Catalog.__init__" = true)
    (kCi : PySem.W.keepIn K (.ref fCi) = true)
    (fnCi : PySem.W.isFn K (.ref fCi) = true)
    (lCn : K.lookup fCn = some ⟨ocCn, odCn, .func (PySem.W.fnOf "named" "Catalog.named" (defArgs s_Catalog_named) (defBody s_Catalog_named) (defScope s_Catalog_named) .none kVCn dcCn pmCn anCn cdCn ctCn), slCn⟩)
    (cCn : PySem.W.codeIn K cdCn "Catalog.named" = true)
    (kCn : PySem.W.keepIn K (.ref fCn) = true)
    (fnCn : PySem.W.isFn K (.ref fCn) = true)
    (lMg : K.lookup fMg = some ⟨ocMg, odMg, .func (PySem.W.fnOf "made_groups" "Catalog.made_groups" (defArgs s_Catalog_made_groups) (defBody s_Catalog_made_groups) (defScope s_Catalog_made_groups) .none kVMg dcMg pmMg anMg cdMg ctMg), slMg⟩)
    (cMg : PySem.W.codeIn K cdMg "Catalog.made_groups" = true)
    (kMg : PySem.W.keepIn K (.ref fMg) = true)
    (fnMg : PySem.W.isFn K (.ref fMg) = true)
    (lIt : K.lookup fIt = some ⟨ocIt, odIt, .func (PySem.W.fnOf "__iter__" "Catalog.__iter__" (defArgs s_Catalog___iter) (defBody s_Catalog___iter) (defScope s_Catalog___iter) .none kVIt dcIt pmIt anIt cdIt ctIt), slIt⟩)
    (cIt : PySem.W.codeIn K cdIt "Catalog.__iter__" = true)
    (kIt : PySem.W.keepIn K (.ref fIt) = true)
    (fnIt : PySem.W.isFn K (.ref fIt) = true)
    (lRn : K.lookup fRn = some ⟨ocRn, odRn, .func (PySem.W.fnOf "role_named" "Kind.role_named" (defArgs s_Kind_role_named) (defBody s_Kind_role_named) (defScope s_Kind_role_named) .none kVRn dcRn pmRn anRn cdRn ctRn), slRn⟩)
    (cRn : PySem.W.codeIn K cdRn "Kind.role_named" = true)
    (kRn : PySem.W.keepIn K (.ref fRn) = true)
    (fnRn : PySem.W.isFn K (.ref fRn) = true)
    (lKp : K.lookup fKp = some ⟨ocKp, odKp, .func (PySem.W.fnOf "pairs" "Kind.pairs" (defArgs s_Kind_pairs) (defBody s_Kind_pairs) (defScope s_Kind_pairs) .none kVKp dcKp pmKp anKp cdKp ctKp), slKp⟩)
    (cKp : PySem.W.codeIn K cdKp "Kind.pairs" = true)
    (kKp : PySem.W.keepIn K (.ref fKp) = true)
    (fnKp : PySem.W.isFn K (.ref fKp) = true)
    (lWi : K.lookup fWi = some ⟨ocWi, odWi, .func (PySem.W.fnOf "__init__" "Waits.__init__" (defArgs s_Waits___init) (defBody s_Waits___init) (defScope s_Waits___init) .none kVWi dcWi pmWi anWi cdWi ctWi), slWi⟩)
    (cWi : PySem.W.codeIn K cdWi "Waits.__init__" = true)
    (kWi : PySem.W.keepIn K (.ref fWi) = true)
    (fnWi : PySem.W.isFn K (.ref fWi) = true)
    (gExN : PySem.W.nsIn K mainGlobals "BadName" = some (some (.ref CExN)))
    (xExN : K.lookup CExN = some (excClassObj enmxN eqxN CExN eAxN ebsxN ebmxN true esnxN esubxN eabxN ecolxN eddxN eaxN ebxN ecxN edxN eexN "ValueError.__new__"))
    (bExN : PySem.HandSPX.refsVE ebmxN = true)
    (saExN : PySem.W.findIn K (.ref CExN) "__setattr__" = some (some (.builtin "object.__setattr__")))
    (gaExN : PySem.W.findIn K (.ref CExN) "__getattribute__" = some (some (.builtin "BaseException.__getattribute__")))
    (ggExN : PySem.W.findIn K (.ref CExN) "__getattr__" = some none)
    (nnExN : PySem.W.findIn K (.ref CExN) "name" = some none)
    (inExN : PySem.W.findIn K (.ref CExN) "__init__" = some (some (.ref fIxN)))
    (tyIxN : PySem.W.typeIn K (.ref fIxN) = some (.type "function"))
    (lIxN : K.lookup fIxN = some ⟨ocIxN, odIxN, .func (PySem.W.fnOf "__init__" "BadName.__init__" (defArgs s_BadName___init) (defBody s_BadName___init) (defScope s_BadName___init) .none kVIxN dcIxN pmIxN anIxN cdIxN ctIxN), slIxN⟩)
    (cIxN : PySem.W.codeIn K cdIxN "BadName.__init__" = true)
    (kIxN : PySem.W.keepIn K (.ref fIxN) = true)
    (kExN : PySem.W.keepIn K (.ref CExN) = true)
    (exExN : PySem.W.subIn K (.ref CExN) (.type "BaseException") = some true)
    (tyExN : PySem.W.typeIn K (.ref CExN) = some (.type "type"))
    (hdExN : PySem.W.hasDictIn K CExN = true)
    (sExN : PySem.W.subIn K (.ref CExN) (.ref CExN) = some true)
    (clExN : PySem.W.findIn K (.ref CExN) "__class__" = some (some (.builtin "object.__class__")))
    (moExN : PySem.W.mroIn K CExN (.type "object") = some true)
    (gExK : PySem.W.nsIn K mainGlobals "BadKind" = some (some (.ref CExK)))
    (xExK : K.lookup CExK = some (excClassObj enmxK eqxK CExK eAxK ebsxK ebmxK true esnxK esubxK eabxK ecolxK eddxK eaxK ebxK ecxK edxK eexK "ValueError.__new__"))
    (bExK : PySem.HandSPX.refsVE ebmxK = true)
    (saExK : PySem.W.findIn K (.ref CExK) "__setattr__" = some (some (.builtin "object.__setattr__")))
    (gaExK : PySem.W.findIn K (.ref CExK) "__getattribute__" = some (some (.builtin "BaseException.__getattribute__")))
    (ggExK : PySem.W.findIn K (.ref CExK) "__getattr__" = some none)
    (nnExK : PySem.W.findIn K (.ref CExK) "name" = some none)
    (inExK : PySem.W.findIn K (.ref CExK) "__init__" = some (some (.ref fIxK)))
    (tyIxK : PySem.W.typeIn K (.ref fIxK) = some (.type "function"))
    (lIxK : K.lookup fIxK = some ⟨ocIxK, odIxK, .func (PySem.W.fnOf "__init__" "BadKind.__init__" (defArgs s_BadKind___init) (defBody s_BadKind___init) (defScope s_BadKind___init) .none kVIxK dcIxK pmIxK anIxK cdIxK ctIxK), slIxK⟩)
    (cIxK : PySem.W.codeIn K cdIxK "BadKind.__init__" = true)
    (kIxK : PySem.W.keepIn K (.ref fIxK) = true)
    (kExK : PySem.W.keepIn K (.ref CExK) = true)
    (exExK : PySem.W.subIn K (.ref CExK) (.type "BaseException") = some true)
    (tyExK : PySem.W.typeIn K (.ref CExK) = some (.type "type"))
    (hdExK : PySem.W.hasDictIn K CExK = true)
    (sExK : PySem.W.subIn K (.ref CExK) (.ref CExK) = some true)
    (clExK : PySem.W.findIn K (.ref CExK) "__class__" = some (some (.builtin "object.__class__")))
    (moExK : PySem.W.mroIn K CExK (.type "object") = some true)
    (gExR : PySem.W.nsIn K mainGlobals "NoKind" = some (some (.ref CExR)))
    (xExR : K.lookup CExR = some (excClassObj enmxR eqxR CExR eAxR ebsxR ebmxR true esnxR esubxR eabxR ecolxR eddxR eaxR ebxR ecxR edxR eexR "ValueError.__new__"))
    (bExR : PySem.HandSPX.refsVE ebmxR = true)
    (saExR : PySem.W.findIn K (.ref CExR) "__setattr__" = some (some (.builtin "object.__setattr__")))
    (gaExR : PySem.W.findIn K (.ref CExR) "__getattribute__" = some (some (.builtin "BaseException.__getattribute__")))
    (ggExR : PySem.W.findIn K (.ref CExR) "__getattr__" = some none)
    (nnExR : PySem.W.findIn K (.ref CExR) "name" = some none)
    (inExR : PySem.W.findIn K (.ref CExR) "__init__" = some (some (.ref fIxR)))
    (tyIxR : PySem.W.typeIn K (.ref fIxR) = some (.type "function"))
    (lIxR : K.lookup fIxR = some ⟨ocIxR, odIxR, .func (PySem.W.fnOf "__init__" "NoKind.__init__" (defArgs s_NoKind___init) (defBody s_NoKind___init) (defScope s_NoKind___init) .none kVIxR dcIxR pmIxR anIxR cdIxR ctIxR), slIxR⟩)
    (cIxR : PySem.W.codeIn K cdIxR "NoKind.__init__" = true)
    (kIxR : PySem.W.keepIn K (.ref fIxR) = true)
    (kExR : PySem.W.keepIn K (.ref CExR) = true)
    (exExR : PySem.W.subIn K (.ref CExR) (.type "BaseException") = some true)
    (tyExR : PySem.W.typeIn K (.ref CExR) = some (.type "type"))
    (hdExR : PySem.W.hasDictIn K CExR = true)
    (sExR : PySem.W.subIn K (.ref CExR) (.ref CExR) = some true)
    (clExR : PySem.W.findIn K (.ref CExR) "__class__" = some (some (.builtin "object.__class__")))
    (moExR : PySem.W.mroIn K CExR (.type "object") = some true)
    (gExO : PySem.W.nsIn K mainGlobals "NoRole" = some (some (.ref CExO)))
    (xExO : K.lookup CExO = some (excClassObj enmxO eqxO CExO eAxO ebsxO ebmxO true esnxO esubxO eabxO ecolxO eddxO eaxO ebxO ecxO edxO eexO "ValueError.__new__"))
    (bExO : PySem.HandSPX.refsVE ebmxO = true)
    (saExO : PySem.W.findIn K (.ref CExO) "__setattr__" = some (some (.builtin "object.__setattr__")))
    (gaExO : PySem.W.findIn K (.ref CExO) "__getattribute__" = some (some (.builtin "BaseException.__getattribute__")))
    (ggExO : PySem.W.findIn K (.ref CExO) "__getattr__" = some none)
    (nnExO : PySem.W.findIn K (.ref CExO) "name" = some none)
    (inExO : PySem.W.findIn K (.ref CExO) "__init__" = some (some (.ref fIxO)))
    (tyIxO : PySem.W.typeIn K (.ref fIxO) = some (.type "function"))
    (lIxO : K.lookup fIxO = some ⟨ocIxO, odIxO, .func (PySem.W.fnOf "__init__" "NoRole.__init__" (defArgs s_NoRole___init) (defBody s_NoRole___init) (defScope s_NoRole___init) .none kVIxO dcIxO pmIxO anIxO cdIxO ctIxO), slIxO⟩)
    (cIxO : PySem.W.codeIn K cdIxO "NoRole.__init__" = true)
    (kIxO : PySem.W.keepIn K (.ref fIxO) = true)
    (kExO : PySem.W.keepIn K (.ref CExO) = true)
    (exExO : PySem.W.subIn K (.ref CExO) (.type "BaseException") = some true)
    (tyExO : PySem.W.typeIn K (.ref CExO) = some (.type "type"))
    (hdExO : PySem.W.hasDictIn K CExO = true)
    (sExO : PySem.W.subIn K (.ref CExO) (.ref CExO) = some true)
    (clExO : PySem.W.findIn K (.ref CExO) "__class__" = some (some (.builtin "object.__class__")))
    (moExO : PySem.W.mroIn K CExO (.type "object") = some true)
    (gExW : PySem.W.nsIn K mainGlobals "BadWait" = some (some (.ref CExW)))
    (xExW : K.lookup CExW = some (excClassObj enmxW eqxW CExW eAxW ebsxW ebmxW true esnxW esubxW eabxW ecolxW eddxW eaxW ebxW ecxW edxW eexW "ValueError.__new__"))
    (bExW : PySem.HandSPX.refsVE ebmxW = true)
    (saExW : PySem.W.findIn K (.ref CExW) "__setattr__" = some (some (.builtin "object.__setattr__")))
    (gaExW : PySem.W.findIn K (.ref CExW) "__getattribute__" = some (some (.builtin "BaseException.__getattribute__")))
    (ggExW : PySem.W.findIn K (.ref CExW) "__getattr__" = some none)
    (nnExW : PySem.W.findIn K (.ref CExW) "row" = some none)
    (inExW : PySem.W.findIn K (.ref CExW) "__init__" = some (some (.ref fIxW)))
    (tyIxW : PySem.W.typeIn K (.ref fIxW) = some (.type "function"))
    (lIxW : K.lookup fIxW = some ⟨ocIxW, odIxW, .func (PySem.W.fnOf "__init__" "BadWait.__init__" (defArgs s_BadWait___init) (defBody s_BadWait___init) (defScope s_BadWait___init) .none kVIxW dcIxW pmIxW anIxW cdIxW ctIxW), slIxW⟩)
    (cIxW : PySem.W.codeIn K cdIxW "BadWait.__init__" = true)
    (kIxW : PySem.W.keepIn K (.ref fIxW) = true)
    (kExW : PySem.W.keepIn K (.ref CExW) = true)
    (exExW : PySem.W.subIn K (.ref CExW) (.type "BaseException") = some true)
    (tyExW : PySem.W.typeIn K (.ref CExW) = some (.type "type"))
    (hdExW : PySem.W.hasDictIn K CExW = true)
    (sExW : PySem.W.subIn K (.ref CExW) (.ref CExW) = some true)
    (clExW : PySem.W.findIn K (.ref CExW) "__class__" = some (some (.builtin "object.__class__")))
    (moExW : PySem.W.mroIn K CExW (.type "object") = some true)
    (gExL : PySem.W.nsIn K mainGlobals "BadSlot" = some (some (.ref CExL)))
    (xExL : K.lookup CExL = some (excClassObj enmxL eqxL CExL eAxL ebsxL ebmxL true esnxL esubxL eabxL ecolxL eddxL eaxL ebxL ecxL edxL eexL "ValueError.__new__"))
    (bExL : PySem.HandSPX.refsVE ebmxL = true)
    (saExL : PySem.W.findIn K (.ref CExL) "__setattr__" = some (some (.builtin "object.__setattr__")))
    (gaExL : PySem.W.findIn K (.ref CExL) "__getattribute__" = some (some (.builtin "BaseException.__getattribute__")))
    (ggExL : PySem.W.findIn K (.ref CExL) "__getattr__" = some none)
    (nnExL : PySem.W.findIn K (.ref CExL) "row" = some none)
    (inExL : PySem.W.findIn K (.ref CExL) "__init__" = some (some (.ref fIxL)))
    (tyIxL : PySem.W.typeIn K (.ref fIxL) = some (.type "function"))
    (lIxL : K.lookup fIxL = some ⟨ocIxL, odIxL, .func (PySem.W.fnOf "__init__" "BadSlot.__init__" (defArgs s_BadSlot___init) (defBody s_BadSlot___init) (defScope s_BadSlot___init) .none kVIxL dcIxL pmIxL anIxL cdIxL ctIxL), slIxL⟩)
    (cIxL : PySem.W.codeIn K cdIxL "BadSlot.__init__" = true)
    (kIxL : PySem.W.keepIn K (.ref fIxL) = true)
    (kExL : PySem.W.keepIn K (.ref CExL) = true)
    (exExL : PySem.W.subIn K (.ref CExL) (.type "BaseException") = some true)
    (tyExL : PySem.W.typeIn K (.ref CExL) = some (.type "type"))
    (hdExL : PySem.W.hasDictIn K CExL = true)
    (sExL : PySem.W.subIn K (.ref CExL) (.ref CExL) = some true)
    (clExL : PySem.W.findIn K (.ref CExL) "__class__" = some (some (.builtin "object.__class__")))
    (moExL : PySem.W.mroIn K CExL (.type "object") = some true)
    (gL : PySem.W.nsIn K mainGlobals "LONGEST_NAME" = some (some (.int 8 tkL)))
    (gM : PySem.W.nsIn K mainGlobals "MOST_ROLES" = some (some (.int 6 tkM)))
    (z_len : PySem.W.nsIn K mainGlobals "len" = some none)
    (z_sum : PySem.W.nsIn K mainGlobals "sum" = some none)
    (z_int : PySem.W.nsIn K mainGlobals "int" = some none)
    (z_range : PySem.W.nsIn K mainGlobals "range" = some none)
    (z_isinstance : PySem.W.nsIn K mainGlobals "isinstance" = some none)
    (z_any : PySem.W.nsIn K mainGlobals "any" = some none)
    (z_all : PySem.W.nsIn K mainGlobals "all" = some none)
    (z_list : PySem.W.nsIn K mainGlobals "list" = some none)
    (z_tuple : PySem.W.nsIn K mainGlobals "tuple" = some none)
    (z_sorted : PySem.W.nsIn K mainGlobals "sorted" = some none)
    (z_set : PySem.W.nsIn K mainGlobals "set" = some none)
    (z_bool : PySem.W.nsIn K mainGlobals "bool" = some none)
    (z_ValueError : PySem.W.nsIn K mainGlobals "ValueError" = some none)
    (z_enumerate : PySem.W.nsIn K mainGlobals "enumerate" = some none)
    (z_iter : PySem.W.nsIn K mainGlobals "iter" = some none)
    (aLaw : PySem.W.nsIn K mainGlobals "law" = some (some (.ref fLaw)))
    (lLaw : K.lookup fLaw = some ⟨ocLaw, odLaw, .func (PySem.W.fnOf "law" "law" (defArgs s_law) (defBody s_law) (defScope s_law) .none kVLaw dcLaw pmLaw anLaw cdLaw ctLaw), slLaw⟩)
    (cLaw : PySem.W.codeIn K cdLaw "law" = true)
    (kLaw : PySem.W.keepIn K (.ref fLaw) = true) :
    ∃ fd : FuncData, (∀ (s : Shared) (v : Value), BindsTo s fd ⟨[v], []⟩ [("_law_script", v)]) ∧ ∀ base : Heap, K.In base → base.Ns mainGlobals mg → FnOk P w K mg base CX0 9 fa fd ["_law_script"] (spLaw K) := by
  have e := hfa.symm.trans (PySem.W.mg_of X G aLaw)
  cases e
  refine ⟨PySem.W.fnOf "law" "law" (defArgs s_law) (defBody s_law) (defScope s_law) .none kVLaw dcLaw pmLaw anLaw cdLaw ctLaw, fun s v => .of_eq rfl, fun base _ _ => ?_⟩
  have FP := fun_mk (st := s_law_pool) lP cP kP
  let dP : Df K mg "_law_pool" "_law_pool" s_law_pool ["_law_script", "_law_k"] := ⟨fP, _, FP, PySem.W.mg_of X G aP, FP.binds (ps := ["_law_script", "_law_k"]) fun _ _ _ _ _ _ us hl => match us, hl with | [_, _], _ => rfl⟩
  have FD := fun_mk (st := s_law_draw) lD cD kD
  let dD : Df K mg "_law_draw" "_law_draw" s_law_draw ["_law_pool_here", "_law_many"] := ⟨fD, _, FD, PySem.W.mg_of X G aD, FD.binds (ps := ["_law_pool_here", "_law_many"]) fun _ _ _ _ _ _ us hl => match us, hl with | [_, _], _ => rfl⟩
  have FW := fun_mk (st := s_law_word) lW cW kW
  let dW : Df K mg "_law_word" "_law_word" s_law_word ["_law_numbers"] := ⟨fW, _, FW, PySem.W.mg_of X G aW, FW.binds (ps := ["_law_numbers"]) fun _ _ _ _ _ _ us hl => match us, hl with | [_], _ => rfl⟩
  have FN := fun_mk (st := s_law_names) lN cN kN
  let dN : Df K mg "_law_names" "_law_names" s_law_names ["_law_pool_here"] := ⟨fN, _, FN, PySem.W.mg_of X G aN, FN.binds (ps := ["_law_pool_here"]) fun _ _ _ _ _ _ us hl => match us, hl with | [_], _ => rfl⟩
  have FR := fun_mk (st := s_require_name) lR cR kR
  let dR : Df K mg "require_name" "require_name" s_require_name ["text"] := ⟨fR, _, FR, PySem.W.mg_of X G aR, FR.binds (ps := ["text"]) fun _ _ _ _ _ _ us hl => match us, hl with | [_], _ => rfl⟩
  have FFr := fun_mk (st := s_first_repeated) lFr cFr kFr
  let dFr : Df K mg "first_repeated" "first_repeated" s_first_repeated ["names"] := ⟨fFr, _, FFr, PySem.W.mg_of X G aFr, FFr.binds (ps := ["names"]) fun _ _ _ _ _ _ us hl => match us, hl with | [_], _ => rfl⟩
  have FRo := fun_mk (st := s_law_role) lRo cRo kRo
  let dRo : Df K mg "_law_role" "_law_role" s_law_role ["_law_name", "_law_group", "_law_mode"] := ⟨fRo, _, FRo, PySem.W.mg_of X G aRo, FRo.binds (ps := ["_law_name", "_law_group", "_law_mode"]) fun _ _ _ _ _ _ us hl => match us, hl with | [_, _, _], _ => rfl⟩
  have FKi := fun_mk (st := s_law_kind) lKi cKi kKi
  let dKi : Df K mg "_law_kind" "_law_kind" s_law_kind ["_law_kind_here"] := ⟨fKi, _, FKi, PySem.W.mg_of X G aKi, FKi.binds (ps := ["_law_kind_here"]) fun _ _ _ _ _ _ us hl => match us, hl with | [_], _ => rfl⟩
  have FKs := fun_mk (st := s_law_kinds) lKs cKs kKs
  let dKs : Df K mg "_law_kinds" "_law_kinds" s_law_kinds ["_law_script", "_law_wide", "_law_sizes"] := ⟨fKs, _, FKs, PySem.W.mg_of X G aKs, FKs.binds (ps := ["_law_script", "_law_wide", "_law_sizes"]) fun _ _ _ _ _ _ us hl => match us, hl with | [_, _, _], _ => rfl⟩
  have FCa := fun_mk (st := s_law_catalog) lCa cCa kCa
  let dCa : Df K mg "_law_catalog" "_law_catalog" s_law_catalog ["_law_kinds_here"] := ⟨fCa, _, FCa, PySem.W.mg_of X G aCa, FCa.binds (ps := ["_law_kinds_here"]) fun _ _ _ _ _ _ us hl => match us, hl with | [_], _ => rfl⟩
  have FSo := fun_mk (st := s_law_sorted) lSo cSo kSo
  let dSo : Df K mg "_law_sorted" "_law_sorted" s_law_sorted ["_law_rows"] := ⟨fSo, _, FSo, PySem.W.mg_of X G aSo, FSo.binds (ps := ["_law_rows"]) fun _ _ _ _ _ _ us hl => match us, hl with | [_], _ => rfl⟩
  have FLm := fun_mk (st := s_law_made_groups) lLm cLm kLm
  let dLm : Df K mg "_law_made_groups" "_law_made_groups" s_law_made_groups ["_law_kinds_here"] := ⟨fLm, _, FLm, PySem.W.mg_of X G aLm, FLm.binds (ps := ["_law_kinds_here"]) fun _ _ _ _ _ _ us hl => match us, hl with | [_], _ => rfl⟩
  have FLr := fun_mk (st := s_law_reads) lLr cLr kLr
  let dLr : Df K mg "_law_reads" "_law_reads" s_law_reads ["_law_mode"] := ⟨fLr, _, FLr, PySem.W.mg_of X G aLr, FLr.binds (ps := ["_law_mode"]) fun _ _ _ _ _ _ us hl => match us, hl with | [_], _ => rfl⟩
  have FLd := fun_mk (st := s_law_derived) lLd cLd kLd
  let dLd : Df K mg "_law_derived" "_law_derived" s_law_derived ["_law_mode"] := ⟨fLd, _, FLd, PySem.W.mg_of X G aLd, FLd.binds (ps := ["_law_mode"]) fun _ _ _ _ _ _ us hl => match us, hl with | [_], _ => rfl⟩
  have FLg := fun_mk (st := s_law_dangers) lLg cLg kLg
  let dLg : Df K mg "_law_dangers" "_law_dangers" s_law_dangers ["_law_kinds_here"] := ⟨fLg, _, FLg, PySem.W.mg_of X G aLg, FLg.binds (ps := ["_law_kinds_here"]) fun _ _ _ _ _ _ us hl => match us, hl with | [_], _ => rfl⟩
  have FLs := fun_mk (st := s_law_slots) lLs cLs kLs
  let dLs : Df K mg "_law_slots" "_law_slots" s_law_slots ["_law_kinds_here"] := ⟨fLs, _, FLs, PySem.W.mg_of X G aLs, FLs.binds (ps := ["_law_kinds_here"]) fun _ _ _ _ _ _ us hl => match us, hl with | [_], _ => rfl⟩
  have FIg := fun_mk (st := s_law_imaged) lIg cIg kIg
  let dIg : Df K mg "_law_imaged" "_law_imaged" s_law_imaged ["_law_kinds_here", "_law_slots_here"] := ⟨fIg, _, FIg, PySem.W.mg_of X G aIg, FIg.binds (ps := ["_law_kinds_here", "_law_slots_here"]) fun _ _ _ _ _ _ us hl => match us, hl with | [_, _], _ => rfl⟩
  have FPl := fun_mk (st := s_law_plain) lPl cPl kPl
  let dPl : Df K mg "_law_plain" "_law_plain" s_law_plain ["_law_kinds_here"] := ⟨fPl, _, FPl, PySem.W.mg_of X G aPl, FPl.binds (ps := ["_law_kinds_here"]) fun _ _ _ _ _ _ us hl => match us, hl with | [_], _ => rfl⟩
  have FTo := fun_mk (st := s_law_told) lTo cTo kTo
  let dTo : Df K mg "_law_told" "_law_told" s_law_told ["_law_catalog_here"] := ⟨fTo, _, FTo, PySem.W.mg_of X G aTo, FTo.binds (ps := ["_law_catalog_here"]) fun _ _ _ _ _ _ us hl => match us, hl with | [_], _ => rfl⟩
  have FGa := fun_mk (st := s_group_at) lGa cGa kGa
  let dGa : Df K mg "group_at" "group_at" s_group_at ["catalog", "kind", "role"] := ⟨fGa, _, FGa, PySem.W.mg_of X G aGa, FGa.binds (ps := ["catalog", "kind", "role"]) fun _ _ _ _ _ _ us hl => match us, hl with | [_, _, _], _ => rfl⟩
  have FDg := fun_mk (st := s_dangers) lDg cDg kDg
  let dDg : Df K mg "dangers" "dangers" s_dangers ["catalog"] := ⟨fDg, _, FDg, PySem.W.mg_of X G aDg, FDg.binds (ps := ["catalog"]) fun _ _ _ _ _ _ us hl => match us, hl with | [_], _ => rfl⟩
  have FRs := fun_mk (st := s_require_slots) lRs cRs kRs
  let dRs : Df K mg "require_slots" "require_slots" s_require_slots ["catalog", "slots"] := ⟨fRs, _, FRs, PySem.W.mg_of X G aRs, FRs.binds (ps := ["catalog", "slots"]) fun _ _ _ _ _ _ us hl => match us, hl with | [_, _], _ => rfl⟩
  have FWm := fun_mk (st := s_with_images) lWm cWm kWm
  let dWm : Df K mg "with_images" "with_images" s_with_images ["catalog", "slots"] := ⟨fWm, _, FWm, PySem.W.mg_of X G aWm, FWm.binds (ps := ["catalog", "slots"]) fun _ _ _ _ _ _ us hl => match us, hl with | [_, _], _ => rfl⟩
  let rr_ : Rc K mg fInit "Role" [] := ⟨Cr, PySem.W.mg_of X G gr, ⟨pgr, hdr, por, sar⟩, ⟨mkr, in_r, fnInit, kcr⟩, n_name_r, n_group_r, .str xr tr, ⟨mar, by rw [mxr]; exact ⟨_, rfl⟩, msr, by decide +kernel⟩, car, spc, tkc, mor⟩
  let re_ : Rc K mg fInit "Read" [114] := ⟨Ce, PySem.W.mg_of X G ge, ⟨pge, hde, poe, sae⟩, ⟨mke, in_e, fnInit, kce⟩, n_name_e, n_group_e, .str xe te, ⟨mae, by rw [mxe]; exact ⟨_, rfl⟩, mse, by decide +kernel⟩, cae, spc, tkc, moe⟩
  let rm_ : Rc K mg fInit "Made" [109] := ⟨Cm, PySem.W.mg_of X G gm, ⟨pgm, hdm, pom, sam⟩, ⟨mkm, in_m, fnInit, kcm⟩, n_name_m, n_group_m, .str xm tm, ⟨mam, by rw [mxm]; exact ⟨_, rfl⟩, msm, by decide +kernel⟩, cam, spc, tkc, mom⟩
  let rf_ : Rc K mg fInit "Fresh" [102] := ⟨Cf, PySem.W.mg_of X G gf, ⟨pgf, hdf, pof, saf⟩, ⟨mkf, in_f, fnInit, kcf⟩, n_name_f, n_group_f, .str xf tf, ⟨maf, by rw [mxf]; exact ⟨_, rfl⟩, msf, by decide +kernel⟩, caf, spc, tkc, mof⟩
  let rb_ : Rc K mg fInit "Both" [114, 109] := ⟨Cb, PySem.W.mg_of X G gb, ⟨pgb, hdb, pob, sab⟩, ⟨mkb, in_b, fnInit, kcb⟩, n_name_b, n_group_b, .str xb tb, ⟨mab, by rw [mxb]; exact ⟨_, rfl⟩, msb, by decide +kernel⟩, cab, spc, tkc, mob⟩
  let rw_ : Rc K mg fInit "Renewed" [114, 102] := ⟨Cw, PySem.W.mg_of X G gw, ⟨pgw, hdw, pow, saw⟩, ⟨mkw, in_w, fnInit, kcw⟩, n_name_w, n_group_w, .str xw tw, ⟨maw, by rw [mxw]; exact ⟨_, rfl⟩, msw, by decide +kernel⟩, caw, spc, tkc, mow⟩
  let c : Six K mg fInit := ⟨rr_, re_, rm_, rf_, rb_, rw_⟩
  let kc : Kc K mg fKin := ⟨Ckd, PySem.W.mg_of X G gkd, ⟨pgkd, hdkd, pokd, sakd⟩, ⟨mkkd, in_kd, fnKin, kckd⟩, n_name_kd, n_roles_kd⟩
  let cc : Cc K mg fCi := ⟨Cct, PySem.W.mg_of X G gct, ⟨pgct, hdct, poct, sact⟩, ⟨mkct, in_ct, fnCi, kcct⟩, n_kinds_ct⟩
  let wc : Wc K mg fWi := ⟨Cwc, PySem.W.mg_of X G gwc, ⟨pgwc, hdwc, powc, sawc⟩, ⟨mkwc, in_wc, fnWi, kcwc⟩, n_rows_wc⟩
  have FInit := fun_mk (st := s_Role___init) lInit cInit kInit
  let mInit : Mf K "__init__" "Role.__init__" s_Role___init ["self", "name", "group"] := ⟨fInit, _, FInit, FInit.binds (ps := ["self", "name", "group"]) fun _ _ _ _ _ _ us hl => match us, hl with | [_, _, _], _ => rfl⟩
  have FRr := fun_mk (st := s_Role_reads) lRr cRr kRr
  let mRr : Mf K "reads" "Role.reads" s_Role_reads ["self"] := ⟨fRr, _, FRr, FRr.binds (ps := ["self"]) fun _ _ _ _ _ _ us hl => match us, hl with | [_], _ => rfl⟩
  have FEr := fun_mk (st := s_Read_reads) lEr cEr kEr
  let mEr : Mf K "reads" "Read.reads" s_Read_reads ["self"] := ⟨fEr, _, FEr, FEr.binds (ps := ["self"]) fun _ _ _ _ _ _ us hl => match us, hl with | [_], _ => rfl⟩
  have FRm := fun_mk (st := s_Role_makes) lRm cRm kRm
  let mRm : Mf K "makes" "Role.makes" s_Role_makes ["self"] := ⟨fRm, _, FRm, FRm.binds (ps := ["self"]) fun _ _ _ _ _ _ us hl => match us, hl with | [_], _ => rfl⟩
  have FFm := fun_mk (st := s_Fresh_makes) lFm cFm kFm
  let mFm : Mf K "makes" "Fresh.makes" s_Fresh_makes ["self"] := ⟨fFm, _, FFm, FFm.binds (ps := ["self"]) fun _ _ _ _ _ _ us hl => match us, hl with | [_], _ => rfl⟩
  have FMm := fun_mk (st := s_Made_makes) lMm cMm kMm
  let mMm : Mf K "makes" "Made.makes" s_Made_makes ["self"] := ⟨fMm, _, FMm, FMm.binds (ps := ["self"]) fun _ _ _ _ _ _ us hl => match us, hl with | [_], _ => rfl⟩
  have FRd := fun_mk (st := s_Role_derived) lRd cRd kRd
  let mRd : Mf K "derived" "Role.derived" s_Role_derived ["self"] := ⟨fRd, _, FRd, FRd.binds (ps := ["self"]) fun _ _ _ _ _ _ us hl => match us, hl with | [_], _ => rfl⟩
  have FMd := fun_mk (st := s_Made_derived) lMd cMd kMd
  let mMd : Mf K "derived" "Made.derived" s_Made_derived ["self"] := ⟨fMd, _, FMd, FMd.binds (ps := ["self"]) fun _ _ _ _ _ _ us hl => match us, hl with | [_], _ => rfl⟩
  have FRi := fun_mk (st := s_Role_imaged) lRi cRi kRi
  let mRi : Mf K "imaged" "Role.imaged" s_Role_imaged ["self"] := ⟨fRi, _, FRi, FRi.binds (ps := ["self"]) fun _ _ _ _ _ _ us hl => match us, hl with | [_], _ => rfl⟩
  have FMi := fun_mk (st := s_Made_imaged) lMi cMi kMi
  let mMi : Mf K "imaged" "Made.imaged" s_Made_imaged ["self"] := ⟨fMi, _, FMi, FMi.binds (ps := ["self"]) fun _ _ _ _ _ _ us hl => match us, hl with | [_], _ => rfl⟩
  have FBi := fun_mk (st := s_Both_imaged) lBi cBi kBi
  let mBi : Mf K "imaged" "Both.imaged" s_Both_imaged ["self"] := ⟨fBi, _, FBi, FBi.binds (ps := ["self"]) fun _ _ _ _ _ _ us hl => match us, hl with | [_], _ => rfl⟩
  have FKin := fun_mk (st := s_Kind___init) lKin cKin kKin
  let mKin : Mf K "__init__" "Kind.__init__" s_Kind___init ["self", "name", "roles"] := ⟨fKin, _, FKin, FKin.binds (ps := ["self", "name", "roles"]) fun _ _ _ _ _ _ us hl => match us, hl with | [_, _, _], _ => rfl⟩
  have FCi := fun_mk (st := s_Catalog___init) lCi cCi kCi
  let mCi : Mf K "__init__" "Catalog.__init__" s_Catalog___init ["self", "kinds"] := ⟨fCi, _, FCi, FCi.binds (ps := ["self", "kinds"]) fun _ _ _ _ _ _ us hl => match us, hl with | [_, _], _ => rfl⟩
  have FCn := fun_mk (st := s_Catalog_named) lCn cCn kCn
  let mCn : Mf K "named" "Catalog.named" s_Catalog_named ["self", "name"] := ⟨fCn, _, FCn, FCn.binds (ps := ["self", "name"]) fun _ _ _ _ _ _ us hl => match us, hl with | [_, _], _ => rfl⟩
  have FMg := fun_mk (st := s_Catalog_made_groups) lMg cMg kMg
  let mMg : Mf K "made_groups" "Catalog.made_groups" s_Catalog_made_groups ["self"] := ⟨fMg, _, FMg, FMg.binds (ps := ["self"]) fun _ _ _ _ _ _ us hl => match us, hl with | [_], _ => rfl⟩
  have FIt := fun_mk (st := s_Catalog___iter) lIt cIt kIt
  let mIt : Mf K "__iter__" "Catalog.__iter__" s_Catalog___iter ["self"] := ⟨fIt, _, FIt, FIt.binds (ps := ["self"]) fun _ _ _ _ _ _ us hl => match us, hl with | [_], _ => rfl⟩
  have FRn := fun_mk (st := s_Kind_role_named) lRn cRn kRn
  let mRn : Mf K "role_named" "Kind.role_named" s_Kind_role_named ["self", "name"] := ⟨fRn, _, FRn, FRn.binds (ps := ["self", "name"]) fun _ _ _ _ _ _ us hl => match us, hl with | [_, _], _ => rfl⟩
  have FKp := fun_mk (st := s_Kind_pairs) lKp cKp kKp
  let mKp : Mf K "pairs" "Kind.pairs" s_Kind_pairs ["self"] := ⟨fKp, _, FKp, FKp.binds (ps := ["self"]) fun _ _ _ _ _ _ us hl => match us, hl with | [_], _ => rfl⟩
  have FWi := fun_mk (st := s_Waits___init) lWi cWi kWi
  let mWi : Mf K "__init__" "Waits.__init__" s_Waits___init ["self", "rows"] := ⟨fWi, _, FWi, FWi.binds (ps := ["self", "rows"]) fun _ _ _ _ _ _ us hl => match us, hl with | [_, _], _ => rfl⟩
  have FExN := fun_mk (st := s_BadName___init) lIxN cIxN kIxN
  let exN : ErN K mg := ⟨CExN, fIxN, _, ⟨⟨enmxN, eqxN, eAxN, ebsxN, ebmxN, esnxN, esubxN, eabxN, ecolxN, eddxN, eaxN, ebxN, ecxN, edxN, eexN, xExN, bExN⟩, saExN, exExN, tyExN, kExN⟩, inExN, tyIxN, PySem.W.mg_of X G gExN, nnExN, FExN, FExN.binds (ps := ["self", "name"]) fun _ _ _ _ _ _ us hl => match us, hl with | [_, _], _ => rfl, ⟨gaExN, ggExN, exExN, hdExN⟩, ⟨gaExN, ggExN, exExN, hdExN, clExN, spc, tkc, moExN⟩, PySem.W.exm_ref exExN hdExN tyExN sExN⟩
  have FExK := fun_mk (st := s_BadKind___init) lIxK cIxK kIxK
  let exK : ErK K mg := ⟨CExK, fIxK, _, ⟨⟨enmxK, eqxK, eAxK, ebsxK, ebmxK, esnxK, esubxK, eabxK, ecolxK, eddxK, eaxK, ebxK, ecxK, edxK, eexK, xExK, bExK⟩, saExK, exExK, tyExK, kExK⟩, inExK, tyIxK, PySem.W.mg_of X G gExK, nnExK, FExK, FExK.binds (ps := ["self", "name"]) fun _ _ _ _ _ _ us hl => match us, hl with | [_, _], _ => rfl, ⟨gaExK, ggExK, exExK, hdExK⟩, ⟨gaExK, ggExK, exExK, hdExK, clExK, spc, tkc, moExK⟩, PySem.W.exm_ref exExK hdExK tyExK sExK⟩
  have FExR := fun_mk (st := s_NoKind___init) lIxR cIxR kIxR
  let exR : ErR K mg := ⟨CExR, fIxR, _, ⟨⟨enmxR, eqxR, eAxR, ebsxR, ebmxR, esnxR, esubxR, eabxR, ecolxR, eddxR, eaxR, ebxR, ecxR, edxR, eexR, xExR, bExR⟩, saExR, exExR, tyExR, kExR⟩, inExR, tyIxR, PySem.W.mg_of X G gExR, nnExR, FExR, FExR.binds (ps := ["self", "name"]) fun _ _ _ _ _ _ us hl => match us, hl with | [_, _], _ => rfl, ⟨gaExR, ggExR, exExR, hdExR⟩, ⟨gaExR, ggExR, exExR, hdExR, clExR, spc, tkc, moExR⟩, PySem.W.exm_ref exExR hdExR tyExR sExR⟩
  have FExO := fun_mk (st := s_NoRole___init) lIxO cIxO kIxO
  let exO : ErO K mg := ⟨CExO, fIxO, _, ⟨⟨enmxO, eqxO, eAxO, ebsxO, ebmxO, esnxO, esubxO, eabxO, ecolxO, eddxO, eaxO, ebxO, ecxO, edxO, eexO, xExO, bExO⟩, saExO, exExO, tyExO, kExO⟩, inExO, tyIxO, PySem.W.mg_of X G gExO, nnExO, FExO, FExO.binds (ps := ["self", "name"]) fun _ _ _ _ _ _ us hl => match us, hl with | [_, _], _ => rfl, ⟨gaExO, ggExO, exExO, hdExO⟩, ⟨gaExO, ggExO, exExO, hdExO, clExO, spc, tkc, moExO⟩, PySem.W.exm_ref exExO hdExO tyExO sExO⟩
  have FExW := fun_mk (st := s_BadWait___init) lIxW cIxW kIxW
  let exW : ErW K mg := ⟨CExW, fIxW, _, ⟨⟨enmxW, eqxW, eAxW, ebsxW, ebmxW, esnxW, esubxW, eabxW, ecolxW, eddxW, eaxW, ebxW, ecxW, edxW, eexW, xExW, bExW⟩, saExW, exExW, tyExW, kExW⟩, inExW, tyIxW, PySem.W.mg_of X G gExW, nnExW, FExW, FExW.binds (ps := ["self", "row"]) fun _ _ _ _ _ _ us hl => match us, hl with | [_, _], _ => rfl, ⟨gaExW, ggExW, exExW, hdExW⟩, ⟨gaExW, ggExW, exExW, hdExW, clExW, spc, tkc, moExW⟩, PySem.W.exm_ref exExW hdExW tyExW sExW⟩
  have FExL := fun_mk (st := s_BadSlot___init) lIxL cIxL kIxL
  let exL : ErL K mg := ⟨CExL, fIxL, _, ⟨⟨enmxL, eqxL, eAxL, ebsxL, ebmxL, esnxL, esubxL, eabxL, ecolxL, eddxL, eaxL, ebxL, ecxL, edxL, eexL, xExL, bExL⟩, saExL, exExL, tyExL, kExL⟩, inExL, tyIxL, PySem.W.mg_of X G gExL, nnExL, FExL, FExL.binds (ps := ["self", "row"]) fun _ _ _ _ _ _ us hl => match us, hl with | [_, _], _ => rfl, ⟨gaExL, ggExL, exExL, hdExL⟩, ⟨gaExL, ggExL, exExL, hdExL, clExL, spc, tkc, moExL⟩, PySem.W.exm_ref exExL hdExL tyExL sExL⟩
  have gL' : mg "LONGEST_NAME" = some (.int 8 tkL) := PySem.W.mg_of X G gL
  have gM' : mg "MOST_ROLES" = some (.int 6 tkM) := PySem.W.mg_of X G gM
  have T : Bt mg := ⟨PySem.W.mg_none_of X G z_len, PySem.W.mg_none_of X G z_sum, PySem.W.mg_none_of X G z_int, PySem.W.mg_none_of X G z_range, PySem.W.mg_none_of X G z_isinstance, PySem.W.mg_none_of X G z_any, PySem.W.mg_none_of X G z_all, PySem.W.mg_none_of X G z_list, PySem.W.mg_none_of X G z_tuple, PySem.W.mg_none_of X G z_sorted, PySem.W.mg_none_of X G z_set, PySem.W.mg_none_of X G z_bool, PySem.W.mg_none_of X G z_ValueError⟩
  have hz_enumerate := PySem.W.mg_none_of X G z_enumerate
  have hz_iter := PySem.W.mg_none_of X G z_iter
  have t1 : ∀ m, m < 5 → Tells P w K mg base (c.C m) "reads" (.bl (rdB m)) := by
    intro m hm
    have hm' : m = 0 ∨ m = 1 ∨ m = 2 ∨ m = 3 ∨ m = 4 := by omega
    rcases hm' with rfl | rfl | rfl | rfl | rfl
    · exact ⟨_, _, _, mEr, ⟨at_reads_e, fnEr, kEr⟩, ok_Er mEr⟩
    · exact ⟨_, _, _, mRr, ⟨at_reads_m, fnRr, kRr⟩, ok_Rr mRr⟩
    · exact ⟨_, _, _, mRr, ⟨at_reads_f, fnRr, kRr⟩, ok_Rr mRr⟩
    · exact ⟨_, _, _, mEr, ⟨at_reads_b, fnEr, kEr⟩, ok_Er mEr⟩
    · exact ⟨_, _, _, mEr, ⟨at_reads_w, fnEr, kEr⟩, ok_Er mEr⟩
  have t2 : ∀ m, m < 5 → Tells P w K mg base (c.C m) "makes" (.bl (mkB m)) := by
    intro m hm
    have hm' : m = 0 ∨ m = 1 ∨ m = 2 ∨ m = 3 ∨ m = 4 := by omega
    rcases hm' with rfl | rfl | rfl | rfl | rfl
    · exact ⟨_, _, _, mRm, ⟨at_makes_e, fnRm, kRm⟩, ok_Rm mRm⟩
    · exact ⟨_, _, _, mMm, ⟨at_makes_m, fnMm, kMm⟩, ok_Mm mMm⟩
    · exact ⟨_, _, _, mFm, ⟨at_makes_f, fnFm, kFm⟩, ok_Fm mFm⟩
    · exact ⟨_, _, _, mMm, ⟨at_makes_b, fnMm, kMm⟩, ok_Mm mMm⟩
    · exact ⟨_, _, _, mFm, ⟨at_makes_w, fnFm, kFm⟩, ok_Fm mFm⟩
  have t3 : ∀ m, m < 5 → Tells P w K mg base (c.C m) "derived" (.bl (dvB m)) := by
    intro m hm
    have hm' : m = 0 ∨ m = 1 ∨ m = 2 ∨ m = 3 ∨ m = 4 := by omega
    rcases hm' with rfl | rfl | rfl | rfl | rfl
    · exact ⟨_, _, _, mRd, ⟨at_derived_e, fnRd, kRd⟩, ok_Rd mRd⟩
    · exact ⟨_, _, _, mMd, ⟨at_derived_m, fnMd, kMd⟩, ok_Md mMd⟩
    · exact ⟨_, _, _, mRd, ⟨at_derived_f, fnRd, kRd⟩, ok_Rd mRd⟩
    · exact ⟨_, _, _, mMd, ⟨at_derived_b, fnMd, kMd⟩, ok_Md mMd⟩
    · exact ⟨_, _, _, mRd, ⟨at_derived_w, fnRd, kRd⟩, ok_Rd mRd⟩
  have FLaw := fun_mk (st := s_law) lLaw cLaw kLaw
  let dLaw : Df K mg "law" "law" s_law ["_law_script"] := ⟨fa, _, FLaw, PySem.W.mg_of X G aLaw, FLaw.binds (ps := ["_law_script"]) fun _ _ _ _ _ _ us hl => match us, hl with | [_], _ => rfl⟩
  have ic : IsC K cc.C := ⟨cact, spc, tkc, moct, me_ct⟩
  have hN : Meth K cc.C "named" mCn.f := ⟨at_named_ct, fnCn, kCn⟩
  have hRn : Meth K kc.C "role_named" mRn.f := ⟨at_role_named_kd, fnRn, kRn⟩
  have hP : Meth K kc.C "pairs" mKp.f := ⟨at_pairs_kd, fnKp, kKp⟩
  have hM : Meth K cc.C "made_groups" mMg.f := ⟨at_made_groups_ct, fnMg, kMg⟩
  have ti : ∀ m, m < 5 → TellsI P w K mg base c.C m := by
    intro m hm
    have hm' : m = 0 ∨ m = 1 ∨ m = 2 ∨ m = 3 ∨ m = 4 := by omega
    rcases hm' with rfl | rfl | rfl | rfl | rfl
    · exact ⟨fRi, _, ⟨at_imaged_e, fnRi, kRi⟩, mRi.b, im_self (k := 1) (by decide) rfl (ok_Ri mRi)⟩
    · exact ⟨fMi, _, ⟨at_imaged_m, fnMi, kMi⟩, mMi.b, im_new (c.cl 1) (c.nN 1) (c.nG 1) rfl (ok_Mi mMi mInit c.f T dR exN gL')⟩
    · exact ⟨fRi, _, ⟨at_imaged_f, fnRi, kRi⟩, mRi.b, im_self (k := 1) (by decide) rfl (ok_Ri mRi)⟩
    · exact ⟨fBi, _, ⟨at_imaged_b, fnBi, kBi⟩, mBi.b, im_new (c.cl 3) (c.nN 3) (c.nG 3) rfl (ok_Bi mBi mInit c.w T dR exN gL')⟩
    · exact ⟨fRi, _, ⟨at_imaged_w, fnRi, kRi⟩, mRi.b, im_self (k := 1) (by decide) rfl (ok_Ri mRi)⟩
  have GP : FnOk P w K mg base CX0 1 dP.f dP.fd _ (spPool K) := ok_pool dP.F T
  have GD : FnOk P w K mg base CX0 1 dD.f dD.fd _ spDraw := ok_draw dD.F T
  have GN : FnOk P w K mg base CX0 2 dN.f dN.fd _ spNames := ok_names dN.F T dD dW
  have GRo : FnOk P w K mg base (L2.CX P w) 6 dRo.f dRo.fd _ (spRole exN.C c.C 5) := ok_role dRo mInit c T dR exN gL'
  have GK : FnOk P w K mg base (L2.CX P w) 4 mKin.f mKin.fd _ (spKInit K c.C exN.C exK.C) := ok_kinit mKin T hz_enumerate dR dFr c exN exK gL' gM' t2
  have GC : FnOk P w K mg base (L2.CX P w) 3 mCi.f mCi.fd _ (spCInit cc.C kc.C c.C exK.C) := ok_cinit mCi T hz_enumerate dFr c kc cc exK
  have GKi : FnOk P w K mg base CX0 7 dKi.f dKi.fd _ (spLKind kc.C c.C) := ok_lkind dKi T c mKin kc dRo GRo GK
  have GCa : FnOk P w K mg base CX0 8 dCa.f dCa.fd _ (spCatalog cc.C kc.C c.C) := ok_catalog dCa T c kc mCi cc dKi GKi GC
  have GKs : FnOk P w K mg base CX0 3 dKs.f dKs.fd _ (spKinds K) := ok_kinds dKs T dP dD dN GP GD GN
  have GCn : FnOk P w K mg base (L2.CX P w) 3 mCn.f mCn.fd _ (spNamed cc.C kc.C c.C exR.C) := ok_named mCn T c kc cc exR
  have GRn : FnOk P w K mg base (L2.CX P w) 3 mRn.f mRn.fd _ (spRNamed kc.C c.C exO.C) := ok_rnamed mRn T c kc exO
  have GMg : FnOk P w K mg base CX0 2 mMg.f mMg.fd _ (spGroups cc.C kc.C c.C mgrps) := ok_mgroups mMg T c kc cc t2
  have GPa : FnOk P w K mg base CX0 2 mKp.f mKp.fd _ (spPairs kc.C c.C) := ok_pairs mKp T c kc t1 t3
  have GWi : FnOk P w K mg base (L2.CX P w) 3 mWi.f mWi.fd _ (spWI K exW.C) := ok_wi mWi T exW
  have GGa : FnOk P w K mg base CX0 4 dGa.f dGa.fd _ (spGroupAt cc.C kc.C c.C) := ok_groupat dGa c kc cc mCn hN mRn hRn GCn GRn
  have GDg : FnOk P w K mg base CX0 5 dDg.f dDg.fd _ (spDangers wc.C cc.C kc.C c.C) := ok_dangers mWi dDg T c kc cc wc mIt at_iter_ct fnIt hz_iter mMg hM GMg mKp hP GPa dGa GGa GWi
  have GSo : FnOk P w K mg base CX0 1 dSo.f dSo.fd _ (spSort (ordR K)) := ok_sorted (ordR K) (fun X hK hu => by subst hK; exact NS.op_ltF (by omega)) (fun X hK hu => kne K hu hK) dSo T
  have GLg : FnOk P w K mg base CX0 3 dLg.f dLg.fd _ spLDangers := ok_ldangers dLg T dSo dLm dLr dLd
  have GRs : FnOk P w K mg base (L2.CX P w) 3 dRs.f dRs.fd _ (spRSlots cc.C kc.C c.C) := ok_rslots dRs T c kc cc exL mIt at_iter_ct fnIt hz_iter t3
  have GWm : FnOk P w K mg base CX0 7 dWm.f dWm.fd _ (spWith cc.C kc.C c.C) := ok_with dWm T c mKin kc mCi cc mIt at_iter_ct fnIt hz_iter ti dRs GRs GK GC
  have GLs : FnOk P w K mg base CX0 2 dLs.f dLs.fd _ spLSlots := ok_lslots dLs T dLd
  have GIg : FnOk P w K mg base CX0 2 dIg.f dIg.fd _ spLImaged := ok_limaged dIg T
  have GTo : FnOk P w K mg base CX0 2 dTo.f dTo.fd _ (spToldL cc.C kc.C c.C) := ok_told dTo T c kc cc mIt at_iter_ct fnIt hz_iter
  have GPl : FnOk P w K mg base CX0 1 dPl.f dPl.fd _ spPlainL := ok_plain dPl T
  exact ok_law dLaw T c kc cc wc ic dP dD dKs dCa dLs dIg dWm dTo dPl dDg dSo dLg GP GD GKs GCa GLs GIg GWm GTo GPl GDg GSo GLg
theorem walk {l : PySem.W.OpenLaw} {q : Program} {loose : List Str} {XP : (Str → Option Value) → Heap → Prop} {YP : World → Heap → Prop} {d : DefRec} {K : Params → PySem.W.Frag} (hn : l.most = some 63) (hdf : d.params.defaults = []) (hY : ∀ (w : World) (h : Heap), YP w h → (K w.params).In h)
    (F : ∀ (w : World) (mg : Str → Option Value) (fa : Addr) (h : Heap), (K w.params).In h → h.Ns mainGlobals mg → mg d.name = some (.ref fa) → ∃ fd : FuncData, (∀ (s : Shared) (u : Value), BindsTo s fd ⟨[u], []⟩ [("_law_script", u)]) ∧ ∀ base : Heap, (K w.params).In base → base.Ns mainGlobals mg → FnOk l.prog w (K w.params) mg base CX0 9 fa fd ["_law_script"] (spLaw (K w.params))) :
    PySem.W.WalkO q loose XP YP l.row.toRowW d [] (fun f vs => PySem.call f vs) :=
  L2.walk_of (n := 63) (k := 9) (x := "_law_script") (CX := fun _ => CX0) (sp := fun w => spLaw (K w.params)) hn (by decide) hdf ⟨rfl, by decide, by decide⟩ hY F (fun _ _ a ns hl _ hS => ⟨a, ns, rfl, hS, hl, fun _ => rfl⟩) fun _ _ _ _ _ z => z

end
end Toy
open PySem PySem.W PyProof.Rows in
set_option maxRecDepth 100000 in
set_option maxHeartbeats 0 in
theorem PySem.Challenge.cw_redopages_k35_catalogs_with_images_holds : PySem.Challenge.rw_redopages_k35_catalogs_with_images.Holds := by
  w_on; o_law; k_head; (case hw => w_witness2)
  k_fill
  refine Toy.walk (l := PySem.Challenge.rw_redopages_k35_catalogs_with_images) rfl rfl (fun w h Y => PySem.W.kIn_of Y) ?F
  case F =>
    intro w mg fa h KX G hmg
    refine' Toy.all_mk KX G hmg ?spc ?tkc ?aP ?lP ?cP ?kP ?aD ?lD ?cD ?kD ?aW ?lW ?cW ?kW ?aN ?lN ?cN ?kN ?aR ?lR ?cR ?kR ?aFr ?lFr ?cFr ?kFr ?aRo ?lRo ?cRo ?kRo ?aKi ?lKi ?cKi ?kKi ?aKs ?lKs ?cKs ?kKs ?aCa ?lCa ?cCa ?kCa ?aSo ?lSo ?cSo ?kSo ?aLm ?lLm ?cLm ?kLm ?aLr ?lLr ?cLr ?kLr ?aLd ?lLd ?cLd ?kLd ?aLg ?lLg ?cLg ?kLg ?aLs ?lLs ?cLs ?kLs ?aIg ?lIg ?cIg ?kIg ?aPl ?lPl ?cPl ?kPl ?aTo ?lTo ?cTo ?kTo ?aGa ?lGa ?cGa ?kGa ?aDg ?lDg ?cDg ?kDg ?aRs ?lRs ?cRs ?kRs ?aWm ?lWm ?cWm ?kWm ?gr ?in_r ?at_reads_r ?at_makes_r ?at_derived_r ?at_imaged_r ?pgr ?hdr ?por ?sar ?mkr ?kcr ?n_name_r ?n_group_r ?car ?mor ?mar ?mxr ?msr ?ge ?in_e ?at_reads_e ?at_makes_e ?at_derived_e ?at_imaged_e ?pge ?hde ?poe ?sae ?mke ?kce ?n_name_e ?n_group_e ?cae ?moe ?mae ?mxe ?mse ?gm ?in_m ?at_reads_m ?at_makes_m ?at_derived_m ?at_imaged_m ?pgm ?hdm ?pom ?sam ?mkm ?kcm ?n_name_m ?n_group_m ?cam ?mom ?mam ?mxm ?msm ?gf ?in_f ?at_reads_f ?at_makes_f ?at_derived_f ?at_imaged_f ?pgf ?hdf ?pof ?saf ?mkf ?kcf ?n_name_f ?n_group_f ?caf ?mof ?maf ?mxf ?msf ?gb ?in_b ?at_reads_b ?at_makes_b ?at_derived_b ?at_imaged_b ?pgb ?hdb ?pob ?sab ?mkb ?kcb ?n_name_b ?n_group_b ?cab ?mob ?mab ?mxb ?msb ?gw ?in_w ?at_reads_w ?at_makes_w ?at_derived_w ?at_imaged_w ?pgw ?hdw ?pow ?saw ?mkw ?kcw ?n_name_w ?n_group_w ?caw ?mow ?maw ?mxw ?msw ?gkd ?in_kd ?at_role_named_kd ?at_pairs_kd ?pgkd ?hdkd ?pokd ?sakd ?mkkd ?kckd ?n_name_kd ?n_roles_kd ?gct ?in_ct ?at_named_ct ?at_made_groups_ct ?at_iter_ct ?pgct ?hdct ?poct ?sact ?mkct ?kcct ?n_kinds_ct ?gwc ?in_wc ?pgwc ?hdwc ?powc ?sawc ?mkwc ?kcwc ?n_rows_wc ?cact ?moct ?me_ct ?lInit ?cInit ?kInit ?fnInit ?lRr ?cRr ?kRr ?fnRr ?lEr ?cEr ?kEr ?fnEr ?lRm ?cRm ?kRm ?fnRm ?lFm ?cFm ?kFm ?fnFm ?lMm ?cMm ?kMm ?fnMm ?lRd ?cRd ?kRd ?fnRd ?lMd ?cMd ?kMd ?fnMd ?lRi ?cRi ?kRi ?fnRi ?lMi ?cMi ?kMi ?fnMi ?lBi ?cBi ?kBi ?fnBi ?lKin ?cKin ?kKin ?fnKin ?lCi ?cCi ?kCi ?fnCi ?lCn ?cCn ?kCn ?fnCn ?lMg ?cMg ?kMg ?fnMg ?lIt ?cIt ?kIt ?fnIt ?lRn ?cRn ?kRn ?fnRn ?lKp ?cKp ?kKp ?fnKp ?lWi ?cWi ?kWi ?fnWi ?gExN ?xExN ?bExN ?saExN ?gaExN ?ggExN ?nnExN ?inExN ?tyIxN ?lIxN ?cIxN ?kIxN ?kExN ?exExN ?tyExN ?hdExN ?sExN ?clExN ?moExN ?gExK ?xExK ?bExK ?saExK ?gaExK ?ggExK ?nnExK ?inExK ?tyIxK ?lIxK ?cIxK ?kIxK ?kExK ?exExK ?tyExK ?hdExK ?sExK ?clExK ?moExK ?gExR ?xExR ?bExR ?saExR ?gaExR ?ggExR ?nnExR ?inExR ?tyIxR ?lIxR ?cIxR ?kIxR ?kExR ?exExR ?tyExR ?hdExR ?sExR ?clExR ?moExR ?gExO ?xExO ?bExO ?saExO ?gaExO ?ggExO ?nnExO ?inExO ?tyIxO ?lIxO ?cIxO ?kIxO ?kExO ?exExO ?tyExO ?hdExO ?sExO ?clExO ?moExO ?gExW ?xExW ?bExW ?saExW ?gaExW ?ggExW ?nnExW ?inExW ?tyIxW ?lIxW ?cIxW ?kIxW ?kExW ?exExW ?tyExW ?hdExW ?sExW ?clExW ?moExW ?gExL ?xExL ?bExL ?saExL ?gaExL ?ggExL ?nnExL ?inExL ?tyIxL ?lIxL ?cIxL ?kIxL ?kExL ?exExL ?tyExL ?hdExL ?sExL ?clExL ?moExL ?gL ?gM ?z_len ?z_sum ?z_int ?z_range ?z_isinstance ?z_any ?z_all ?z_list ?z_tuple ?z_sorted ?z_set ?z_bool ?z_ValueError ?z_enumerate ?z_iter ?aLaw ?lLaw ?cLaw ?kLaw
    (case spc => k_is)
    (case tkc => k_is)
    (case aP => k_is)
    (case lP => k_is)
    (case cP => k_is)
    (case kP => k_is)
    (case aD => k_is)
    (case lD => k_is)
    (case cD => k_is)
    (case kD => k_is)
    (case aW => k_is)
    (case lW => k_is)
    (case cW => k_is)
    (case kW => k_is)
    (case aN => k_is)
    (case lN => k_is)
    (case cN => k_is)
    (case kN => k_is)
    (case aR => k_is)
    (case lR => k_is)
    (case cR => k_is)
    (case kR => k_is)
    (case aFr => k_is)
    (case lFr => k_is)
    (case cFr => k_is)
    (case kFr => k_is)
    (case aRo => k_is)
    (case lRo => k_is)
    (case cRo => k_is)
    (case kRo => k_is)
    (case aKi => k_is)
    (case lKi => k_is)
    (case cKi => k_is)
    (case kKi => k_is)
    (case aKs => k_is)
    (case lKs => k_is)
    (case cKs => k_is)
    (case kKs => k_is)
    (case aCa => k_is)
    (case lCa => k_is)
    (case cCa => k_is)
    (case kCa => k_is)
    (case aSo => k_is)
    (case lSo => k_is)
    (case cSo => k_is)
    (case kSo => k_is)
    (case aLm => k_is)
    (case lLm => k_is)
    (case cLm => k_is)
    (case kLm => k_is)
    (case aLr => k_is)
    (case lLr => k_is)
    (case cLr => k_is)
    (case kLr => k_is)
    (case aLd => k_is)
    (case lLd => k_is)
    (case cLd => k_is)
    (case kLd => k_is)
    (case aLg => k_is)
    (case lLg => k_is)
    (case cLg => k_is)
    (case kLg => k_is)
    (case aLs => k_is)
    (case lLs => k_is)
    (case cLs => k_is)
    (case kLs => k_is)
    (case aIg => k_is)
    (case lIg => k_is)
    (case cIg => k_is)
    (case kIg => k_is)
    (case aPl => k_is)
    (case lPl => k_is)
    (case cPl => k_is)
    (case kPl => k_is)
    (case aTo => k_is)
    (case lTo => k_is)
    (case cTo => k_is)
    (case kTo => k_is)
    (case aGa => k_is)
    (case lGa => k_is)
    (case cGa => k_is)
    (case kGa => k_is)
    (case aDg => k_is)
    (case lDg => k_is)
    (case cDg => k_is)
    (case kDg => k_is)
    (case aRs => k_is)
    (case lRs => k_is)
    (case cRs => k_is)
    (case kRs => k_is)
    (case aWm => k_is)
    (case lWm => k_is)
    (case cWm => k_is)
    (case kWm => k_is)
    (case gr => k_is)
    (case in_r => k_is)
    (case at_reads_r => k_is)
    (case at_makes_r => k_is)
    (case at_derived_r => k_is)
    (case at_imaged_r => k_is)
    (case pgr => k_is)
    (case hdr => k_is)
    (case por => k_is)
    (case sar => k_is)
    (case mkr => k_is)
    (case kcr => k_is)
    (case n_name_r => k_is)
    (case n_group_r => k_is)
    (case car => k_is)
    (case mor => k_is)
    (case mar => k_is)
    (case mxr => decide +kernel)
    (case msr => k_is)
    (case ge => k_is)
    (case in_e => k_is)
    (case at_reads_e => k_is)
    (case at_makes_e => k_is)
    (case at_derived_e => k_is)
    (case at_imaged_e => k_is)
    (case pge => k_is)
    (case hde => k_is)
    (case poe => k_is)
    (case sae => k_is)
    (case mke => k_is)
    (case kce => k_is)
    (case n_name_e => k_is)
    (case n_group_e => k_is)
    (case cae => k_is)
    (case moe => k_is)
    (case mae => k_is)
    (case mxe => decide +kernel)
    (case mse => k_is)
    (case gm => k_is)
    (case in_m => k_is)
    (case at_reads_m => k_is)
    (case at_makes_m => k_is)
    (case at_derived_m => k_is)
    (case at_imaged_m => k_is)
    (case pgm => k_is)
    (case hdm => k_is)
    (case pom => k_is)
    (case sam => k_is)
    (case mkm => k_is)
    (case kcm => k_is)
    (case n_name_m => k_is)
    (case n_group_m => k_is)
    (case cam => k_is)
    (case mom => k_is)
    (case mam => k_is)
    (case mxm => decide +kernel)
    (case msm => k_is)
    (case gf => k_is)
    (case in_f => k_is)
    (case at_reads_f => k_is)
    (case at_makes_f => k_is)
    (case at_derived_f => k_is)
    (case at_imaged_f => k_is)
    (case pgf => k_is)
    (case hdf => k_is)
    (case pof => k_is)
    (case saf => k_is)
    (case mkf => k_is)
    (case kcf => k_is)
    (case n_name_f => k_is)
    (case n_group_f => k_is)
    (case caf => k_is)
    (case mof => k_is)
    (case maf => k_is)
    (case mxf => decide +kernel)
    (case msf => k_is)
    (case gb => k_is)
    (case in_b => k_is)
    (case at_reads_b => k_is)
    (case at_makes_b => k_is)
    (case at_derived_b => k_is)
    (case at_imaged_b => k_is)
    (case pgb => k_is)
    (case hdb => k_is)
    (case pob => k_is)
    (case sab => k_is)
    (case mkb => k_is)
    (case kcb => k_is)
    (case n_name_b => k_is)
    (case n_group_b => k_is)
    (case cab => k_is)
    (case mob => k_is)
    (case mab => k_is)
    (case mxb => decide +kernel)
    (case msb => k_is)
    (case gw => k_is)
    (case in_w => k_is)
    (case at_reads_w => k_is)
    (case at_makes_w => k_is)
    (case at_derived_w => k_is)
    (case at_imaged_w => k_is)
    (case pgw => k_is)
    (case hdw => k_is)
    (case pow => k_is)
    (case saw => k_is)
    (case mkw => k_is)
    (case kcw => k_is)
    (case n_name_w => k_is)
    (case n_group_w => k_is)
    (case caw => k_is)
    (case mow => k_is)
    (case maw => k_is)
    (case mxw => decide +kernel)
    (case msw => k_is)
    (case gkd => k_is)
    (case in_kd => k_is)
    (case at_role_named_kd => k_is)
    (case at_pairs_kd => k_is)
    (case pgkd => k_is)
    (case hdkd => k_is)
    (case pokd => k_is)
    (case sakd => k_is)
    (case mkkd => k_is)
    (case kckd => k_is)
    (case n_name_kd => k_is)
    (case n_roles_kd => k_is)
    (case gct => k_is)
    (case in_ct => k_is)
    (case at_named_ct => k_is)
    (case at_made_groups_ct => k_is)
    (case at_iter_ct => k_is)
    (case pgct => k_is)
    (case hdct => k_is)
    (case poct => k_is)
    (case sact => k_is)
    (case mkct => k_is)
    (case kcct => k_is)
    (case n_kinds_ct => k_is)
    (case gwc => k_is)
    (case in_wc => k_is)
    (case pgwc => k_is)
    (case hdwc => k_is)
    (case powc => k_is)
    (case sawc => k_is)
    (case mkwc => k_is)
    (case kcwc => k_is)
    (case n_rows_wc => k_is)
    (case cact => k_is)
    (case moct => k_is)
    (case me_ct => kit_is)
    (case lInit => k_is)
    (case cInit => k_is)
    (case kInit => k_is)
    (case fnInit => k_is)
    (case lRr => k_is)
    (case cRr => k_is)
    (case kRr => k_is)
    (case fnRr => k_is)
    (case lEr => k_is)
    (case cEr => k_is)
    (case kEr => k_is)
    (case fnEr => k_is)
    (case lRm => k_is)
    (case cRm => k_is)
    (case kRm => k_is)
    (case fnRm => k_is)
    (case lFm => k_is)
    (case cFm => k_is)
    (case kFm => k_is)
    (case fnFm => k_is)
    (case lMm => k_is)
    (case cMm => k_is)
    (case kMm => k_is)
    (case fnMm => k_is)
    (case lRd => k_is)
    (case cRd => k_is)
    (case kRd => k_is)
    (case fnRd => k_is)
    (case lMd => k_is)
    (case cMd => k_is)
    (case kMd => k_is)
    (case fnMd => k_is)
    (case lRi => k_is)
    (case cRi => k_is)
    (case kRi => k_is)
    (case fnRi => k_is)
    (case lMi => k_is)
    (case cMi => k_is)
    (case kMi => k_is)
    (case fnMi => k_is)
    (case lBi => k_is)
    (case cBi => k_is)
    (case kBi => k_is)
    (case fnBi => k_is)
    (case lKin => k_is)
    (case cKin => k_is)
    (case kKin => k_is)
    (case fnKin => k_is)
    (case lCi => k_is)
    (case cCi => k_is)
    (case kCi => k_is)
    (case fnCi => k_is)
    (case lCn => k_is)
    (case cCn => k_is)
    (case kCn => k_is)
    (case fnCn => k_is)
    (case lMg => k_is)
    (case cMg => k_is)
    (case kMg => k_is)
    (case fnMg => k_is)
    (case lIt => k_is)
    (case cIt => k_is)
    (case kIt => k_is)
    (case fnIt => k_is)
    (case lRn => k_is)
    (case cRn => k_is)
    (case kRn => k_is)
    (case fnRn => k_is)
    (case lKp => k_is)
    (case cKp => k_is)
    (case kKp => k_is)
    (case fnKp => k_is)
    (case lWi => k_is)
    (case cWi => k_is)
    (case kWi => k_is)
    (case fnWi => k_is)
    (case gExN => k_is)
    (case xExN => k_is)
    (case bExN => decide +kernel)
    (case saExN => k_is)
    (case gaExN => k_is)
    (case ggExN => k_is)
    (case nnExN => k_is)
    (case inExN => k_is)
    (case tyIxN => k_is)
    (case lIxN => k_is)
    (case cIxN => k_is)
    (case kIxN => k_is)
    (case kExN => k_is)
    (case exExN => k_is)
    (case tyExN => k_is)
    (case hdExN => k_is)
    (case sExN => first | rfl | k_is)
    (case clExN => k_is)
    (case moExN => k_is)
    (case gExK => k_is)
    (case xExK => k_is)
    (case bExK => decide +kernel)
    (case saExK => k_is)
    (case gaExK => k_is)
    (case ggExK => k_is)
    (case nnExK => k_is)
    (case inExK => k_is)
    (case tyIxK => k_is)
    (case lIxK => k_is)
    (case cIxK => k_is)
    (case kIxK => k_is)
    (case kExK => k_is)
    (case exExK => k_is)
    (case tyExK => k_is)
    (case hdExK => k_is)
    (case sExK => first | rfl | k_is)
    (case clExK => k_is)
    (case moExK => k_is)
    (case gExR => k_is)
    (case xExR => k_is)
    (case bExR => decide +kernel)
    (case saExR => k_is)
    (case gaExR => k_is)
    (case ggExR => k_is)
    (case nnExR => k_is)
    (case inExR => k_is)
    (case tyIxR => k_is)
    (case lIxR => k_is)
    (case cIxR => k_is)
    (case kIxR => k_is)
    (case kExR => k_is)
    (case exExR => k_is)
    (case tyExR => k_is)
    (case hdExR => k_is)
    (case sExR => first | rfl | k_is)
    (case clExR => k_is)
    (case moExR => k_is)
    (case gExO => k_is)
    (case xExO => k_is)
    (case bExO => decide +kernel)
    (case saExO => k_is)
    (case gaExO => k_is)
    (case ggExO => k_is)
    (case nnExO => k_is)
    (case inExO => k_is)
    (case tyIxO => k_is)
    (case lIxO => k_is)
    (case cIxO => k_is)
    (case kIxO => k_is)
    (case kExO => k_is)
    (case exExO => k_is)
    (case tyExO => k_is)
    (case hdExO => k_is)
    (case sExO => first | rfl | k_is)
    (case clExO => k_is)
    (case moExO => k_is)
    (case gExW => k_is)
    (case xExW => k_is)
    (case bExW => decide +kernel)
    (case saExW => k_is)
    (case gaExW => k_is)
    (case ggExW => k_is)
    (case nnExW => k_is)
    (case inExW => k_is)
    (case tyIxW => k_is)
    (case lIxW => k_is)
    (case cIxW => k_is)
    (case kIxW => k_is)
    (case kExW => k_is)
    (case exExW => k_is)
    (case tyExW => k_is)
    (case hdExW => k_is)
    (case sExW => first | rfl | k_is)
    (case clExW => k_is)
    (case moExW => k_is)
    (case gExL => k_is)
    (case xExL => k_is)
    (case bExL => decide +kernel)
    (case saExL => k_is)
    (case gaExL => k_is)
    (case ggExL => k_is)
    (case nnExL => k_is)
    (case inExL => k_is)
    (case tyIxL => k_is)
    (case lIxL => k_is)
    (case cIxL => k_is)
    (case kIxL => k_is)
    (case kExL => k_is)
    (case exExL => k_is)
    (case tyExL => k_is)
    (case hdExL => k_is)
    (case sExL => first | rfl | k_is)
    (case clExL => k_is)
    (case moExL => k_is)
    (case gL => k_is)
    (case gM => k_is)
    (case z_len => k_is)
    (case z_sum => k_is)
    (case z_int => k_is)
    (case z_range => k_is)
    (case z_isinstance => k_is)
    (case z_any => k_is)
    (case z_all => k_is)
    (case z_list => k_is)
    (case z_tuple => k_is)
    (case z_sorted => k_is)
    (case z_set => k_is)
    (case z_bool => k_is)
    (case z_ValueError => k_is)
    (case z_enumerate => k_is)
    (case z_iter => k_is)
    (case aLaw => k_is)
    (case lLaw => k_is)
    (case cLaw => k_is)
    (case kLaw => k_is)
