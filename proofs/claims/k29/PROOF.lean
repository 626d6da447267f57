import PyProof.Rows.All
import Wide.All
import OpenK.AllK
import Wide.FinOn
import HandS.ForMost
import HandS.ForExc
import HandS.StrMore
import HandS.Zip
import HandS.IsInst
import HandS.Conv
import HandS.Codes
import HandS.Evl
import HandS.Wide
import HandS.Replace
import HandS.Walk
import HandS.More
import HandS.TupAny
import KE.GoesZip
import KE.GoesMore
import PySem.Challenge.RW_saidacross_k29_letters_that_change_place
import HandS.Small
import HandS.TryMany
import HandS.Style
import PyProof.ReprRoads
import HandS.SetBool
import PyProof.DictRoadsH
import PyProof.TupleKey
import KE.KDictList
import HandS.DictComp
import HandS.WordsDict
import HandS.Defaults
import PyProof.Rows.TupDisplay
import HandS.Deep
import HandS.Text
import KE.KRevIter
import PyProof.CollectStr
set_option Elab.async false
set_option linter.all false
set_option maxRecDepth 100000
set_option maxHeartbeats 4000000
namespace Z
open PySem PySem.Spec PyProof.Rows L2
open C8 (tCut pss_cut Cal pe_c Met pe_mt pe_mt0 Mak pe_mk)
/-! ### texts as lists of codes -/
abbrev S (l : List Nat) : Str := ⟨l.toArray⟩
abbrev codes (w : Str) : List Nat := w.cps.toList
theorem S_codes (w : Str) : S (codes w) = w := rfl
theorem codes_S (l : List Nat) : codes (S l) = l := rfl
theorem S_len (l : List Nat) : (S l).length = l.length := by show l.toArray.size = _; simp
theorem S_inj {a b : List Nat} (h : S a = S b) : a = b := by
  have := congrArg codes h
  simpa using this
theorem S_app (a b : List Nat) : S a ++ S b = S (a ++ b) := by
  show (⟨a.toArray ++ b.toArray⟩ : Str) = _
  simp [S]
/-! ### readings under names, and how one goes into them -/
def zAdd : R2 := rI0 fun i j => .int (i + j)
def zSub : R2 := rI0 fun i j => .int (i - j)
def zMul : R2 := rI CMul fun i j => .int (i * j)
def zMod : R2 := rI (fun _ j => 0 < j) fun i j => .int (i % j)
def zDiv : R2 := rI CDivW fun i j => .int (i / j)
def zPow : R2 := rI CPow fun i j => .int (i ^ Int.toNat j)
def zAddS : R2 := fun x y H Q => ∃ i j : Str, x = V.str i ∧ y = V.str j ∧ i.length + j.length ≤ sizeLine ∧ Q (V.str (i ++ j)) H
def zLt : R2 := rI0 fun i j => .bl (decide (i < j))
def zLe : R2 := rI0 fun i j => .bl (decide (i ≤ j))
def zGt : R2 := rI0 fun i j => .bl (decide (j < i))
def zGe : R2 := rI0 fun i j => .bl (decide (j ≤ i))
def zLtS : R2 := fun x y H Q => ∃ i j : Str, x = V.str i ∧ y = V.str j ∧ Q (V.bl (decide (i.cps.toList < j.cps.toList))) H
def zLeS : R2 := fun x y H Q => ∃ i j : Str, x = V.str i ∧ y = V.str j ∧ Q (V.bl (!decide (j.cps.toList < i.cps.toList))) H
def zInS : R2 := fun x y H Q => ∃ (c : Nat) (z : Str), x = V.str ⟨#[c]⟩ ∧ y = V.str z ∧ Q (V.bl (decide (c ∈ z.cps.toList))) H
def zNInS : R2 := fun x y H Q => ∃ (c : Nat) (z : Str), x = V.str ⟨#[c]⟩ ∧ y = V.str z ∧ Q (V.bl (!decide (c ∈ z.cps.toList))) H
section
variable {X : Cx}
theorem z_add : OpR X (binaryOp .Add) zAdd := op_add
theorem z_sub : OpR X (binaryOp .Sub) zSub := op_sub
theorem z_mul : OpR X (binaryOp .Mult) zMul := op_mul
theorem z_mod : OpR X (binaryOp .Mod) zMod := op_mod
theorem z_div : OpR X (binaryOp .FloorDiv) zDiv := op_fdivW
theorem z_pow : OpR X (binaryOp .Pow) zPow := op_pow
theorem z_adds : OpR X (binaryOp .Add) zAddS := op_add_str
theorem z_lt : OpR X (compareOp .Lt) zLt := op_lt
theorem z_le : OpR X (compareOp .LtE) zLe := op_le
theorem z_gt : OpR X (compareOp .Gt) zGt := op_gt
theorem z_ge : OpR X (compareOp .GtE) zGe := op_ge
theorem z_lts : OpR X (compareOp .Lt) zLtS := op_lt_str
theorem z_les : OpR X (compareOp .LtE) zLeS := op_le_str
theorem z_ins : OpR X (compareOp .In) zInS := op_in_sign
theorem z_nins : OpR X (compareOp .NotIn) zNInS := op_notIn_sign
end
/-- what a boolean value is for what follows -/
def KB (x : V) (P : Bool → Prop) : Prop := ∃ c, x = V.bl c ∧ P c
theorem i_KB {b : Bool} {P : Bool → Prop} (h : P b) : KB (.bl b) P := ⟨b, rfl, h⟩
section
variable {σ : L2.St} {H : Hp} {Q : VK} {D : Ends} {K : PySem.W.Frag} {ta tb tc te : TE} {t u : TS} {r r' : R2} {i j : Int} {a b : List Nat} {x y v : V} {P : V → Hp → Prop}
theorem i_var {n : Nat} (h : σ[n]? = some (some v)) (q : Q v H) : tVar n σ H Q := ⟨v, h, q⟩
theorem i_c (q : Q v H) : tC v σ H Q := q
theorem i_cs {w : Str} (q : Q (.str (S (codes w))) H) : tC (.str w) σ H Q := q
theorem i_op (q : ta σ H fun x H1 => tb σ H1 fun y H2 => r x y H2 Q) : tOp r ta tb σ H Q := q
theorem i_un {r : V → Hp → VK → Prop} (q : ta σ H fun x H1 => r x H1 Q) : tUn r ta σ H Q := q
theorem i_add (q : Q (.int (i + j)) H) : zAdd (.int i) (.int j) H Q := ⟨i, j, rfl, rfl, q⟩
theorem i_sub (q : Q (.int (i - j)) H) : zSub (.int i) (.int j) H Q := ⟨i, j, rfl, rfl, q⟩
theorem i_mul (h : -2 ^ 64 < i ∧ i < 2 ^ 64 ∨ -2 ^ 64 < j ∧ j < 2 ^ 64) (q : Q (.int (i * j)) H) : zMul (.int i) (.int j) H Q := ⟨i, j, rfl, rfl, h, q⟩
theorem i_mod (h : 0 < j) (q : Q (.int (i % j)) H) : zMod (.int i) (.int j) H Q := ⟨i, j, rfl, rfl, h, q⟩
theorem i_div (h : CDivW i j) (q : Q (.int (i / j)) H) : zDiv (.int i) (.int j) H Q := ⟨i, j, rfl, rfl, h, q⟩
theorem i_pow (h : CPow i j) (q : Q (.int (i ^ Int.toNat j)) H) : zPow (.int i) (.int j) H Q := ⟨i, j, rfl, rfl, h, q⟩
theorem i_adds (h : a.length + b.length ≤ 100000) (q : Q (.str (S (a ++ b))) H) : zAddS (.str (S a)) (.str (S b)) H Q :=
  ⟨_, _, rfl, rfl, by rw [S_len, S_len]; exact Nat.le_trans h (by decide), by rw [S_app]; exact q⟩
theorem i_lt (q : Q (.bl (decide (i < j))) H) : zLt (.int i) (.int j) H Q := ⟨i, j, rfl, rfl, q⟩
theorem i_le (q : Q (.bl (decide (i ≤ j))) H) : zLe (.int i) (.int j) H Q := ⟨i, j, rfl, rfl, q⟩
theorem i_gt (q : Q (.bl (decide (j < i))) H) : zGt (.int i) (.int j) H Q := ⟨i, j, rfl, rfl, q⟩
theorem i_ge (q : Q (.bl (decide (j ≤ i))) H) : zGe (.int i) (.int j) H Q := ⟨i, j, rfl, rfl, q⟩
theorem i_lts (q : Q (.bl (decide (a < b))) H) : zLtS (.str (S a)) (.str (S b)) H Q := ⟨_, _, rfl, rfl, q⟩
theorem i_les (q : Q (.bl (!decide (b < a))) H) : zLeS (.str (S a)) (.str (S b)) H Q := ⟨_, _, rfl, rfl, q⟩
theorem i_ins {c : Nat} (q : Q (.bl (decide (c ∈ a))) H) : zInS (.str (S [c])) (.str (S a)) H Q := ⟨c, S a, rfl, rfl, q⟩
theorem i_nins {c : Nat} (q : Q (.bl (!decide (c ∈ a))) H) : zNInS (.str (S [c])) (.str (S a)) H Q := ⟨c, S a, rfl, rfl, q⟩
theorem i_eqI (q : Q (.bl (decide (i = j))) H) : rEq (.int i) (.int j) H Q := ⟨rfl, by have e : decide (V.int i = V.int j) = decide (i = j) := by simp
                                                                                       rw [e]; exact q⟩
theorem i_neI (q : Q (.bl (!decide (i = j))) H) : rNe (.int i) (.int j) H Q := ⟨rfl, by have e : decide (V.int i = V.int j) = decide (i = j) := by simp
                                                                                        rw [e]; exact q⟩
theorem eq_S : decide (V.str (S a) = V.str (S b)) = decide (a = b) := by
  by_cases h : a = b
  · subst h; simp
  · rw [decide_eq_false h]; exact decide_eq_false fun e => h (S_inj (V.str.inj e))
theorem i_eqS (q : Q (.bl (decide (a = b))) H) : rEq (.str (S a)) (.str (S b)) H Q := ⟨rfl, by rw [eq_S]; exact q⟩
theorem i_neS (q : Q (.bl (!decide (a = b))) H) : rNe (.str (S a)) (.str (S b)) H Q := ⟨rfl, by rw [eq_S]; exact q⟩
theorem i_eqB {c d : Bool} (q : Q (.bl (decide (c = d))) H) : rEq (.bl c) (.bl d) H Q := ⟨rfl, by have e : decide (V.bl c = V.bl d) = decide (c = d) := by simp
                                                                                                  rw [e]; exact q⟩
theorem i_neg (q : Q (.int (-i)) H) : rU (fun i => V.int (-i)) (.int i) H Q := ⟨i, rfl, q⟩
/-! booleans as values -/
theorem i_and (q : ta σ H fun x H1 => KB x fun c => if c = true then tb σ H1 Q else Q (.bl false) H1) : tAndV ta tb σ H Q := q
theorem i_or (q : ta σ H fun x H1 => KB x fun c => if c = true then Q (.bl true) H1 else tb σ H1 Q) : tOrV ta tb σ H Q := q
theorem i_not (q : ta σ H fun x H1 => KB x fun c => Q (.bl (!c)) H1) : tNotV ta σ H Q := q
theorem i_chain (q : ta σ H fun x H1 => tb σ H1 fun y H2 => r x y H2 fun z H3 => KB z fun k => if k = true then tc σ H3 fun w' H4 => r' y w' H4 Q else Q (.bl false) H3) : tChain r r' ta tb tc σ H Q := q
theorem i_tB {R : Bool → Hp → Prop} (q : te σ H fun x H1 => KB x fun c => R c H1) : tB te σ H R := q
theorem i_ifS {c : TT} (q : c σ H fun b H1 => if b = true then t D σ H1 else u D σ H1) : tIfS c t u D σ H := q
theorem i_if {c : TT} (q : c σ H fun b H1 => if b = true then ta σ H1 Q else tb σ H1 Q) : tIf c ta tb σ H Q := q
theorem i_test {R : Bool → Hp → Prop} (q : te σ H fun x H1 => KB x fun c => R c H1) : tTest te σ H R := q
theorem i_tand {c d : TT} {R : Bool → Hp → Prop} (q : c σ H fun b H1 => if b = true then d σ H1 R else R false H1) : tAnd c d σ H R := q
theorem i_tor {c d : TT} {R : Bool → Hp → Prop} (q : c σ H fun b H1 => if b = true then R true H1 else d σ H1 R) : tOr c d σ H R := q
theorem i_tnot {c : TT} {R : Bool → Hp → Prop} (q : c σ H fun b H1 => R (!b) H1) : tNot c σ H R := q
theorem brb {c : Bool} {A B : Prop} (h1 : c = true → A) (h2 : c = false → B) : if c = true then A else B := by
  cases c
  · exact iteF (h2 rfl)
  · exact iteT (h1 rfl)
theorem brd {p : Prop} [Decidable p] {A B : Prop} (h1 : p → A) (h2 : ¬ p → B) : if decide p = true then A else B := by
  by_cases h : p
  · rw [decide_eq_true h]; exact iteT (h1 h)
  · rw [decide_eq_false h]; exact iteF (h2 h)
theorem brn {p : Prop} [Decidable p] {A B : Prop} (h1 : ¬ p → A) (h2 : p → B) : if (!decide p) = true then A else B := by
  by_cases h : p
  · rw [decide_eq_true h]; exact iteF (h2 h)
  · rw [decide_eq_false h]; exact iteT (h1 h)
/-! arguments, calls, displays -/
theorem i_nil {R : List V → Hp → Prop} (q : R [] H) : tNil σ H R := q
theorem i_cons {tr : TA} {R : List V → Hp → Prop} (q : ta σ H fun x H1 => tr σ H1 fun xs H2 => R (x :: xs) H2) : tCons ta tr σ H R := q
theorem i_call {sp : Sp} {dvs : List V} {E : XK} {t : TA} (q : t σ H fun vs H1 => sp (vs ++ dvs) H1 Q E) : tCall sp dvs E t σ H Q := q
theorem i_cb {r : List V → Hp → VK → Prop} {t : TA} (q : t σ H fun vs H1 => r vs H1 Q) : tCB r t σ H Q := q
theorem i_tup {t : TA} (q : t σ H fun xs H1 => xs.length ≤ sizeLine ∧ ∀ p, H1 p = none → Q (.ref p) (upd H1 p (.tup xs))) : tTup t σ H Q := q
theorem i_lst {t : TA} (q : t σ H fun xs H1 => xs.length ≤ sizeLine ∧ ∀ p, H1 p = none → Q (.ref p) (upd H1 p (.lst xs))) : tLst t σ H Q := q
theorem i_bm {T : String} {r : V → List V → Hp → VK → Prop} {t : TA} (q : ta σ H fun x H1 => tyV K T x H1 ∧ t σ H1 fun xs H2 => r x xs H2 Q) : tBM K T r ta t σ H Q := q
theorem i_bm0 {T : String} {r : V → List V → Hp → VK → Prop} (q : ta σ H fun x H1 => tyV K T x H1 ∧ r x [] H1 Q) : tBM0 K T r ta σ H Q := q
theorem i_sl {r : V → Option Int → Option Int → Hp → VK → Prop} {tl th : TO} (q : te σ H fun x H1 => tl σ H1 fun l H2 => th σ H2 fun u H3 => r x l u H3 Q) : L2.tSl r te tl th σ H Q := q
theorem i_po0 {R : Option Int → Hp → Prop} (q : R none H) : tNoPart σ H R := q
def KI (x : V) (P : Int → Prop) : Prop := ∃ i, x = V.int i ∧ P i
theorem i_KI {P : Int → Prop} (h : P i) : KI (.int i) P := ⟨i, rfl, h⟩
theorem i_po1 {R : Option Int → Hp → Prop} (q : te σ H fun x H1 => KI x fun i => R (some i) H1) : tPart te σ H R := q
/-! statements -/
theorem i_seq (q : t { D with nx := u D } σ H) : tSeq t u D σ H := q
theorem i_next (q : D.nx σ H) : tNext D σ H := q
theorem i_asg {g : TG} (q : te σ H fun x H1 => g x σ H1 D.nx) : tAsg te g D σ H := q
theorem i_gname {n : Nat} {R : L2.St → Hp → Prop} (q : R (σ.set n (some v)) H) : gName n v σ H R := q
theorem i_ret (q : te σ H D.rt) : tRet te D σ H := q
theorem i_retN (q : D.rt .non H) : tRetN D σ H := q
theorem i_drop (q : te σ H fun _ H1 => D.nx σ H1) : tDrop te D σ H := q
theorem i_brk (q : D.bk σ H) : tBreak D σ H := q
theorem i_cont (q : D.ct σ H) : tCont D σ H := q
theorem i_gsub {to ti : TE} {s : TSet} {R : L2.St → Hp → Prop} (q : to σ H fun o H1 => ti σ H1 fun i H2 => s o i v H2 fun H3 => R σ H3) : gSub to ti s v σ H R := q
/-! loops -/
def FOR (J : It) (g : TG) (tb : TS) (D : Ends) (σ : L2.St) (H : Hp) : Prop := ∃ W : Nat → Nat → L2.St → Hp → Prop, (∃ m, W 0 m σ H) ∧ ∀ i m σ H, W i m σ H →
  (J.stop i H ∧ D.nx σ H) ∨ (J.go i H ∧ ∃ N : L2.St → Hp → Prop, (∀ σ' H', N σ' H' → ∃ m', m' < m ∧ W (i + 1) m' σ' H') ∧ ∀ x H', J.yld i H x H' → g x σ H' fun σ2 H2 => tb { D with nx := N, ct := N, bk := D.nx } σ2 H2)
theorem i_for {wi : TI} {g : TG} {tb : TS} (q : wi σ H fun J H1 => FOR J g tb D σ H1) : tFor wi g tb D σ H := q
def LC (J : It) (g : TG) (tt : TT) (te : TE) (vs : List Nat) (σ : L2.St) (H1 : Hp) (Q : VK) (D : Addr) : Prop := ∃ W : Nat → Nat → Hp → Prop, (∃ m, W 0 m (upd H1 D (.lst []))) ∧ ∀ i m H, W i m H →
  (J.stop i H ∧ Q (.ref D) H) ∨ (J.go i H ∧ ∃ Nx : Hp → Prop, (∀ H', Nx H' → ∃ m', m' < m ∧ W (i + 1) m' H') ∧ ∀ x H', J.yld i H x H' → g x (wipe σ vs) H' fun σ2 H2 => wipe σ2 vs = wipe σ vs ∧ tt σ2 H2 fun b H3 =>
    if b = true then te σ2 H3 fun y H4 => ∃ acc, H4 D = some (.lst acc) ∧ acc.length < sizeLine ∧ Nx (upd H4 D (.lst (acc ++ [y]))) else Nx H3)
theorem i_lc {wi : TI} {g : TG} {tt : TT} {vs : List Nat} (q : wi σ H fun J H1 => ∀ D, H1 D = none → LC J g tt te vs σ H1 Q D) : tLc wi g tt te vs σ H Q := q
theorem i_yes {R : Bool → Hp → Prop} (q : R true H) : tYes σ H R := q
def KR1 (vs : List V) (P : Int → Prop) : Prop := ∃ j : Int, vs = [.int j] ∧ -(2 ^ 62) ≤ j ∧ j < 2 ^ 62 ∧ P j
theorem i_r1 {ta : TA} {R : It → Hp → Prop} (q : ta σ H fun vs H1 => KR1 vs fun j => R (Itr 0 j.toNat) H1) : iRng1 ta σ H R := q
theorem i_KR1 {P : Int → Prop} (h : -100000 ≤ j ∧ j ≤ 100000) (q : P j) : KR1 [.int j] P := ⟨j, rfl, by omega, by omega, q⟩
def KS (x : V) (P : Str → Prop) : Prop := ∃ z, x = V.str z ∧ P z
theorem i_KS {P : Str → Prop} (q : P (S a)) : KS (.str (S a)) P := ⟨_, rfl, q⟩
theorem i_istr {R : It → Hp → Prop} (q : te σ H fun x H1 => KS x fun z => R (Its z) H1) : iStr te σ H R := q
def KL (K : PySem.W.Frag) (x : V) (H1 : Hp) (P : Addr → Prop) : Prop := ∃ a, x = V.ref a ∧ (∃ xs, SqL K H1 a xs) ∧ P a
theorem i_ilist {R : It → Hp → Prop} (q : te σ H fun x H1 => KL K x H1 fun a => R (Itl K a) H1) : iList K te σ H R := q
theorem i_KL {a : Addr} {xs : List V} {P : Addr → Prop} (h : SqL K H a xs) (q : P a) : KL K (.ref a) H P := ⟨a, rfl, ⟨xs, h⟩, q⟩
def KT (K : PySem.W.Frag) (x : V) (H1 : Hp) (P : Addr → Prop) : Prop := ∃ a, x = V.ref a ∧ (∃ xs, SqT K H1 a xs) ∧ P a
theorem i_itup {R : It → Hp → Prop} (q : te σ H fun x H1 => KT K x H1 fun a => R (Itt K a) H1) : iTup K te σ H R := q
theorem i_KT {a : Addr} {xs : List V} {P : Addr → Prop} (h : SqT K H a xs) (q : P a) : KT K (.ref a) H P := ⟨a, rfl, ⟨xs, h⟩, q⟩
theorem l_for {J : It} {n : Nat} {G : Hp → Prop} {Y : Nat → Hp → V → Hp → Prop} (w : Walk J n G Y) {g : TG} {tb : TS} (Pv : Nat → L2.St → Hp → Prop) (h0 : Pv 0 σ H) (hG : ∀ i σ H, i ≤ n → Pv i σ H → G H)
    (hs : ∀ i x σ H H', i < n → Pv i σ H → Y i H x H' → g x σ H' fun σ2 H2 => tb { D with nx := Pv (i + 1), ct := Pv (i + 1), bk := D.nx } σ2 H2) (hd : ∀ σ H, Pv n σ H → D.nx σ H) : FOR J g tb D σ H :=
  for_it w Pv h0 hG hs hd
theorem l_range {n : Nat} {g : TG} {tb : TS} (Pv : Nat → L2.St → Hp → Prop) (h0 : Pv 0 σ H)
    (hs : ∀ i σ H, i < n → Pv i σ H → g (.int i) σ H fun σ2 H2 => tb { D with nx := Pv (i + 1), ct := Pv (i + 1), bk := D.nx } σ2 H2) (hd : ∀ σ H, Pv n σ H → D.nx σ H) : FOR (Itr 0 n) g tb D σ H :=
  for_range (lo := 0) Pv h0 (fun i σ H hi p => by rw [Int.zero_add]; exact hs i σ H hi p) hd
theorem l_str {g : TG} {tb : TS} (Pv : Nat → L2.St → Hp → Prop) (h0 : Pv 0 σ H)
    (hs : ∀ i c σ H, a[i]? = some c → Pv i σ H → g (.str (S [c])) σ H fun σ2 H2 => tb { D with nx := Pv (i + 1), ct := Pv (i + 1), bk := D.nx } σ2 H2) (hd : ∀ σ H, Pv a.length σ H → D.nx σ H) : FOR (Its (S a)) g tb D σ H :=
  for_it walk_str Pv h0 (fun _ _ _ _ _ => trivial) (fun i x σ H H' hi p y => by
    obtain ⟨e, c, hc, ex⟩ := y
    subst e; subst ex
    exact hs i c σ _ (by simpa using hc) p) fun σ H p => hd σ H (by simpa using p)
theorem l_lc {J : It} {n : Nat} {G : Hp → Prop} {Y : Nat → Hp → V → Hp → Prop} (w : Walk J n G Y) {g : TG} {tt : TT} {te : TE} {vs : List Nat} {Dl : Addr} (Pv : Nat → Hp → Prop) (h0 : Pv 0 (upd H Dl (.lst []))) (hG : ∀ i H, i ≤ n → Pv i H → G H)
    (hs : ∀ i x H H', i < n → Pv i H → Y i H x H' → g x (wipe σ vs) H' fun σ2 H2 => wipe σ2 vs = wipe σ vs ∧ tt σ2 H2 fun b H3 =>
      if b = true then te σ2 H3 fun y H4 => ∃ acc, H4 Dl = some (.lst acc) ∧ acc.length < sizeLine ∧ Pv (i + 1) (upd H4 Dl (.lst (acc ++ [y]))) else Pv (i + 1) H3) (hd : ∀ H, Pv n H → Q (.ref Dl) H) : LC J g tt te vs σ H Q Dl :=
  lc_it w Pv h0 hG hs hd
theorem l_lcstr {g : TG} {tt : TT} {te : TE} {vs : List Nat} {Dl : Addr} (Pv : Nat → Hp → Prop) (h0 : Pv 0 (upd H Dl (.lst [])))
    (hs : ∀ i c H, a[i]? = some c → Pv i H → g (.str (S [c])) (wipe σ vs) H fun σ2 H2 => wipe σ2 vs = wipe σ vs ∧ tt σ2 H2 fun b H3 =>
      if b = true then te σ2 H3 fun y H4 => ∃ acc, H4 Dl = some (.lst acc) ∧ acc.length < sizeLine ∧ Pv (i + 1) (upd H4 Dl (.lst (acc ++ [y]))) else Pv (i + 1) H3) (hd : ∀ H, Pv a.length H → Q (.ref Dl) H) : LC (Its (S a)) g tt te vs σ H Q Dl :=
  lc_it walk_str Pv h0 (fun _ _ _ _ => trivial) (fun i x H H' hi p y => by
    obtain ⟨e, c, hc, ex⟩ := y
    subst e; subst ex
    exact hs i c _ (by simpa using hc) p) fun H p => hd H (by simpa using p)
end
end Z
namespace Z
open PySem PySem.Spec PyProof.Rows L2
open C8 (tCut pss_cut Cal pe_c Met pe_mt pe_mt0 Mak pe_mk)
section
variable {H : Hp} {Q : VK} {v : V} {R : L2.St → Hp → Prop} {y : Option V} {r : L2.St}
theorem i_v0 (q : Q v H) : tVar 0 (some v :: r) H Q := ⟨v, rfl, q⟩
theorem i_g0 (q : R (some v :: r) H) : gName 0 v (y :: r) H R := q
theorem i_v1 {x0 : Option V} (q : Q v H) : tVar 1 (x0 :: some v :: r) H Q := ⟨v, rfl, q⟩
theorem i_g1 {x0 : Option V} (q : R (x0 :: some v :: r) H) : gName 1 v (x0 :: y :: r) H R := q
theorem i_v2 {x0 x1 : Option V} (q : Q v H) : tVar 2 (x0 :: x1 :: some v :: r) H Q := ⟨v, rfl, q⟩
theorem i_g2 {x0 x1 : Option V} (q : R (x0 :: x1 :: some v :: r) H) : gName 2 v (x0 :: x1 :: y :: r) H R := q
theorem i_v3 {x0 x1 x2 : Option V} (q : Q v H) : tVar 3 (x0 :: x1 :: x2 :: some v :: r) H Q := ⟨v, rfl, q⟩
theorem i_g3 {x0 x1 x2 : Option V} (q : R (x0 :: x1 :: x2 :: some v :: r) H) : gName 3 v (x0 :: x1 :: x2 :: y :: r) H R := q
theorem i_v4 {x0 x1 x2 x3 : Option V} (q : Q v H) : tVar 4 (x0 :: x1 :: x2 :: x3 :: some v :: r) H Q := ⟨v, rfl, q⟩
theorem i_g4 {x0 x1 x2 x3 : Option V} (q : R (x0 :: x1 :: x2 :: x3 :: some v :: r) H) : gName 4 v (x0 :: x1 :: x2 :: x3 :: y :: r) H R := q
theorem i_v5 {x0 x1 x2 x3 x4 : Option V} (q : Q v H) : tVar 5 (x0 :: x1 :: x2 :: x3 :: x4 :: some v :: r) H Q := ⟨v, rfl, q⟩
theorem i_g5 {x0 x1 x2 x3 x4 : Option V} (q : R (x0 :: x1 :: x2 :: x3 :: x4 :: some v :: r) H) : gName 5 v (x0 :: x1 :: x2 :: x3 :: x4 :: y :: r) H R := q
theorem i_v6 {x0 x1 x2 x3 x4 x5 : Option V} (q : Q v H) : tVar 6 (x0 :: x1 :: x2 :: x3 :: x4 :: x5 :: some v :: r) H Q := ⟨v, rfl, q⟩
theorem i_g6 {x0 x1 x2 x3 x4 x5 : Option V} (q : R (x0 :: x1 :: x2 :: x3 :: x4 :: x5 :: some v :: r) H) : gName 6 v (x0 :: x1 :: x2 :: x3 :: x4 :: x5 :: y :: r) H R := q
theorem i_v7 {x0 x1 x2 x3 x4 x5 x6 : Option V} (q : Q v H) : tVar 7 (x0 :: x1 :: x2 :: x3 :: x4 :: x5 :: x6 :: some v :: r) H Q := ⟨v, rfl, q⟩
theorem i_g7 {x0 x1 x2 x3 x4 x5 x6 : Option V} (q : R (x0 :: x1 :: x2 :: x3 :: x4 :: x5 :: x6 :: some v :: r) H) : gName 7 v (x0 :: x1 :: x2 :: x3 :: x4 :: x5 :: x6 :: y :: r) H R := q
theorem i_v8 {x0 x1 x2 x3 x4 x5 x6 x7 : Option V} (q : Q v H) : tVar 8 (x0 :: x1 :: x2 :: x3 :: x4 :: x5 :: x6 :: x7 :: some v :: r) H Q := ⟨v, rfl, q⟩
theorem i_g8 {x0 x1 x2 x3 x4 x5 x6 x7 : Option V} (q : R (x0 :: x1 :: x2 :: x3 :: x4 :: x5 :: x6 :: x7 :: some v :: r) H) : gName 8 v (x0 :: x1 :: x2 :: x3 :: x4 :: x5 :: x6 :: x7 :: y :: r) H R := q
theorem i_v9 {x0 x1 x2 x3 x4 x5 x6 x7 x8 : Option V} (q : Q v H) : tVar 9 (x0 :: x1 :: x2 :: x3 :: x4 :: x5 :: x6 :: x7 :: x8 :: some v :: r) H Q := ⟨v, rfl, q⟩
theorem i_g9 {x0 x1 x2 x3 x4 x5 x6 x7 x8 : Option V} (q : R (x0 :: x1 :: x2 :: x3 :: x4 :: x5 :: x6 :: x7 :: x8 :: some v :: r) H) : gName 9 v (x0 :: x1 :: x2 :: x3 :: x4 :: x5 :: x6 :: x7 :: x8 :: y :: r) H R := q
theorem i_v10 {x0 x1 x2 x3 x4 x5 x6 x7 x8 x9 : Option V} (q : Q v H) : tVar 10 (x0 :: x1 :: x2 :: x3 :: x4 :: x5 :: x6 :: x7 :: x8 :: x9 :: some v :: r) H Q := ⟨v, rfl, q⟩
theorem i_g10 {x0 x1 x2 x3 x4 x5 x6 x7 x8 x9 : Option V} (q : R (x0 :: x1 :: x2 :: x3 :: x4 :: x5 :: x6 :: x7 :: x8 :: x9 :: some v :: r) H) : gName 10 v (x0 :: x1 :: x2 :: x3 :: x4 :: x5 :: x6 :: x7 :: x8 :: x9 :: y :: r) H R := q
theorem i_v11 {x0 x1 x2 x3 x4 x5 x6 x7 x8 x9 x10 : Option V} (q : Q v H) : tVar 11 (x0 :: x1 :: x2 :: x3 :: x4 :: x5 :: x6 :: x7 :: x8 :: x9 :: x10 :: some v :: r) H Q := ⟨v, rfl, q⟩
theorem i_g11 {x0 x1 x2 x3 x4 x5 x6 x7 x8 x9 x10 : Option V} (q : R (x0 :: x1 :: x2 :: x3 :: x4 :: x5 :: x6 :: x7 :: x8 :: x9 :: x10 :: some v :: r) H) : gName 11 v (x0 :: x1 :: x2 :: x3 :: x4 :: x5 :: x6 :: x7 :: x8 :: x9 :: x10 :: y :: r) H R := q
theorem i_v12 {x0 x1 x2 x3 x4 x5 x6 x7 x8 x9 x10 x11 : Option V} (q : Q v H) : tVar 12 (x0 :: x1 :: x2 :: x3 :: x4 :: x5 :: x6 :: x7 :: x8 :: x9 :: x10 :: x11 :: some v :: r) H Q := ⟨v, rfl, q⟩
theorem i_g12 {x0 x1 x2 x3 x4 x5 x6 x7 x8 x9 x10 x11 : Option V} (q : R (x0 :: x1 :: x2 :: x3 :: x4 :: x5 :: x6 :: x7 :: x8 :: x9 :: x10 :: x11 :: some v :: r) H) : gName 12 v (x0 :: x1 :: x2 :: x3 :: x4 :: x5 :: x6 :: x7 :: x8 :: x9 :: x10 :: x11 :: y :: r) H R := q
theorem i_v13 {x0 x1 x2 x3 x4 x5 x6 x7 x8 x9 x10 x11 x12 : Option V} (q : Q v H) : tVar 13 (x0 :: x1 :: x2 :: x3 :: x4 :: x5 :: x6 :: x7 :: x8 :: x9 :: x10 :: x11 :: x12 :: some v :: r) H Q := ⟨v, rfl, q⟩
theorem i_g13 {x0 x1 x2 x3 x4 x5 x6 x7 x8 x9 x10 x11 x12 : Option V} (q : R (x0 :: x1 :: x2 :: x3 :: x4 :: x5 :: x6 :: x7 :: x8 :: x9 :: x10 :: x11 :: x12 :: some v :: r) H) : gName 13 v (x0 :: x1 :: x2 :: x3 :: x4 :: x5 :: x6 :: x7 :: x8 :: x9 :: x10 :: x11 :: x12 :: y :: r) H R := q
theorem i_v14 {x0 x1 x2 x3 x4 x5 x6 x7 x8 x9 x10 x11 x12 x13 : Option V} (q : Q v H) : tVar 14 (x0 :: x1 :: x2 :: x3 :: x4 :: x5 :: x6 :: x7 :: x8 :: x9 :: x10 :: x11 :: x12 :: x13 :: some v :: r) H Q := ⟨v, rfl, q⟩
theorem i_g14 {x0 x1 x2 x3 x4 x5 x6 x7 x8 x9 x10 x11 x12 x13 : Option V} (q : R (x0 :: x1 :: x2 :: x3 :: x4 :: x5 :: x6 :: x7 :: x8 :: x9 :: x10 :: x11 :: x12 :: x13 :: some v :: r) H) : gName 14 v (x0 :: x1 :: x2 :: x3 :: x4 :: x5 :: x6 :: x7 :: x8 :: x9 :: x10 :: x11 :: x12 :: x13 :: y :: r) H R := q
theorem i_v15 {x0 x1 x2 x3 x4 x5 x6 x7 x8 x9 x10 x11 x12 x13 x14 : Option V} (q : Q v H) : tVar 15 (x0 :: x1 :: x2 :: x3 :: x4 :: x5 :: x6 :: x7 :: x8 :: x9 :: x10 :: x11 :: x12 :: x13 :: x14 :: some v :: r) H Q := ⟨v, rfl, q⟩
theorem i_g15 {x0 x1 x2 x3 x4 x5 x6 x7 x8 x9 x10 x11 x12 x13 x14 : Option V} (q : R (x0 :: x1 :: x2 :: x3 :: x4 :: x5 :: x6 :: x7 :: x8 :: x9 :: x10 :: x11 :: x12 :: x13 :: x14 :: some v :: r) H) : gName 15 v (x0 :: x1 :: x2 :: x3 :: x4 :: x5 :: x6 :: x7 :: x8 :: x9 :: x10 :: x11 :: x12 :: x13 :: x14 :: y :: r) H R := q
theorem i_v16 {x0 x1 x2 x3 x4 x5 x6 x7 x8 x9 x10 x11 x12 x13 x14 x15 : Option V} (q : Q v H) : tVar 16 (x0 :: x1 :: x2 :: x3 :: x4 :: x5 :: x6 :: x7 :: x8 :: x9 :: x10 :: x11 :: x12 :: x13 :: x14 :: x15 :: some v :: r) H Q := ⟨v, rfl, q⟩
theorem i_g16 {x0 x1 x2 x3 x4 x5 x6 x7 x8 x9 x10 x11 x12 x13 x14 x15 : Option V} (q : R (x0 :: x1 :: x2 :: x3 :: x4 :: x5 :: x6 :: x7 :: x8 :: x9 :: x10 :: x11 :: x12 :: x13 :: x14 :: x15 :: some v :: r) H) : gName 16 v (x0 :: x1 :: x2 :: x3 :: x4 :: x5 :: x6 :: x7 :: x8 :: x9 :: x10 :: x11 :: x12 :: x13 :: x14 :: x15 :: y :: r) H R := q
theorem i_v17 {x0 x1 x2 x3 x4 x5 x6 x7 x8 x9 x10 x11 x12 x13 x14 x15 x16 : Option V} (q : Q v H) : tVar 17 (x0 :: x1 :: x2 :: x3 :: x4 :: x5 :: x6 :: x7 :: x8 :: x9 :: x10 :: x11 :: x12 :: x13 :: x14 :: x15 :: x16 :: some v :: r) H Q := ⟨v, rfl, q⟩
theorem i_g17 {x0 x1 x2 x3 x4 x5 x6 x7 x8 x9 x10 x11 x12 x13 x14 x15 x16 : Option V} (q : R (x0 :: x1 :: x2 :: x3 :: x4 :: x5 :: x6 :: x7 :: x8 :: x9 :: x10 :: x11 :: x12 :: x13 :: x14 :: x15 :: x16 :: some v :: r) H) : gName 17 v (x0 :: x1 :: x2 :: x3 :: x4 :: x5 :: x6 :: x7 :: x8 :: x9 :: x10 :: x11 :: x12 :: x13 :: x14 :: x15 :: x16 :: y :: r) H R := q
theorem i_v18 {x0 x1 x2 x3 x4 x5 x6 x7 x8 x9 x10 x11 x12 x13 x14 x15 x16 x17 : Option V} (q : Q v H) : tVar 18 (x0 :: x1 :: x2 :: x3 :: x4 :: x5 :: x6 :: x7 :: x8 :: x9 :: x10 :: x11 :: x12 :: x13 :: x14 :: x15 :: x16 :: x17 :: some v :: r) H Q := ⟨v, rfl, q⟩
theorem i_g18 {x0 x1 x2 x3 x4 x5 x6 x7 x8 x9 x10 x11 x12 x13 x14 x15 x16 x17 : Option V} (q : R (x0 :: x1 :: x2 :: x3 :: x4 :: x5 :: x6 :: x7 :: x8 :: x9 :: x10 :: x11 :: x12 :: x13 :: x14 :: x15 :: x16 :: x17 :: some v :: r) H) : gName 18 v (x0 :: x1 :: x2 :: x3 :: x4 :: x5 :: x6 :: x7 :: x8 :: x9 :: x10 :: x11 :: x12 :: x13 :: x14 :: x15 :: x16 :: x17 :: y :: r) H R := q
theorem i_v19 {x0 x1 x2 x3 x4 x5 x6 x7 x8 x9 x10 x11 x12 x13 x14 x15 x16 x17 x18 : Option V} (q : Q v H) : tVar 19 (x0 :: x1 :: x2 :: x3 :: x4 :: x5 :: x6 :: x7 :: x8 :: x9 :: x10 :: x11 :: x12 :: x13 :: x14 :: x15 :: x16 :: x17 :: x18 :: some v :: r) H Q := ⟨v, rfl, q⟩
theorem i_g19 {x0 x1 x2 x3 x4 x5 x6 x7 x8 x9 x10 x11 x12 x13 x14 x15 x16 x17 x18 : Option V} (q : R (x0 :: x1 :: x2 :: x3 :: x4 :: x5 :: x6 :: x7 :: x8 :: x9 :: x10 :: x11 :: x12 :: x13 :: x14 :: x15 :: x16 :: x17 :: x18 :: some v :: r) H) : gName 19 v (x0 :: x1 :: x2 :: x3 :: x4 :: x5 :: x6 :: x7 :: x8 :: x9 :: x10 :: x11 :: x12 :: x13 :: x14 :: x15 :: x16 :: x17 :: x18 :: y :: r) H R := q
theorem i_v20 {x0 x1 x2 x3 x4 x5 x6 x7 x8 x9 x10 x11 x12 x13 x14 x15 x16 x17 x18 x19 : Option V} (q : Q v H) : tVar 20 (x0 :: x1 :: x2 :: x3 :: x4 :: x5 :: x6 :: x7 :: x8 :: x9 :: x10 :: x11 :: x12 :: x13 :: x14 :: x15 :: x16 :: x17 :: x18 :: x19 :: some v :: r) H Q := ⟨v, rfl, q⟩
theorem i_g20 {x0 x1 x2 x3 x4 x5 x6 x7 x8 x9 x10 x11 x12 x13 x14 x15 x16 x17 x18 x19 : Option V} (q : R (x0 :: x1 :: x2 :: x3 :: x4 :: x5 :: x6 :: x7 :: x8 :: x9 :: x10 :: x11 :: x12 :: x13 :: x14 :: x15 :: x16 :: x17 :: x18 :: x19 :: some v :: r) H) : gName 20 v (x0 :: x1 :: x2 :: x3 :: x4 :: x5 :: x6 :: x7 :: x8 :: x9 :: x10 :: x11 :: x12 :: x13 :: x14 :: x15 :: x16 :: x17 :: x18 :: x19 :: y :: r) H R := q
theorem i_v21 {x0 x1 x2 x3 x4 x5 x6 x7 x8 x9 x10 x11 x12 x13 x14 x15 x16 x17 x18 x19 x20 : Option V} (q : Q v H) : tVar 21 (x0 :: x1 :: x2 :: x3 :: x4 :: x5 :: x6 :: x7 :: x8 :: x9 :: x10 :: x11 :: x12 :: x13 :: x14 :: x15 :: x16 :: x17 :: x18 :: x19 :: x20 :: some v :: r) H Q := ⟨v, rfl, q⟩
theorem i_g21 {x0 x1 x2 x3 x4 x5 x6 x7 x8 x9 x10 x11 x12 x13 x14 x15 x16 x17 x18 x19 x20 : Option V} (q : R (x0 :: x1 :: x2 :: x3 :: x4 :: x5 :: x6 :: x7 :: x8 :: x9 :: x10 :: x11 :: x12 :: x13 :: x14 :: x15 :: x16 :: x17 :: x18 :: x19 :: x20 :: some v :: r) H) : gName 21 v (x0 :: x1 :: x2 :: x3 :: x4 :: x5 :: x6 :: x7 :: x8 :: x9 :: x10 :: x11 :: x12 :: x13 :: x14 :: x15 :: x16 :: x17 :: x18 :: x19 :: x20 :: y :: r) H R := q
theorem i_v22 {x0 x1 x2 x3 x4 x5 x6 x7 x8 x9 x10 x11 x12 x13 x14 x15 x16 x17 x18 x19 x20 x21 : Option V} (q : Q v H) : tVar 22 (x0 :: x1 :: x2 :: x3 :: x4 :: x5 :: x6 :: x7 :: x8 :: x9 :: x10 :: x11 :: x12 :: x13 :: x14 :: x15 :: x16 :: x17 :: x18 :: x19 :: x20 :: x21 :: some v :: r) H Q := ⟨v, rfl, q⟩
theorem i_g22 {x0 x1 x2 x3 x4 x5 x6 x7 x8 x9 x10 x11 x12 x13 x14 x15 x16 x17 x18 x19 x20 x21 : Option V} (q : R (x0 :: x1 :: x2 :: x3 :: x4 :: x5 :: x6 :: x7 :: x8 :: x9 :: x10 :: x11 :: x12 :: x13 :: x14 :: x15 :: x16 :: x17 :: x18 :: x19 :: x20 :: x21 :: some v :: r) H) : gName 22 v (x0 :: x1 :: x2 :: x3 :: x4 :: x5 :: x6 :: x7 :: x8 :: x9 :: x10 :: x11 :: x12 :: x13 :: x14 :: x15 :: x16 :: x17 :: x18 :: x19 :: x20 :: x21 :: y :: r) H R := q
theorem i_v23 {x0 x1 x2 x3 x4 x5 x6 x7 x8 x9 x10 x11 x12 x13 x14 x15 x16 x17 x18 x19 x20 x21 x22 : Option V} (q : Q v H) : tVar 23 (x0 :: x1 :: x2 :: x3 :: x4 :: x5 :: x6 :: x7 :: x8 :: x9 :: x10 :: x11 :: x12 :: x13 :: x14 :: x15 :: x16 :: x17 :: x18 :: x19 :: x20 :: x21 :: x22 :: some v :: r) H Q := ⟨v, rfl, q⟩
theorem i_g23 {x0 x1 x2 x3 x4 x5 x6 x7 x8 x9 x10 x11 x12 x13 x14 x15 x16 x17 x18 x19 x20 x21 x22 : Option V} (q : R (x0 :: x1 :: x2 :: x3 :: x4 :: x5 :: x6 :: x7 :: x8 :: x9 :: x10 :: x11 :: x12 :: x13 :: x14 :: x15 :: x16 :: x17 :: x18 :: x19 :: x20 :: x21 :: x22 :: some v :: r) H) : gName 23 v (x0 :: x1 :: x2 :: x3 :: x4 :: x5 :: x6 :: x7 :: x8 :: x9 :: x10 :: x11 :: x12 :: x13 :: x14 :: x15 :: x16 :: x17 :: x18 :: x19 :: x20 :: x21 :: x22 :: y :: r) H R := q
end
section
variable {σ : L2.St} {H : Hp} {v : V} {a c d : L2.St → Hp → Prop} {b : VK}
theorem i_nx (q : a σ H) : Ends.nx ⟨a, b, c, d⟩ σ H := q
theorem i_rt (q : b v H) : Ends.rt ⟨a, b, c, d⟩ v H := q
theorem i_bk (q : c σ H) : Ends.bk ⟨a, b, c, d⟩ σ H := q
theorem i_ct (q : d σ H) : Ends.ct ⟨a, b, c, d⟩ σ H := q
end
end Z
namespace Z
open PySem PySem.Spec PyProof.Rows L2
open C8 (tCut pss_cut Cal pe_c Met pe_mt pe_mt0 Mak pe_mk)
/-! ### calls of built-ins, items, methods, by names -/
def zInt : List V → Hp → VK → Prop := fun xs H Q => (∃ i, xs = [.int i] ∧ Q (.int i) H) ∨ ∃ k, xs = [.bl k] ∧ Q (.int (if k = true then 1 else 0)) H
def zLenS : List V → Hp → VK → Prop := fun xs H Q => ∃ z : Str, xs = [.str z] ∧ z.length ≤ sizeLine ∧ Q (.int z.length) H
def zLen (K : PySem.W.Frag) : List V → Hp → VK → Prop := fun xs H Q => ∃ p ys, xs = [.ref p] ∧ (SqL K H p ys ∨ SqT K H p ys) ∧ Q (.int ys.length) H
def zAbs : List V → Hp → VK → Prop := fun xs H Q => ∃ i : Int, xs = [.int i] ∧ Q (.int (if i < 0 then -i else i)) H
def zMax : List V → Hp → VK → Prop := fun xs H Q => ∃ i j : Int, xs = [.int i, .int j] ∧ Q (.int (if j > i then j else i)) H
def zMin : List V → Hp → VK → Prop := fun xs H Q => ∃ i j : Int, xs = [.int i, .int j] ∧ Q (.int (if j < i then j else i)) H
def zList (K : PySem.W.Frag) : List V → Hp → VK → Prop := fun xs H Q => ∃ p ys, xs = [.ref p] ∧ (SqL K H p ys ∨ SqT K H p ys) ∧ ∀ l, H l = none → Q (.ref l) (upd H l (.lst ys))
def zTuple (K : PySem.W.Frag) : List V → Hp → VK → Prop := fun xs H Q => ∃ p ys, xs = [.ref p] ∧ ((SqL K H p ys ∧ ∀ l, H l = none → Q (.ref l) (upd H l (.tup ys))) ∨ SqT K H p ys ∧ Q (.ref p) H)
section
variable {X : Cx}
theorem zc_int : CallR X (.type "int") zInt := call_int1
theorem zc_lens : CallR X (.builtin "len") zLenS := call_len_str
theorem zc_len : CallR X (.builtin "len") (zLen X.K) := call_len_seq
theorem zc_abs : CallR X (.builtin "abs") zAbs := call_abs
theorem zc_max (hc : X.calm = true) : CallR X (.builtin "max") zMax := call_max2 hc
theorem zc_min (hc : X.calm = true) : CallR X (.builtin "min") zMin := call_min2 hc
theorem zc_list : CallR X (.type "list") (zList X.K) := call_list_of
theorem zc_tuple : CallR X (.type "tuple") (zTuple X.K) := call_tuple_of
end
section
variable {σ : L2.St} {H : Hp} {Q : VK} {D : Ends} {K : PySem.W.Frag} {i j : Int} {a b : List Nat} {x y v : V} {p : Addr} {xs : List V}
theorem i_int (q : Q (.int i) H) : zInt [.int i] H Q := .inl ⟨i, rfl, q⟩
theorem i_intB {k : Bool} (q : Q (.int (if k = true then 1 else 0)) H) : zInt [.bl k] H Q := .inr ⟨k, rfl, q⟩
theorem le_line {n : Nat} (h : n ≤ 100000) : n ≤ sizeLine := Nat.le_trans h (by decide)
theorem lt_line {n : Nat} (h : n < 100000) : n < sizeLine := Nat.lt_of_lt_of_le h (by decide)
theorem i_lens (h : a.length ≤ 100000) (q : Q (.int (a.length : Int)) H) : zLenS [.str (S a)] H Q := ⟨_, rfl, by rw [S_len]; exact le_line h, by rw [S_len]; exact q⟩
theorem i_lenL (h : SqL K H p xs) (q : Q (.int (xs.length : Int)) H) : zLen K [.ref p] H Q := ⟨p, xs, rfl, .inl h, q⟩
theorem i_lenT (h : SqT K H p xs) (q : Q (.int (xs.length : Int)) H) : zLen K [.ref p] H Q := ⟨p, xs, rfl, .inr h, q⟩
theorem i_abs (q : Q (.int (if i < 0 then -i else i)) H) : zAbs [.int i] H Q := ⟨i, rfl, q⟩
theorem i_max (q : Q (.int (if j > i then j else i)) H) : zMax [.int i, .int j] H Q := ⟨i, j, rfl, q⟩
theorem i_min (q : Q (.int (if j < i then j else i)) H) : zMin [.int i, .int j] H Q := ⟨i, j, rfl, q⟩
theorem i_listL (h : SqL K H p xs) (q : ∀ l, H l = none → Q (.ref l) (upd H l (.lst xs))) : zList K [.ref p] H Q := ⟨p, xs, rfl, .inl h, q⟩
theorem i_tupleL (h : SqL K H p xs) (q : ∀ l, H l = none → Q (.ref l) (upd H l (.tup xs))) : zTuple K [.ref p] H Q := ⟨p, xs, rfl, .inl ⟨h, q⟩⟩
theorem i_ixL (h : SqL K H p xs) (ha : atI xs i = some v) (q : Q v H) : rIxL K (.ref p) (.int i) H Q := ⟨p, xs, i, v, rfl, rfl, h, ha, q⟩
theorem i_ixT (h : SqT K H p xs) (ha : atI xs i = some v) (q : Q v H) : rIxT K (.ref p) (.int i) H Q := ⟨p, xs, i, v, rfl, rfl, h, ha, q⟩
theorem i_ixS {c : Nat} (hz : a.length ≤ 100000) (ha : atI a i = some c) (q : Q (.str (S [c])) H) : rIxS (.str (S a)) (.int i) H Q :=
  ⟨S a, i, c, rfl, rfl, by rw [S_len]; exact le_line hz, ha, q⟩
theorem i_setL {k : Int} {n : Nat} {R : Hp → Prop} (h : H p = some (.lst xs)) (hn : ixN xs.length k = some n) (q : R (upd H p (.lst (xs.set n v)))) : rSetL (.ref p) (.int k) v H R := ⟨p, xs, k, n, rfl, rfl, h, hn, q⟩
theorem at_nat {α : Type} {xs : List α} {i : Int} {v : α} (h0 : 0 ≤ i) (h : xs[i.toNat]? = some v) : atI xs i = some v := by
  obtain ⟨n, rfl⟩ : ∃ n : Nat, i = n := ⟨i.toNat, by omega⟩
  exact atI_nat (by simpa using h)
theorem at_lt {α : Type} {xs : List α} {i : Int} (h0 : 0 ≤ i) (h1 : i < xs.length) : atI xs i = some (xs[i.toNat]'(by omega)) :=
  at_nat h0 (List.getElem?_eq_getElem (by omega))
theorem i_cut {t u : TS} (Mid : L2.St → Hp → Prop) (h1 : t { D with nx := Mid } σ H) (h2 : ∀ σ' H', Mid σ' H' → u D σ' H') : tCut t u D σ H := ⟨Mid, h1, h2⟩
theorem cdivw (h0 : 0 < j) (h : j < 2 ^ 200) : CDivW i j := by
  refine ⟨h0, ?_⟩
  have h2 : j.natAbs < 2 ^ 200 := by omega
  have h3 : j.natAbs ≠ 0 := by omega
  have h4 : Nat.log2 j.natAbs < 200 := (Nat.log2_lt h3).2 h2
  omega
end
/-! ### what the hand of a law is, and what a draw leaves -/
structure HandOk (H : Hp) (h : Addr) : Prop where
  ex : ∃ (c : Addr) (cells : List Int) (a1 a2 a3 a4 : Int), H h = some (.lst [.ref c, .int a1, .int a2, .int a3, .int a4]) ∧ H c = some (.lst (cells.map V.int)) ∧ (∀ x ∈ cells, 0 ≤ x) ∧ 0 ≤ a1 ∧ 0 ≤ a2 ∧ 0 ≤ a3 ∧ a3 < 2147483647 ∧ 0 ≤ a4
/-- all but the hand is as it was, the hand is one, over the same cells -/
structure Gd (h : Addr) (H H' : Hp) : Prop where
  ok : HandOk H' h
  kp : ∀ b o, H b = some o → b ≠ h → H' b = some o
  ok0 : HandOk H h
  cell : ∃ (c : Addr) (r r' : List V), H h = some (.lst (.ref c :: r)) ∧ H' h = some (.lst (.ref c :: r'))
theorem Gd.of {h c : Addr} {H H' : Hp} {r r' : List V} (k0 : HandOk H h) (e0 : H h = some (.lst (.ref c :: r))) (e1 : H' h = some (.lst (.ref c :: r'))) (k : HandOk H' h) (kp : ∀ b o, H b = some o → b ≠ h → H' b = some o) : Gd h H H' :=
  ⟨k, kp, k0, c, r, r', e0, e1⟩
theorem Gd.refl {h : Addr} {H : Hp} (k : HandOk H h) : Gd h H H := by
  obtain ⟨c, _, _, _, _, _, e, _⟩ := k.ex
  exact ⟨k, fun _ _ e _ => e, k, c, _, _, e, e⟩
theorem Gd.trans {h : Addr} {H H1 H2 : Hp} (a : Gd h H H1) (b : Gd h H1 H2) : Gd h H H2 := by
  obtain ⟨c, r, r1, e0, e1⟩ := a.cell
  obtain ⟨c', r1', r2, e1', e2⟩ := b.cell
  have q := Option.some.inj (e1.symm.trans e1')
  have q2 : c = c' := by
    have := (List.cons.inj (HO.lst.inj q)).1
    exact V.ref.inj this
  subst q2
  exact ⟨b.ok, fun c o e n => b.kp c o (a.kp c o e n) n, a.ok0, c, r, r2, e0, e2⟩
theorem HandOk.some {h : Addr} {H : Hp} (k : HandOk H h) : ∃ o, H h = some o := by obtain ⟨_, _, _, _, _, _, e, _⟩ := k.ex; exact ⟨_, e⟩
theorem map_int_ne {c : Addr} {cells : List Int} {r : List V} : HO.lst (.ref c :: r) ≠ HO.lst (cells.map V.int) := fun e => by
  cases cells with
  | nil => cases e
  | cons a l =>
    have e2 := (List.cons.inj (HO.lst.inj e)).1
    cases e2
theorem HandOk.new {h p : Addr} {o : HO} {H : Hp} (k : HandOk H h) (hp : H p = none) : HandOk (upd H p o) h := by
  obtain ⟨c, cells, a1, a2, a3, a4, e1, e2, r⟩ := k.ex
  exact ⟨c, cells, a1, a2, a3, a4, by rw [upd_ne (ne_of_none e1 hp)]; exact e1, by rw [upd_ne (ne_of_none e2 hp)]; exact e2, r⟩
theorem Gd.new {h p : Addr} {o : HO} {H H' : Hp} (g : Gd h H H') (hp : H' p = none) : Gd h H (upd H' p o) := by
  obtain ⟨c, r, r', e0, e1⟩ := g.cell
  exact ⟨g.ok.new hp, fun b u e n => by have := g.kp b u e n; rw [upd_ne (ne_of_none this hp)]; exact this, g.ok0, c, r, r', e0, by rw [upd_ne (ne_of_none e1 hp)]; exact e1⟩
theorem Gd.mutz {h p : Addr} {o : HO} {H H' : Hp} (g : Gd h H H') (hp : H p = none) : Gd h H (upd H' p o) := by
  obtain ⟨c, r, r', e0, e1⟩ := g.cell
  obtain ⟨c0, cells0, _, _, _, _, f0, f1, _⟩ := g.ok0.ex
  obtain ⟨c1, cells, a1, a2, a3, a4, g0, g1, rest⟩ := g.ok.ex
  have q0 : c = c0 := by
    have := (List.cons.inj (HO.lst.inj (Option.some.inj (e0.symm.trans f0)))).1
    exact V.ref.inj this
  have q1 : c = c1 := by
    have := (List.cons.inj (HO.lst.inj (Option.some.inj (e1.symm.trans g0)))).1
    exact V.ref.inj this
  subst q0 q1
  have n1 : h ≠ p := ne_of_none e0 hp
  have n2 : c ≠ p := ne_of_none f1 hp
  exact ⟨⟨c, cells, a1, a2, a3, a4, by rw [upd_ne n1]; exact g0, by rw [upd_ne n2]; exact g1, rest⟩, fun b u e n => by rw [upd_ne (ne_of_none e hp)]; exact g.kp b u e n, g.ok0, c, r, r', e0, by rw [upd_ne n1]; exact e1⟩
end Z
namespace Z
open PySem PySem.Spec PyProof.Rows L2
theorem i_setH {H : Hp} {p : Addr} {xs : List V} {k : Int} {n : Nat} {v : V} {R : Hp → Prop} (h : H p = some (.lst xs)) (hn : ixN xs.length k = some n) (L : List V) (hL : xs.set n v = L) (q : ∀ H1, H1 = upd H p (.lst L) → R H1) : rSetL (.ref p) (.int k) v H R := by
  subst hL
  exact ⟨p, xs, k, n, rfl, rfl, h, hn, q _ rfl⟩
theorem hstep {h c : Addr} {H0 H H1 : Hp} {L : List V} {cells : List Int} (e : H1 = upd H h (.lst L)) (hne : c ≠ h) (e2 : H c = some (.lst (cells.map V.int))) (kp : ∀ b o, H0 b = some o → b ≠ h → H b = some o) :
    H1 h = some (.lst L) ∧ H1 c = some (.lst (cells.map V.int)) ∧ (∀ b o, H0 b = some o → b ≠ h → H1 b = some o) := by
  subst e
  exact ⟨upd_same, by rw [upd_ne hne]; exact e2, fun b o e n => by rw [upd_ne n]; exact kp b o e n⟩
end Z
namespace Z
open PySem PySem.Spec PyProof.Rows L2
open C8 (tCut pss_cut Cal pe_c Met pe_mt pe_mt0 Mak pe_mk)
/-! ### defs of the text -/
structure DF (K : PySem.W.Frag) (mg : Str → Option Value) (x : Str) (st : Stmt) : Prop where
  ex : ∃ (f : Addr) (fd : FuncData), Fun K x x st f fd ∧ mg x = some (.ref f)
section
variable {P : Program} {w : World} {K : PySem.W.Frag} {mg : Str → Option Value} {base : Heap}
theorem DF.cal {x : Str} {st : Stmt} {N ps : List Str} {k : Nat} {sp : Sp} (d : DF K mg x st) (S : FnScope N ps (defScope st))
    (hb : ∀ (kV doc pm : Value) (an : Option Addr) (cdv ct : Value) (us : List Value), us.length = ps.length → bindArgs (PySem.W.fnOf x x (defArgs st) (defBody st) (defScope st) .none kV doc pm an cdv ct) ⟨us, []⟩ = pure (ps.zip us))
    (len : ∀ vs H Q E, sp vs H Q E → vs.length = ps.length)
    (hbody : ∀ (f : Addr) (cdv : Value) (A : Around) (outer : List Env) (s : Shared) (H : Hp) (vs : List V) (Q : VK) (E : XK), Room k (A.deeper (envOfC x (defScope st) s.heap.objs.size f cdv)) → sp vs H Q E →
      ∃ t, PSs (cxOf CX0 P w K mg base N x (defScope st) f cdv A outer s H E).nox (defBody st) t ∧ t { nx := fun _ H' => Q .non H', rt := Q } (start N vs) H) : Cal P w K mg base (k + 1) x sp [] := by
  obtain ⟨f, fd, F, hm⟩ := d.ex
  exact ⟨f, fd, ps, [], F.ok S len (hbody f), hm, F.kp, F.binds hb, .nil⟩
end
/-- the built-ins stand as they are -/
structure Bi (mg : Str → Option Value) : Prop where
  range : mg "range" = none
  len : mg "len" = none
  abs : mg "abs" = none
  int : mg "int" = none
  str : mg "str" = none
  bool : mg "bool" = none
  list : mg "list" = none
  tuple : mg "tuple" = none
  dict : mg "dict" = none
  set : mg "set" = none
  isinstance : mg "isinstance" = none
  all : mg "all" = none
  any : mg "any" = none
  sum : mg "sum" = none
  max : mg "max" = none
  min : mg "min" = none
  sorted : mg "sorted" = none
  zip : mg "zip" = none
  enumerate : mg "enumerate" = none
  reversed : mg "reversed" = none
/-! ### the promises of the hand -/
def spHand (K : PySem.W.Frag) : Sp := fun vs H Q _ => ∃ (a : Addr) (ns : List Int), vs = [.ref a] ∧ SqL K H a (ns.map V.int) ∧ ns.length ≤ 1000 ∧ ∀ h H', H h = none → HandOk H' h → Same H H' → Q (.ref h) H'
def spDraw : Sp := fun vs H Q _ => ∃ (h : Addr) (m : Int), vs = [.ref h, .int m] ∧ HandOk H h ∧ 0 < m ∧ m < 2 ^ 200 ∧ ∀ (r : Nat) H', (r : Int) < m → Gd h H H' → Q (.int (r : Int)) H'
theorem use_draw {h : Addr} {m : Int} {H : Hp} {Q : VK} {E : XK} (hh : HandOk H h) (h0 : 0 < m) (h1 : m < 2 ^ 200) (k : ∀ (r : Nat) H', (r : Int) < m → Gd h H H' → Q (.int (r : Int)) H') : spDraw ([.ref h, .int m] ++ []) H Q E :=
  ⟨h, m, rfl, hh, h0, h1, k⟩
theorem draw_k {h : Addr} {m r : Int} {H H' : Hp} {Q : VK} (k : ∀ (r : Nat) H', (r : Int) < m → Gd h H H' → Q (.int (r : Int)) H') (h0 : 0 ≤ r) (h1 : r < m) (g : Gd h H H') : Q (.int r) H' := by
  obtain ⟨n, rfl⟩ := Int.eq_ofNat_of_zero_le h0
  exact k n H' h1 g
end Z
namespace Z
open PySem PySem.Spec PyProof.Rows L2
theorem zstart {t : TS} {D : Ends} {σ : L2.St} {H : Hp} (L : L2.St) (h : σ = L) (q : t D L H) : t D σ H := h ▸ q
end Z
namespace Z
open PySem PySem.Spec PyProof.Rows L2
theorem zK {CX : CXT} {P : Program} {w : World} {K : PySem.W.Frag} {mg : Str → Option Value} {base : Heap} {N : List Str} {qual : Str} {scope : Scope} {f : Addr} {cd : Value} {A : Around} {outer : List Env} {s : Shared} {H : Hp} {E : XK} :
    (cxOf CX P w K mg base N qual scope f cd A outer s H E).nox.K = K := rfl
theorem zK2 {CX : CXT} {P : Program} {w : World} {K : PySem.W.Frag} {mg : Str → Option Value} {base : Heap} {N : List Str} {qual : Str} {scope : Scope} {f : Addr} {cd : Value} {A : Around} {outer : List Env} {s : Shared} {H : Hp} {E : XK} :
    (cxOf CX P w K mg base N qual scope f cd A outer s H E).K = K := rfl
end Z
namespace Z
open PySem PySem.Spec PyProof.Rows L2
open PySem.Sem (wp)
/-! ### zip over texts, lists, tuples, in any mixture -/
inductive Sd where
  | str (z : Str) | lst (a : Addr) | tup (a : Addr)
def Sd.is (K : PySem.W.Frag) (H : Hp) : Sd → List V → Prop
  | .str z, xs => xs = (codes z).map fun c => V.str (S [c])
  | .lst a, xs => SqL K H a xs
  | .tup a, xs => SqT K H a xs
def Sd.cell (it : Addr) (i : Nat) (h : Heap) : Sd → Prop
  | .str z => ∃ t, h.IsStrIter it (strIterType z) z t i
  | .lst a => h.IsListIter it a i
  | .tup a => h.IsTupleIter it a i
def Sd.off (b : Addr) : Sd → Prop
  | .str _ => True
  | .lst a => a ≠ b
  | .tup a => a ≠ b
def Sd.val : V → Sd → Prop
  | v, .str z => v = .str z
  | v, .lst a => v = .ref a
  | v, .tup a => v = .ref a
theorem Draws.tuple {prog : Program} {w : World} {A : Around} (hh : A.handled = none) (it l : Addr) (hne : l ≠ it) (items : Array Value) :
    Draws prog w A it [it, l] items.size (fun i v => items[i]? = some v) (fun i h => h.IsTupleIter it l i ∧ h.IsTuple l items) where
  live := fun _ _ st => let ⟨o, ho, _⟩ := st.1; ⟨o, ho⟩
  frame := fun _ _ _ st hk => ⟨st.1.at fun o e => hk it (by simp) o e, st.2.at fun o e => hk l (by simp) o e⟩
  item := fun i s Q E hi st hQ => by
    refine RZ.nextOf_tuple_item st.1 st.2 (x := items[i]) (by simp [hi]) fun h' hit' hs' => ?_
    exact hQ _ h' s.toks (by simp [hi]) ⟨hit', st.2.at fun o e => hs'.extBut _ _ hne e⟩ hs'
  done := fun s Q E st hE => RZ.nextOf_tuple_end hh st.1 st.2 (by simp) hE
section
variable {X : Cx} {pins : List (Addr × Obj)} {σ : L2.St} {H : Hp} {s : Shared}
theorem Sd.cell_keep {c : Sd} {it : Addr} {i : Nat} {h h' : Heap} (st : c.cell it i h) (k : ∀ o, h.get? it = some o → h'.get? it = some o) : c.cell it i h' := by
  cases c with
  | str z => obtain ⟨t, o, ho, r⟩ := st; exact ⟨t, o, k o ho, r⟩
  | lst a => exact Heap.IsListIter.at st k
  | tup a => exact Heap.IsTupleIter.at st k
theorem Sd.cell_obj {c : Sd} {it : Addr} {i : Nat} {h : Heap} (st : c.cell it i h) : ∃ o, h.get? it = some o ∧ ∀ v, o.data ≠ .cell v := by
  cases c with
  | str z => obtain ⟨t, o, ho, _, d⟩ := st; exact ⟨o, ho, fun v q => by rw [d] at q; cases q⟩
  | lst a => obtain ⟨o, ho, _, d⟩ := st; exact ⟨o, ho, fun v q => by rw [d] at q; cases q⟩
  | tup a => obtain ⟨o, ho, _, d⟩ := st; exact ⟨o, ho, fun v q => by rw [d] at q; cases q⟩
/-- one side of a zip as an iterator that draws -/
theorem Sd.draws {A : Around} (hh : A.handled = none) {c : Sd} {it : Addr} {i : Nat} {xs : List V} (I : Inv X pins σ H s) (st : c.cell it i s.heap) (hx : c.is X.K H xs) (ho : c.off it) :
    ∃ fp P St, Draws X.prog X.w A it fp xs.length P St ∧ St i s.heap ∧ it ∈ fp ∧ (∀ b, b ∈ fp → b = it ∨ ¬ c.off b) ∧ (∀ j v, P j v → ∃ x, xs[j]? = some x ∧ RelV x v) ∧ ∀ j h, St j h → c.cell it j h := by
  cases c with
  | str z =>
    obtain ⟨t, st⟩ := st
    have hx : xs = (codes z).map fun c => V.str (S [c]) := hx
    have hl : xs.length = z.cps.size := by rw [hx]; simp
    have hP : ∀ (j : Nat) (v : Value), (∃ c u, z.cps[j]? = some c ∧ v = .str ⟨#[c]⟩ u) → ∃ x, xs[j]? = some x ∧ RelV x v := by
      rintro j v ⟨c, u, hc, rfl⟩
      refine ⟨.str (S [c]), ?_, ⟨u, rfl⟩⟩
      rw [hx, List.getElem?_map]
      have : (codes z)[j]? = some c := by simpa using hc
      rw [this]; rfl
    rw [hl]
    by_cases ha : z.cps.all (· < 128) = true
    · have e : strIterType z = "str_ascii_iterator" := if_pos ha
      rw [e] at st
      refine ⟨_, _, _, Draws.strAscii hh it z t, st, by simp, fun b hb => .inl (by simpa using hb), hP, fun j h q => ⟨t, ?_⟩⟩
      rw [e]; exact q
    · have e : strIterType z = "str_iterator" := if_neg ha
      rw [e] at st
      refine ⟨_, _, _, Draws.strWide hh it z t, st, by simp, fun b hb => .inl (by simpa using hb), hP, fun j h q => ⟨t, ?_⟩⟩
      rw [e]; exact q
  | lst a =>
    obtain ⟨its, rv, p, _⟩ := I.list hx
    have hl : xs.length = its.toArray.size := by rw [rv.length]; simp
    rw [hl]
    refine ⟨_, _, _, Draws.list hh it a ho its.toArray, ⟨st, p.isList⟩, by simp, fun b hb => ?_, fun j v hv => ?_, fun j h q => q.1⟩
    · rcases List.mem_cons.mp hb with q | q
      · exact .inl q
      · exact .inr fun o => o (List.mem_singleton.mp q).symm
    · have hv' : its[j]? = some v := by simpa using hv
      cases e : xs[j]? with
      | none => rw [rv.none_of e] at hv'; cases hv'
      | some x => obtain ⟨u, hu, ru⟩ := rv.get e; rw [hu] at hv'; cases hv'; exact ⟨x, rfl, ru⟩
  | tup a =>
    obtain ⟨its, rv, p, _⟩ := I.tuple hx
    have hl : xs.length = its.toArray.size := by rw [rv.length]; simp
    rw [hl]
    refine ⟨_, _, _, Draws.tuple hh it a ho its.toArray, ⟨st, p⟩, by simp, fun b hb => ?_, fun j v hv => ?_, fun j h q => q.1⟩
    · rcases List.mem_cons.mp hb with q | q
      · exact .inl q
      · exact .inr fun o => o (List.mem_singleton.mp q).symm
    · have hv' : its[j]? = some v := by simpa using hv
      cases e : xs[j]? with
      | none => rw [rv.none_of e] at hv'; cases hv'
      | some x => obtain ⟨u, hu, ru⟩ := rv.get e; rw [hu] at hv'; cases hv'; exact ⟨x, rfl, ru⟩
theorem Sd.is_inj {c : Sd} {xs ys : List V} (I : Inv X pins σ H s) (a : c.is X.K H xs) (b : c.is X.K H ys) : xs = ys := by
  cases c with
  | str z => exact a.trans b.symm
  | lst p => exact I.list_inj a b
  | tup p => exact I.tuple_inj a b
theorem Sd.is_new {K : PySem.W.Frag} {c : Sd} {xs : List V} {p : Addr} {o : HO} {H : Hp} (hp : H p = none) (a : c.is K H xs) : c.is K (upd H p o) xs := by
  have e : Same H (upd H p o) := fun b u q => by rw [upd_ne (ne_of_none q hp)]; exact q
  cases c with
  | str z => exact a
  | lst q => exact e.seq a
  | tup q =>
    rcases a with (h | ⟨u, h⟩) | h
    · exact .inl (.inl (e _ _ h))
    · exact .inl (.inr ⟨u, e _ _ h⟩)
    · exact .inr h
end
def ItZ (K : PySem.W.Frag) (c d : Sd) : It :=
  ⟨fun i H => ∃ (xs ys : List V), c.is K H xs ∧ d.is K H ys ∧ i < xs.length ∧ i < ys.length,
    fun i H v H' => ∃ T x y, v = .ref T ∧ H T = none ∧ H' = upd H T (.tup [x, y]) ∧ (∀ xs, c.is K H xs → xs[i]? = some x) ∧ ∀ ys, d.is K H ys → ys[i]? = some y,
    fun i H => ∃ xs ys : List V, c.is K H xs ∧ d.is K H ys ∧ i ≤ xs.length ∧ i ≤ ys.length ∧ (i = xs.length ∨ i = ys.length)⟩
structure ZApart (z TI TO i1 i2 : Addr) (c d : Sd) : Prop where
  TIz : TI ≠ z
  TOz : TO ≠ z
  TITO : TI ≠ TO
  TIi1 : TI ≠ i1
  TIi2 : TI ≠ i2
  i1z : i1 ≠ z
  i2z : i2 ≠ z
  i1T : i1 ≠ TO
  i2T : i2 ≠ TO
  i12 : i1 ≠ i2
  cf : ∀ b, b ∈ [z, TI, TO, i1, i2] → c.off b
  df : ∀ b, b ∈ [z, TI, TO, i1, i2] → d.off b
theorem turn_zipZ {P : Program} {w : World} {K : PySem.W.Frag} {elts : List Expr} {kk : Nat} {tpos : Pos} {c d : Sd} {z TI TO i1 i2 : Addr} (D : ZApart z TI TO i1 i2 c d) :
    Turn P w K (.Tuple elts kk tpos) (ItZ K c d) [z, TI, TO, i1, i2] z (fun i h => IsZip h z TI TO .none ∧ IsTupOf2 h TI (.ref i1) (.ref i2) ∧ (∃ x y, IsTupOf2 h TO x y) ∧ c.cell i1 i h ∧ d.cell i2 i h) where
  mem := by simp
  obj := fun i h st b hb => by
    obtain ⟨hz, hTI, ⟨x, y, hTO⟩, h1, h2⟩ := st
    have e' : b = z ∨ b = TI ∨ b = TO ∨ b = i1 ∨ b = i2 := by simpa using hb
    rcases e' with q | q | q | q | q
    · rw [q]; exact ⟨_, hz, fun v q => nomatch q⟩
    · rw [q]; exact ⟨_, hTI, fun v q => nomatch q⟩
    · rw [q]; exact ⟨_, hTO, fun v q => nomatch q⟩
    · rw [q]; exact Sd.cell_obj h1
    · rw [q]; exact Sd.cell_obj h2
  keep := fun i h h' st k => by
    obtain ⟨hz, hTI, ⟨x, y, hTO⟩, h1, h2⟩ := st
    exact ⟨k z (by simp) _ hz, k TI (by simp) _ hTI, ⟨x, y, k TO (by simp) _ hTO⟩, Sd.cell_keep h1 fun o q => k i1 (by simp) o q, Sd.cell_keep h2 fun o q => k i2 (by simp) o q⟩
  item := by
    intro X hP hw hK hc i pins s σ H E I hf st hg
    subst hP hw hK
    obtain ⟨hz, hTI, ⟨x0, y0, hTO⟩, h1, h2⟩ := st
    obtain ⟨xs, ys, hx, hy, li, lj⟩ := hg
    have hh : X.A.in1.handled = none := I.ok.hd hc
    obtain ⟨fp1, P1, St1, D1, s1, m1, f1, r1, b1⟩ := Sd.draws hh I h1 hx (D.cf i1 (by simp))
    obtain ⟨fp2, P2, St2, D2, s2, m2, f2, r2, b2⟩ := Sd.draws hh I h2 hy (D.df i2 (by simp))
    have nin : ∀ b, b ∈ [z, TI, TO, i1, i2] → b ≠ i1 → b ∉ fp1 := fun b hb n hm => by
      rcases f1 b hm with q | q
      · exact n q
      · exact q (D.cf b hb)
    have nin2 : ∀ b, b ∈ [z, TI, TO, i1, i2] → b ≠ i2 → b ∉ fp2 := fun b hb n hm => by
      rcases f2 b hm with q | q
      · exact n q
      · exact q (D.df b hb)
    have Zs : ZipSep2 z TI TO i1 i2 fp1 fp2 := ⟨D.TIz, D.TOz, D.TITO, D.TIi1, m1, nin z (by simp) D.i1z.symm, nin TO (by simp) D.i1T.symm, D.TIi2, m2, nin2 z (by simp) D.i2z.symm, nin2 TO (by simp) D.i2T.symm, nin2 i1 (by simp) D.i12, nin i2 (by simp) D.i12.symm⟩
    have hzl : z < s.heap.objs.size := Heap.lt_size hz
    refine wpAny_pyNext_zipD2_item Zs D1 D2 hz hTI hTO s1 s2 li lj fun u u2 h' tk p1 p2 z' TO' t1 t2 hT hsz hk => ?_
    obtain ⟨x, hxi, ru⟩ := r1 i u p1
    obtain ⟨y, hyi, ru2⟩ := r2 i u2 p2
    refine ⟨_, rfl, wpAny_letOwnedTupleGo_zip (s := { s with heap := h', toks := tk }) z' fun h'' z'' sb => ?_⟩
    have hT2 : h''.get? s.heap.objs.size = some { cls := .type "tuple", data := .seq #[u, u2] } := (sb.2 _ (Nat.ne_of_gt hzl)).trans hT
    have new : ObjOk X.prog X.w (upd H s.heap.objs.size (.tup [x, y])) h'' s.heap.objs.size (.tup [x, y]) :=
      ⟨by show 2 ≤ sizeLine; decide, [u, u2], .cons ru (.cons ru2 .nil), ⟨_, hT2, rfl, _, rfl⟩⟩
    have I1 : Inv X pins σ (upd H s.heap.objs.size (.tup [x, y])) { s with heap := h'', toks := tk } :=
      I.turnedNew (t' := tk) (ch := [z, TI, TO, i1, i2]) (fun c o hb q => (sb.2 c (fun q' => hb (by simp [q']))).trans (hk c o (fun q' => hb (by simp [q'])) (fun q' => hb (by simp [q'])) (fun q' => hb (by simp [q'])) (fun q' => hb (by simp [q'])) q)) hf (Nat.le_refl _) new
    refine ⟨.ref s.heap.objs.size, _, I1, rfl, ⟨_, x, y, rfl, I.hok.fresh (Nat.le_refl _), rfl, fun l hl => by rw [Sd.is_inj I hl hx]; exact hxi, fun l hl => by rw [Sd.is_inj I hl hy]; exact hyi⟩, ⟨z'', ?_, ⟨u, u2, ?_⟩, ?_, ?_⟩, fun c hcm => ?_⟩
    · exact (sb.2 _ D.TIz).trans (hk _ _ D.TIz D.TITO D.TIi1 D.TIi2 hTI)
    · exact (sb.2 _ D.TOz).trans TO'
    · exact Sd.cell_keep (b1 _ _ t1) fun o q => (sb.2 _ D.i1z).trans q
    · exact Sd.cell_keep (b2 _ _ t2) fun o q => (sb.2 _ D.i2z).trans q
    · have hlt : c < s.heap.objs.size := by
        have e' : c = z ∨ c = TI ∨ c = TO ∨ c = i1 ∨ c = i2 := by simpa using hcm
        rcases e' with q | q | q | q | q
        · rw [q]; exact hzl
        · rw [q]; exact Heap.lt_size hTI
        · rw [q]; exact Heap.lt_size hTO
        · rw [q]; obtain ⟨_, e1, _⟩ := Sd.cell_obj h1; exact Heap.lt_size e1
        · rw [q]; obtain ⟨_, e1, _⟩ := Sd.cell_obj h2; exact Heap.lt_size e1
      rw [upd_ne (Nat.ne_of_lt hlt)]
      exact (hf c hcm).1
  done := by
    intro X hP hw hK hc i pins s σ H E I hf st hg
    subst hP hw hK
    obtain ⟨hz, hTI, ⟨x0, y0, hTO⟩, h1, h2⟩ := st
    obtain ⟨xs, ys, hx, hy, li, lj, hend⟩ := hg
    have hh : X.A.in1.handled = none := I.ok.hd hc
    obtain ⟨fp1, P1, St1, D1, s1, m1, f1, r1, b1⟩ := Sd.draws hh I h1 hx (D.cf i1 (by simp))
    obtain ⟨fp2, P2, St2, D2, s2, m2, f2, r2, b2⟩ := Sd.draws hh I h2 hy (D.df i2 (by simp))
    have nin : ∀ b, b ∈ [z, TI, TO, i1, i2] → b ≠ i1 → b ∉ fp1 := fun b hb n hm => by
      rcases f1 b hm with q | q
      · exact n q
      · exact q (D.cf b hb)
    have nin2 : ∀ b, b ∈ [z, TI, TO, i1, i2] → b ≠ i2 → b ∉ fp2 := fun b hb n hm => by
      rcases f2 b hm with q | q
      · exact n q
      · exact q (D.df b hb)
    have Zs : ZipSep2 z TI TO i1 i2 fp1 fp2 := ⟨D.TIz, D.TOz, D.TITO, D.TIi1, m1, nin z (by simp) D.i1z.symm, nin TO (by simp) D.i1T.symm, D.TIi2, m2, nin2 z (by simp) D.i2z.symm, nin2 TO (by simp) D.i2T.symm, nin2 i1 (by simp) D.i12, nin i2 (by simp) D.i12.symm⟩
    exact wpAny_pyNext_zipD2_end Zs D1 D2 hz hTI hTO s1 s2 li lj hend fun h' tk hk => ⟨rfl, I.turnedL (t' := tk) (ch := [z, TI, TO, i1, i2]) (fun c o hb q =>
      hk c o (fun q' => hb (by simp [q'])) (fun q' => hb (by simp [q'])) (fun q' => hb (by simp [q'])) (fun q' => hb (by simp [q'])) q) hf⟩
  self := fun A i s Q E st h => wpAny_pyIter_zip st.1 h
/-- how a side begins -/
def Sd.hh (its : List Value) : Sd → Heap → Prop
  | .str _, _ => True
  | .lst a, h => h.IsList a its.toArray
  | .tup a, h => h.IsTuple a its.toArray
theorem Sd.begins {X : Cx} {pins : List (Addr × Obj)} {σ : L2.St} {H : Hp} {s : Shared} {c : Sd} {v : V} {u : Value} {xs : List V} (I : Inv X pins σ H s) (hv : c.val v) (r : RelV v u) (hx : c.is X.K H xs) :
    ∃ (o : Obj) (its : List Value), Begins u o (c.hh its) ∧ c.hh its s.heap ∧ (∀ b, s.heap.objs.size ≤ b → c.off b) ∧ ∀ (it : Addr) (h : Heap), h.get? it = some o → c.cell it 0 h := by
  cases c with
  | str z =>
    have e : v = .str z := hv
    subst e
    obtain ⟨t, rfl⟩ := r
    exact ⟨_, [], begins_text z t, trivial, fun _ _ => trivial, fun it h e => ⟨t, _, e, rfl, rfl⟩⟩
  | lst a =>
    have e : v = .ref a := hv
    subst e
    cases r
    obtain ⟨its, rv, p, _⟩ := I.list hx
    exact ⟨_, its, begins_list a its.toArray, p.isList, fun b hb => Nat.ne_of_lt (Nat.lt_of_lt_of_le p.lt hb), fun it h e => ⟨_, e, rfl, rfl⟩⟩
  | tup a =>
    have e : v = .ref a := hv
    subst e
    cases r
    obtain ⟨its, rv, p, _⟩ := I.tuple hx
    exact ⟨_, its, begins_tuple a its.toArray, p, fun b hb => Nat.ne_of_lt (Nat.lt_of_lt_of_le p.lt hb), fun it h e => ⟨_, e, rfl, rfl⟩⟩
theorem nadd {N i j : Nat} (h : i ≠ j) : (N + i : Nat) ≠ N + j := by omega
theorem nad0 {N i : Nat} (h : i ≠ 0) : (N + i : Nat) ≠ N := by omega
theorem zap (N : Nat) (c d : Sd) (h1 : ∀ b, b ∈ [N + 4, N + 2, N + 3, N, N + 1] → c.off b) (h2 : ∀ b, b ∈ [N + 4, N + 2, N + 3, N, N + 1] → d.off b) : ZApart (N + 4) (N + 2) (N + 3) N (N + 1) c d :=
  ⟨nadd (by decide), nadd (by decide), nadd (by decide), nad0 (by decide), nadd (by decide), (nad0 (by decide)).symm, nadd (by decide), (nad0 (by decide)).symm, nadd (by decide), (nad0 (by decide)).symm, h1, h2⟩
def KZ (K : PySem.W.Frag) (vs : List V) (H : Hp) (R : It → Prop) : Prop := ∃ (x y : V) (c d : Sd) (xs ys : List V), vs = [x, y] ∧ c.val x ∧ d.val y ∧ c.is K H xs ∧ d.is K H ys ∧ R (ItZ K c d)
def iZipZ (K : PySem.W.Frag) (ta : TA) : TI := fun σ H R => ta σ H fun vs H1 => KZ K vs H1 fun J => R J H1
theorem pi_zipZ {X : Cx} {e e2 : Expr} {ta : TA} {p pos tpos : Pos} {elts : List Expr} {kk : Nat} (hg : Gl X "zip") (hm : X.mg "zip" = none) (ha : PA X [e, e2] ta)
    (hs : starEach [e, e2] X.env = (false, eval e X.env) :: starEach [e2] X.env := by rfl) (hpl : (backTo pos (starEach [e2] X.env)).any (·.1) = false := by rfl) :
    PI X (.Tuple elts kk tpos) (.Call (.Name "zip" p) [e, e2] [] pos) (iZipZ X.K ta) := by
  refine ⟨fun pins s σ H R I h => ?_⟩
  refine PyProof.Rows.Call_ (ld_blt I hg hm PyProof.Rows.boot_zip (PyProof.Rows.callWith_type1 (thn (ha.run pos pins s σ H _ I h) fun us s1 ⟨vs, H1, I1, r1, q1⟩ => ?_) hs hpl))
  obtain ⟨x, y, c, d, xs, ys, ex, vc, vd, hx, hy, q⟩ := q1
  subst ex
  cases r1 with
  | cons r rr =>
    cases rr with
    | cons r' rr =>
      cases rr
      obtain ⟨o1, its1, B1, g1, off1, cell1⟩ := Sd.begins I1 vc r hx
      obtain ⟨o2, its2, B2, g2, off2, cell2⟩ := Sd.begins I1 vd r' hy
      have fresh5 : ∀ c, c ∈ [s1.heap.objs.size + 4, s1.heap.objs.size + 2, s1.heap.objs.size + 3, s1.heap.objs.size, s1.heap.objs.size + 1] → s1.heap.objs.size ≤ c := fun c hcm => by
        have e' : c = s1.heap.objs.size + 4 ∨ c = s1.heap.objs.size + 2 ∨ c = s1.heap.objs.size + 3 ∨ c = s1.heap.objs.size ∨ c = s1.heap.objs.size + 1 := by simpa using hcm
        rcases e' with z | z | z | z | z
        · rw [z]; exact Nat.le_add_right _ _
        · rw [z]; exact Nat.le_add_right _ _
        · rw [z]; exact Nat.le_add_right _ _
        · rw [z]; exact Nat.le_refl _
        · rw [z]; exact Nat.le_add_right _ _
      refine zip_begins2 B1 B2 g1 g2 fun h' hz hTI hTO h1 h2 hsz hk => wpAny_pyIter_zip hz ?_
      have I2 : Inv X pins σ H1 { s1 with heap := h' } := I1.kept (t' := s1.toks) hk
      have ap : ZApart (s1.heap.objs.size + 4) (s1.heap.objs.size + 2) (s1.heap.objs.size + 3) s1.heap.objs.size (s1.heap.objs.size + 1) c d :=
        zap s1.heap.objs.size c d (fun b hb => off1 b (fresh5 b hb)) (fun b hb => off2 b (fresh5 b hb))
      exact ⟨s1.heap.objs.size + 4, [s1.heap.objs.size + 4, s1.heap.objs.size + 2, s1.heap.objs.size + 3, s1.heap.objs.size, s1.heap.objs.size + 1], _, _, H1, rfl, I2, turn_zipZ ap, ⟨hz, hTI, ⟨_, _, hTO⟩, cell1 _ _ h1, cell2 _ _ h2⟩, fun c hc => I1.fpOk (fresh5 c hc) (I1.hok.fresh (fresh5 c hc)), q⟩
theorem walk_zipZ {K : PySem.W.Frag} {c d : Sd} {xs ys : List V} {n : Nat} (hn : n = min xs.length ys.length) :
    Walk (ItZ K c d) n (fun H => c.is K H xs ∧ d.is K H ys) (YPair (fun i => xs[i]?) (fun i => ys[i]?)) := by
  subst hn
  refine ⟨fun i _ hi q => ⟨xs, ys, q.1, q.2, by omega, by omega⟩, fun _ q => ⟨xs, ys, q.1, q.2, by omega, by omega, by omega⟩, fun i H v H' hi q y => ?_⟩
  obtain ⟨T, x, z, h1, h2, h3, h4, h5⟩ := y
  exact ⟨T, x, z, h1, h2, h3, h4 xs q.1, h5 ys q.2⟩
end Z
namespace Z
open PySem PySem.Spec PyProof.Rows L2
open PySem.Sem (wp)
/-! ### sorted of a text, a text times a number -/
theorem strs_of_signs : ∀ (l : List Nat) (vs : List Value), vs.length = l.length → (∀ (j : Nat) (v : Value), vs[j]? = some v → ∃ c u, l[j]? = some c ∧ v = .str ⟨#[c]⟩ u) → StrsAre vs (l.map fun c => S [c])
  | [], [], _, _ => .nil
  | [], _ :: _, h, _ => by simp at h
  | _ :: _, [], h, _ => by simp at h
  | c :: l, v :: vs, h, q => by
    obtain ⟨c', u, e1, e2⟩ := q 0 v (by simp)
    have : c = c' := by simpa using e1
    subst this
    subst e2
    exact .cons _ u (strs_of_signs l vs (by simpa using h) fun j w hw => by
      have := q (j + 1) w (by simpa using hw)
      simpa using this)
theorem rising_pw : ∀ (p : Nat) (l : List Nat), risingS (S [p]) (l.map fun c => S [c]) = true → (p :: l).Pairwise (· ≤ ·)
  | p, [], _ => by simp
  | p, c :: l, h => by
    have h' : (!ltCps [c] [p] && risingS (S [c]) (l.map fun c => S [c])) = true := h
    rw [Bool.and_eq_true] at h'
    obtain ⟨h1, h2⟩ := h'
    have ih := rising_pw c l h2
    have hpc : p ≤ c := by
      have e : ltCps [c] [p] = false := by simpa using h1
      rw [ltCps_eq] at e
      have : ¬ ([c] < [p]) := by simpa using e
      have h3 : ¬ c < p := fun q => this (List.Lex.rel q)
      omega
    refine List.pairwise_cons.mpr ⟨fun d hd => ?_, ih⟩
    rcases List.mem_cons.mp hd with q | q
    · rw [q]; exact hpc
    · exact Nat.le_trans hpc (List.rel_of_pairwise_cons ih q)
theorem sorted_pw : ∀ (l : List Nat), sortedS (l.map fun c => S [c]) = true → l.Pairwise (· ≤ ·)
  | [], _ => by simp
  | p :: l, h => rising_pw p l h
theorem unmap_S : ∀ {l : List Nat} {ys : List Str}, ys.Perm (l.map fun c => S [c]) → ∃ zs : List Nat, ys = zs.map (fun c => S [c]) ∧ zs.Perm l := fun {l ys} h => by
  have e : ys = (ys.map fun y => (codes y).headD 0).map fun c => S [c] := by
    rw [List.map_map]
    refine (List.map_congr_left (fun y hy => ?_)).symm.trans (List.map_id _) |>.symm
    obtain ⟨c, _, rfl⟩ := List.mem_map.mp (h.mem_iff.mp hy)
    rfl
  refine ⟨ys.map fun y => (codes y).headD 0, e, ?_⟩
  have := h.map fun y => (codes y).headD 0
  rw [List.map_map] at this
  refine this.trans (List.Perm.of_eq ?_)
  exact (List.map_congr_left (g := id) fun c _ => rfl).trans (List.map_id _)
def zSortedC : List V → Hp → VK → Prop := fun vs H Q => ∃ z : List Nat, vs = [.str (S z)] ∧ z.length < 64 ∧ ∀ (ys : List Nat) (p : Addr), ys.Perm z → ys.Pairwise (· ≤ ·) → H p = none → Q (.ref p) (upd H p (.lst (ys.map fun c => V.str (S [c]))))
theorem zc_sortedC {X : Cx} (hc : X.calm = true) : CallR X (.builtin "sorted") zSortedC := by
  intro pins s σ H vs us Q I r h
  obtain ⟨z, rfl, h64, q⟩ := h
  obtain ⟨u, rfl, rx⟩ := vals1 r
  obtain ⟨t, rfl⟩ := rx
  refine Calls.call_function_entry kind_sorted plain_sorted entry_sorted (args_sorted1 _) ?_
  unfold Builtin.«sorted»
  refine wpAny_bind (m := checkCount "sorted" 1 1 _) (wpAny_pure ?_)
  have h64' : (S z).cps.size = z.length := by simp
  have hh : X.A.in1.handled = none := I.ok.hd hc
  refine wpAny_bind (wpAny_collect_str (A := X.A.in1) hh (S z) t (fun s1 acc k g dr os it => ?_) (by rw [h64']; exact Nat.le_trans (Nat.le_of_lt h64) (by decide)))
  obtain ⟨h1, g1, d1, t1, o1⟩ := s1
  subst g dr os
  replace k : ∀ b o, s.heap.get? b = some o → h1.get? b = some o := k
  have hl64 : acc.toList.length < 64 := by rw [Array.length_toList, it.1, h64']; exact h64
  refine wpAny_bind (wpAny_newList ?_ (by exact Nat.le_trans (Nat.le_of_lt hl64) (by decide)))
  have hS : StrsAre acc.toList (z.map fun c => S [c]) := strs_of_signs z acc.toList (by rw [Array.length_toList, it.1, h64']) fun j v hv => by
    obtain ⟨c, u, e1, e2⟩ := it.2 j v (by simpa using hv)
    exact ⟨c, u, by simpa using e1, e2⟩
  have hoL : (h1.push (seqObj "list" acc.toList.toArray 0)).get? h1.objs.size = some (seqObj "list" acc.toList.toArray 0) := Heap.get?_push_size _ rfl
  refine wpAny_bind (wpAny_holding (wpAny_call_entry slot_list_sort ⟨_, hoL, rfl⟩ entry_list_sort (list_sort_treeK strKind_oneLt hoL hS.keysOf (fun v₁ v₂ rest e => keyKind_strs (by rw [← e]; exact hS)) hl64 fun st' a1 a2 => ⟨_, rfl, ?_⟩) (args_list_sort _)))
  refine wpAny_pure ⟨_, rfl, ?_⟩
  obtain ⟨ss', b1, b2, b3⟩ := sorted_out_str hS a1 a2
  obtain ⟨zs, rfl, pz⟩ := unmap_S b2
  obtain ⟨ep, he'⟩ := PyProof.Rows.sortedHeap_at (vs := acc.toList) (out := (arrOf st').map (·.2)) hoL
  have hlen : (zs.map fun c => V.str (S [c])).length ≤ sizeLine := by rw [List.length_map, pz.length_eq]; exact Nat.le_trans (Nat.le_of_lt h64) (by decide)
  have I1 : Inv X pins σ H ⟨h1, s.gens, s.drawn, t1, s.os⟩ := I.kept (t' := t1) k
  refine ⟨.ref _, upd H h1.objs.size (.lst (zs.map fun c => V.str (S [c]))), I1.laid (t' := t1) (fun b u e => ?_) (Nat.le_refl _) ⟨hlen, _, ep, ?_, he'⟩, rfl, q zs _ pz (sorted_pw zs b3) (I1.hok.fresh (Nat.le_refl _))⟩
  · have hb : b ≠ h1.objs.size := Nat.ne_of_lt (Heap.lt_size e)
    exact PyProof.Rows.sortedHeap_old hb (Heap.lt_size (Heap.get?_push_of_some _ e)) |>.trans (Heap.get?_push_of_some _ e)
  · have := vals_of_strs b1
    rwa [List.map_map] at this
end Z
namespace Z
open PySem PySem.Spec PyProof.Rows L2
open PySem.Sem (wp)
def zRepS : R2 := fun x y H Q => ∃ (z : List Nat) (n : Int), x = .str (S z) ∧ y = .int n ∧ 0 ≤ n ∧ z.length * n.toNat ≤ 100000 ∧ n ≤ 100000 ∧ Q (.str (S (List.replicate n.toNat z).flatten)) H
theorem foldl_app : ∀ (k : Nat) (z : Array Nat) (a : Array Nat), ((List.replicate k z).foldl (· ++ ·) a).toList = a.toList ++ (List.replicate k z.toList).flatten
  | 0, z, a => by simp
  | k + 1, z, a => by
    rw [List.replicate_succ, List.foldl_cons, foldl_app k z (a ++ z), List.replicate_succ, List.flatten_cons, Array.toList_append, List.append_assoc]
theorem mul_S (z : List Nat) (n : Int) (h0 : 0 ≤ n) : Txt.mul (S z) n = S (List.replicate n.toNat z).flatten := by
  unfold Txt.mul
  by_cases h1 : n < 1
  · rw [if_pos h1]
    have : n = 0 := by omega
    subst this
    rfl
  · rw [if_neg h1]
    by_cases h2 : (n == 1 || (S z).length == 0) = true
    · rw [if_pos h2]
      rcases (Bool.or_eq_true _ _).mp h2 with h3 | h3
      · have : n = 1 := by simpa using h3
        subst this
        simp
      · have : z = [] := by
          have h4 : (S z).length = 0 := by simpa using h3
          rw [S_len] at h4
          exact List.eq_nil_of_length_eq_zero h4
        subst this
        simp
    · rw [if_neg h2]
      have := foldl_app n.toNat z.toArray #[]
      rw [List.nil_append] at this
      show (⟨_⟩ : Str) = ⟨_⟩
      rw [← Array.toArray_toList (xs := (List.replicate n.toNat (S z).cps).foldl (· ++ ·) #[])]
      exact congrArg (fun l : List Nat => (⟨l.toArray⟩ : Str)) this
theorem op_rep_str {X : Cx} : OpR X (binaryOp .Mult) zRepS := by
  intro pins s σ H x y v u Q I rx ry h
  obtain ⟨z, n, rfl, rfl, h0, hl, hn, q⟩ := h
  obtain ⟨t, rfl⟩ := rx
  obtain ⟨t', rfl⟩ := ry
  have hmul : MulOk (S z) n := by
    refine ⟨?_, fun h1 h2 => ?_, fun h1 h2 => ?_⟩
    · rw [Bool.or_eq_false_iff]
      exact ⟨decide_eq_false (by omega), decide_eq_false (by omega)⟩
    · have e : ((S z).length : Int) = z.length := by rw [S_len]
      have hz : z.length ≤ 100000 := by
        have : 1 ≤ n.toNat := by omega
        exact Nat.le_trans (Nat.le_mul_of_pos_right _ this) hl
      have h3 : (100000 : Int) ≤ (2 ^ 63 - 1) / n := by
        rw [Int.le_ediv_iff_mul_le (by omega)]
        have : (100000 : Int) * n ≤ 100000 * 100000 := Int.mul_le_mul_of_nonneg_left hn (by decide)
        omega
      omega
    · unfold Builtin.Str.tooLong
      rw [S_len]
      exact decide_eq_false (Nat.not_lt.mpr (Nat.le_trans hl (by decide)))
  refine SB.mul hmul fun tk k => ?_
  rw [mul_S z n h0]
  exact ⟨.str (S (List.replicate n.toNat z).flatten), H, I.tok k, ⟨tk, rfl⟩, q⟩
theorem i_repS {a : List Nat} {n : Int} {H : Hp} {Q : VK} (h0 : 0 ≤ n) (hl : a.length * n.toNat ≤ 100000) (hn : n ≤ 100000) (q : Q (.str (S (List.replicate n.toNat a).flatten)) H) : zRepS (.str (S a)) (.int n) H Q := ⟨a, n, rfl, rfl, h0, hl, hn, q⟩
end Z
namespace Z
open PySem PySem.Spec PyProof.Rows L2
open PySem.Builtin.Str (occurrences subAt lastOccurrence)
/-! ### texts: what find, count and their kin are on lists of codes -/
theorem cutS_S (a : List Nat) (lo hi : Option Int) : cutS (S a) lo hi = S ((a.drop (HT.sIx a.length 0 lo)).take (HT.sIx a.length a.length hi - HT.sIx a.length 0 lo)) := by
  unfold cutS
  rw [S_len]
theorem sub_iff (a b : List Nat) (i : Nat) : subAt (S a) (S b) i = true ↔ (a.drop i).take b.length = b := by
  unfold subAt
  have e : ((S a).cps.extract i (i + (S b).length)) = ((a.drop i).take b.length).toArray := by
    rw [S_len]
    show a.toArray.extract i (i + b.length) = _
    rw [List.extract_toArray, List.extract_eq_take_drop]
    have : i + b.length - i = b.length := by omega
    rw [this]
  rw [e]
  constructor
  · intro h
    have := eq_of_beq h
    exact congrArg Array.toList this
  · intro h
    rw [h]
    exact beq_self_eq_true _
def idx (c : Nat) : List Nat → Nat → List Nat
  | [], _ => []
  | x :: r, i => if x = c then i :: idx c r (i + 1) else idx c r (i + 1)
theorem idx_len (c : Nat) : ∀ (l : List Nat) (i : Nat), (idx c l i).length = l.count c
  | [], _ => rfl
  | x :: r, i => by
    unfold idx
    by_cases h : x = c
    · subst h; rw [if_pos rfl, List.length_cons, idx_len x r, List.count_cons_self]
    · rw [if_neg h, idx_len c r, List.count_cons_of_ne h]
theorem idx_lo (c : Nat) : ∀ (l : List Nat) (i j : Nat), j ∈ idx c l i → i ≤ j
  | [], _, _, h => by simp [idx] at h
  | x :: r, i, j, h => by
    unfold idx at h
    split at h
    · rcases List.mem_cons.mp h with e | h
      · omega
      · have := idx_lo c r (i + 1) j h; omega
    · have := idx_lo c r (i + 1) j h; omega
theorem take1 (c : Nat) (a : List Nat) (i : Nat) : ((a.drop i).take 1 = [c]) ↔ a[i]? = some c := by
  rcases h : a[i]? with _ | x
  · have : a.drop i = [] := List.drop_eq_nil_iff.mpr (List.getElem?_eq_none_iff.mp h)
    rw [this]; simp
  · obtain ⟨hl, e⟩ := List.getElem?_eq_some_iff.mp h
    have : a.drop i = x :: a.drop (i + 1) := by rw [List.drop_eq_getElem_cons hl, e]
    rw [this]; simp
theorem occ_loop (a : List Nat) (c lim : Nat) : ∀ (k i : Nat) (st : Array Nat × Nat), i + k = a.length + 1 → st.2 ≤ i →
    (forIn (List.range' i k) st (StrLaws.occBody (S a) (S [c]) a.length lim)).run.fst.toList = st.1.toList ++ (idx c (a.drop i) i).take (lim - st.1.size)
  | 0, i, st, hk, _ => by
    have : a.drop i = [] := List.drop_eq_nil_iff.mpr (by omega)
    rw [this]
    simp [idx]
  | k + 1, i, st, hk, hf => by
    rw [List.range'_succ, List.forIn_cons]
    unfold StrLaws.occBody
    have hS : (S [c]).length = 1 := S_len [c]
    by_cases hc : ((st.fst.size < lim ∧ st.snd ≤ i) ∧ i + (S [c]).length ≤ a.length) ∧ subAt (S a) (S [c]) i = true
    · rw [if_pos hc]
      have h1 : a[i]? = some c := (take1 c a i).mp ((sub_iff a [c] i).mp hc.2)
      obtain ⟨hl, e⟩ := List.getElem?_eq_some_iff.mp h1
      have hd : a.drop i = c :: a.drop (i + 1) := by rw [List.drop_eq_getElem_cons hl, e]
      have ih := occ_loop a c lim k (i + 1) (st.fst.push i, i + (S [c]).length) (by omega) (by rw [hS]; exact Nat.le_refl _)
      refine ih.trans ?_
      rw [hd, show idx c (c :: a.drop (i + 1)) i = i :: idx c (a.drop (i + 1)) (i + 1) from if_pos rfl]
      have hlt := hc.1.1.1
      obtain ⟨n, hn⟩ : ∃ n, lim - st.fst.size = n + 1 := ⟨lim - st.fst.size - 1, by omega⟩
      have hn2 : lim - (st.fst.push i).size = n := by rw [Array.size_push]; omega
      rw [hn, List.take_succ_cons, Array.toList_push, List.append_assoc]
      show _ ++ ([i] ++ _) = _
      rw [hn2]
      rfl
    · rw [if_neg hc]
      have ih := occ_loop a c lim k (i + 1) st (by omega) (by omega)
      refine ih.trans ?_
      by_cases hz : lim - st.fst.size = 0
      · rw [hz]; simp
      · have hne : ¬ a[i]? = some c := fun h1 => hc ⟨⟨⟨by omega, hf⟩, by obtain ⟨hl, _⟩ := List.getElem?_eq_some_iff.mp h1; rw [hS]; omega⟩, (sub_iff a [c] i).mpr ((take1 c a i).mpr h1)⟩
        rcases h : a[i]? with _ | x
        · have e0 : a.drop i = [] := List.drop_eq_nil_iff.mpr (List.getElem?_eq_none_iff.mp h)
          have e1 : a.drop (i + 1) = [] := List.drop_eq_nil_iff.mpr (by have := List.getElem?_eq_none_iff.mp h; omega)
          rw [e0, e1]; simp [idx]
        · obtain ⟨hl, e⟩ := List.getElem?_eq_some_iff.mp h
          have hd : a.drop i = x :: a.drop (i + 1) := by rw [List.drop_eq_getElem_cons hl, e]
          rw [hd]
          have hx : ¬ x = c := fun q => hne (by rw [h, q])
          show _ = _ ++ List.take _ (idx c (x :: a.drop (i + 1)) i)
          rw [show idx c (x :: a.drop (i + 1)) i = idx c (a.drop (i + 1)) (i + 1) from if_neg hx]
theorem occ_idx (a : List Nat) (c lo lim : Nat) (h : lo ≤ a.length) : occurrences (S a) (S [c]) lo a.length lim = (idx c (a.drop lo) lo).take lim := by
  rw [StrLaws.occ_eq, occ_loop a c lim (a.length + 1 - lo) lo (#[], lo) (by omega) (Nat.le_refl _)]
  simp
theorem find_S (a : List Nat) (c : Nat) : Txt.find (S a) (S [c]) = match idx c a 0 with | i :: _ => (i : Int) | [] => -1 := by
  unfold Txt.find
  rw [S_len, occ_idx a c 0 1 (Nat.zero_le _), List.drop_zero]
  cases idx c a 0 <;> rfl
theorem count_S (a : List Nat) (c : Nat) : Txt.count (S a) (S [c]) = (a.count c : Nat) := by
  unfold Txt.count
  rw [S_len, occ_idx a c 0 (a.length + 1) (Nat.zero_le _), List.drop_zero, List.take_of_length_le (by rw [idx_len]; have := List.count_le_length (a := c) (l := a); omega), idx_len]
theorem starts_S (a b : List Nat) : Txt.startswith (S a) (S b) = decide (b <+: a) := by
  unfold Txt.startswith
  rw [S_len, S_len]
  by_cases h : b <+: a
  · rw [decide_eq_true h]
    obtain ⟨r, rfl⟩ := h
    have h1 : subAt (S (b ++ r)) (S b) 0 = true := (sub_iff _ _ _).mpr (by simp)
    rw [h1]; simp
  · rw [decide_eq_false h]
    rw [Bool.and_eq_false_iff]
    refine .inr ?_
    cases q : subAt (S a) (S b) 0 with
    | false => rfl
    | true =>
      have := (sub_iff a b 0).mp q
      rw [List.drop_zero] at this
      exact absurd (by rw [← this]; exact List.take_prefix _ _) h
theorem ends_S (a b : List Nat) : Txt.endswith (S a) (S b) = decide (b <:+ a) := by
  unfold Txt.endswith
  rw [S_len, S_len]
  by_cases h : b <:+ a
  · rw [decide_eq_true h]
    obtain ⟨r, rfl⟩ := h
    have h1 : subAt (S (r ++ b)) (S b) ((r ++ b).length - b.length) = true := (sub_iff _ _ _).mpr (by simp)
    rw [h1]; simp
  · rw [decide_eq_false h]
    cases q : (decide (0 + b.length ≤ a.length) && subAt (S a) (S b) (a.length - b.length)) with
    | false => rfl
    | true =>
      obtain ⟨q1, q2⟩ := (Bool.and_eq_true _ _).mp q
      have q1 : 0 + b.length ≤ a.length := of_decide_eq_true q1
      have := (sub_iff a b _).mp q2
      have hl : (a.drop (a.length - b.length)).length = b.length := by rw [List.length_drop]; omega
      rw [List.take_of_length_le (by omega)] at this
      exact absurd (by rw [← this]; exact List.drop_suffix _ _) h
theorem in_S (a b : List Nat) : (!(occurrences (S a) (S b) 0 (S a).length 1).isEmpty) = decide (b <:+: a) := by
  rw [Bool.eq_iff_iff, StrLaws.found_iff, decide_eq_true_iff]
  constructor
  · rintro ⟨i, h1, h2⟩
    have := (sub_iff a b i).mp h2
    rw [← this]
    exact (List.take_prefix _ _).isInfix.trans (List.drop_suffix _ _).isInfix
  · rintro ⟨r, t, rfl⟩
    refine ⟨r.length, by rw [S_len, S_len, List.length_append, List.length_append]; omega, (sub_iff _ _ _).mpr (by simp)⟩
end Z
namespace Z
open PySem PySem.Spec PyProof.Rows L2
open PySem.Builtin.Str (occurrences subAt lastOccurrence)
/-! ### methods of texts by name -/
def find1 (c : Nat) (a : List Nat) : Int := match idx c a 0 with | i :: _ => (i : Int) | [] => -1
def zJoin0 (K : PySem.W.Frag) : V → List V → Hp → VK → Prop := fun x xs H Q => ∃ a p, ∃ ys : List Str, x = V.str a ∧ xs = [.ref p] ∧ (SqL K H p (ys.map V.str) ∨ SqT K H p (ys.map V.str)) ∧ (ys.map (·.length)).sum + ys.length * a.length ≤ 16777216 ∧ Q (.str (Txt.join a ys)) H
def zFind : V → List V → Hp → VK → Prop := fun x xs H Q => ∃ a b : Str, x = V.str a ∧ xs = [.str b] ∧ Q (.int (Txt.find a b)) H
def zFind3 : V → List V → Hp → VK → Prop := fun x xs H Q => ∃ (a b : Str) (i : Int), x = V.str a ∧ xs = [.str b, .int i] ∧ Q (.int (Txt.find3 a b i)) H
def zCount : V → List V → Hp → VK → Prop := fun x xs H Q => ∃ a b : Str, x = V.str a ∧ xs = [.str b] ∧ Q (.int (Txt.count a b)) H
def zStarts : V → List V → Hp → VK → Prop := fun x xs H Q => ∃ a b : Str, x = V.str a ∧ xs = [.str b] ∧ Q (.bl (Txt.startswith a b)) H
def zEnds : V → List V → Hp → VK → Prop := fun x xs H Q => ∃ a b : Str, x = V.str a ∧ xs = [.str b] ∧ Q (.bl (Txt.endswith a b)) H
def zIndex : V → List V → Hp → VK → Prop := fun x xs H Q => ∃ (a b : Str) (i : Nat) (rest : List Nat), x = V.str a ∧ xs = [.str b] ∧ occurrences a b 0 a.length 1 = i :: rest ∧ Q (.int (i : Nat)) H
def zUpper : V → List V → Hp → VK → Prop := fun x xs H Q => ∃ a : Str, x = V.str a ∧ xs = [] ∧ a.length ≤ 5592405 ∧ Q (.str (Txt.upper a)) H
def zInStr : R2 := fun x y H Q => ∃ i j : Str, x = V.str i ∧ y = V.str j ∧ Q (V.bl (!(occurrences j i 0 j.length 1).isEmpty)) H
def zAppend : V → List V → Hp → VK → Prop := fun x vs H Q => ∃ l xs y, x = V.ref l ∧ vs = [y] ∧ H l = some (.lst xs) ∧ xs.length < sizeLine ∧ Q .non (upd H l (.lst (xs ++ [y])))
def zPopAt : V → List V → Hp → VK → Prop := fun x vs H Q => ∃ l xs i k y, x = V.ref l ∧ vs = [.int i] ∧ H l = some (.lst xs) ∧ -(2 ^ 63) ≤ i ∧ i < 2 ^ 63 ∧ seqIndex? i xs.length = some k ∧ xs[k]? = some y ∧ Q y (upd H l (.lst (xs.eraseIdx k)))
section
variable {X : Cx}
theorem zm_find : MtR X "str.find" zFind := mt_find
theorem zm_find3 : MtR X "str.find" zFind3 := mt_find3
theorem zm_count : MtR X "str.count" zCount := mt_count
theorem zm_starts : MtR X "str.startswith" zStarts := mt_startswith
theorem zm_ends : MtR X "str.endswith" zEnds := mt_endswith
theorem zm_index : MtR X "str.index" zIndex := mt_sindex
theorem zm_upper : MtR X "str.upper" zUpper := mt_upper
theorem zm_append : MtR X "list.append" zAppend := mt_append
theorem zm_popAt : MtR X "list.pop" zPopAt := mt_popAt
theorem z_instr : OpR X (compareOp .In) zInStr := op_in_str
theorem pe_joinZ {K : PySem.W.Frag} {o e : Expr} {to te : TE} {apos pos : Pos} (hK : X.K = K) (ho : PE X o to) (he : PE X e te) (h1 : starEach [e] X.env = [(false, eval e X.env)] := by rfl)
    (h2 : attributeBase o "join" X.env (eval o X.env) = eval o X.env := by rfl) (h3 : (apos.endLine == pos.line) = true := by rfl) :
    PE X (.Call (.Attribute o "join" apos) [e] [] pos) (tM1 (zJoin0 K) to te) := hK ▸ pe_join ho he h1 h2 h3
theorem pe_bmZ {K : PySem.W.Frag} {o e : Expr} {es : List Expr} {to : TE} {t : TA} {name : Str} {apos cpos : Pos} {T id : String} {r : V → List V → Hp → VK → Prop} (hK : X.K = K)
    (pa : PlainAttrs T) (slot : Slot T name id) (hty : typeOf (.builtin id) = pure (.type "method_descriptor")) (hm : MtR X id r) (ho : PE X o to) (ha : PA X (e :: es) t)
    (h1 : attributeBase o name X.env (eval o X.env) = eval o X.env := by rfl)
    (h2 : ((((backTo cpos (starEach (e :: es) X.env)).all fun x => !x.1) && (backToKw cpos (keywordEach [] X.env)).all fun x => x.1.isSome) && decide (((e :: es).length + ([] : List Keyword).length + if ([] : List Keyword).isEmpty = true then 0 else 1) < 30)) = true := by rfl)
    (h3 : (apos.endLine == cpos.line) = true := by rfl) (h4 : starEach (e :: es) X.env = (false, eval e X.env) :: starEach es X.env := by rfl) (h5 : (backTo cpos (starEach es X.env)).any (fun x => x.1) = false := by rfl) :
    PE X (.Call (.Attribute o name apos) (e :: es) [] cpos) (tBM K T r to t) := hK ▸ pe_bm pa slot hty hm ho ha h1 h2 h3 h4 h5
theorem pe_bm0Z {K : PySem.W.Frag} {o : Expr} {to : TE} {name : Str} {apos cpos : Pos} {T id : String} {r : V → List V → Hp → VK → Prop} (hK : X.K = K)
    (pa : PlainAttrs T) (slot : Slot T name id) (hty : typeOf (.builtin id) = pure (.type "method_descriptor")) (hm : MtR X id r) (ho : PE X o to)
    (h1 : attributeBase o name X.env (eval o X.env) = eval o X.env := by rfl) (h3 : (apos.endLine == cpos.line) = true := by rfl) :
    PE X (.Call (.Attribute o name apos) [] [] cpos) (tBM0 K T r to) := hK ▸ pe_bm0 pa slot hty hm ho h1 h3
theorem pe_fldZ {K : PySem.W.Frag} {e : Expr} {f : Str} {pos : Pos} {ta : TE} (hK : X.K = K) (he : PE X e ta) (hb : attributeBase e f X.env (eval e X.env) = eval e X.env) : PE X (.Attribute e f pos) (tFld K ta f) := hK ▸ pe_fld he hb
end
section
variable {σ : L2.St} {H : Hp} {Q : VK} {D : Ends} {K : PySem.W.Frag} {i j : Int} {a b : List Nat} {x y v : V} {p : Addr} {xs : List V} {te : TE}
theorem i_m1 {r : V → List V → Hp → VK → Prop} {to : TE} (q : to σ H fun x H1 => KS x fun z => te σ H1 fun y H2 => r (.str z) [y] H2 Q) : tM1 r to te σ H Q := by
  have e : (fun (x : V) (H1 : Hp) => KS x fun z => te σ H1 fun y H2 => r (.str z) [y] H2 Q) = fun x H1 => (∃ a, x = V.str a) ∧ te σ H1 fun y H2 => r x [y] H2 Q := by
    funext x H1
    refine propext ⟨?_, ?_⟩
    · rintro ⟨z, rfl, h⟩; exact ⟨⟨z, rfl⟩, h⟩
    · rintro ⟨⟨z, rfl⟩, h⟩; exact ⟨z, rfl, h⟩
  rw [e] at q
  exact q
theorem i_tyS {t : TA} {R : List V → Hp → Prop} (q : t σ H R) : tyV K "str" (.str (S a)) H ∧ t σ H R := ⟨rfl, q⟩
theorem i_tyS0 {A : Prop} (q : A) : tyV K "str" (.str (S a)) H ∧ A := ⟨rfl, q⟩
theorem i_tyL {A : Prop} (h : SqL K H p xs) (q : A) : tyV K "list" (.ref p) H ∧ A := ⟨.inl ⟨rfl, xs, h⟩, q⟩
theorem i_find {c : Nat} (q : Q (.int (find1 c a)) H) : zFind (.str (S a)) [.str (S [c])] H Q := ⟨_, _, rfl, rfl, by rw [find_S]; exact q⟩
theorem i_count {c : Nat} (q : Q (.int (a.count c : Nat)) H) : zCount (.str (S a)) [.str (S [c])] H Q := ⟨_, _, rfl, rfl, by rw [count_S]; exact q⟩
theorem i_starts (q : Q (.bl (decide (b <+: a))) H) : zStarts (.str (S a)) [.str (S b)] H Q := ⟨_, _, rfl, rfl, by rw [starts_S]; exact q⟩
theorem i_ends (q : Q (.bl (decide (b <:+ a))) H) : zEnds (.str (S a)) [.str (S b)] H Q := ⟨_, _, rfl, rfl, by rw [ends_S]; exact q⟩
theorem i_instr (q : Q (.bl (decide (b <:+: a))) H) : zInStr (.str (S b)) (.str (S a)) H Q := ⟨_, _, rfl, rfl, by rw [in_S]; exact q⟩
theorem i_index {c n : Nat} (h : (idx c a 0).head? = some n) (q : Q (.int (n : Nat)) H) : zIndex (.str (S a)) [.str (S [c])] H Q := by
  cases e : idx c a 0 with
  | nil => rw [e] at h; cases h
  | cons m r =>
    rw [e] at h; cases h
    exact ⟨_, _, n, [], rfl, rfl, by rw [S_len, occ_idx a c 0 1 (Nat.zero_le _), List.drop_zero, e]; rfl, q⟩
theorem placed_len (x : Str) (f : Nat → Nat → Array Nat) : True := trivial
theorem i_append (h : H p = some (.lst xs)) (hl : xs.length < 100000) (q : Q .non (upd H p (.lst (xs ++ [v])))) : zAppend (.ref p) [v] H Q := ⟨p, xs, v, rfl, rfl, h, lt_line hl, q⟩
theorem i_slS {lo hi : Option Int} (hl : a.length ≤ 100000) (q : Q (.str (S ((a.drop (HT.sIx a.length 0 lo)).take (HT.sIx a.length a.length hi - HT.sIx a.length 0 lo)))) H) : rSlS (.str (S a)) lo hi H Q :=
  ⟨S a, rfl, by rw [S_len]; exact le_line hl, by rw [cutS_S]; exact q⟩
/-- the slices that a text is cut by: [:i], [i:], [i:j] with places in it -/
theorem i_slTo {n : Nat} (hl : a.length ≤ 100000) (q : Q (.str (S (a.take n))) H) : rSlS (.str (S a)) none (some (n : Int)) H Q := by
  refine i_slS hl ?_
  rw [HT.sIx_none, HT.sIx_nat, List.drop_zero, Nat.sub_zero]
  have : a.take (min n a.length) = a.take n := by
    rcases Nat.le_total n a.length with h | h
    · rw [Nat.min_eq_left h]
    · rw [Nat.min_eq_right h, List.take_of_length_le (Nat.le_refl _), List.take_of_length_le h]
  rw [this]; exact q
theorem i_slFrom {n : Nat} (hl : a.length ≤ 100000) (q : Q (.str (S (a.drop n))) H) : rSlS (.str (S a)) (some (n : Int)) none H Q := by
  refine i_slS hl ?_
  rw [HT.sIx_none, HT.sIx_nat]
  have : (a.drop (min n a.length)).take (a.length - min n a.length) = a.drop n := by
    rcases Nat.le_total n a.length with h | h
    · rw [Nat.min_eq_left h, List.take_of_length_le (by rw [List.length_drop]; exact Nat.le_refl _)]
    · rw [Nat.min_eq_right h, Nat.sub_self, List.take_zero, List.drop_of_length_le h]
  rw [this]; exact q
theorem i_slBoth {n m : Nat} (hl : a.length ≤ 100000) (q : Q (.str (S ((a.drop n).take (m - n)))) H) : rSlS (.str (S a)) (some (n : Int)) (some (m : Int)) H Q := by
  refine i_slS hl ?_
  rw [HT.sIx_nat, HT.sIx_nat]
  have e : (a.drop (min n a.length)).take (min m a.length - min n a.length) = (a.drop n).take (m - n) := by
    rcases Nat.le_total n a.length with h | h
    · rw [Nat.min_eq_left h]
      rcases Nat.le_total m a.length with h2 | h2
      · rw [Nat.min_eq_left h2]
      · rw [Nat.min_eq_right h2, List.take_of_length_le (by rw [List.length_drop]; exact Nat.le_refl _), List.take_of_length_le (by rw [List.length_drop]; omega)]
    · rw [Nat.min_eq_right h, List.drop_length, List.drop_of_length_le h, List.take_nil, List.take_nil]
  rw [e]; exact q
theorem glued_nil : ∀ (l : List (List Nat)) (acc : Array Nat), ((l.map S).foldl (fun (acc : Array Nat) (p : Str) => acc ++ (S []).cps ++ p.cps) acc).toList = acc.toList ++ l.flatten
  | [], acc => by simp
  | x :: l, acc => by
    rw [List.map_cons, List.foldl_cons, glued_nil l]
    simp
theorem join_nil (l : List (List Nat)) : Txt.join (S []) (l.map S) = S l.flatten := by
  cases l with
  | nil => rfl
  | cons x l =>
    have := glued_nil l x.toArray
    show (⟨_⟩ : Str) = ⟨_⟩
    refine congrArg Str.mk ?_
    rw [← Array.toArray_toList (xs := List.foldl _ _ _)]
    exact congrArg List.toArray this
theorem i_join0 {l : List (List Nat)} (h : SqL K H p (l.map fun x => V.str (S x)) ∨ SqT K H p (l.map fun x => V.str (S x))) (hl : l.flatten.length ≤ 100000) (q : Q (.str (S l.flatten)) H) : zJoin0 K (.str (S [])) [.ref p] H Q := by
  refine ⟨S [], p, l.map S, rfl, rfl, ?_, ?_, by rw [join_nil]; exact q⟩
  · rw [List.map_map]; exact h
  · have e : ((l.map S).map (·.length)).sum = l.flatten.length := by
      rw [List.map_map, List.length_flatten]
      exact congrArg List.sum (List.map_congr_left fun x _ => S_len x)
    have e0 : (S []).length = 0 := rfl
    rw [e, e0]; omega
end
end Z
namespace Z
open PySem PySem.Spec PyProof.Rows L2
/-! ### comprehensions by an invariant over what is made so far -/
section
variable {σ : L2.St} {H : Hp} {Q : VK} {K : PySem.W.Frag}
/-- the list at D is acc, and I speaks of it -/
def LcI (Dl : Addr) (I : Nat → List V → Hp → Prop) (i : Nat) (H : Hp) : Prop := ∃ acc, H Dl = some (.lst acc) ∧ acc.length ≤ i ∧ I i acc H
def CEnd (Dl : Addr) (P : Hp → Prop) (y : V) (H4 : Hp) : Prop := ∃ acc, H4 Dl = some (.lst acc) ∧ acc.length < sizeLine ∧ P (upd H4 Dl (.lst (acc ++ [y])))
def LcT (Dl : Addr) (I : Nat → List V → Hp → Prop) (i : Nat) (te : TE) (W : L2.St) (vs : List Nat) (tt : TT) (σ2 : L2.St) (H2 : Hp) : Prop := wipe σ2 vs = W ∧ tt σ2 H2 fun b H3 => if b = true then te σ2 H3 (CEnd Dl (LcI Dl I (i + 1))) else LcI Dl I (i + 1) H3
theorem l_comp {J : It} {n : Nat} {G : Hp → Prop} {Y : Nat → Hp → V → Hp → Prop} (w : Walk J n G Y) {g : TG} {tt : TT} {te : TE} {vs : List Nat} {Dl : Addr} (W : L2.St) (hw : wipe σ vs = W) (I : Nat → List V → Hp → Prop)
    (h0 : I 0 [] (upd H Dl (.lst []))) (hG : ∀ i acc H, i ≤ n → I i acc H → H Dl = some (.lst acc) → G H)
    (hs : ∀ i x acc H H', i < n → I i acc H → H Dl = some (.lst acc) → acc.length ≤ i → Y i H x H' → g x W H' (LcT Dl I i te W vs tt))
    (hd : ∀ acc H, I n acc H → H Dl = some (.lst acc) → acc.length ≤ n → Q (.ref Dl) H) : LC J g tt te vs σ H Q Dl := by
  subst hw
  refine l_lc w (LcI Dl I) ⟨[], upd_same, Nat.le_refl _, h0⟩ (fun i H hi ⟨acc, e, _, p⟩ => hG i acc H hi p e) (fun i x H H' hi ⟨acc, e, hl, p⟩ y => ?_) fun H ⟨acc, e, hl, p⟩ => hd acc H p e hl
  exact hs i x acc H H' hi p e hl y
theorem cend {Dl : Addr} {I : Nat → List V → Hp → Prop} {i : Nat} {y : V} {acc : List V} (h : H Dl = some (.lst acc)) (hl : acc.length ≤ i) (hi : i < 100000) (p : I (i + 1) (acc ++ [y]) (upd H Dl (.lst (acc ++ [y])))) : CEnd Dl (LcI Dl I (i + 1)) y H :=
  ⟨acc, h, lt_line (by omega), acc ++ [y], upd_same, by rw [List.length_append]; simp; omega, p⟩
theorem i_lct {Dl : Addr} {I : Nat → List V → Hp → Prop} {i : Nat} {te : TE} {W : L2.St} {vs : List Nat} {tt : TT} {σ2 : L2.St} (hw : wipe σ2 vs = W) (q : tt σ2 H fun b H3 => if b = true then te σ2 H3 (CEnd Dl (LcI Dl I (i + 1))) else LcI Dl I (i + 1) H3) :
    LcT Dl I i te W vs tt σ2 H := ⟨hw, q⟩
theorem i_slL {p : Addr} {xs : List V} {lo hi : Option Int} (h : SqL K H p xs) (q : ∀ l, H l = none → Q (.ref l) (upd H l (.lst (cutV xs lo hi)))) : rSlL K (.ref p) lo hi H Q := ⟨p, xs, rfl, h, q⟩
theorem cutV_to (xs : List V) (n : Nat) : cutV xs none (some (n : Int)) = xs.take n := by
  unfold cutV
  rw [HT.sIx_none, HT.sIx_nat, List.drop_zero, Nat.sub_zero]
  rcases Nat.le_total n xs.length with h | h
  · rw [Nat.min_eq_left h]
  · rw [Nat.min_eq_right h, List.take_of_length_le (Nat.le_refl _), List.take_of_length_le h]
theorem cutV_from (xs : List V) (n : Nat) : cutV xs (some (n : Int)) none = xs.drop n := by
  unfold cutV
  rw [HT.sIx_none, HT.sIx_nat]
  rcases Nat.le_total n xs.length with h | h
  · rw [Nat.min_eq_left h, List.take_of_length_le (by rw [List.length_drop]; exact Nat.le_refl _)]
  · rw [Nat.min_eq_right h, Nat.sub_self, List.take_zero, List.drop_of_length_le h]
end
theorem _root_.L2.Same.newz {H H' : Hp} {p : Addr} {o : HO} (e : Same H H') (hp : H' p = none) : Same H (upd H' p o) := fun b u q => by have := e b u q; rw [upd_ne (ne_of_none this hp)]; exact this
theorem _root_.L2.Same.mutz {H H' : Hp} {p : Addr} {o : HO} (e : Same H H') (hp : H p = none) : Same H (upd H' p o) := fun b u q => by rw [upd_ne (ne_of_none q hp)]; exact e b u q
end Z
namespace Z
theorem perm_pick {α : Type} {found rest l : List α} {r : Nat} (hr : r < rest.length) (hp : (found ++ rest).Perm l) : ((found ++ [rest[r]]) ++ (rest.take r ++ rest.drop (r + 1))).Perm l := by
  refine List.Perm.trans ?_ hp
  rw [List.append_assoc]
  refine List.Perm.append_left found ?_
  have e : rest = rest.take r ++ rest[r] :: rest.drop (r + 1) := by
    rw [List.getElem_cons_drop, List.take_append_drop]
  refine List.Perm.trans ?_ (List.Perm.of_eq e.symm)
  show (rest[r] :: (rest.take r ++ rest.drop (r + 1))).Perm _
  exact List.perm_middle.symm
theorem az : codes (PySem.Str.ofString "abcdefghijklmnopqrstuvwxyz") = List.range' 97 26 := by decide +kernel
theorem empty_codes : codes (PySem.Str.ofString "") = [] := by decide +kernel
theorem perm_nodup_of {α : Type} {found rest l : List α} (hp : (found ++ rest).Perm l) (hn : l.Nodup) : found.Nodup := (List.nodup_append.mp (hp.nodup_iff.mpr hn)).1
/-- a sorted arrangement of different ones ascends -/
theorem asc_of {ys : List Nat} (h : ys.Pairwise (· ≤ ·)) (hn : ys.Nodup) : ys.Pairwise (· < ·) :=
  (h.and hn).imp fun {a b} q => by have := q.1; have := q.2; omega
theorem flat_one : ∀ ys : List Nat, (ys.map fun c => [c]).flatten = ys
  | [] => rfl
  | a :: l => by rw [List.map_cons, List.flatten_cons, flat_one l]; rfl
end Z
namespace Z
open PySem PySem.Spec PyProof.Rows L2
/-! ### data in the heap: what a value stands for; N tells the addresses that may change -/
mutual
inductive Rp (N : Addr → Prop) (H : Hp) : V → PyData → Prop
  | non : Rp N H .non .none
  | bl (b : Bool) : Rp N H (.bl b) (.bool b)
  | int (i : Int) : Rp N H (.int i) (.int i)
  | str (x : Str) : Rp N H (.str x) (.str x)
  | lst {a : Addr} {xs : List V} {ds : List PyData} : H a = some (.lst xs) → ¬ N a → RpAll N H xs ds → Rp N H (.ref a) (.list ds)
  | tup {a : Addr} {xs : List V} {ds : List PyData} : H a = some (.tup xs) → ¬ N a → RpAll N H xs ds → Rp N H (.ref a) (.tuple ds)
  | dct {a : Addr} {kvs : List (Key × V)} : H a = some (.dK kvs) → ¬ N a → Rp N H (.ref a) (.dict [])
inductive RpAll (N : Addr → Prop) (H : Hp) : List V → List PyData → Prop
  | nil : RpAll N H [] []
  | cons {v : V} {vs : List V} {d : PyData} {ds : List PyData} : Rp N H v d → RpAll N H vs ds → RpAll N H (v :: vs) (d :: ds)
end
/-- all but what may change is as it was -/
def Kp (N : Addr → Prop) (H H' : Hp) : Prop := ∀ b o, H b = some o → ¬ N b → H' b = some o
theorem Kp.refl {N : Addr → Prop} {H : Hp} : Kp N H H := fun _ _ e _ => e
theorem Kp.trans {N : Addr → Prop} {H H1 H2 : Hp} (a : Kp N H H1) (b : Kp N H1 H2) : Kp N H H2 := fun c o e n => b c o (a c o e n) n
theorem Kp.of_same {N : Addr → Prop} {H H' : Hp} (s : Same H H') : Kp N H H' := fun b o e _ => s b o e
theorem Gd.toKp {h : Addr} {H H' : Hp} (g : Gd h H H') : Kp (· = h) H H' := g.kp
theorem Kp.newz {N : Addr → Prop} {H H' : Hp} {p : Addr} {o : HO} (k : Kp N H H') (hp : H' p = none) : Kp N H (upd H' p o) := fun b u e n => by
  have := k b u e n
  rw [upd_ne (ne_of_none this hp)]; exact this
mutual
theorem Rp.mono {N : Addr → Prop} {H H' : Hp} (k : Kp N H H') : ∀ {v : V} {d : PyData}, Rp N H v d → Rp N H' v d
  | _, _, .non => .non
  | _, _, .bl b => .bl b
  | _, _, .int i => .int i
  | _, _, .str x => .str x
  | _, _, .lst e n r => .lst (k _ _ e n) n (RpAll.mono k r)
  | _, _, .tup e n r => .tup (k _ _ e n) n (RpAll.mono k r)
  | _, _, .dct e n => .dct (k _ _ e n) n
theorem RpAll.mono {N : Addr → Prop} {H H' : Hp} (k : Kp N H H') : ∀ {vs : List V} {ds : List PyData}, RpAll N H vs ds → RpAll N H' vs ds
  | _, _, .nil => .nil
  | _, _, .cons a b => .cons (Rp.mono k a) (RpAll.mono k b)
end
mutual
theorem Rp.sub {N M : Addr → Prop} {H : Hp} (k : ∀ b, M b → N b) : ∀ {v : V} {d : PyData}, Rp N H v d → Rp M H v d
  | _, _, .non => .non
  | _, _, .bl b => .bl b
  | _, _, .int i => .int i
  | _, _, .str x => .str x
  | _, _, .lst e n r => .lst e (fun q => n (k _ q)) (RpAll.sub k r)
  | _, _, .tup e n r => .tup e (fun q => n (k _ q)) (RpAll.sub k r)
  | _, _, .dct e n => .dct e fun q => n (k _ q)
theorem RpAll.sub {N M : Addr → Prop} {H : Hp} (k : ∀ b, M b → N b) : ∀ {vs : List V} {ds : List PyData}, RpAll N H vs ds → RpAll M H vs ds
  | _, _, .nil => .nil
  | _, _, .cons a b => .cons (Rp.sub k a) (RpAll.sub k b)
end
/-- nothing may change -/
abbrev N0 : Addr → Prop := fun _ => False
theorem Rp.same {H H' : Hp} {N : Addr → Prop} {v : V} {d : PyData} (s : Same H H') (r : Rp N H v d) : Rp N H' v d := r.mono (Kp.of_same s)
theorem Rp.free {N : Addr → Prop} {H : Hp} {v : V} {d : PyData} (r : Rp N H v d) : Rp N0 H v d := r.sub fun _ q => q.elim
theorem RpAll.length {N : Addr → Prop} {H : Hp} : ∀ {vs : List V} {ds : List PyData}, RpAll N H vs ds → vs.length = ds.length
  | _, _, .nil => rfl
  | _, _, .cons _ r => by rw [List.length_cons, List.length_cons, r.length]
theorem RpAll.get {N : Addr → Prop} {H : Hp} : ∀ {vs : List V} {ds : List PyData} {i : Nat} {d : PyData}, RpAll N H vs ds → ds[i]? = some d → ∃ v, vs[i]? = some v ∧ Rp N H v d
  | _, _, _, _, .nil, e => by simp at e
  | _, _, 0, _, .cons a _, e => by simp at e; subst e; exact ⟨_, rfl, a⟩
  | _, _, i + 1, _, .cons _ r, e => by obtain ⟨v, h1, h2⟩ := r.get (i := i) (by simpa using e); exact ⟨v, by simpa using h1, h2⟩
theorem RpAll.get' {N : Addr → Prop} {H : Hp} : ∀ {vs : List V} {ds : List PyData} {i : Nat} {v : V}, RpAll N H vs ds → vs[i]? = some v → ∃ d, ds[i]? = some d ∧ Rp N H v d
  | _, _, _, _, .nil, e => by simp at e
  | _, _, 0, _, .cons a _, e => by simp at e; subst e; exact ⟨_, rfl, a⟩
  | _, _, i + 1, _, .cons _ r, e => by obtain ⟨v, h1, h2⟩ := r.get' (i := i) (by simpa using e); exact ⟨v, by simpa using h1, h2⟩
theorem RpAll.drop {N : Addr → Prop} {H : Hp} : ∀ {vs : List V} {ds : List PyData} (n : Nat), RpAll N H vs ds → RpAll N H (vs.drop n) (ds.drop n)
  | _, _, 0, r => r
  | _, _, _ + 1, .nil => .nil
  | _, _, n + 1, .cons _ r => r.drop n
theorem RpAll.append {N : Addr → Prop} {H : Hp} : ∀ {vs ws : List V} {ds es : List PyData}, RpAll N H vs ds → RpAll N H ws es → RpAll N H (vs ++ ws) (ds ++ es)
  | _, _, _, _, .nil, r => r
  | _, _, _, _, .cons a q, r => .cons a (q.append r)
theorem RpAll.ints {N : Addr → Prop} {H : Hp} : ∀ (l : List Int), RpAll N H (l.map V.int) (l.map PyData.int)
  | [] => .nil
  | _ :: l => .cons (.int _) (RpAll.ints l)
mutual
/-- without dicts -/
def noD : PyData → Bool
  | .dict _ => false
  | .list l => noDs l
  | .tuple l => noDs l
  | .none => true
  | .bool _ => true
  | .int _ => true
  | .str _ => true
def noDs : List PyData → Bool
  | [] => true
  | d :: r => noD d && noDs r
end
mutual
theorem Rp.dp {K : PySem.W.Frag} {N : Addr → Prop} {H : Hp} : ∀ {v : V} {d : PyData}, noD d = true → Rp N H v d → Dp K H v d
  | _, _, _, .non => .non
  | _, _, _, .bl b => .bl b
  | _, _, _, .int i => .int i
  | _, _, _, .str x => .str x
  | _, _, s, .lst e _ r => .lst (SqL.of e) (RpAll.dp (by simpa [noD] using s) r)
  | _, _, s, .tup e _ r => .tup (SqT.of e) (RpAll.dp (by simpa [noD] using s) r)
  | _, _, s, .dct _ _ => by simp [noD] at s
theorem RpAll.dp {K : PySem.W.Frag} {N : Addr → Prop} {H : Hp} : ∀ {vs : List V} {ds : List PyData}, noDs ds = true → RpAll N H vs ds → DpAll K H vs ds
  | _, _, _, .nil => .nil
  | _, _, s, .cons a b => by
    have s' := s
    simp only [noDs, Bool.and_eq_true] at s'
    exact .cons (Rp.dp s'.1 a) (RpAll.dp s'.2 b)
end
/-- the built-in class of a datum -/
def tyN : PyData → String
  | .none => "NoneType"
  | .bool _ => "bool"
  | .int _ => "int"
  | .str _ => "str"
  | .list _ => "list"
  | .tuple _ => "tuple"
  | .dict _ => "dict"
theorem Rp.ty {K : PySem.W.Frag} {N : Addr → Prop} {H : Hp} {v : V} {d : PyData} (r : Rp N H v d) : TyX K H v (.type (tyN d)) := by
  cases r with
  | non => exact .base .non
  | bl b => exact .base (.bl b)
  | int i => exact .base (.int i)
  | str x => exact .base (.str x)
  | lst e _ _ => exact .base (.lst e)
  | tup e _ _ => exact .base (.tup e)
  | dct e _ => exact .base (.dK e)
def isTy (d : PyData) (T : String) : Bool := tyN d == T || (tyN d == "bool" && T == "int")
def tys : List String := ["int", "str", "bool", "list", "tuple", "dict"]
theorem kit_all : ∀ n, n ∈ ["NoneType", "bool", "int", "str", "list", "tuple", "dict"] → ∀ T, T ∈ tys → kitB n T = some (n == T || (n == "bool" && T == "int")) := by decide +kernel
theorem tyN_mem (d : PyData) : tyN d ∈ ["NoneType", "bool", "int", "str", "list", "tuple", "dict"] := by cases d <;> simp [tyN]
def zIsi (K : PySem.W.Frag) : List V → Hp → VK → Prop := rIsi K
theorem zc_isi {X : Cx} : CallR X (.builtin "isinstance") (zIsi X.K) := call_isi
theorem i_isi {K : PySem.W.Frag} {N : Addr → Prop} {H : Hp} {Q : VK} {x : V} {d : PyData} {T : String} (r : Rp N H x d) (hT : T ∈ tys) (q : Q (.bl (isTy d T)) H) : zIsi K [x, .ty T] H Q :=
  ⟨x, .ty T, _, _, _, rfl, .ty T, r.ty, kit_ty (kit_all _ (tyN_mem d) T hT), q⟩
theorem rel_ty (n : String) : RelV (.ty n) (.type n) := rfl
theorem Rp.isStr {N : Addr → Prop} {H : Hp} {x : V} {d : PyData} (r : Rp N H x d) : isTy d "str" = true → ∃ l, x = .str (S l) ∧ d = .str (S l) := by
  intro h
  cases r with
  | str w => exact ⟨codes w, rfl, rfl⟩
  | _ => simp [isTy, tyN] at h
theorem Rp.isTup {N : Addr → Prop} {H : Hp} {x : V} {d : PyData} (r : Rp N H x d) : isTy d "tuple" = true → ∃ a xs ds, x = .ref a ∧ d = .tuple ds ∧ H a = some (.tup xs) ∧ ¬ N a ∧ RpAll N H xs ds := by
  intro h
  cases r with
  | tup e n q => exact ⟨_, _, _, rfl, rfl, e, n, q⟩
  | _ => simp [isTy, tyN] at h
theorem Rp.isList {N : Addr → Prop} {H : Hp} {x : V} {d : PyData} (r : Rp N H x d) : isTy d "list" = true → ∃ a xs ds, x = .ref a ∧ d = .list ds ∧ H a = some (.lst xs) ∧ ¬ N a ∧ RpAll N H xs ds := by
  intro h
  cases r with
  | lst e n q => exact ⟨_, _, _, rfl, rfl, e, n, q⟩
  | _ => simp [isTy, tyN] at h
/-! ### a comprehension whose element is a function of the item -/
section
variable {σ : L2.St} {H : Hp} {Q : VK} {K : PySem.W.Frag}
theorem l_map {J : It} {n : Nat} {G : Hp → Prop} {Y : Nat → Hp → V → Hp → Prop} (w : Walk J n G Y) {j : Nat} {te : TE} {vs : List Nat} {Dl : Addr} (hD : H Dl = none) (W : L2.St) (hw : wipe σ vs = W) (hw2 : ∀ x : V, wipe (W.set j (some x)) vs = W)
    (xs : List V) (hn : n = xs.length) (hl : xs.length ≤ 99999) (hY : ∀ i H1 x H2, i < n → G H1 → Y i H1 x H2 → H2 = H1 ∧ xs[i]? = some x) (hG : ∀ H1, Same H H1 → G H1) (f : V → V)
    (hs : ∀ (x : V) (H1 : Hp) (P : VK), x ∈ xs → Same H H1 → (∀ H2, Same H1 H2 → P (f x) H2) → te (W.set j (some x)) H1 P)
    (hd : ∀ H1, Same H H1 → H1 Dl = some (.lst (xs.map f)) → Q (.ref Dl) H1) : LC J (gName j) tYes te vs σ H Q Dl := by
  subst hn
  refine l_comp w W hw (fun i acc H1 => Same H H1 ∧ acc = (xs.take i).map f) ⟨(Same.refl H).newz hD, by simp⟩ (fun i acc H1 _ p _ => hG H1 p.1) ?_ ?_
  · rintro i x acc H1 H2 hi ⟨sm, rfl⟩ e hl2 y
    obtain ⟨rfl, hx⟩ := hY i _ x _ hi (hG _ sm) y
    refine i_gname ?_
    refine i_lct (hw2 x) ?_
    refine i_yes ?_
    refine iteT ?_
    refine hs x _ _ (List.mem_of_getElem? hx) sm fun H3 s3 => ?_
    refine cend (s3 _ _ e) hl2 (by omega) ⟨(sm.trans s3).mutz hD, ?_⟩
    rw [List.take_add_one, hx]
    simp
  · rintro acc H1 ⟨sm, rfl⟩ e _
    rw [List.take_length] at e
    exact hd H1 sm e
theorem l_mapS {a : List Nat} {j : Nat} {te : TE} {vs : List Nat} {Dl : Addr} (hD : H Dl = none) (W : L2.St) (hw : wipe σ vs = W) (hw2 : ∀ x : V, wipe (W.set j (some x)) vs = W) (hl : a.length ≤ 99999) (f : Nat → V)
    (hs : ∀ (c : Nat) (H1 : Hp) (P : VK), c ∈ a → Same H H1 → (∀ H2, Same H1 H2 → P (f c) H2) → te (W.set j (some (.str (S [c])))) H1 P)
    (hd : ∀ H1, Same H H1 → H1 Dl = some (.lst (a.map f)) → Q (.ref Dl) H1) : LC (Its (S a)) (gName j) tYes te vs σ H Q Dl := by
  let f' : V → V := fun v => match v with | .str w => f ((codes w).headD 0) | _ => .non
  refine l_map (walk_str (z := S a)) hD W hw hw2 (a.map fun c => V.str (S [c])) (by simp) (by rw [List.length_map]; exact hl) (fun i H1 x H2 hi _ y => ?_) (fun _ _ => trivial) f' (fun x H1 P hx sm hP => ?_) fun H1 sm e => hd H1 sm ?_
  · obtain ⟨e, c, hc, ex⟩ := y
    refine ⟨e, ?_⟩
    rw [List.getElem?_map, show a[i]? = some c by simpa using hc, ex]
    rfl
  · obtain ⟨c, hc, rfl⟩ := List.mem_map.mp hx
    exact hs c H1 P hc sm hP
  · rw [List.map_map] at e
    exact e
end
def zAll (K : PySem.W.Frag) : List V → Hp → VK → Prop := rAll K
def zAny (K : PySem.W.Frag) : List V → Hp → VK → Prop := rAny K
theorem zc_all {X : Cx} (hc : X.calm = true) : CallR X (.builtin "all") (zAll X.K) := cr_all hc
theorem zc_any {X : Cx} (hc : X.calm = true) : CallR X (.builtin "any") (zAny X.K) := cr_any hc
theorem i_all {K : PySem.W.Frag} {H : Hp} {Q : VK} {a : Addr} {bs : List Bool} (h : SqL K H a (bs.map V.bl)) (q : Q (.bl (bs.all id)) H) : zAll K [.ref a] H Q := ⟨a, bs, rfl, h, q⟩
theorem i_any {K : PySem.W.Frag} {H : Hp} {Q : VK} {a : Addr} {bs : List Bool} (h : SqL K H a (bs.map V.bl)) (q : Q (.bl (bs.any id)) H) : zAny K [.ref a] H Q := ⟨a, bs, rfl, h, q⟩
def zSum (K : PySem.W.Frag) : List V → Hp → VK → Prop := rSum K
theorem zc_sum {X : Cx} (hc : X.calm = true) : CallR X (.builtin "sum") (zSum X.K) := cr_sum hc
theorem i_sum {K : PySem.W.Frag} {H : Hp} {Q : VK} {a : Addr} {ns : List Int} (h : SqL K H a (ns.map V.int)) (q : Q (.int ns.sum) H) : zSum K [.ref a] H Q := ⟨a, ns, rfl, h, q⟩
/-! for operands of more than one kind -/
def zLtA : R2 := fun x y H Q => zLt x y H Q ∨ zLtS x y H Q
theorem z_ltA {X : Cx} : OpR X (compareOp .Lt) zLtA := by
  intro pins s σ H x y v u Q I rx ry h
  rcases h with h | h
  · exact z_lt pins s σ H x y v u Q I rx ry h
  · exact z_lts pins s σ H x y v u Q I rx ry h
theorem i_ltAI {i j : Int} {H : Hp} {Q : VK} (q : Q (.bl (decide (i < j))) H) : zLtA (.int i) (.int j) H Q := .inl (i_lt q)
theorem i_ltAS {a b : List Nat} {H : Hp} {Q : VK} (q : Q (.bl (decide (a < b))) H) : zLtA (.str (S a)) (.str (S b)) H Q := .inr (i_lts q)
def zSlA (K : PySem.W.Frag) : V → Option Int → Option Int → Hp → VK → Prop := fun x lo hi H Q => rSlS x lo hi H Q ∨ rSlA K x lo hi H Q ∨ rSlL K x lo hi H Q
theorem sl_A {X : Cx} : SlR X (zSlA X.K) := by
  intro pins s σ H x v vl vu lo hi sl Q I rx hs pl pu h
  rcases h with h | h | h
  · exact sl_str pins s σ H x v vl vu lo hi sl Q I rx hs pl pu h
  · exact sl_tupA pins s σ H x v vl vu lo hi sl Q I rx hs pl pu h
  · exact sl_list pins s σ H x v vl vu lo hi sl Q I rx hs pl pu h
theorem one_lt {c d : Nat} : decide ([c] < [d]) = decide (c < d) := by
  by_cases h : c < d
  · rw [decide_eq_true h]; exact decide_eq_true (List.Lex.rel h)
  · rw [decide_eq_false h]
    refine decide_eq_false fun q => ?_
    cases q with
    | rel q => exact h q
    | cons q => cases q
section
variable {σ : L2.St} {H : Hp} {K : PySem.W.Frag} {R : L2.St → Hp → Prop} {v : V} {r : List V} {t : TG} {u ts : TGs}
theorem i_gtup {a : Addr} {xs : List V} {n : Nat} (h : SqT K H a xs) (hl : xs.length = n) (q : ts xs σ H R) : gTup K n ts (.ref a) σ H R := ⟨a, xs, rfl, h, hl, q⟩
theorem i_gcons (q : t v σ H fun σ' H' => u r σ' H' R) : gCons t u (v :: r) σ H R := ⟨v, r, rfl, q⟩
theorem i_gnil (q : R σ H) : gNil [] σ H R := ⟨rfl, q⟩
theorem i_izip {ta : TA} {R : It → Hp → Prop} (q : ta σ H fun vs H1 => KZ K vs H1 fun J => R J H1) : iZipZ K ta σ H R := q
theorem i_KZ {x y : V} {R : It → Prop} (c d : Sd) {xs ys : List V} (vc : c.val x) (vd : d.val y) (hx : c.is K H xs) (hy : d.is K H ys) (q : R (ItZ K c d)) : KZ K [x, y] H R := ⟨x, y, c, d, xs, ys, rfl, vc, vd, hx, hy, q⟩
end
/-- each one is less than the next -/
def adj {α : Type} (lt : α → α → Bool) : List α → Bool
  | [] => true
  | [_] => true
  | a :: b :: r => lt a b && adj lt (b :: r)
theorem adj_all {α : Type} (lt : α → α → Bool) : ∀ l : List α, ((l.zip (l.drop 1)).map fun p => lt p.1 p.2).all id = adj lt l
  | [] => rfl
  | [_] => rfl
  | a :: b :: r => by
    have ih := adj_all lt (b :: r)
    show (lt a b && (((b :: r).zip r).map fun p => lt p.1 p.2).all id) = (lt a b && adj lt (b :: r))
    rw [← ih]; rfl
theorem adj_asc : ∀ l : List Nat, adj (fun a b => decide (a < b)) l = decide (l.Pairwise (· < ·))
  | [] => by simp [adj]
  | [_] => by simp [adj]
  | a :: b :: r => by
    have ih := adj_asc (b :: r)
    show (decide (a < b) && adj (fun a b => decide (a < b)) (b :: r)) = _
    rw [ih, Bool.eq_iff_iff, Bool.and_eq_true, decide_eq_true_iff, decide_eq_true_iff, decide_eq_true_iff]
    constructor
    · rintro ⟨h1, h2⟩
      refine List.pairwise_cons.mpr ⟨fun c hc => ?_, h2⟩
      rcases List.mem_cons.mp hc with q | q
      · rw [q]; exact h1
      · exact Nat.lt_trans h1 (List.rel_of_pairwise_cons h2 q)
    · intro h
      exact ⟨List.rel_of_pairwise_cons h (by simp), (List.pairwise_cons.mp h).2⟩
theorem adj_ascI : ∀ l : List Int, adj (fun a b => decide (a < b)) l = decide (l.Pairwise (· < ·))
  | [] => by simp [adj]
  | [_] => by simp [adj]
  | a :: b :: r => by
    have ih := adj_ascI (b :: r)
    show (decide (a < b) && adj (fun a b => decide (a < b)) (b :: r)) = _
    rw [ih, Bool.eq_iff_iff, Bool.and_eq_true, decide_eq_true_iff, decide_eq_true_iff, decide_eq_true_iff]
    constructor
    · rintro ⟨h1, h2⟩
      refine List.pairwise_cons.mpr ⟨fun c hc => ?_, h2⟩
      rcases List.mem_cons.mp hc with q | q
      · rw [q]; exact h1
      · exact Int.lt_trans h1 (List.rel_of_pairwise_cons h2 q)
    · intro h
      exact ⟨List.rel_of_pairwise_cons h (by simp), (List.pairwise_cons.mp h).2⟩
theorem zte {t : TE} {σ : L2.St} {H : Hp} {P : VK} (L : L2.St) (h : σ = L) (q : t L H P) : t σ H P := h ▸ q
theorem l_zipmap {σ : L2.St} {H : Hp} {Q : VK} {K : PySem.W.Frag} {c d : Sd} {xs ys : List V} {j1 j2 : Nat} {te : TE} {vs : List Nat} {Dl : Addr} (hD : H Dl = none) (W : L2.St) (hw : wipe σ vs = W) (hw2 : ∀ x y : V, wipe ((W.set j1 (some x)).set j2 (some y)) vs = W)
    (hc : ∀ H1, Same H H1 → c.is K H1 xs) (hd : ∀ H1, Same H H1 → d.is K H1 ys) (hl : min xs.length ys.length ≤ 99999) (f : V → V → V)
    (hs : ∀ (x y : V) (H1 : Hp) (P : VK), x ∈ xs → y ∈ ys → Same H H1 → (∀ H2, Same H1 H2 → P (f x y) H2) → te ((W.set j1 (some x)).set j2 (some y)) H1 P)
    (hq : ∀ H1, Same H H1 → H1 Dl = some (.lst ((xs.zip ys).map fun p => f p.1 p.2)) → Q (.ref Dl) H1) : LC (ItZ K c d) (gTup K 2 (gCons (gName j1) (gCons (gName j2) gNil))) tYes te vs σ H Q Dl := by
  refine l_comp (walk_zipZ (K := K) (n := min xs.length ys.length) rfl) W hw (fun i acc H1 => Same H H1 ∧ acc = ((xs.zip ys).take i).map fun p => f p.1 p.2) ⟨(Same.refl H).newz hD, by simp⟩ (fun i acc H1 _ p _ => ⟨hc _ p.1, hd _ p.1⟩) ?_ ?_
  · rintro i v acc H1 H2 hi ⟨sm, rfl⟩ e hl2 ⟨T, x, y, rfl, hT, rfl, hx, hy⟩
    have hx : xs[i]? = some x := hx
    have hy : ys[i]? = some y := hy
    refine i_gtup (SqT.of upd_same) rfl ?_
    refine i_gcons (i_gname (i_gcons (i_gname (i_gnil ?_))))
    refine i_lct (hw2 x y) ?_
    refine i_yes ?_
    refine iteT ?_
    have s2 : Same H (upd H1 T (.tup [x, y])) := sm.newz hT
    refine hs x y _ _ (List.mem_of_getElem? hx) (List.mem_of_getElem? hy) s2 fun H3 s3 => ?_
    refine cend (s3 _ _ (by rw [upd_ne (ne_of_none e hT)]; exact e)) hl2 (by omega) ⟨(s2.trans s3).mutz hD, ?_⟩
    have hz : (xs.zip ys)[i]? = some (x, y) := List.getElem?_zip_eq_some.mpr ⟨hx, hy⟩
    rw [List.take_add_one, hz]
    simp
  · rintro acc H1 ⟨sm, rfl⟩ e _
    rw [List.take_of_length_le (by simp)] at e
    exact hq H1 sm e
theorem zip_map {α β : Type} (f : α → V) (g : β → V) (F : V → V → V) (b : α → β → V) (hb : ∀ x y, F (f x) (g y) = b x y) : ∀ (l : List α) (m : List β), ((l.map f).zip (m.map g)).map (fun p => F p.1 p.2) = (l.zip m).map fun p => b p.1 p.2
  | [], _ => rfl
  | _ :: _, [] => rfl
  | x :: l, y :: m => by
    show F (f x) (g y) :: _ = b x y :: _
    rw [hb]
    exact congrArg _ (zip_map f g F b hb l m)
/-- the first code of a text of one sign, an int of a value -/
def chr1 : V → Nat
  | .str w => (codes w).headD 0
  | _ => 0
def int1 : V → Int
  | .int i => i
  | _ => 0
theorem i_slTA {K : PySem.W.Frag} {H : Hp} {Q : VK} {a : Addr} {xs : List V} {lo hi : Option Int} (h : H a = some (.tup xs)) (q : ∀ p H', Same H H' → H' p = some (.tup (cutV xs lo hi)) → Q (.ref p) H') : rSlA K (.ref a) lo hi H Q := by
  refine ⟨a, xs, rfl, SqT.of h, fun hw => ?_, fun _ p hp => q p _ ((Same.refl H).newz hp) upd_same⟩
  refine q a H (Same.refl H) ?_
  have e : cutV xs lo hi = xs := by
    unfold cutV
    rw [hw.1, hw.2, List.drop_zero, Nat.sub_zero, List.take_length]
  rw [e]; exact h
theorem one_lt' {c d : Nat} : (!decide ([c] < [d])) = decide (d ≤ c) := by
  rw [one_lt]
  by_cases h : c < d
  · rw [decide_eq_true h, decide_eq_false (by omega)]; rfl
  · rw [decide_eq_false h, decide_eq_true (by omega)]; rfl
theorem brnb {c : Bool} {A B : Prop} (h1 : c = false → A) (h2 : c = true → B) : if (!c) = true then A else B := by
  cases c
  · exact iteT (h1 rfl)
  · exact iteF (h2 rfl)
theorem iteNF {A B : Prop} (h : A) : if (!false) = true then A else B := h
theorem iteNT {A B : Prop} (h : B) : if (!true) = true then A else B := h
theorem brT {p : Prop} [Decidable p] {A B : Prop} (hp : p) (h : A) : if decide p = true then A else B := by rw [decide_eq_true hp]; exact iteT h
theorem brF {p : Prop} [Decidable p] {A B : Prop} (hp : ¬ p) (h : B) : if decide p = true then A else B := by rw [decide_eq_false hp]; exact iteF h
theorem HandOk.ne {h p : Addr} {H : Hp} (k : HandOk H h) (hp : H p = none) : ¬ p = h := fun e => by obtain ⟨o, ho⟩ := k.some; rw [e, ho] at hp; cases hp
theorem Gd.kp' {h p : Addr} {H H' : Hp} {o : HO} (g : Gd h H H') (e : H p = some o) (n : ¬ p = h) : H' p = some o := g.kp _ _ e n
theorem sub_snoc {α : Type} {cs l : List α} {i : Nat} {x : α} (h : cs.Sublist (l.take i)) (hx : l[i]? = some x) : (cs ++ [x]).Sublist (l.take (i + 1)) := by
  rw [List.take_add_one, hx]
  exact h.append (List.Sublist.refl _)
theorem sub_skip {α : Type} {cs l : List α} {i : Nat} (h : cs.Sublist (l.take i)) : cs.Sublist (l.take (i + 1)) := h.trans (List.take_sublist_take_left (Nat.le_succ i))
theorem find3_S (a : List Nat) (c n : Nat) : (Txt.find3 (S a) (S [c]) (n : Int) = -1 ∧ ∀ k, n ≤ k → a[k]? ≠ some c) ∨
    ∃ k : Nat, Txt.find3 (S a) (S [c]) (n : Int) = (k : Int) ∧ n ≤ k ∧ a[k]? = some c ∧ ∀ v, n ≤ v → v < k → a[v]? ≠ some c := by
  have e : fromIndex (S a).length (n : Int) = n := by
    unfold fromIndex
    rw [if_neg (by omega)]
    omega
  have g : ∀ v, v < a.length → ((S a).cps.getD v 0 = c ↔ a[v]? = some c) := fun v hv => by
    have : (S a).cps.getD v 0 = a[v] := by
      show a.toArray.getD v 0 = _
      simp [Array.getD, hv]
    rw [this, List.getElem?_eq_getElem hv]
    exact ⟨fun h => by rw [h], fun h => Option.some.inj h⟩
  rcases StrLaws.find3_spec (S a) c (n : Int) with ⟨h1, h2⟩ | ⟨k, h1, h2, h3, h4, h5⟩
  · refine .inl ⟨h1, fun k hk q => ?_⟩
    obtain ⟨hl, _⟩ := List.getElem?_eq_some_iff.mp q
    exact h2 k (by rw [e]; exact hk) (by rw [S_len]; exact hl) ((g k hl).mpr q)
  · rw [S_len] at h3
    refine .inr ⟨k, h1, by rw [e] at h2; exact h2, (g k h3).mp h4, fun v hv hvk q => ?_⟩
    exact h5 v (by rw [e]; exact hv) hvk ((g v (by omega)).mpr q)
theorem i_find3 {a : List Nat} {c n : Nat} {H : Hp} {Q : VK} (q1 : (∀ k, n ≤ k → a[k]? ≠ some c) → Q (.int (-1)) H) (q2 : ∀ k : Nat, n ≤ k → a[k]? = some c → (∀ v, n ≤ v → v < k → a[v]? ≠ some c) → Q (.int (k : Int)) H) : zFind3 (.str (S a)) [.str (S [c]), .int (n : Int)] H Q := by
  refine ⟨_, _, _, rfl, rfl, ?_⟩
  rcases find3_S a c n with ⟨h1, h2⟩ | ⟨k, h1, h2, h3, h4⟩
  · rw [h1]; exact q1 h2
  · rw [h1]; exact q2 k h2 h3 h4
/-- the first place is the best one -/
theorem sub_first {c : Nat} {u : List Nat} : ∀ {a : List Nat} {n k : Nat}, n ≤ k → a[k]? = some c → (∀ v, n ≤ v → v < k → a[v]? ≠ some c) → ((c :: u).Sublist (a.drop n) ↔ u.Sublist (a.drop (k + 1))) := by
  intro a n k
  induction k generalizing n a with
  | zero =>
    intro hn hk _
    obtain rfl : n = 0 := by omega
    cases a with
    | nil => simp at hk
    | cons x r =>
      have : x = c := by simpa using hk
      subst this
      simp
  | succ k ih =>
    intro hn hk h
    cases a with
    | nil => simp at hk
    | cons x r =>
      have hk' : r[k]? = some c := by simpa using hk
      cases n with
      | succ n =>
        have := ih (a := r) (n := n) (by omega) hk' (fun v h1 h2 => by have := h (v + 1) (by omega) (by omega); simpa using this)
        simpa using this
      | zero =>
        have hx : x ≠ c := fun q => h 0 (by omega) (by omega) (by simp [q])
        have := ih (a := r) (n := 0) (by omega) hk' (fun v h1 h2 => by have := h (v + 1) (by omega) (by omega); simpa using this)
        rw [List.drop_zero] at this
        rw [List.drop_zero, List.drop_succ_cons, ← this]
        constructor
        · intro q
          cases q with
          | cons _ q => exact q
          | cons_cons => exact absurd rfl hx
        · intro q
          exact .cons _ q
theorem sub_none {c : Nat} {u a : List Nat} {n : Nat} (h : ∀ k, n ≤ k → a[k]? ≠ some c) : ¬ (c :: u).Sublist (a.drop n) := fun q => by
  have hc : c ∈ a.drop n := q.subset (by simp)
  obtain ⟨i, hi⟩ := List.getElem?_of_mem hc
  rw [List.getElem?_drop] at hi
  exact h (n + i) (by omega) hi
theorem l_mapR {σ : L2.St} {H : Hp} {Q : VK} {n j : Nat} {te : TE} {vs : List Nat} {Dl : Addr} (hD : H Dl = none) (W : L2.St) (hw : wipe σ vs = W) (hw2 : ∀ x : V, wipe (W.set j (some x)) vs = W) (hl : n ≤ 99999) (f : Nat → V)
    (hs : ∀ (i : Nat) (H1 : Hp) (P : VK), i < n → Same H H1 → (∀ H2, Same H1 H2 → P (f i) H2) → te (W.set j (some (.int (i : Int)))) H1 P)
    (hd : ∀ H1, Same H H1 → H1 Dl = some (.lst ((List.range n).map f)) → Q (.ref Dl) H1) : LC (Itr 0 n) (gName j) tYes te vs σ H Q Dl := by
  let f' : V → V := fun v => match v with | .int i => f i.toNat | _ => .non
  refine l_map (walk_range (lo := 0) (n := n)) hD W hw hw2 ((List.range n).map fun (i : Nat) => V.int (i : Int)) (by simp) (by simpa using hl) (fun i H1 x H2 hi _ y => ?_) (fun _ _ => trivial) f' (fun x H1 P hx sm hP => ?_) fun H1 sm e => hd H1 sm ?_
  · obtain ⟨e, hx⟩ := y
    refine ⟨e, ?_⟩
    rw [List.getElem?_map, List.getElem?_range hi, hx]
    show some (V.int (i : Int)) = some (V.int (0 + (i : Int)))
    rw [Int.zero_add]
  · obtain ⟨c, hc, rfl⟩ := List.mem_map.mp hx
    exact hs c H1 P (List.mem_range.mp hc) sm hP
  · rw [List.map_map] at e
    exact e
theorem Rp.tupS {N : Addr → Prop} {H : Hp} {v : V} {ds : List PyData} (r : Rp N H v (.tuple ds)) : ∃ a xs, v = .ref a ∧ H a = some (.tup xs) ∧ ¬ N a ∧ RpAll N H xs ds := by
  cases r with
  | tup e n q => exact ⟨_, _, rfl, e, n, q⟩
theorem Rp.strS {N : Addr → Prop} {H : Hp} {v : V} {w : Str} (r : Rp N H v (.str w)) : v = .str w := by cases r; rfl
theorem Rp.intS {N : Addr → Prop} {H : Hp} {v : V} {i : Int} (r : Rp N H v (.int i)) : v = .int i := by cases r; rfl
theorem RpAll.consS {N : Addr → Prop} {H : Hp} {vs : List V} {d : PyData} {ds : List PyData} (r : RpAll N H vs (d :: ds)) : ∃ v ws, vs = v :: ws ∧ Rp N H v d ∧ RpAll N H ws ds := by
  cases r with
  | cons a b => exact ⟨_, _, rfl, a, b⟩
theorem RpAll.nilS {N : Addr → Prop} {H : Hp} {vs : List V} (r : RpAll N H vs []) : vs = [] := by cases r; rfl
theorem RpAll.one {N : Addr → Prop} {H : Hp} {vs : List V} {d : PyData} (r : RpAll N H vs [d]) : ∃ v, vs = [v] ∧ Rp N H v d := by
  obtain ⟨v, ws, rfl, a, b⟩ := r.consS
  rw [b.nilS]; exact ⟨v, rfl, a⟩
theorem RpAll.two {N : Addr → Prop} {H : Hp} {vs : List V} {d d2 : PyData} (r : RpAll N H vs [d, d2]) : ∃ v v2, vs = [v, v2] ∧ Rp N H v d ∧ Rp N H v2 d2 := by
  obtain ⟨v, ws, rfl, a, b⟩ := r.consS
  obtain ⟨v2, rfl, a2⟩ := b.one
  exact ⟨v, v2, rfl, a, a2⟩
theorem RpAll.three {N : Addr → Prop} {H : Hp} {vs : List V} {d d2 d3 : PyData} (r : RpAll N H vs [d, d2, d3]) : ∃ v v2 v3, vs = [v, v2, v3] ∧ Rp N H v d ∧ Rp N H v2 d2 ∧ Rp N H v3 d3 := by
  obtain ⟨v, ws, rfl, a, b⟩ := r.consS
  obtain ⟨v2, v3, rfl, a2, a3⟩ := b.two
  exact ⟨v, v2, v3, rfl, a, a2, a3⟩
theorem RpAll.four {N : Addr → Prop} {H : Hp} {vs : List V} {d d2 d3 d4 : PyData} (r : RpAll N H vs [d, d2, d3, d4]) : ∃ v v2 v3 v4, vs = [v, v2, v3, v4] ∧ Rp N H v d ∧ Rp N H v2 d2 ∧ Rp N H v3 d3 ∧ Rp N H v4 d4 := by
  obtain ⟨v, ws, rfl, a, b⟩ := r.consS
  obtain ⟨v2, v3, v4, rfl, a2, a3, a4⟩ := b.three
  exact ⟨v, v2, v3, v4, rfl, a, a2, a3, a4⟩
theorem sum_count (a : List Nat) (c : Nat) : (a.map fun x => if decide ([x] = [c]) = true then (1 : Int) else 0).sum = (a.count c : Nat) := by
  induction a with
  | nil => rfl
  | cons x r ih =>
    rw [List.map_cons, List.sum_cons, ih]
    by_cases h : x = c
    · subst h
      rw [if_pos (by simp), List.count_cons_self]
      omega
    · rw [if_neg (by simpa using h), List.count_cons_of_ne h]
      omega
theorem row_any (a u : List Nat) (hu : 1 ≤ u.length) : ((List.range a.length).map fun i => decide ((a.drop i).take u.length = u)).any id = decide (u <:+: a) := by
  rw [Bool.eq_iff_iff, decide_eq_true_iff, List.any_eq_true]
  constructor
  · rintro ⟨b, hb, e⟩
    obtain ⟨i, _, rfl⟩ := List.mem_map.mp hb
    have := of_decide_eq_true e
    rw [← this]
    exact (List.take_prefix _ _).isInfix.trans (List.drop_suffix _ _).isInfix
  · rintro ⟨s, t, rfl⟩
    refine ⟨true, List.mem_map.mpr ⟨s.length, List.mem_range.mpr ?_, ?_⟩, rfl⟩
    · rw [List.length_append, List.length_append]; omega
    · exact decide_eq_true (by simp)
theorem one_eq {c d : Nat} : decide ([c] = [d]) = decide (c = d) := by
  by_cases h : c = d
  · subst h; simp
  · rw [decide_eq_false h]; exact decide_eq_false fun q => h (by simpa using q)
theorem mod_eq {x n m : Nat} (hm : m < n) : x % n = m ↔ ((x : Int) - (m : Int)) % (n : Int) = 0 := by
  have h1 : ((x % n : Nat) : Int) = (x : Int) % (n : Int) := Int.natCast_emod x n
  have h2 : (m : Int) % (n : Int) = (m : Int) := Int.emod_eq_of_lt (by omega) (by omega)
  rw [← Int.emod_eq_emod_iff_emod_sub_eq_zero, h2, ← h1]
  omega
theorem nodup_len : ∀ {l L : List Nat}, l.Nodup → (∀ c ∈ l, c ∈ L) → l.length ≤ L.length
  | [], _, _, _ => Nat.zero_le _
  | a :: l, L, hn, hs => by
    have ha : a ∈ L := hs a (by simp)
    have hn' := List.nodup_cons.mp hn
    have ih := nodup_len (l := l) (L := L.erase a) hn'.2 fun c hc => (List.mem_erase_of_ne (show c ≠ a from fun e => hn'.1 (by rw [← e]; exact hc))).mpr (hs c (by simp [hc]))
    have := List.length_erase_of_mem ha
    have h0 : 0 < L.length := List.length_pos_of_mem ha
    rw [List.length_cons]
    omega
/-- different ones out of a list are no more than it has -/
theorem asc_len {l L : List Nat} (h : l.Pairwise (· < ·)) (hs : ∀ c ∈ l, c ∈ L) : l.length ≤ L.length :=
  nodup_len (h.imp fun {a b} q => by omega) hs
end Z

local macro_rules | `(tactic| walk_at "zz") => `(tactic| repeat first
  | with_reducible first
    | refine Z.i_op ?_ | refine Z.i_v0 ?_ | refine Z.i_v1 ?_ | refine Z.i_v2 ?_ | refine Z.i_v3 ?_ | refine Z.i_v4 ?_ | refine Z.i_v5 ?_ | refine Z.i_cs ?_ | refine Z.i_c ?_ | refine Z.i_cons ?_ | refine Z.i_nil ?_ | refine Z.i_seq ?_ | refine Z.i_asg ?_ | refine Z.i_nx ?_ | refine Z.i_rt ?_
    | refine Z.i_KB ?_ | refine Z.i_cb ?_ | refine Z.i_call ?_ | refine Z.i_add ?_ | refine Z.i_sub ?_ | refine Z.i_test ?_ | refine Z.i_ifS ?_ | refine Z.i_eqI ?_ | refine Z.i_lt ?_ 
    | refine Z.i_g0 ?_ | refine Z.i_g1 ?_ | refine Z.i_g2 ?_ | refine Z.i_g3 ?_ | refine Z.i_g4 ?_ | refine Z.i_g5 ?_
    | refine Z.i_v6 ?_ | refine Z.i_v7 ?_ | refine Z.i_v8 ?_ | refine Z.i_v9 ?_ | refine Z.i_v10 ?_ | refine Z.i_v11 ?_ | refine Z.i_v12 ?_ | refine Z.i_v13 ?_ | refine Z.i_v14 ?_
    | refine Z.i_g6 ?_ | refine Z.i_g7 ?_ | refine Z.i_g8 ?_ | refine Z.i_g9 ?_ | refine Z.i_g10 ?_ | refine Z.i_g11 ?_ | refine Z.i_g12 ?_ | refine Z.i_g13 ?_ | refine Z.i_g14 ?_
    | refine Z.i_le ?_ | refine Z.i_gt ?_ | refine Z.i_ge ?_ | refine Z.i_lts ?_ | refine Z.i_les ?_ | refine Z.i_ins ?_ | refine Z.i_nins ?_ | refine Z.i_neI ?_ | refine Z.i_eqS ?_ | refine Z.i_neS ?_ | refine Z.i_eqB ?_ | refine Z.i_neg ?_ | refine Z.i_un ?_
    | refine Z.i_next ?_ | refine Z.i_ret ?_ | refine Z.i_retN ?_ | refine Z.i_drop ?_ | refine Z.i_brk ?_ | refine Z.i_cont ?_ | refine Z.i_bk ?_ | refine Z.i_ct ?_ | refine Z.i_gsub ?_
    | refine Z.i_KI ?_ | refine Z.i_KS ?_ | refine Z.i_if ?_ | refine Z.i_tB ?_ | refine Z.i_tand ?_ | refine Z.i_tor ?_ | refine Z.i_tnot ?_ | refine Z.i_and ?_ | refine Z.i_or ?_ | refine Z.i_not ?_ | refine Z.i_chain ?_
    | refine Z.i_tup ?_ | refine Z.i_lst ?_ | refine Z.i_bm ?_ | refine Z.i_bm0 ?_ | refine Z.i_sl ?_ | refine Z.i_po0 ?_ | refine Z.i_po1 ?_
    | refine Z.i_m1 ?_ | refine Z.i_tyS ?_ | refine Z.i_tyS0 ?_ | refine Z.i_find ?_ | refine Z.i_count ?_ | refine Z.i_starts ?_ | refine Z.i_ends ?_ | refine Z.i_instr ?_ | refine Z.i_gcons ?_ | refine Z.i_gnil ?_ | refine Z.i_izip ?_ | refine Z.i_ltAI ?_ | refine Z.i_ltAS ?_ | refine Z.i_for ?_ | refine Z.i_lc ?_ | refine Z.i_yes ?_ | refine Z.i_r1 ?_ | refine Z.i_istr ?_ | refine Z.i_ilist ?_ | refine Z.i_itup ?_ | refine Z.i_int ?_ | refine Z.i_abs ?_ | refine Z.i_max ?_ | refine Z.i_min ?_
  | ((with_reducible refine' Z.i_ixL ?za ?zb ?_); (case za => exact L2.SqL.of (by assumption)); (case zb => first | rfl | exact Z.at_nat (by decide) rfl))
  | ((with_reducible refine' Z.i_ixT ?za ?zb ?_); (case za => exact L2.SqT.of (by assumption)); (case zb => first | rfl | exact Z.at_nat (by decide) rfl))
  | with_reducible refine Z.i_mul (by first | exact Or.inr ⟨by decide, by decide⟩ | exact Or.inl ⟨by decide, by decide⟩ | omega) ?_
  | with_reducible refine Z.i_mod (by first | decide | omega) ?_
  | with_reducible refine Z.i_div (Z.cdivw (by first | decide | omega) (by first | decide | omega)) ?_
  | ((with_reducible refine' Z.i_lenL ?za ?_); (case za => exact L2.SqL.of (by assumption)))
  | with_reducible refine Z.i_adds (by simp only [List.length_append, List.length_cons, List.length_nil]; omega) ?_
  | with_reducible refine Z.i_lens (by first | omega | (simp only [List.length_append, List.length_cons, List.length_nil]; omega)) ?_
  | ((with_reducible refine Z.i_lct ?zw ?_); (case zw => rfl))
  | ((with_reducible refine' Z.i_gtup ?zt ?zl ?_); (case zt => exact L2.SqT.of (by first | assumption | exact L2.upd_same)); (case zl => rfl))
  | with_reducible refine Z.brT (by decide +kernel) ?_ | with_reducible refine Z.brF (by decide +kernel) ?_
  | with_reducible refine Z.iteNF ?_ | with_reducible refine Z.iteNT ?_
  | with_reducible refine L2.iteT ?_
  | with_reducible refine L2.iteF ?_)
namespace Y
open PySem PySem.Spec PyProof.Rows L2 Z
open C8 (tCut pss_cut Cal pe_c Met pe_mt pe_mt0 Mak pe_mk)
def topS (i : Nat) : Stmt := PySem.Challenge.pw_saidacross_k29_letters_that_change_place.main.body.getD i (.Pass ⟨0, 0, 0, 0⟩)
abbrev s__law_draw : Stmt := topS 46
abbrev n__law_draw : List Str := ["_law_hand_here", "_law_many", "_law_cell", "_law_digit", "_law_number"]
theorem sc__law_draw : FnScope n__law_draw ["_law_hand_here", "_law_many"] (defScope s__law_draw) := ⟨rfl, rfl, rfl, by decide +kernel, rfl, by decide +kernel, by decide +kernel⟩

abbrev s__law_hand : Stmt := topS 45
abbrev n__law_hand : List Str := ["_law_script", "_law_cells", "_law_cell"]
theorem sc__law_hand : FnScope n__law_hand ["_law_script"] (defScope s__law_hand) := ⟨rfl, rfl, rfl, by decide +kernel, rfl, by decide +kernel, by decide +kernel⟩

section
variable {P : Program} {w : World} {K : PySem.W.Frag} {mg : Str → Option Value} {base : Heap}
theorem c__law_draw (d : DF K mg "_law_draw" s__law_draw) (B : Bi mg) : Cal P w K mg base 1 "_law_draw" spDraw [] := by
  refine d.cal (N := n__law_draw) sc__law_draw (fun _ _ _ _ _ _ us hl => match us, hl with | [_, _], _ => rfl) (fun vs H Q E h => ?_) (fun f cdv A outer s H vs Q E hr h => ?_)
  · obtain ⟨h, m, rfl, _⟩ := h
    rfl
  · obtain ⟨h, m, rfl, hh, hm0, hm1, k⟩ := h
    refine ⟨_, (pss_cut (ps_if (PW.pt (pw_and (pt_cmpR op_eq (pe_ix (r := rIxL K) ix_list (pv 0) pe_int (fun _ _ => rfl)) pe_int (nomark _)) (pw_and1 (pt_cmpR z_lt (pe_ix (r := rIxL K) ix_list (pv 0) pe_int (fun _ _ => rfl)) (pe_callB (r := zLen K) zc_len (by rfl) B.len (by decide +kernel) (pa_cons (pe_ix (r := rIxL K) ix_list (pv 0) pe_int (fun _ _ => rfl)) pa_nil)) (nomark _))))) (pss_cons (ps_set (i := 2) sc__law_draw.nd rfl (by first | exact Or.inl rfl | exact Or.inr rfl) (pe_ix (r := rIxL K) ix_list (pe_ix (r := rIxL K) ix_list (pv 0) pe_int (fun _ _ => rfl)) (pe_ix (r := rIxL K) ix_list (pv 0) pe_int (fun _ _ => rfl)) (fun _ _ => rfl)))
  (pss_cons (ps_asg (pe_op z_add (pe_ix (r := rIxL K) ix_list (pv 0) pe_int (fun _ _ => rfl)) pe_int) (pg_sub (pv 0) pe_int set_list))
  (pss_cons (ps_asg (pe_op z_mod (pe_callTy zc_int (by rfl) B.int (by decide +kernel) (pa_cons (pe_op z_add (pe_op z_add (pe_op z_mul (pe_ix (r := rIxL K) ix_list (pv 0) pe_int (fun _ _ => rfl)) pe_int) (pv 2)) pe_int) pa_nil)) pe_int) (pg_sub (pv 0) pe_int set_list))
  (pss_one (ps_if (pt_cmpR z_ge (pv 2) (pe_op z_pow pe_int pe_int) (nomark _)) (pss_one (ps_asg (pv 2) (pg_sub (pv 0) pe_int set_list))) pss_nil))))) pss_nil)
  (pss_cons (ps_if (pt_cmpR z_gt (pe_ix (r := rIxL K) ix_list (pv 0) pe_int (fun _ _ => rfl)) pe_int (nomark _)) (pss_cons (ps_set (i := 3) sc__law_draw.nd rfl (by first | exact Or.inl rfl | exact Or.inr rfl) (pe_op z_mod (pe_callTy zc_int (by rfl) B.int (by decide +kernel) (pa_cons (pe_ix (r := rIxL K) ix_list (pv 0) pe_int (fun _ _ => rfl)) pa_nil)) (pv 1)))
  (pss_cons (ps_asg (pe_op z_div (pe_ix (r := rIxL K) ix_list (pv 0) pe_int (fun _ _ => rfl)) (pv 1)) (pg_sub (pv 0) pe_int set_list))
  (pss_one (ps_ret (pv 3))))) pss_nil)
  (pss_cons (ps_asg (pe_op z_add (pe_ix (r := rIxL K) ix_list (pv 0) pe_int (fun _ _ => rfl)) pe_int) (pg_sub (pv 0) pe_int set_list))
  (pss_cons (ps_set (i := 4) sc__law_draw.nd rfl (by first | exact Or.inl rfl | exact Or.inr rfl) (pe_op z_mod (pe_callTy zc_int (by rfl) B.int (by decide +kernel) (pa_cons (pe_op z_mul (pe_callTy zc_int (by rfl) B.int (by decide +kernel) (pa_cons (pe_op z_add (pe_ix (r := rIxL K) ix_list (pv 0) pe_int (fun _ _ => rfl)) (pe_op z_mul pe_int (pe_ix (r := rIxL K) ix_list (pv 0) pe_int (fun _ _ => rfl)))) pa_nil)) pe_int) pa_nil)) pe_int))
  (pss_cons (ps_set (i := 4) sc__law_draw.nd rfl (by first | exact Or.inl rfl | exact Or.inr rfl) (pe_op z_mod (pe_callTy zc_int (by rfl) B.int (by decide +kernel) (pa_cons (pe_op z_mul (pv 4) (pe_op z_add (pe_op z_div (pv 4) pe_int) pe_int)) pa_nil)) pe_int))
  (pss_cons (ps_set (i := 4) sc__law_draw.nd rfl (by first | exact Or.inl rfl | exact Or.inr rfl) (pe_op z_mod (pe_callTy zc_int (by rfl) B.int (by decide +kernel) (pa_cons (pe_op z_mul (pv 4) (pe_op z_add (pe_op z_div (pv 4) pe_int) pe_int)) pa_nil)) pe_int))
  (pss_one (ps_ret (pe_op z_mod (pe_callTy zc_int (by rfl) B.int (by decide +kernel) (pa_cons (pe_op z_div (pv 4) pe_int) pa_nil)) (pv 1)))))))))), ?_⟩
    refine zstart [some (.ref h), some (.int m), none, none, none] rfl ?_; try dsimp only [zK, zK2]
    refine i_cut (fun σ' H' => ∃ v2, σ' = [some (.ref h), some (.int m), v2, none, none] ∧ Gd h H H') ?_ ?_
    · obtain ⟨c, cells, a1, a2, a3, a4, e1, e2, hc, h1, h2, h3, h3', h4⟩ := hh.ex
      have hch : c ≠ h := fun e => by subst e; exact map_int_ne (Option.some.inj (e1.symm.trans e2))
      walk_at "zz"
      refine brd (fun q2 => ?_) fun q2 => ?_
      · walk_at "zz"
        refine brd (fun q1 => ?_) fun q1 => ?_
        · rw [List.length_map] at q1
          walk_at "zz"
          obtain ⟨cell, hcell⟩ : ∃ x, cells[a1.toNat]? = some x := ⟨_, List.getElem?_eq_getElem (by omega)⟩
          have hcell0 := hc _ (List.mem_of_getElem? hcell)
          refine i_ixL (SqL.of e2) (at_nat h1 (by rw [List.getElem?_map, hcell]; rfl)) ?_
          walk_at "zz"
          refine i_setH e1 rfl [V.ref c, V.int (a1 + 1), V.int a2, V.int a3, V.int a4] rfl fun H1 eH => ?_
          obtain ⟨f1, f2, kp1⟩ := hstep eH hch e2 (fun b o e _ => e)
          clear eH
          walk_at "zz"
          refine i_setH f1 rfl [V.ref c, V.int (a1 + 1), V.int a2, V.int ((a3 * 69621 + cell + 11) % 2147483629), V.int a4] rfl fun H2 eH => ?_
          obtain ⟨f3, f4, kp2⟩ := hstep eH hch f2 kp1
          clear eH
          walk_at "zz"
          refine i_pow ⟨by decide, by decide, by decide⟩ ?_
          walk_at "zz"
          have b1 := Int.emod_nonneg (a3 * 69621 + cell + 11) (b := 2147483629) (by decide)
          have b2 := Int.emod_lt_of_pos (a3 * 69621 + cell + 11) (b := 2147483629) (by decide)
          refine brd (fun q3 => ?_) fun q3 => ?_
          · walk_at "zz"
            refine i_setH f3 rfl [V.ref c, V.int (a1 + 1), V.int cell, V.int ((a3 * 69621 + cell + 11) % 2147483629), V.int a4] rfl fun H3 eH => ?_
            obtain ⟨f5, f6, kp3⟩ := hstep eH hch f4 kp2
            clear eH
            walk_at "zz"
            exact ⟨_, rfl, Gd.of hh e1 f5 ⟨c, cells, _, _, _, _, f5, f6, hc, by omega, hcell0, b1, by omega, h4⟩ kp3⟩
          · walk_at "zz"
            exact ⟨_, rfl, Gd.of hh e1 f3 ⟨c, cells, _, _, _, _, f3, f4, hc, by omega, h2, b1, by omega, h4⟩ kp2⟩
        · walk_at "zz"
          exact ⟨_, rfl, Gd.refl hh⟩
      · walk_at "zz"
        exact ⟨_, rfl, Gd.refl hh⟩
    · rintro σ' H1 ⟨v2, rfl, g⟩
      obtain ⟨c, cells, a1, a2, a3, a4, e1, e2, hc, h1, h2, h3, h3', h4⟩ := g.ok.ex
      have hch : c ≠ h := fun e => by subst e; exact map_int_ne (Option.some.inj (e1.symm.trans e2))
      walk_at "zz"
      refine brd (fun q1 => ?_) fun q1 => ?_
      · walk_at "zz"
        refine i_setH e1 rfl [V.ref c, V.int a1, V.int (a2 / m), V.int a3, V.int a4] rfl fun H2 eH => ?_
        obtain ⟨f1, f2, kp1⟩ := hstep eH hch e2 (fun b o e _ => e)
        clear eH
        walk_at "zz"
        exact draw_k k (Int.emod_nonneg _ (by omega)) (Int.emod_lt_of_pos _ hm0) (g.trans (Gd.of g.ok e1 f1 ⟨c, cells, _, _, _, _, f1, f2, hc, h1, Int.ediv_nonneg h2 (by omega), h3, h3', h4⟩ kp1))
      · walk_at "zz"
        refine i_setH e1 rfl [V.ref c, V.int a1, V.int a2, V.int a3, V.int (a4 + 1)] rfl fun H2 eH => ?_
        obtain ⟨f1, f2, kp1⟩ := hstep eH hch e2 (fun b o e _ => e)
        clear eH
        walk_at "zz"
        exact draw_k k (Int.emod_nonneg _ (by omega)) (Int.emod_lt_of_pos _ hm0) (g.trans (Gd.of g.ok e1 f1 ⟨c, cells, _, _, _, _, f1, f2, hc, h1, h2, h3, h3', by omega⟩ kp1))
theorem c__law_hand (d : DF K mg "_law_hand" s__law_hand) (B : Bi mg) : Cal P w K mg base 1 "_law_hand" (spHand K) [] := by
  refine d.cal (N := n__law_hand) sc__law_hand (fun _ _ _ _ _ _ us hl => match us, hl with | [_], _ => rfl) (fun vs H Q E h => ?_) (fun f cdv A outer s H vs Q E hr h => ?_)
  · obtain ⟨a, ns, rfl, _⟩ := h
    rfl
  · obtain ⟨a, ns, rfl, hs, hk, k⟩ := h
    refine ⟨_, (pss_cons (ps_setLc (i := 1) (own := [("_law_cell", 2)]) (g := gName 2) (tt := tYes) rfl sc__law_hand.nd rfl rfl (sw_true rfl rfl rfl (by decide +kernel)) (pi_list (pe_slice (r := rSlL K) sl_list (pv 0) po_none (po_some pe_int))) (blkOk_by (N := n__law_hand) (sc := defScope s__law_hand) (by decide +kernel)) (fun _ _ _ _ _ => (pg_name (i := 2) sc__law_hand.nd rfl (by first | exact Or.inl rfl | exact Or.inr rfl))) (fun _ _ _ _ _ => pts_nil) (fun _ _ _ _ _ => (pe_callB zc_abs (by rfl) B.abs (by decide +kernel) (pa_cons (pe_callTy zc_int (by rfl) B.int (by decide +kernel) (pa_cons (pv 2) pa_nil)) pa_nil))))
  (pss_one (ps_ret (pe_lst (pa_cons (pv 1) (pa_cons pe_int (pa_cons pe_int (pa_cons (pe_op z_add pe_int (pe_callB (r := zLen K) zc_len (by rfl) B.len (by decide +kernel) (pa_cons (pv 1) pa_nil))) (pa_cons pe_int pa_nil))))))))), ?_⟩
    refine zstart [some (.ref a), none, none] rfl ?_; try dsimp only [zK, zK2]
    walk_at "zz"
    refine i_slL hs fun p hp => ?_
    refine i_KL (SqL.of upd_same) fun Dl hD => ?_
    have e63 : cutV (ns.map V.int) none (some 63) = (ns.take 63).map V.int := by
      rw [show (63 : Int) = ((63 : Nat) : Int) from rfl, cutV_to, List.map_take]
    rw [e63] at hD ⊢
    have npD : p ≠ Dl := fun e => by subst e; rw [upd_same] at hD; cases hD
    refine l_comp (walk_list (xs := (ns.take 63).map V.int)) [some (.ref a), none, none] rfl (fun i acc H' => Same H H' ∧ H' p = some (.lst ((ns.take 63).map V.int)) ∧ ∃ cells : List Int, acc = cells.map V.int ∧ ∀ x ∈ cells, 0 ≤ x)
      ⟨((Same.refl H).newz hp).newz hD, by rw [upd_ne npD]; exact upd_same, [], rfl, by simp⟩ (fun i acc H' _ ⟨_, e, _⟩ _ => SqL.of e) ?_ ?_
    · rintro i x acc H1 H2 hi ⟨sm, ep, cells, rfl, h0⟩ eD hl ⟨rfl, hx⟩
      rw [List.getElem?_map] at hx
      obtain ⟨z, hz, rfl⟩ := Option.map_eq_some_iff.mp hx
      have hD0 : H Dl = none := by rw [upd_ne npD.symm] at hD; exact hD
      walk_at "zz"
      refine cend eD hl (by rw [List.length_map, List.length_take] at hi; omega) ⟨sm.mutz hD0, by rw [upd_ne npD]; exact ep, cells ++ [if z < 0 then -z else z], by simp, ?_⟩
      intro x hx
      rcases List.mem_append.mp hx with q | q
      · exact h0 x q
      · rw [List.mem_singleton.mp q]; split <;> omega
    · rintro acc H1 ⟨sm, ep, cells, rfl, h0⟩ eD hl
      walk_at "zz"
      have hlen : cells.length ≤ 63 := by rw [List.length_map, List.length_map, List.length_take] at hl; omega
      refine ⟨by show 5 ≤ sizeLine; decide, fun h hh => ?_⟩
      refine k h _ (sm.free hh) ⟨Dl, cells, 0, 0, _, 0, upd_same, by rw [upd_ne (ne_of_none eD hh)]; exact eD, h0, by omega, by omega, ?_, ?_, by omega⟩ (sm.newz hh)
      · rw [List.length_map]; omega
      · rw [List.length_map]; omega
end
end Y

namespace Y
open PySem PySem.Spec PyProof.Rows L2 Z
open C8 (tCut pss_cut Cal pe_c Met pe_mt pe_mt0 Mak pe_mk)
theorem ztt {t : TT} {σ : L2.St} {H : Hp} {R : Bool → Hp → Prop} (L : L2.St) (h : σ = L) (q : t L H R) : t σ H R := h ▸ q
theorem l_filtR {σ : L2.St} {H : Hp} {Q : VK} {n j : Nat} {tt : TT} {te : TE} {vs : List Nat} {Dl : Addr} (hD : H Dl = none) (W : L2.St) (hw : wipe σ vs = W) (hw2 : ∀ x : V, wipe (W.set j (some x)) vs = W) (hl : n ≤ 99999) (p : Nat → Bool) (f : Nat → V)
    (ht : ∀ (i : Nat) (H1 : Hp) (R : Bool → Hp → Prop), i < n → Same H H1 → (∀ H2, Same H1 H2 → R (p i) H2) → tt (W.set j (some (.int (i : Int)))) H1 R)
    (hs : ∀ (i : Nat) (H1 : Hp) (P : VK), i < n → p i = true → Same H H1 → (∀ H2, Same H1 H2 → P (f i) H2) → te (W.set j (some (.int (i : Int)))) H1 P)
    (hd : ∀ H1, Same H H1 → H1 Dl = some (.lst (((List.range n).filter p).map f)) → Q (.ref Dl) H1) : LC (Itr 0 n) (gName j) tt te vs σ H Q Dl := by
  refine l_comp (walk_range (lo := 0) (n := n)) W hw (fun i acc H1 => Same H H1 ∧ acc = ((List.range i).filter p).map f) ⟨(Same.refl H).newz hD, by simp⟩ (fun _ _ _ _ _ _ => trivial) ?_ ?_
  · rintro i x acc H1 H2 hi ⟨sm, rfl⟩ e hl2 ⟨e2, rfl⟩
    subst e2
    show gName j (V.int (0 + (i : Int))) _ _ _
    rw [Int.zero_add]
    refine i_gname ?_
    refine i_lct (hw2 _) ?_
    refine ht i _ _ hi sm fun H3 s3 => ?_
    refine brb (fun hb => ?_) fun hb => ?_
    · refine hs i _ _ hi hb (sm.trans s3) fun H4 s4 => ?_
      refine cend ((s3.trans s4) _ _ e) hl2 (by omega) ⟨((sm.trans s3).trans s4).mutz hD, ?_⟩
      rw [List.range_succ, List.filter_append, List.map_append]; simp [hb]
    · exact ⟨_, s3 _ _ e, by omega, sm.trans s3, by rw [List.range_succ, List.filter_append]; simp [hb]⟩
  · rintro acc H1 ⟨sm, rfl⟩ e _
    exact hd H1 sm e
theorem i_cat {H : Hp} {Q : VK} {a b : Addr} {xs ys : List V} (h : H a = some (.lst xs)) (h2 : H b = some (.lst ys)) (hl : xs.length + ys.length ≤ 100000) (q : ∀ p, H p = none → Q (.ref p) (upd H p (.lst (xs ++ ys)))) : rCat (.ref a) (.ref b) H Q := ⟨a, b, xs, ys, rfl, rfl, h, h2, le_line hl, q⟩
theorem gd_same {h : Addr} {H H1 H2 : Hp} (g : Gd h H H1) (s : Same H1 H2) : Gd h H H2 := by
  obtain ⟨c, r, r', e0, e1⟩ := g.cell
  obtain ⟨c1, cells, a1, a2, a3, a4, g0, g1, rest⟩ := g.ok.ex
  exact ⟨⟨c1, cells, a1, a2, a3, a4, s _ _ g0, s _ _ g1, rest⟩, fun b u e n => s _ _ (g.kp b u e n), g.ok0, c, r, r', e0, s _ _ e1⟩
theorem and_merge {b c : Bool} {i : Nat} {σ : L2.St} {H : Hp} {R : VK} (hσ : σ[i]? = some (some (.bl c))) (q : R (.bl (b && c)) H) : if b = true then tVar i σ H R else R (.bl false) H := by
  cases b
  · exact q
  · exact ⟨_, hσ, q⟩
theorem or_merge {b c : Bool} {i : Nat} {σ : L2.St} {H : Hp} {R : VK} (hσ : σ[i]? = some (some (.bl c))) (q : R (.bl (b || c)) H) : if (!b) = true then tVar i σ H R else R (.bl true) H := by
  cases b
  · exact ⟨_, hσ, q⟩
  · exact q
theorem ite_swap {b : Bool} {A B : Prop} (h : if (!b) = true then B else A) : if b = true then A else B := by
  cases b <;> exact h
theorem nw {H : Hp} {p a : Addr} {o u : HO} (hp : H p = none) (e : H a = some u) : upd H p o a = some u := by rw [upd_ne (ne_of_none e hp)]; exact e
theorem kp_mut {Tl : Addr} {H : Hp} {o : HO} : Kp (· = Tl) H (upd H Tl o) := fun b u e n => by rw [upd_ne n]; exact e
def spLaw (K : PySem.W.Frag) : Sp := fun vs H Q _ => ∃ (a : Addr) (ns : List Int), vs = [.ref a] ∧ SqL K H a (ns.map V.int) ∧ ns.length ≤ 63 ∧ ∀ H', Q (.bl true) H'
end Y

namespace Y
open PySem
section
variable {prog : Program} {w : World} {A : Around} {s : Shared} {R : Result → Shared → Prop}
theorem wpAny_extend_str (S : Addr) (x : Str) (t : Tok) (res : Value) (c₀ : Nat) (hh : A.handled = none) (hS : s.heap.get? S = some { cls := .type "list", data := .seq #[] c₀ })
    (hR : ∀ s' acc c', (∀ b o, b ≠ S → s.heap.get? b = some o → s'.heap.get? b = some o) → s'.gens = s.gens → s'.drawn = s.drawn → s'.os = s.os → s'.heap.get? S = some { cls := .type "list", data := .seq acc c' } → ItemsOf (SignAt x) acc x.cps.size → R (.ok (.ret res)) s')
    (hn : x.cps.size ≤ sizeLine) :
    wpAny (model prog w) A.in1 (Builtin.List.listExtendWith (.ref S) (.str x t) res)
      (fun fin s' => match fin with | .done f => R (.ok f) s' | .again c' => c'.quiet = true ∧ codeAny (model prog w) A c' R s') (fun e s' => R (.error e) s') s := by
  have hSl := Heap.lt_size hS
  unfold Builtin.List.listExtendWith
  refine wpAny_bind (wpAny_typeOf (T := "str") (v := .str x t) rfl ?_)
  have h1 : Builtin.List.listSameRef (.ref S) (.str x t) = false := rfl
  have h2 : (Value.type "str" == Value.type "list") = false := by decide
  have h3 : (Value.type "str" == Value.type "tuple") = false := by decide
  simp only [h1, h2, h3, Bool.or_false, Bool.false_eq_true, if_false]
  refine wpAny_bind (wpAny_pyIter_str fun o St W hst => ?_)
  refine wpAny_bind (wpAny_holding ?_)
  unfold Builtin.List.listLengthHint
  refine wpAny_bind (wpAny_specialOf (T := "str") (v := .str x t) rfl F.str_len ?_)
  wp_delta
  refine wpAny_bind (wpAny_isInstance (T := "str") (v := .str x t) (b := true) rfl (by rw [isSubtype_type]; kernel_rfl) ?_)
  show wpAny _ A.in1 (typeOf (Value.str x t) >>= _) _ _ _
  refine wpAny_bind (wpAny_typeOf (T := "str") (v := .str x t) rfl ?_)
  refine wpAny_pure ?_
  rw [if_neg (by decide)]
  have hSf : S ∉ [s.heap.objs.size] := fun hm => by rw [List.mem_singleton.mp hm] at hSl; exact absurd hSl (Nat.lt_irrefl _)
  have hS' : (s.heap.push o).get? S = some { cls := .type "list", data := .seq #[] c₀ } := Heap.get?_push_of_some _ hS
  refine wpAny_pure ⟨plainId_quiet F.plain_extend_loop _, codeAny_extend_loopS (W A.in1 hh).toS hn _ hSf _ x.cps.size 0 _ _ _ rfl (Nat.zero_le _) hst hS' (ItemsOf.nil _) fun s' acc' c' hm hS' hacc => ?_⟩
  refine hR s' acc' c' (fun b ob hb e => hm.heap b ob (fun hb2 => ?_) (Heap.get?_push_of_some _ e)) hm.gens hm.drawn hm.os hS' hacc
  have hlt := Heap.lt_size e
  rcases List.mem_cons.mp hb2 with h | h
  · exact hb h
  · rw [List.mem_singleton.mp h] at hlt; exact Nat.lt_irrefl _ hlt
end
section
variable {prog : Program} {w : World} {A : Around} {E : Value → Shared → Prop} {s : Shared}
theorem call_list_str {Q : Value → Shared → Prop} (hh : A.handled = none) (x : Str) (t : Tok) (hn : x.cps.size ≤ sizeLine)
    (hQ : ∀ s' acc c', (∀ b o, s.heap.get? b = some o → s'.heap.get? b = some o) → s'.gens = s.gens → s'.drawn = s.drawn → s'.os = s.os → s'.heap.get? s.heap.objs.size = some { cls := .type "list", data := .seq acc c' } → ItemsOf (SignAt x) acc x.cps.size → Q (.ref s.heap.objs.size) s') :
    wpAny (model prog w) A (call (.type "list") [.str x t]) Q E s := by
  refine callType_codes (Q₁ := fun obj s₁ => obj = .ref s.heap.objs.size ∧ s₁ = { s with heap := s.heap.push { cls := .type "list", data := .seq #[] } }) F.called_list (F.typeCall_list_1 _) F.entry_list_init
    (code_list_new _ ⟨rfl, rfl⟩) fun obj s₁ h₁ => ?_
  obtain ⟨rfl, rfl⟩ := h₁
  have hS : (s.heap.push { cls := .type "list", data := .seq #[] }).get? s.heap.objs.size = some { cls := .type "list", data := .seq #[] } := Heap.get?_push_size _ rfl
  refine ⟨⟨_, hS, rfl⟩, F.args_list_init_2 _ _, ?_⟩
  show wpAny _ _ (do let old ← Builtin.List.listItems (.ref s.heap.objs.size); Builtin.List.listUpdate (.ref s.heap.objs.size) (fun _ => #[]); letGo old.toList.reverse; Builtin.List.listExtendWith (.ref s.heap.objs.size) (.str x t) .none) _ _ _
  refine wpAny_bind ?_
  unfold Builtin.List.listItems
  refine wpAny_bind (wpAny_seqItems hS rfl (wpAny_pure ?_))
  show wpAny _ _ (updateSeq s.heap.objs.size (fun _ => #[]) >>= fun _ => letGo (#[] : Array Value).toList.reverse >>= fun _ => Builtin.List.listExtendWith (.ref s.heap.objs.size) (.str x t) .none) _ _ _
  refine wpAny_bind (wpAny_updateSeq hS rfl ?_)
  have hS₂ := Heap.get?_update_self (Obj.mapSeq (fun _ => (#[] : Array Value))) hS rfl
  refine wpAny_bind (wpAny_letGo ?_)
  refine wpAny_extend_str _ x t _ _ hh hS₂ (fun s' acc c' k g d o e it => ⟨rfl, ?_⟩) hn
  refine hQ s' acc c' (fun b ob eb => ?_) g d o e it
  have hb : b ≠ s.heap.objs.size := fun e' => Nat.lt_irrefl _ (e' ▸ Heap.lt_size eb)
  exact k b ob hb ((Heap.get?_update_other _ _ (Ne.symm hb)).trans (Heap.get?_push_of_some _ eb))
theorem cmp_signs {P : Nat → Value → Prop} (val : Nat → Nat) (hval : ∀ i v, P i v → ∃ t, v = .str ⟨#[val i]⟩ t) :
    CmpOf prog w A .Gt P (fun i j => decide ((val i : Int) > (val j : Int))) := fun i j vi vj s Q E hi hj h => by
  obtain ⟨t, rfl⟩ := hval i vi hi
  obtain ⟨u, rfl⟩ := hval j vj hj
  have e : decide ((⟨#[val j]⟩ : Str).cps.toList < (⟨#[val i]⟩ : Str).cps.toList) = decide ((val i : Int) > (val j : Int)) := by
    show decide ([val j] < [val i]) = _
    simp [List.cons_lt_cons_iff]
  replace h : Q (Value.bool (decide ((val i : Int) > (val j : Int)))) s := h
  rw [← e] at h
  exact richCompare_gives (op := .Gt) (typeIs_str s _ t) (typeIs_str s _ u) F.slot_str_gt F.entry_str_gt (F.args_str_gt_2 _ _) (gives_str_gt _ _ t u) (fun x => nomatch x) h
theorem max_signs {Q : Value → Shared → Prop} {l : Addr} {items : Array Value} (val : Nat → Nat) (hh : A.handled = none) (hl : s.heap.IsList l items) (hv : ∀ (i : Nat) (v : Value), items[i]? = some v → ∃ t, v = .str ⟨#[val i]⟩ t) (hne : 0 < items.size)
    (h : ∀ k t h' tk, k < items.size → (∀ j, j < items.size → val j ≤ val k) → (∀ b o, s.heap.get? b = some o → h'.get? b = some o) → Q (.str ⟨#[val k]⟩ t) { s with heap := h', toks := tk }) :
    wpAny (model prog w) A (call (.builtin "max") [.ref l]) Q E s := by
  refine call_max_walk ?_
  have hlt : l < s.heap.objs.size := by obtain ⟨_, e, _⟩ := hl; exact Heap.lt_size e
  refine wpAny_pyIter_list hl ?_
  refine ⟨_, _, _, _, _, _, _, rfl, Walks.list (A := A.in1) hh _ l (Nat.ne_of_lt hlt) items, ⟨⟨_, Heap.get?_push_size _ rfl, rfl, rfl⟩, hl.push _⟩, fun b hb => ?_, hne, cmp_signs val (fun i v => hv i v), fun v h' tk hP hk => ?_⟩
  · show b < (s.heap.push _).objs.size
    rw [Heap.size_push]
    rcases List.mem_cons.mp hb with rfl | hb
    · exact Nat.lt_succ_self _
    · rcases List.mem_cons.mp hb with rfl | hb
      · exact Nat.lt_succ_of_lt hlt
      · cases hb
  · obtain ⟨t, rfl⟩ := hv _ _ hP
    obtain ⟨h1, h2⟩ := argBest_gt (fun i => (val i : Int)) (items.size - 1)
    exact h _ t h' tk (by omega) (fun j hj => by have := h2 j (by omega); exact Int.ofNat_le.mp this) (old_kept hk)
end
end Y
namespace Y
open PySem PySem.Spec PyProof.Rows L2 Z
open C8 (tCut pss_cut Cal pe_c Met pe_mt pe_mt0 Mak pe_mk)
def zListS : List V → Hp → VK → Prop := fun vs H Q => ∃ z : List Nat, vs = [.str (S z)] ∧ z.length ≤ 100000 ∧ ∀ p, H p = none → Q (.ref p) (upd H p (.lst (z.map fun c => V.str (S [c]))))
theorem vals_signs : ∀ (z : List Nat) (vs : List Value), vs.length = z.length → (∀ (j : Nat) (v : Value), vs[j]? = some v → ∃ c u, z[j]? = some c ∧ v = .str ⟨#[c]⟩ u) → Vals (z.map fun c => V.str (S [c])) vs
  | [], [], _, _ => .nil
  | c :: z, v :: vs, h, q => by
    obtain ⟨c', u, e1, e2⟩ := q 0 v rfl
    cases e1
    refine .cons ⟨u, e2⟩ (vals_signs z vs (by simpa using h) fun j v hv => ?_)
    obtain ⟨c', u, e1, e2⟩ := q (j + 1) v (by simpa using hv)
    exact ⟨c', u, by simpa using e1, e2⟩
  | [], _ :: _, h, _ => by simp at h
  | _ :: _, [], h, _ => by simp at h
theorem zc_listS {X : Cx} (hc : X.calm = true) : CallR X (.type "list") zListS := by
  intro pins s σ H vs us Q I r h
  obtain ⟨z, rfl, hz, q⟩ := h
  obtain ⟨u, rfl, rx⟩ := vals1 r
  obtain ⟨t, rfl⟩ := rx
  have hsz : (S z).cps.size = z.length := by simp
  refine call_list_str (I.ok.hd hc) (S z) t (by rw [hsz]; exact le_line hz) fun s1 acc c' k g dr os e it => ?_
  obtain ⟨h1, g1, d1, t1, o1⟩ := s1
  subst g dr os
  replace k : ∀ b o, s.heap.get? b = some o → h1.get? b = some o := k
  replace e : h1.get? s.heap.objs.size = some { cls := .type "list", data := .seq acc c' } := e
  have hV : Vals (z.map fun c => V.str (S [c])) acc.toList := vals_signs z acc.toList (by rw [Array.length_toList, it.1, hsz]) fun j v hv => by
    obtain ⟨c, u, e1, e2⟩ := it.2 j v (by simpa using hv)
    exact ⟨c, u, by simpa using e1, e2⟩
  exact ⟨.ref _, upd H s.heap.objs.size (.lst (z.map fun c => V.str (S [c]))), I.laid (t' := t1) k (Nat.le_refl _) ⟨by rw [List.length_map]; exact le_line hz, _, c', hV, by simpa using e⟩, rfl, q _ (I.hok.fresh (Nat.le_refl _))⟩
theorem i_listS {a : List Nat} {H : Hp} {Q : VK} (hl : a.length ≤ 100000) (q : ∀ p, H p = none → Q (.ref p) (upd H p (.lst (a.map fun c => V.str (S [c]))))) : zListS [.str (S a)] H Q := ⟨a, rfl, hl, q⟩
def zMaxC (K : PySem.W.Frag) : List V → Hp → VK → Prop := fun vs H Q => ∃ (a : Addr) (cs : List Nat), vs = [.ref a] ∧ SqL K H a (cs.map fun c => V.str (S [c])) ∧ 0 < cs.length ∧ ∀ m, m ∈ cs → (∀ y, y ∈ cs → y ≤ m) → Q (.str (S [m])) H
theorem signs_at : ∀ {cs : List Nat} {vs : List Value}, Vals (cs.map fun c => V.str (S [c])) vs → ∀ {i : Nat} {v : Value}, vs[i]? = some v → ∃ t, v = .str ⟨#[cs.getD i 0]⟩ t
  | [], _, .nil, i, v, h => by simp at h
  | c :: cs, _, .cons a r, 0, v, h => by
    cases h
    obtain ⟨t, e⟩ := a
    exact ⟨t, e⟩
  | c :: cs, _, .cons a r, i + 1, v, h => signs_at r (i := i) (by simpa using h)
theorem zc_maxC {X : Cx} (hc : X.calm = true) : CallR X (.builtin "max") (zMaxC X.K) := by
  intro pins s σ H vs us Q I r h
  obtain ⟨a, cs, rfl, hs, hne, q⟩ := h
  obtain ⟨its, rv, hl, _⟩ := I.list hs
  rw [Vals.ref1 r]
  have hlen : its.length = cs.length := by have := rv.length; rw [List.length_map] at this; exact this.symm
  refine max_signs (fun i => cs.getD i 0) (I.ok.hd hc) hl.isList (fun i v hv => signs_at rv (by simpa using hv)) (by rw [List.size_toArray, hlen]; exact hne) fun k t h' tk h1 h2 hk => ?_
  rw [List.size_toArray, hlen] at h1
  refine ⟨.str (S [cs.getD k 0]), H, I.kept hk, ⟨_, rfl⟩, q _ ?_ fun y hy => ?_⟩
  · rw [List.getD_eq_getElem?_getD, List.getElem?_eq_getElem h1]
    exact List.getElem_mem h1
  · obtain ⟨j, hj, rfl⟩ := List.getElem_of_mem hy
    have := h2 j (by rw [List.size_toArray, hlen]; exact hj)
    rwa [List.getD_eq_getElem?_getD, List.getElem?_eq_getElem hj] at this
theorem i_maxC {K : PySem.W.Frag} {a : Addr} {cs : List Nat} {H : Hp} {Q : VK} (h : SqL K H a (cs.map fun c => V.str (S [c]))) (h0 : 0 < cs.length) (q : ∀ m, m ∈ cs → (∀ y, y ∈ cs → y ≤ m) → Q (.str (S [m])) H) : zMaxC K [.ref a] H Q := ⟨a, cs, rfl, h, h0, q⟩
end Y

namespace Y
open PySem PySem.Spec PyProof.Rows L2 Z
open C8 (tCut pss_cut Cal pe_c Met pe_mt pe_mt0 Mak pe_mk)
abbrev s_is_integer : Stmt := topS 6
abbrev n_is_integer : List Str := ["thing"]
theorem sc_is_integer : FnScope n_is_integer ["thing"] (defScope s_is_integer) := ⟨rfl, rfl, rfl, by decide +kernel, rfl, by decide +kernel, by decide +kernel⟩

abbrev s_is_between : Stmt := topS 7
abbrev n_is_between : List Str := ["thing", "low", "high"]
theorem sc_is_between : FnScope n_is_between ["thing", "low", "high"] (defScope s_is_between) := ⟨rfl, rfl, rfl, by decide +kernel, rfl, by decide +kernel, by decide +kernel⟩

abbrev s_is_ascending : Stmt := topS 8
abbrev n_is_ascending : List Str := ["row", "one", "other"]
theorem sc_is_ascending : FnScope n_is_ascending ["row"] (defScope s_is_ascending) := ⟨rfl, rfl, rfl, by decide +kernel, rfl, by decide +kernel, by decide +kernel⟩

abbrev s_is_letters : Stmt := topS 9
abbrev n_is_letters : List Str := ["thing", "sign"]
theorem sc_is_letters : FnScope n_is_letters ["thing"] (defScope s_is_letters) := ⟨rfl, rfl, rfl, by decide +kernel, rfl, by decide +kernel, by decide +kernel⟩

abbrev s_is_word : Stmt := topS 10
abbrev n_is_word : List Str := ["letters", "thing", "sign"]
theorem sc_is_word : FnScope n_is_word ["letters", "thing"] (defScope s_is_word) := ⟨rfl, rfl, rfl, by decide +kernel, rfl, by decide +kernel, by decide +kernel⟩

def isInt : PyData → Bool
  | .int _ => true
  | _ => false
def btw (lo hi : Int) : PyData → Bool
  | .int i => decide (lo ≤ i) && decide (i ≤ hi)
  | _ => false
def isLetters : PyData → Bool
  | .str w => (decide (1 ≤ (codes w).length) && decide ((codes w).length ≤ 4)) && ((codes w).all (fun c => decide (97 ≤ c) && decide (c ≤ 122)) && decide ((codes w).Pairwise (· < ·)))
  | _ => false
def isWord (l : List Nat) : PyData → Bool
  | .str w => (codes w).all fun c => decide (c ∈ l)
  | _ => false
theorem isWord_str {l : List Nat} {d : PyData} (h : isWord l d = true) : isTy d "str" = true := by
  cases d <;> first | (simp [isWord] at h; done) | rfl
def lenD : PyData → Nat
  | .str w => (codes w).length
  | .list l => l.length
  | .tuple l => l.length
  | _ => 0
def isLetter (l : List Nat) (d : PyData) : Bool := isWord l d && decide (lenD d = 1)
def ascD : PyData → Bool
  | .str w => decide ((codes w).Pairwise (· < ·))
  | _ => false
def isChoice (l : List Nat) (d : PyData) : Bool := isWord l d && ascD d
/-- what is handed in is short enough -/
def Sml : PyData → Prop
  | .str w => (codes w).length ≤ 90000
  | .list l => l.length ≤ 90000
  | .tuple l => l.length ≤ 90000
  | _ => True
def spIsInteger : Sp := fun vs H Q _ => ∃ x d, vs = [x] ∧ Rp N0 H x d ∧ ∀ H', Same H H' → Q (.bl (isInt d)) H'
def spIsBetween : Sp := fun vs H Q _ => ∃ x d lo hi, vs = [x, .int lo, .int hi] ∧ Rp N0 H x d ∧ ∀ H', Same H H' → Q (.bl (btw lo hi d)) H'
def spIsAscending : Sp := fun vs H Q _ => ∃ x, vs = [x] ∧ ((∃ l : List Nat, x = .str (S l) ∧ l.length ≤ 90000 ∧ ∀ H', Same H H' → Q (.bl (decide (l.Pairwise (· < ·)))) H') ∨
  ∃ (a : Addr) (ns : List Int), x = .ref a ∧ H a = some (.tup (ns.map V.int)) ∧ ns.length ≤ 90000 ∧ ∀ H', Same H H' → Q (.bl (decide (ns.Pairwise (· < ·)))) H')
def spIsLetters : Sp := fun vs H Q _ => ∃ x d, vs = [x] ∧ Rp N0 H x d ∧ Sml d ∧ ∀ H', Same H H' → Q (.bl (isLetters d)) H'
def spIsWord : Sp := fun vs H Q _ => ∃ (l : List Nat) (x : V) (d : PyData), vs = [.str (S l), x] ∧ Rp N0 H x d ∧ Sml d ∧ ∀ H', Same H H' → Q (.bl (isWord l d)) H'
def spIsLetter : Sp := fun vs H Q _ => ∃ (l : List Nat) (x : V) (d : PyData), vs = [.str (S l), x] ∧ Rp N0 H x d ∧ Sml d ∧ ∀ H', Same H H' → Q (.bl (isLetter l d)) H'
def spIsChoice : Sp := fun vs H Q _ => ∃ (l : List Nat) (x : V) (d : PyData), vs = [.str (S l), x] ∧ Rp N0 H x d ∧ Sml d ∧ ∀ H', Same H H' → Q (.bl (isChoice l d)) H'
section
variable {P : Program} {w : World} {K : PySem.W.Frag} {mg : Str → Option Value} {base : Heap}
theorem c_is_integer (d : DF K mg "is_integer" s_is_integer) (B : Bi mg) : Cal P w K mg base 1 "is_integer" spIsInteger [] := by
  refine d.cal (N := n_is_integer) sc_is_integer (fun _ _ _ _ _ _ us hl => match us, hl with | [_], _ => rfl) (fun vs H Q E h => ?_) (fun f cdv A outer s H vs Q E hr h => ?_)
  · obtain ⟨x, d, rfl, _⟩ := h
    rfl
  · obtain ⟨x, d, rfl, r, k⟩ := h
    refine ⟨_, (pss_one (ps_ret (pe_and (pe_callB (r := zIsi K) zc_isi (by rfl) B.isinstance (by decide +kernel) (pa_cons (pv 0) (pa_cons (pe_bltn (by rfl) B.int (by decide +kernel) (rel_ty "int")) pa_nil))) (pe_one (pe_not (pe_callB (r := zIsi K) zc_isi (by rfl) B.isinstance (by decide +kernel) (pa_cons (pv 0) (pa_cons (pe_bltn (by rfl) B.bool (by decide +kernel) (rel_ty "bool")) pa_nil)))))))), ?_⟩
    refine zstart [some (x)] rfl ?_; try dsimp only [zK, zK2]
    walk_at "zz"
    refine i_isi r (by decide) ?_
    walk_at "zz"
    refine brb (fun hb => ?_) fun hb => ?_
    · walk_at "zz"
      refine i_isi r (by decide) ?_
      walk_at "zz"
      have e : isInt d = !isTy d "bool" := by cases r <;> first | rfl | (simp [isTy, tyN, isInt] at hb)
      rw [← e]
      exact k _ (Same.refl _)
    · walk_at "zz"
      have e : isInt d = false := by cases r <;> first | rfl | (simp [isTy, tyN, isInt] at hb)
      rw [← e]
      exact k _ (Same.refl _)
theorem c_is_between (d : DF K mg "is_between" s_is_between) (B : Bi mg) (c_is_integer : Cal P w K mg base 1 "is_integer" spIsInteger []) : Cal P w K mg base 2 "is_between" spIsBetween [] := by
  refine d.cal (N := n_is_between) sc_is_between (fun _ _ _ _ _ _ us hl => match us, hl with | [_, _, _], _ => rfl) (fun vs H Q E h => ?_) (fun f cdv A outer s H vs Q E hr h => ?_)
  · obtain ⟨x, d, lo, hi, rfl, _⟩ := h
    rfl
  · obtain ⟨x, d, lo, hi, rfl, r, k⟩ := h
    refine ⟨_, (pss_one (ps_ret (pe_and (pe_c c_is_integer hr (by first | decide | omega) rfl (pa_cons (pv 0) pa_nil)) (pe_one (pe_chain z_le z_le (pv 1) (pv 0) (pv 2)))))), ?_⟩
    refine zstart [some (x), some (.int lo), some (.int hi)] rfl ?_; try dsimp only [zK, zK2]
    walk_at "zz"
    refine ⟨x, d, rfl, r, fun H1 s1 => ?_⟩
    walk_at "zz"
    refine brb (fun hb => ?_) fun hb => ?_
    · cases r with
      | int i =>
        walk_at "zz"
        refine brd (fun h1 => ?_) fun h1 => ?_
        · walk_at "zz"
          have e : btw lo hi (.int i) = decide (i ≤ hi) := by show (decide (lo ≤ i) && _) = _; rw [decide_eq_true h1, Bool.true_and]
          rw [← e]
          exact k _ s1
        · walk_at "zz"
          have e : btw lo hi (.int i) = false := by show (decide (lo ≤ i) && _) = _; rw [decide_eq_false h1, Bool.false_and]
          rw [← e]
          exact k _ s1
      | _ => simp [isInt] at hb
    · walk_at "zz"
      have e : btw lo hi d = false := by cases r <;> first | rfl | (simp [isTy, tyN, isInt] at hb)
      rw [← e]
      exact k _ s1
theorem c_is_word (d : DF K mg "is_word" s_is_word) (B : Bi mg) : Cal P w K mg base 1 "is_word" spIsWord [] := by
  refine d.cal (N := n_is_word) sc_is_word (fun _ _ _ _ _ _ us hl => match us, hl with | [_, _], _ => rfl) (fun vs H Q E h => ?_) (fun f cdv A outer s H vs Q E hr h => ?_)
  · obtain ⟨l, x, d, rfl, _⟩ := h
    rfl
  · obtain ⟨l, x, d, rfl, r, sm, k⟩ := h
    refine ⟨_, (pss_one (ps_ret (pe_and (pe_callB (r := zIsi K) zc_isi (by rfl) B.isinstance (by decide +kernel) (pa_cons (pv 1) (pa_cons (pe_bltn (by rfl) B.str (by decide +kernel) (rel_ty "str")) pa_nil))) (pe_one (pe_callB (r := zAll K) (zc_all rfl) (by rfl) B.all (by decide +kernel) (pa_cons (pe_lc (own := [("sign", 2)]) (g := gName 2) (tt := tYes) (by rfl) sc_is_word.nd (pi_str (pv 1)) (blkOk_by (N := n_is_word) (sc := defScope s_is_word) (by decide +kernel)) (fun _ _ _ _ _ => (pg_name (i := 2) sc_is_word.nd rfl (by first | exact Or.inl rfl | exact Or.inr rfl))) (fun _ _ _ _ _ => pts_nil) (fun _ _ _ _ _ => (pe_cmpR z_ins (pv 2) (pv 0) (by rfl)))) pa_nil)))))), ?_⟩
    refine zstart [some (.str (S l)), some (x), none] rfl ?_; try dsimp only [zK, zK2]
    walk_at "zz"
    refine i_isi r (by decide) ?_
    walk_at "zz"
    refine brb (fun hb => ?_) fun hb => ?_
    · obtain ⟨a, rfl, rfl⟩ := r.isStr hb
      walk_at "zz"
      refine fun Dl hD => ?_
      refine l_mapS hD [some (.str (S l)), some (.str (S a)), none] rfl (fun _ => rfl) (Nat.le_trans sm (by decide)) (fun c => .bl (decide (c ∈ l))) (fun c H1 P hc s1 hP => ?_) fun H1 s1 e => ?_
      · refine zte [some (.str (S l)), some (.str (S a)), some (.str (S [c]))] rfl ?_
        walk_at "zz"
        exact hP _ (Same.refl _)
      · walk_at "zz"
        refine i_all (bs := a.map fun c => decide (c ∈ l)) (SqL.of (by rw [List.map_map]; exact e)) ?_
        rw [List.all_map]
        exact k _ s1
    · walk_at "zz"
      have e : isWord l d = false := by cases r <;> first | rfl | (simp [isTy, tyN] at hb)
      rw [← e]
      exact k _ (Same.refl _)
theorem c_is_ascending (d : DF K mg "is_ascending" s_is_ascending) (B : Bi mg) : Cal P w K mg base 1 "is_ascending" spIsAscending [] := by
  refine d.cal (N := n_is_ascending) sc_is_ascending (fun _ _ _ _ _ _ us hl => match us, hl with | [_], _ => rfl) (fun vs H Q E h => ?_) (fun f cdv A outer s H vs Q E hr h => ?_)
  · obtain ⟨x, rfl, _⟩ := h
    rfl
  · obtain ⟨x, rfl, h⟩ := h
    refine ⟨_, (pss_one (ps_ret (pe_callB (r := zAll K) (zc_all rfl) (by rfl) B.all (by decide +kernel) (pa_cons (pe_lc (own := [("one", 1), ("other", 2)]) (g := (gTup _ 2 (gCons (gName 1) (gCons (gName 2) gNil)))) (tt := tYes) (by rfl) sc_is_ascending.nd (pi_zipZ rfl B.zip (pa_cons (pv 0) (pa_cons (pe_slice (r := zSlA K) sl_A (pv 0) (po_some pe_int) po_none) pa_nil))) (blkOk_by (N := n_is_ascending) (sc := defScope s_is_ascending) (by decide +kernel)) (fun _ _ _ _ _ => (pg_tup rfl (pgs_cons (pg_name (i := 1) sc_is_ascending.nd rfl (by first | exact Or.inl rfl | exact Or.inr rfl)) (pgs_cons (pg_name (i := 2) sc_is_ascending.nd rfl (by first | exact Or.inl rfl | exact Or.inr rfl)) pgs_nil)))) (fun _ _ _ _ _ => pts_nil) (fun _ _ _ _ _ => (pe_cmpR z_ltA (pv 1) (pv 2) (nomark _)))) pa_nil)))), ?_⟩
    refine zstart [some (x), none, none] rfl ?_; try dsimp only [zK, zK2]
    walk_at "zz"
    rcases h with ⟨l, rfl, hl, k⟩ | ⟨a, ns, rfl, ha, hl, k⟩
    · refine .inl (i_slFrom (n := 1) (by omega) ?_)
      walk_at "zz"
      refine i_KZ (.str (S l)) (.str (S (l.drop 1))) rfl rfl rfl rfl fun Dl hD => ?_
      refine l_zipmap hD [some (.str (S l)), none, none] rfl (fun _ _ => rfl) (fun _ _ => rfl) (fun _ _ => rfl) (by rw [List.length_map]; have : (codes (S l)).length = l.length := rfl; omega) (fun x y => .bl (decide (chr1 x < chr1 y))) (fun x y H1 P hx hy s1 hP => ?_) fun H1 s1 e => ?_
      · obtain ⟨c, hc, rfl⟩ := List.mem_map.mp hx
        obtain ⟨c2, hc2, rfl⟩ := List.mem_map.mp hy
        refine zte [some (.str (S l)), some (.str (S [c])), some (.str (S [c2]))] rfl ?_
        walk_at "zz"
        rw [one_lt]
        exact hP _ (Same.refl _)
      · walk_at "zz"
        rw [zip_map (fun c => V.str (S [c])) (fun c => V.str (S [c])) (fun x y => V.bl (decide (chr1 x < chr1 y))) (fun c c2 => V.bl (decide (c < c2))) (fun _ _ => rfl)] at e
        refine i_all (bs := (l.zip (l.drop 1)).map fun p => decide (p.1 < p.2)) (SqL.of (by rw [List.map_map]; exact e)) ?_
        rw [adj_all (fun a b => decide (a < b)), adj_asc]
        exact k _ s1
    · refine .inr (.inl (i_slTA ha fun p H0 s0 hp => ?_))
      walk_at "zz"
      rw [show (1 : Int) = ((1 : Nat) : Int) from rfl, cutV_from, ← List.map_drop] at hp
      have ha0 := s0 _ _ ha
      refine i_KZ (.tup a) (.tup p) rfl rfl (SqT.of ha0) (SqT.of hp) fun Dl hD => ?_
      refine l_zipmap hD [some (.ref a), none, none] rfl (fun _ _ => rfl) (fun H1 s1 => SqT.of (s1 _ _ ha0)) (fun H1 s1 => SqT.of (s1 _ _ hp)) (by rw [List.length_map]; omega) (fun x y => .bl (decide (int1 x < int1 y))) (fun x y H1 P hx hy s1 hP => ?_) fun H1 s1 e => ?_
      · obtain ⟨c, hc, rfl⟩ := List.mem_map.mp hx
        obtain ⟨c2, hc2, rfl⟩ := List.mem_map.mp hy
        refine zte [some (.ref a), some (.int c), some (.int c2)] rfl ?_
        walk_at "zz"
        exact hP _ (Same.refl _)
      · walk_at "zz"
        rw [zip_map V.int V.int (fun x y => V.bl (decide (int1 x < int1 y))) (fun c c2 => V.bl (decide (c < c2))) (fun _ _ => rfl)] at e
        refine i_all (bs := (ns.zip (ns.drop 1)).map fun p => decide (p.1 < p.2)) (SqL.of (by rw [List.map_map]; exact e)) ?_
        rw [adj_all (fun a b => decide (a < b)), adj_ascI]
        exact k _ (s0.trans s1)
theorem c_is_letters (d : DF K mg "is_letters" s_is_letters) (B : Bi mg) (c_is_ascending : Cal P w K mg base 1 "is_ascending" spIsAscending []) : Cal P w K mg base 2 "is_letters" spIsLetters [] := by
  refine d.cal (N := n_is_letters) sc_is_letters (fun _ _ _ _ _ _ us hl => match us, hl with | [_], _ => rfl) (fun vs H Q E h => ?_) (fun f cdv A outer s H vs Q E hr h => ?_)
  · obtain ⟨x, d, rfl, _⟩ := h
    rfl
  · obtain ⟨x, d, rfl, r, sm, k⟩ := h
    refine ⟨_, (pss_cons (ps_if (PW.pt (pw_or (pt_not (pt_val (pe_callB (r := zIsi K) zc_isi (by rfl) B.isinstance (by decide +kernel) (pa_cons (pv 0) (pa_cons (pe_bltn (by rfl) B.str (by decide +kernel) (rel_ty "str")) pa_nil))))) (pw_or1 (pt_not (pt_chain z_le z_le pe_int (pe_callB zc_lens (by rfl) B.len (by decide +kernel) (pa_cons (pv 0) pa_nil)) pe_int))))) (pss_one (ps_ret pe_bl)) pss_nil)
  (pss_one (ps_ret (pe_and (pe_callB (r := zAll K) (zc_all rfl) (by rfl) B.all (by decide +kernel) (pa_cons (pe_lc (own := [("sign", 1)]) (g := gName 1) (tt := tYes) (by rfl) sc_is_letters.nd (pi_str (pv 0)) (blkOk_by (N := n_is_letters) (sc := defScope s_is_letters) (by decide +kernel)) (fun _ _ _ _ _ => (pg_name (i := 1) sc_is_letters.nd rfl (by first | exact Or.inl rfl | exact Or.inr rfl))) (fun _ _ _ _ _ => pts_nil) (fun _ _ _ _ _ => (pe_chain z_les z_les pe_str (pv 1) pe_str))) pa_nil)) (pe_one (pe_c c_is_ascending hr (by first | decide | omega) rfl (pa_cons (pv 0) pa_nil))))))), ?_⟩
    refine zstart [some (x), none] rfl ?_; try dsimp only [zK, zK2]
    walk_at "zz"
    refine i_isi r (by decide) ?_
    walk_at "zz"
    refine brnb (fun hb => ?_) fun hb => ?_
    · walk_at "zz"
      have e : isLetters d = false := by cases r <;> first | rfl | (simp [isTy, tyN] at hb)
      rw [← e]
      exact k _ (Same.refl _)
    · obtain ⟨l, rfl, rfl⟩ := r.isStr hb
      have hl : l.length ≤ 90000 := sm
      walk_at "zz"
      refine brd (fun h1 => ?_) fun h1 => ?_
      · walk_at "zz"
        refine brn (fun h2 => ?_) fun h2 => ?_
        · walk_at "zz"
          have e : isLetters (.str (S l)) = false := by
            show ((decide (1 ≤ l.length) && decide (l.length ≤ 4)) && _) = false
            rw [decide_eq_false (show ¬ l.length ≤ 4 by omega), Bool.and_false, Bool.false_and]
          rw [← e]
          exact k _ (Same.refl _)
        · walk_at "zz"
          refine fun Dl hD => ?_
          refine l_mapS hD [some (.str (S l)), none] rfl (fun _ => rfl) (by omega) (fun c => .bl (decide (97 ≤ c) && decide (c ≤ 122))) (fun c H1 P hc s1 hP => ?_) fun H1 s1 e => ?_
          · refine zte [some (.str (S l)), some (.str (S [c]))] rfl ?_
            walk_at "zz"
            rw [show codes (PySem.Str.ofString "a") = [97] from by decide +kernel, one_lt']
            refine brd (fun h3 => ?_) fun h3 => ?_
            · walk_at "zz"
              rw [show codes (PySem.Str.ofString "z") = [122] from by decide +kernel, one_lt']
              have e : decide (c ≤ 122) = (decide (97 ≤ c) && decide (c ≤ 122)) := by rw [decide_eq_true h3, Bool.true_and]
              rw [e]
              exact hP _ (Same.refl _)
            · walk_at "zz"
              have e : false = (decide (97 ≤ c) && decide (c ≤ 122)) := by rw [decide_eq_false h3, Bool.false_and]
              rw [e]
              exact hP _ (Same.refl _)
          · walk_at "zz"
            refine i_all (bs := l.map fun c => decide (97 ≤ c) && decide (c ≤ 122)) (SqL.of (by rw [List.map_map]; exact e)) ?_
            rw [List.all_map]
            walk_at "zz"
            have e0 : isLetters (.str (S l)) = (l.all (fun c => decide (97 ≤ c) && decide (c ≤ 122)) && decide (l.Pairwise (· < ·))) := by
              show ((decide (1 ≤ l.length) && decide (l.length ≤ 4)) && _) = _
              rw [decide_eq_true (show 1 ≤ l.length by omega), decide_eq_true (show l.length ≤ 4 by omega)]; rfl
            refine brb (fun h4 => ?_) fun h4 => ?_
            · have h4 : l.all (fun c => decide (97 ≤ c) && decide (c ≤ 122)) = true := h4
              walk_at "zz"
              refine ⟨_, rfl, .inl ⟨l, rfl, hl, fun H2 s2 => ?_⟩⟩
              rw [h4, Bool.true_and] at e0
              rw [← e0]
              exact k _ (s1.trans s2)
            · have h4 : l.all (fun c => decide (97 ≤ c) && decide (c ≤ 122)) = false := h4
              walk_at "zz"
              rw [h4, Bool.false_and] at e0
              rw [← e0]
              exact k _ s1
      · walk_at "zz"
        have e : isLetters (.str (S l)) = false := by
          show ((decide (1 ≤ l.length) && decide (l.length ≤ 4)) && _) = false
          rw [decide_eq_false (show ¬ 1 ≤ l.length by omega), Bool.false_and, Bool.false_and]
        rw [← e]
        exact k _ (Same.refl _)
end
end Y

namespace Y
open PySem PySem.Spec PyProof.Rows L2 Z
open C8 (tCut pss_cut Cal pe_c Met pe_mt pe_mt0 Mak pe_mk)
section
variable {P : Program} {w : World} {K : PySem.W.Frag} {mg : Str → Option Value} {base : Heap}
/-- a def that may raise -/
structure CalX (P : Program) (w : World) (K : PySem.W.Frag) (mg : Str → Option Value) (base : Heap) (k : Nat) (x : Str) (sp : Sp) : Prop where
  ex : ∃ (f : Addr) (fd : FuncData) (ps : List Str), FnOk P w K mg base (L2.CX P w) k f fd ps sp ∧ mg x = some (.ref f) ∧ PySem.W.keepIn K (.ref f) = true ∧ Binds K fd ps []
theorem calX {x : Str} {st : Stmt} {N ps : List Str} {k : Nat} {sp : Sp} (d : DF K mg x st) (S : FnScope N ps (defScope st))
    (hb : ∀ (kV doc pm : Value) (an : Option Addr) (cdv ct : Value) (us : List Value), us.length = ps.length → bindArgs (PySem.W.fnOf x x (defArgs st) (defBody st) (defScope st) .none kV doc pm an cdv ct) ⟨us, []⟩ = pure (ps.zip us))
    (len : ∀ vs H Q E, sp vs H Q E → vs.length = ps.length)
    (hbody : ∀ (f : Addr) (cdv : Value) (A : Around) (outer : List Env) (s : Shared) (H : Hp) (vs : List V) (Q : VK) (E : XK), Room k (A.deeper (envOfC x (defScope st) s.heap.objs.size f cdv)) → sp vs H Q E →
      ∃ t, PSs (cxOf (L2.CX P w) P w K mg base N x (defScope st) f cdv A outer s H E) (defBody st) t ∧ t { nx := fun _ H' => Q .non H', rt := Q } (start N vs) H) : CalX P w K mg base (k + 1) x sp := by
  obtain ⟨f, fd, F, hm⟩ := d.ex
  exact ⟨f, fd, ps, F.okX S len (hbody f), hm, F.kp, F.binds hb⟩
end
section
variable {X : Cx} {k j : Nat} {x : Str} {sp : Sp} {p pos : Pos} {e : Expr} {es : List Expr} {t : TA} {W : WX}
theorem pe_cX (c : CalX X.prog X.w X.K X.mg X.base k x sp) (hr : Room j X.A) (hk : k ≤ j) (hg : Gl X x) (tk : Takes X W) (ha : PA X (e :: es) t)
    (hdb : (x == ("__debug__" : Str)) = false := by decide) (he : starEach (e :: es) X.env = (false, eval e X.env) :: starEach es X.env := by rfl) (hpl : (backTo pos (starEach es X.env)).any (·.1) = false := by rfl) :
    PE X (.Call (.Name x p) (e :: es) [] pos) (tCallS sp (WE W) t) := by
  obtain ⟨f, fd, ps, F, hm, kp, b⟩ := c.ex
  exact pe_callS F (hr.mono hk) hg hm kp b (fun σ => passAt tk σ) ha hdb he hpl
theorem i_callS {sp : Sp} {E : L2.St → XK} {t : TA} {σ : L2.St} {H : Hp} {Q : VK} (q : t σ H fun vs H1 => sp vs H1 Q (E σ)) : tCallS sp E t σ H Q := q
end
/-- whether an error of the class at S is what «except C» names -/
theorem exm_pair {K : PySem.W.Frag} {S C : Addr} {b : Bool} (h1 : PySem.W.subIn K (.ref C) (.type "BaseException") = some true) (h2 : PySem.W.isClsIn K C = true) (h3 : PySem.W.typeIn K (.ref C) = some (.type "type")) (h4 : PySem.W.subIn K (.ref S) (.ref C) = some b) :
    PySem.W.exmOne K (.ref S) (.ref C) = some b := by
  have e1 : (PySem.W.subIn K (.ref C) (.type "BaseException") == some true) = true := by rw [h1] <;> rfl
  have e2 : ((PySem.W.clsIn K C).isSome && PySem.W.typeIn K (.ref C) == some (.type "type")) = true := by
    have h2' : (PySem.W.clsIn K C).isSome = true := h2
    rw [h2', h3] <;> rfl
  unfold PySem.W.exmOne
  rw [if_pos e1]
  show (if ((PySem.W.clsIn K C).isSome && PySem.W.typeIn K (.ref C) == some (.type "type")) = true then PySem.W.subIn K (.ref S) (.ref C) else none) = some b
  rw [if_pos e2]
  exact h4
/-- an own exception over own ones, without an __init__ of its own -/
structure OwnX (K : PySem.W.Frag) (mg : Str → Option Value) (x : Str) (C : Addr) : Prop where
  ex : ∃ bmB newId initId, ExcBaseFacts "ValueError" newId initId bmB ∧ PySem.W.excIn K C bmB newId = true
  g : mg x = some (.ref C)
  kp : PySem.W.keepIn K (.ref C) = true
  b : PySem.W.subIn K (.ref C) (.type "BaseException") = some true
  t : PySem.W.typeIn K (.ref C) = some (.type "type")
section
variable {X : Cx}
theorem pmk_own0 {C : Addr} {x : Str} {p pos : Pos} (T : OwnX X.K X.mg x C) (hg : Gl X x) (hdb : (x == ("__debug__" : Str)) = false := by decide) :
    PMk X (.Call (.Name x p) [] [] pos) (fun σ H Q => Q (.ref C) none H) := by
  intro pins s σ H Q I h
  obtain ⟨bmB, newId, initId, F, q⟩ := T.ex
  refine wpAny_Call_Name_kw (ld_glob I hg T.g ?_ hdb)
  refine PySem.W.callWith_K0 I.kIn T.kp ?_
  show wpAny _ _ (call (.ref C) []) _ _ _
  obtain ⟨bm, N, nm, qn, bs, hdct, sn, sub, ab, col, dd, k0, k1, k2, k3, k5, mN, hC, hN, hni, TT⟩ := exc_obj I.kIn q
  refine wpAny_call_exc_subT F TT hC hN hni (fun h' e hm => ?_) (Nat.zero_le _)
  exact mk_of I hm (raises_own T.b T.t) h (I.hok.gone hm.new)
def tRaise0 (C : Addr) (W : WX) : TS := fun _ σ H => W (.ref C) none σ H
theorem ps_raise0 {C : Addr} {W : WX} {x : Str} {p pos pos2 : Pos} (hc : X.calm = true) (T : OwnX X.K X.mg x C) (tk : Takes X W) (hg : Gl X x) (hdb : (x == ("__debug__" : Str)) = false := by decide) :
    PS X (.Raise (some (.Call (.Name x p) [] [] pos)) none pos2) (tRaise0 C W) := ps_raise hc tk (pmk_own0 T hg hdb)
theorem i_raise0 {C : Addr} {W : WX} {D : Ends} {σ : L2.St} {H : Hp} (q : W (.ref C) none σ H) : tRaise0 C W D σ H := q
/-! t[::-1] -/
def tRevS (te : TE) : TE := fun σ H Q => te σ H fun x H1 => ∃ l : List Nat, x = .str (S l) ∧ l.length ≤ 100000 ∧ Q (.str (S l.reverse)) H1
theorem i_revS {te : TE} {σ : L2.St} {H : Hp} {Q : VK} (q : te σ H fun x H1 => ∃ l : List Nat, x = .str (S l) ∧ l.length ≤ 100000 ∧ Q (.str (S l.reverse)) H1) : tRevS te σ H Q := q
theorem rev_S (l : List Nat) (u : Tok) : Txt.sliceBy (S l) none none (-1, u) = S l.reverse := by
  have h := step_rev_list (S l) u
  have e : (List.range (S l).length).map (fun k => (S l).cps.getD ((S l).length - 1 - k) 0) = l.reverse := by
    rw [S_len]
    refine List.ext_getElem (by simp) fun i h1 h2 => ?_
    rw [List.length_map, List.length_range] at h1
    rw [List.getElem_map, List.getElem_range, List.getElem_reverse]
    show l.toArray.getD (l.length - 1 - i) 0 = _
    rw [Array.getD, dif_pos (by simp; omega)]
    rfl
  rw [e] at h
  rw [← S_codes (Txt.sliceBy (S l) none none (-1, u)), show codes (Txt.sliceBy (S l) none none (-1, u)) = l.reverse from h]
theorem pe_revS {e : Expr} {te : TE} {k : Nat} {p1 p2 p3 pos : Pos} (he : PE X e te) : PE X (.Subscript e (.Slice none none (some (.UnaryOp .USub (.Constant (.int 1) k p1) p2)) p3) pos) (tRevS te) := by
  refine ⟨fun pins s σ H Q I h => ?_⟩
  refine Subscript_ (thn (he.run pins s σ H _ I h) fun v s1 ⟨x, H1, I1, r1, q1⟩ => ?_)
  obtain ⟨l, ex, hl, q⟩ := q1
  subst ex
  obtain ⟨t, rfl⟩ := r1
  have hst : PO X (some (.UnaryOp .USub (.Constant (.int 1) k p1) p2)) (tPart (tUn (rU fun i => .int (-i)) (tC (.int 1)))) := po_some (pe_un un_neg pe_int)
  refine wpAny_Slice (thn (po_none.run pins s1 σ H1 (fun o H2 => o = none ∧ H2 = H1) I1 ⟨rfl, rfl⟩) fun vl s2 ⟨l', H2, I2, pl, el, e2⟩ => ?_)
  subst el e2
  refine thn (po_none.run pins s2 σ H2 (fun o H3 => o = none ∧ H3 = H2) I2 ⟨rfl, rfl⟩) fun vu s3 ⟨u, H3, I3, pu, eu, e3⟩ => ?_
  subst eu e3
  refine thn (hst.run pins s3 σ H3 (fun o H4 => o = some (-1) ∧ H4 = H3) I3 ⟨1, rfl, -1, rfl, rfl, rfl⟩) fun vs s4 ⟨o, H4, I4, ps, eo, e4⟩ => ?_
  subst eo e4
  have I5 : Inv X pins σ H4 { s4 with heap := s4.heap.push { cls := .type "slice", data := .fields #[vl, vu, vs] } } := I4.kept (t' := s4.toks) fun b ob q => Heap.get?_push_of_some _ q
  show wpAny (model X.prog X.w) X.A (subscriptTail e (.Slice none none (some (.UnaryOp .USub (.Constant (.int 1) k p1) p2)) p3) (.str (S l) t) (.ref s4.heap.objs.size)) (EP X pins σ Q) X.xe { s4 with heap := s4.heap.push { cls := .type "slice", data := .fields #[vl, vu, vs] } }
  have e1 : vl = .none := by cases pl; rfl
  have e2 : vu = .none := by cases pu; rfl
  obtain ⟨tk, e3⟩ : ∃ tk, vs = .int (-1) tk := by cases ps; exact ⟨_, rfl⟩
  subst e1 e2 e3
  have hsz : (S l).length ≤ sizeLine := by rw [S_len]; exact le_line hl
  have h0 : (((-1 : Int) == 0) = false) := by decide
  have h1 : ((-1 : Int), tk).1 ≠ 0 := show (-1 : Int) ≠ 0 by decide
  refine tail_any (ops := [.ref s4.heap.objs.size, .str (S l) t]) (typeIs_str _ _ _) (PySem.F.slot_str_getitem.lookup) ?_ (by with_unfolding_all rfl)
  refine wpAny_getItem_str_slice (l := none) (u := none) (st := some (-1, tk)) ⟨_, Heap.get?_push_size _ rfl, rfl, rfl⟩ h0 (post_val_or_str ⟨Nat.le_trans (Txt.sliceBy_le (S l) none none (-1, tk) h1) hsz, fun t' c => ?_⟩)
  show EP X pins σ Q (.str (Txt.sliceBy (S l) none none (-1, tk)) t') _
  rw [rev_S]
  exact ⟨.str (S l.reverse), H4, I5.tok _, ⟨_, rfl⟩, q⟩
end
end Y

namespace Y
open PySem PySem.Spec PyProof.Rows L2 Z
open C8 (tCut pss_cut Cal pe_c Met pe_mt pe_mt0 Mak pe_mk)
abbrev s__is_states : Stmt := topS 32
abbrev n__is_states : List Str := ["thing", "many", "state"]
theorem sc__is_states : FnScope n__is_states ["thing", "many"] (defScope s__is_states) := ⟨rfl, rfl, rfl, by decide +kernel, rfl, by decide +kernel, by decide +kernel⟩

abbrev s__is_table : Stmt := topS 30
abbrev n__is_table : List Str := ["thing", "width", "row"]
theorem sc__is_table : FnScope n__is_table ["thing", "width"] (defScope s__is_table) := ⟨rfl, rfl, rfl, by decide +kernel, rfl, by decide +kernel, by decide +kernel⟩

abbrev s__is_accepts : Stmt := topS 31
abbrev n__is_accepts : List Str := ["thing", "many"]
theorem sc__is_accepts : FnScope n__is_accepts ["thing", "many"] (defScope s__is_accepts) := ⟨rfl, rfl, rfl, by decide +kernel, rfl, by decide +kernel, by decide +kernel⟩

abbrev s_Machine___init__ : Stmt := inClass (topS 26) 0
abbrev n_Machine___init__ : List Str := ["self", "letters", "table", "accepts"]
theorem sc_Machine___init__ : FnScope n_Machine___init__ ["self", "letters", "table", "accepts"] (defScope s_Machine___init__) := ⟨rfl, rfl, rfl, by decide +kernel, rfl, by decide +kernel, by decide +kernel⟩

abbrev s_Machine_letters : Stmt := inClass (topS 26) 1
abbrev n_Machine_letters : List Str := ["self"]
theorem sc_Machine_letters : FnScope n_Machine_letters ["self"] (defScope s_Machine_letters) := ⟨rfl, rfl, rfl, by decide +kernel, rfl, by decide +kernel, by decide +kernel⟩

abbrev s_Machine_table : Stmt := inClass (topS 26) 2
abbrev n_Machine_table : List Str := ["self"]
theorem sc_Machine_table : FnScope n_Machine_table ["self"] (defScope s_Machine_table) := ⟨rfl, rfl, rfl, by decide +kernel, rfl, by decide +kernel, by decide +kernel⟩

abbrev s_Machine_accepts : Stmt := inClass (topS 26) 3
abbrev n_Machine_accepts : List Str := ["self"]
theorem sc_Machine_accepts : FnScope n_Machine_accepts ["self"] (defScope s_Machine_accepts) := ⟨rfl, rfl, rfl, by decide +kernel, rfl, by decide +kernel, by decide +kernel⟩

abbrev s_end_of : Stmt := topS 13
abbrev n_end_of : List Str := ["letters", "table", "state", "word", "letter"]
theorem sc_end_of : FnScope n_end_of ["letters", "table", "state", "word"] (defScope s_end_of) := ⟨rfl, rfl, rfl, by decide +kernel, rfl, by decide +kernel, by decide +kernel⟩

abbrev s_says : Stmt := topS 28
abbrev n_says : List Str := ["machine", "word", "letters"]
theorem sc_says : FnScope n_says ["machine", "word"] (defScope s_says) := ⟨rfl, rfl, rfl, by decide +kernel, rfl, by decide +kernel, by decide +kernel⟩

/-- numbers as values and as data -/
def ivs (l : List Nat) : List V := l.map fun x : Nat => V.int (x : Int)
def ids (l : List Nat) : List PyData := l.map fun x : Nat => PyData.int (x : Int)
def rowD (l : List Nat) : PyData := .tuple (ids l)
def tabD (t : List (List Nat)) : PyData := .tuple (t.map rowD)
def Ltrs (l : List Nat) : Prop := l.Pairwise (· < ·) ∧ (∀ c ∈ l, 97 ≤ c ∧ c ≤ 122) ∧ 1 ≤ l.length ∧ l.length ≤ 4
/-- the parts of a machine -/
structure Parts (L : List Nat) (t : List (List Nat)) (a : List Nat) : Prop where
  ltr : Ltrs L
  lo : 1 ≤ t.length
  hi : t.length ≤ 6
  row : ∀ r ∈ t, r.length = L.length ∧ ∀ x ∈ r, x < t.length
  acc : a.Pairwise (· < ·)
  acs : ∀ x ∈ a, x < t.length
theorem ids_rp {N : Addr → Prop} {H : Hp} : ∀ {l : List Nat} {vs : List V}, RpAll N H vs (ids l) → vs = ivs l
  | [], _, r => by rw [RpAll.nilS r]; rfl
  | x :: l, _, r => by
    obtain ⟨v, ws, rfl, r1, r2⟩ := RpAll.consS r
    rw [r1.intS, ids_rp r2]; rfl
theorem ids_of {N : Addr → Prop} {H : Hp} : ∀ (l : List Nat), RpAll N H (ivs l) (ids l)
  | [] => .nil
  | _ :: l => .cons (.int _) (ids_of l)
theorem rowD_rp {N : Addr → Prop} {H : Hp} {v : V} {l : List Nat} (r : Rp N H v (rowD l)) : ∃ p, v = .ref p ∧ H p = some (.tup (ivs l)) ∧ ¬ N p := by
  obtain ⟨p, xs, rfl, e, n, ra⟩ := Rp.tupS r
  rw [ids_rp ra] at e
  exact ⟨p, rfl, e, n⟩
/-- a machine at m -/
structure IsM (K : PySem.W.Frag) (H : Hp) (C m : Addr) (L : List Nat) (t : List (List Nat)) (a : List Nat) : Prop where
  ex : ∃ (dx : Addr) (vt va : V), H m = some (.ins C dx [("_letters", .str (S L)), ("_table", vt), ("_accepts", va)]) ∧ Rp N0 H vt (tabD t) ∧ Rp N0 H va (rowD a)
theorem IsM.same {K : PySem.W.Frag} {H H' : Hp} {C m : Addr} {L : List Nat} {t : List (List Nat)} {a : List Nat} (s : Same H H') (h : IsM K H C m L t a) : IsM K H' C m L t a := by
  obtain ⟨dx, vt, va, e, r1, r2⟩ := h.ex
  exact ⟨dx, vt, va, s _ _ e, r1.same s, r2.same s⟩
/-- a method of the class at C -/
structure MF (K : PySem.W.Frag) (C : Addr) (m qual : Str) (st : Stmt) : Prop where
  ex : ∃ (f : Addr) (fd : FuncData), Fun K m qual st f fd ∧ PySem.W.findIn K (.ref C) m = some (some (.ref f)) ∧ PySem.W.isFn K (.ref f) = true
section
variable {P : Program} {w : World} {K : PySem.W.Frag} {mg : Str → Option Value} {base : Heap}
theorem met {m qual : Str} {st : Stmt} {C : Addr} {N ps : List Str} {k : Nat} {sp : Sp} (d : MF K C m qual st) (c : Cls K C) (Sc : FnScope N ps (defScope st))
    (hb : ∀ (kV doc pm : Value) (an : Option Addr) (cdv ct : Value) (us : List Value), us.length = ps.length → bindArgs (PySem.W.fnOf m qual (defArgs st) (defBody st) (defScope st) .none kV doc pm an cdv ct) ⟨us, []⟩ = pure (ps.zip us))
    (len : ∀ vs H Q E, sp vs H Q E → vs.length = ps.length)
    (hbody : ∀ (f : Addr) (cdv : Value) (A : Around) (outer : List Env) (s : Shared) (H : Hp) (vs : List V) (Q : VK) (E : XK), Room k (A.deeper (envOfC qual (defScope st) s.heap.objs.size f cdv)) → sp vs H Q E →
      ∃ t, PSs (cxOf CX0 P w K mg base N qual (defScope st) f cdv A outer s H E).nox (defBody st) t ∧ t { nx := fun _ H' => Q .non H', rt := Q } (start N vs) H) : Met P w K mg base (k + 1) C m sp [] := by
  obtain ⟨f, fd, F, hf, hfn⟩ := d.ex
  exact ⟨f, fd, ps, [], c, ⟨hf, hfn, F.kp⟩, F.ok Sc len (hbody f), F.binds hb, .nil⟩
theorem mak {x qual : Str} {st : Stmt} {C : Addr} {N ps : List Str} {k : Nat} {sp : Sp} (d : MF K C "__init__" qual st) (hm : mg x = some (.ref C)) (h1 : PySem.W.makesIn K C = true) (h2 : PySem.W.keepIn K (.ref C) = true) (Sc : FnScope N ps (defScope st))
    (hb : ∀ (kV doc pm : Value) (an : Option Addr) (cdv ct : Value) (us : List Value), us.length = ps.length → bindArgs (PySem.W.fnOf "__init__" qual (defArgs st) (defBody st) (defScope st) .none kV doc pm an cdv ct) ⟨us, []⟩ = pure (ps.zip us))
    (len : ∀ vs H Q E, sp vs H Q E → vs.length = ps.length)
    (hbody : ∀ (f : Addr) (cdv : Value) (A : Around) (outer : List Env) (s : Shared) (H : Hp) (vs : List V) (Q : VK) (E : XK), Room k (A.deeper (envOfC qual (defScope st) s.heap.objs.size f cdv)) → sp vs H Q E →
      ∃ t, PSs (cxOf CX0 P w K mg base N qual (defScope st) f cdv A outer s H E).nox (defBody st) t ∧ t { nx := fun _ H' => Q .non H', rt := Q } (start N vs) H) : Mak P w K mg base (k + 1) x C sp [] := by
  obtain ⟨f, fd, F, hf, hfn⟩ := d.ex
  exact ⟨f, fd, ps, [], ⟨h1, hf, hfn, h2⟩, F.ok Sc len (hbody f), hm, F.binds hb, .nil⟩
end
/-- the names of the class -/
structure MTxt (K : PySem.W.Frag) (C : Addr) : Prop where
  c : Cls K C
  nl : NoAttr K C "_letters"
  nt : NoAttr K C "_table"
  na : NoAttr K C "_accepts"
def spIsStates : Sp := fun vs H Q _ => ∃ (v : V) (l : List Nat) (n : Nat), vs = [v, .int (n : Int)] ∧ Rp N0 H v (rowD l) ∧ (∀ x ∈ l, x < n) ∧ l.length ≤ 1000 ∧ ∀ H', Same H H' → Q (.bl true) H'
def spIsTable : Sp := fun vs H Q _ => ∃ (v : V) (t : List (List Nat)) (n : Nat), vs = [v, .int (n : Int)] ∧ Rp N0 H v (tabD t) ∧ 1 ≤ t.length ∧ t.length ≤ 6 ∧ (∀ r ∈ t, r.length = n ∧ ∀ x ∈ r, x < t.length) ∧ n ≤ 4 ∧ ∀ H', Same H H' → Q (.bl true) H'
def spIsAccepts : Sp := fun vs H Q _ => ∃ (v : V) (l : List Nat) (n : Nat), vs = [v, .int (n : Int)] ∧ Rp N0 H v (rowD l) ∧ (∀ x ∈ l, x < n) ∧ l.Pairwise (· < ·) ∧ l.length ≤ 1000 ∧ ∀ H', Same H H' → Q (.bl true) H'
def spInit (C : Addr) : Sp := fun vs H Q _ => ∃ (m dx : Addr) (vt va : V) (L : List Nat) (t : List (List Nat)) (a : List Nat), vs = [.ref m, .str (S L), vt, va] ∧ H m = some (.ins C dx []) ∧ Parts L t a ∧ Rp N0 H vt (tabD t) ∧ Rp N0 H va (rowD a) ∧
  ∀ H1 H', Same H H1 → H' = upd H1 m (.ins C dx [("_letters", .str (S L)), ("_table", vt), ("_accepts", va)]) → Q .non H'
theorem i_sfld {K : PySem.W.Frag} {ta tv : TE} {f : Str} {D : Ends} {σ : L2.St} {H : Hp} (q : tv σ H fun y H1 => ta σ H1 fun x H2 => ∃ a C dx fs, x = .ref a ∧ H2 a = some (.ins C dx fs) ∧ Cls K C ∧ NoAttr K C f ∧ fs.length < 1000 ∧ D.nx σ (upd H2 a (.ins C dx (putF f y fs)))) : sFld K ta tv f D σ H := q
theorem i_fld {K : PySem.W.Frag} {ta : TE} {f : Str} {σ : L2.St} {H : Hp} {Q : VK} (q : ta σ H fun x H1 => ∃ a C dx fs v, x = .ref a ∧ H1 a = some (.ins C dx fs) ∧ Cls K C ∧ NoAttr K C f ∧ fs.lookup f = some v ∧ Q v H1) : tFld K ta f σ H Q := q
theorem i_meth {C : Addr} {m : Str} {sp : Sp} {dvs : List V} {E : XK} {ta : TE} {t : TA} {σ : L2.St} {H : Hp} {Q : VK} (q : ta σ H fun x H1 => ∃ a dx fs, x = .ref a ∧ H1 a = some (.ins C dx fs) ∧ fs.lookup m = none ∧ t σ H1 fun vs H2 => sp (x :: (vs ++ dvs)) H2 Q E) : tMeth C m sp dvs E ta t σ H Q := q
theorem upd_upd {H : Hp} {a : Addr} {x y : HO} : upd (upd H a x) a y = upd H a y := by
  funext b
  by_cases h : b = a
  · subst h; rw [upd_same, upd_same]
  · rw [upd_ne h, upd_ne h, upd_ne h]
theorem put2 {x y : V} : putF ("_table" : Str) y [(("_letters" : Str), x)] = [(("_letters" : Str), x), (("_table" : Str), y)] := by
  show (if ("_letters" : Str) = ("_table" : Str) then _ else _) = _
  rw [if_neg (by decide +kernel)]; rfl
theorem put3 {x y z : V} : putF ("_accepts" : Str) z [(("_letters" : Str), x), (("_table" : Str), y)] = [(("_letters" : Str), x), (("_table" : Str), y), (("_accepts" : Str), z)] := by
  show (if ("_letters" : Str) = ("_accepts" : Str) then _ else _) = _
  rw [if_neg (by decide +kernel)]
  show _ :: (if ("_table" : Str) = ("_accepts" : Str) then _ else _) = _
  rw [if_neg (by decide +kernel)]; rfl
def spLettersOf (K : PySem.W.Frag) (C : Addr) : Sp := fun vs H Q _ => ∃ (m : Addr) (L : List Nat) (t : List (List Nat)) (a : List Nat), vs = [.ref m] ∧ IsM K H C m L t a ∧ Q (.str (S L)) H
def spTableOf (K : PySem.W.Frag) (C : Addr) : Sp := fun vs H Q _ => ∃ (m : Addr) (L : List Nat) (t : List (List Nat)) (a : List Nat), vs = [.ref m] ∧ IsM K H C m L t a ∧ ∀ v, Rp N0 H v (tabD t) → Q v H
def spAcceptsOf (K : PySem.W.Frag) (C : Addr) : Sp := fun vs H Q _ => ∃ (m : Addr) (L : List Nat) (t : List (List Nat)) (a : List Nat), vs = [.ref m] ∧ IsM K H C m L t a ∧ ∀ v, Rp N0 H v (rowD a) → Q v H
/-- the state to which a word leads -/
def led (L : List Nat) (t : List (List Nat)) (s : Nat) (u : List Nat) : Nat := u.foldl (fun s c => (t.getD s []).getD (L.idxOf c) 0) s
def spEndOf : Sp := fun vs H Q _ => ∃ (L : List Nat) (vt : V) (t : List (List Nat)) (s : Nat) (u : List Nat), vs = [.str (S L), vt, .int (s : Int), .str (S u)] ∧ Rp N0 H vt (tabD t) ∧ L.length ≤ 1000 ∧ (∀ r ∈ t, r.length = L.length ∧ ∀ x ∈ r, x < t.length) ∧ s < t.length ∧ (∀ c ∈ u, c ∈ L) ∧ ∀ H', Same H H' → Q (.int (led L t s u : Int)) H'
def spSays (K : PySem.W.Frag) (C C2 : Addr) : Sp := fun vs H Q E => ∃ (m : Addr) (L : List Nat) (t : List (List Nat)) (a : List Nat) (v : V) (d : PyData), vs = [.ref m, v] ∧ IsM K H C m L t a ∧ Parts L t a ∧ Rp N0 H v d ∧ Sml d ∧
  (isWord L d = false → ∀ H', Same H H' → E (.ref C2) none H') ∧ (∀ u, d = .str (S u) → isWord L d = true → ∀ H', Same H H' → Q (.bl (decide (led L t 0 u ∈ a))) H')
section
variable {P : Program} {w : World} {K : PySem.W.Frag} {mg : Str → Option Value} {base : Heap}
theorem c__is_states (d : DF K mg "_is_states" s__is_states) (B : Bi mg) (c_is_between : Cal P w K mg base 2 "is_between" spIsBetween []) : Cal P w K mg base 3 "_is_states" spIsStates [] := by
  refine d.cal (N := n__is_states) sc__is_states (fun _ _ _ _ _ _ us hl => match us, hl with | [_, _], _ => rfl) (fun vs H Q E h => ?_) (fun f cdv A outer s H vs Q E hr h => ?_)
  · obtain ⟨v, l, n, rfl, _⟩ := h
    rfl
  · obtain ⟨v, l, n, rfl, r, hx, hl, k⟩ := h
    refine ⟨_, (pss_one (ps_ret (pe_and (pe_callB (r := zIsi K) zc_isi (by rfl) B.isinstance (by decide +kernel) (pa_cons (pv 0) (pa_cons (pe_bltn (by rfl) B.tuple (by decide +kernel) (rel_ty "tuple")) pa_nil))) (pe_one (pe_callB (r := zAll K) (zc_all rfl) (by rfl) B.all (by decide +kernel) (pa_cons (pe_lc (own := [("state", 2)]) (g := gName 2) (tt := tYes) (by rfl) sc__is_states.nd (pi_tup (pv 0)) (blkOk_by (N := n__is_states) (sc := defScope s__is_states) (by decide +kernel)) (fun _ _ _ _ _ => (pg_name (i := 2) sc__is_states.nd rfl (by first | exact Or.inl rfl | exact Or.inr rfl))) (fun _ _ _ _ _ => pts_nil) (fun _ _ _ _ _ => (pe_c c_is_between hr (by first | decide | omega) rfl (pa_cons (pv 2) (pa_cons pe_int (pa_cons (pe_op z_sub (pv 1) pe_int) pa_nil)))))) pa_nil)))))), ?_⟩
    refine zstart [some (v), some (.int (n : Int)), none] rfl ?_; try dsimp only [zK, zK2]
    walk_at "zz"
    refine i_isi r (by decide) ?_
    rw [show isTy (rowD l) "tuple" = true from rfl]
    walk_at "zz"
    obtain ⟨p, rfl, ep, _⟩ := rowD_rp r
    refine i_KT (SqT.of ep) ?_
    refine fun Dl hD => ?_
    have hvl : (ivs l).length ≤ 1000 := by unfold ivs; rw [List.length_map]; exact hl
    refine l_map (walk_tup (xs := ivs l)) hD [some (.ref p), some (.int (n : Int)), none] rfl (fun _ => rfl) (ivs l) rfl (by omega) (fun i H1 x H2 _ _ y => ⟨y.1, y.2⟩) (fun H1 s1 => SqT.of (s1 _ _ ep)) (fun _ => .bl true) (fun x H1 P hx1 s1 hP => ?_) fun H1 s1 e => ?_
    · obtain ⟨z, hz, rfl⟩ := List.mem_map.mp hx1
      have hzn := hx z hz
      refine zte [some (.ref p), some (.int (n : Int)), some (.int (z : Int))] rfl ?_
      walk_at "zz"
      refine ⟨_, _, 0, (n : Int) - 1, rfl, Rp.int _, fun H2 s2 => ?_⟩
      have eb : btw 0 ((n : Int) - 1) (.int (z : Int)) = true := by
        show (decide ((0 : Int) ≤ (z : Int)) && decide ((z : Int) ≤ (n : Int) - 1)) = true
        rw [decide_eq_true (by omega), decide_eq_true (by omega)]; rfl
      rw [eb]
      exact hP _ s2
    · walk_at "zz"
      refine i_all (bs := (ivs l).map fun _ => true) (SqL.of (by rw [e, List.map_map]; rfl)) ?_
      rw [show ((ivs l).map fun _ => true).all id = true by simp]
      exact k _ s1
theorem c__is_table (d : DF K mg "_is_table" s__is_table) (B : Bi mg) (c__is_states : Cal P w K mg base 3 "_is_states" spIsStates []) : Cal P w K mg base 4 "_is_table" spIsTable [] := by
  refine d.cal (N := n__is_table) sc__is_table (fun _ _ _ _ _ _ us hl => match us, hl with | [_, _], _ => rfl) (fun vs H Q E h => ?_) (fun f cdv A outer s H vs Q E hr h => ?_)
  · obtain ⟨v, t, n, rfl, _⟩ := h
    rfl
  · obtain ⟨v, t, n, rfl, r, h1, h6, hrow, hn, k⟩ := h
    refine ⟨_, (pss_cons (ps_if (PW.pt (pw_or (pt_not (pt_val (pe_callB (r := zIsi K) zc_isi (by rfl) B.isinstance (by decide +kernel) (pa_cons (pv 0) (pa_cons (pe_bltn (by rfl) B.tuple (by decide +kernel) (rel_ty "tuple")) pa_nil))))) (pw_or1 (pt_not (pt_chain z_le z_le pe_int (pe_callB (r := zLen K) zc_len (by rfl) B.len (by decide +kernel) (pa_cons (pv 0) pa_nil)) pe_int))))) (pss_one ps_never) pss_nil)
  (pss_one (ps_ret (pe_callB (r := zAll K) (zc_all rfl) (by rfl) B.all (by decide +kernel) (pa_cons (pe_lc (own := [("row", 2)]) (g := gName 2) (tt := tYes) (by rfl) sc__is_table.nd (pi_tup (pv 0)) (blkOk_by (N := n__is_table) (sc := defScope s__is_table) (by decide +kernel)) (fun _ _ _ _ _ => (pg_name (i := 2) sc__is_table.nd rfl (by first | exact Or.inl rfl | exact Or.inr rfl))) (fun _ _ _ _ _ => pts_nil) (fun _ _ _ _ _ => (pe_and (pe_c c__is_states hr (by first | decide | omega) rfl (pa_cons (pv 2) (pa_cons (pe_callB (r := zLen K) zc_len (by rfl) B.len (by decide +kernel) (pa_cons (pv 0) pa_nil)) pa_nil))) (pe_one (pe_cmpR op_eq (pe_callB (r := zLen K) zc_len (by rfl) B.len (by decide +kernel) (pa_cons (pv 2) pa_nil)) (pv 1) (nomark _)))))) pa_nil))))), ?_⟩
    refine zstart [some (v), some (.int (n : Int)), none] rfl ?_; try dsimp only [zK, zK2]
    walk_at "zz"
    refine i_isi r (by decide) ?_
    rw [show isTy (tabD t) "tuple" = true from rfl]
    walk_at "zz"
    obtain ⟨p, xs, rfl, ep, _, ra⟩ := Rp.tupS r
    have hxl : xs.length = t.length := by rw [ra.length, List.length_map]
    refine i_lenT (SqT.of ep) ?_
    walk_at "zz"
    refine brd (fun _ => ?_) fun q => absurd (show (1 : Int) ≤ (xs.length : Int) by omega) q
    walk_at "zz"
    refine brn (fun q => absurd (show (xs.length : Int) ≤ 6 by omega) q) fun _ => ?_
    walk_at "zz"
    refine i_KT (SqT.of ep) ?_
    refine fun Dl hD => ?_
    refine l_map (walk_tup (xs := xs)) hD [some (.ref p), some (.int (n : Int)), none] rfl (fun _ => rfl) xs rfl (by omega) (fun i H1 x H2 _ _ y => ⟨y.1, y.2⟩) (fun H1 s1 => SqT.of (s1 _ _ ep)) (fun _ => .bl true) (fun x H1 P hx1 s1 hP => ?_) fun H1 s1 e => ?_
    · obtain ⟨i, hi, rfl⟩ := List.getElem_of_mem hx1
      obtain ⟨d1, hd1, q1⟩ := (ra.mono (Kp.of_same s1)).get' (List.getElem?_eq_getElem hi)
      rw [List.getElem?_map] at hd1
      obtain ⟨row, hr1, rfl⟩ := Option.map_eq_some_iff.mp hd1
      obtain ⟨hl1, hl2⟩ := hrow row (List.mem_of_getElem? hr1)
      generalize xs[i] = x at q1 ⊢
      refine zte [some (.ref p), some (.int (n : Int)), some x] rfl ?_
      have ep1 := s1 _ _ ep
      walk_at "zz"
      refine i_lenT (SqT.of ep1) ?_
      rw [hxl]
      refine ⟨x, row, t.length, rfl, q1, hl2, by omega, fun H2 s2 => ?_⟩
      walk_at "zz"
      obtain ⟨pr, rfl, epr, _⟩ := rowD_rp q1
      refine i_lenT (SqT.of (s2 _ _ epr)) ?_
      walk_at "zz"
      have e1 : decide (((ivs row).length : Int) = (n : Int)) = true := decide_eq_true (by unfold ivs; rw [List.length_map, hl1])
      rw [e1]
      exact hP _ s2
    · walk_at "zz"
      refine i_all (bs := xs.map fun _ => true) (SqL.of (by rw [e, List.map_map]; rfl)) ?_
      rw [show (xs.map fun _ => true).all id = true by simp]
      exact k _ s1
theorem c__is_accepts (d : DF K mg "_is_accepts" s__is_accepts) (B : Bi mg) (c__is_states : Cal P w K mg base 3 "_is_states" spIsStates []) (c_is_ascending : Cal P w K mg base 1 "is_ascending" spIsAscending []) : Cal P w K mg base 4 "_is_accepts" spIsAccepts [] := by
  refine d.cal (N := n__is_accepts) sc__is_accepts (fun _ _ _ _ _ _ us hl => match us, hl with | [_, _], _ => rfl) (fun vs H Q E h => ?_) (fun f cdv A outer s H vs Q E hr h => ?_)
  · obtain ⟨v, l, n, rfl, _⟩ := h
    rfl
  · obtain ⟨v, l, n, rfl, r, hx, hasc, hl, k⟩ := h
    refine ⟨_, (pss_one (ps_ret (pe_and (pe_c c__is_states hr (by first | decide | omega) rfl (pa_cons (pv 0) (pa_cons (pv 1) pa_nil))) (pe_one (pe_c c_is_ascending hr (by first | decide | omega) rfl (pa_cons (pv 0) pa_nil)))))), ?_⟩
    refine zstart [some (v), some (.int (n : Int))] rfl ?_; try dsimp only [zK, zK2]
    walk_at "zz"
    refine ⟨v, l, n, rfl, r, hx, hl, fun H1 s1 => ?_⟩
    walk_at "zz"
    obtain ⟨p, rfl, ep, _⟩ := rowD_rp r
    have ei : ivs l = (l.map fun x : Nat => (x : Int)).map V.int := by unfold ivs; rw [List.map_map]; rfl
    have ha : (l.map fun x : Nat => (x : Int)).Pairwise (· < ·) := List.pairwise_map.mpr (hasc.imp fun h => by omega)
    refine ⟨_, rfl, .inr ⟨p, _, rfl, by rw [s1 _ _ ep, ei], by rw [List.length_map]; omega, fun H2 s2 => ?_⟩⟩
    rw [decide_eq_true ha]
    exact k _ (s1.trans s2)
theorem m_Machine {C : Addr} (T : MTxt K C) (hm : mg "Machine" = some (.ref C)) (h1 : PySem.W.makesIn K C = true) (h2 : PySem.W.keepIn K (.ref C) = true) (d : MF K C "__init__" "Machine.__init__" s_Machine___init__) (B : Bi mg) (c_is_letters : Cal P w K mg base 2 "is_letters" spIsLetters [])
    (c__is_table : Cal P w K mg base 4 "_is_table" spIsTable []) (c__is_accepts : Cal P w K mg base 4 "_is_accepts" spIsAccepts []) : Mak P w K mg base 5 "Machine" C (spInit C) [] := by
  refine mak d hm h1 h2 (N := n_Machine___init__) sc_Machine___init__ (fun _ _ _ _ _ _ us hl => match us, hl with | [_, _, _, _], _ => rfl) (fun vs H Q E h => ?_) (fun f cdv A outer s H vs Q E hr h => ?_)
  · obtain ⟨m, dx, vt, va, L, t, a, rfl, _⟩ := h
    rfl
  · obtain ⟨m, dx, vt, va, L, t, a, rfl, em, pt, rt, ra, k⟩ := h
    refine ⟨_, (pss_cons (ps_if (pt_not (pt_val (pe_c c_is_letters hr (by first | decide | omega) rfl (pa_cons (pv 1) pa_nil)))) (pss_one ps_never) pss_nil)
  (pss_cons (ps_if (pt_not (pt_val (pe_c c__is_table hr (by first | decide | omega) rfl (pa_cons (pv 2) (pa_cons (pe_callB zc_lens (by rfl) B.len (by decide +kernel) (pa_cons (pv 1) pa_nil)) pa_nil))))) (pss_one ps_never) pss_nil)
  (pss_cons (ps_if (pt_not (pt_val (pe_c c__is_accepts hr (by first | decide | omega) rfl (pa_cons (pv 3) (pa_cons (pe_callB (r := zLen K) zc_len (by rfl) B.len (by decide +kernel) (pa_cons (pv 2) pa_nil)) pa_nil))))) (pss_one ps_never) pss_nil)
  (pss_cons (ps_fld (pv 0) (pv 1) rfl)
  (pss_cons (ps_fld (pv 0) (pv 2) rfl)
  (pss_one (ps_fld (pv 0) (pv 3) rfl))))))), ?_⟩
    refine zstart [some (.ref m), some (.str (S L)), some (vt), some (va)] rfl ?_; try dsimp only [zK, zK2]
    obtain ⟨hLp, hLr, hL1, hL4⟩ := pt.ltr
    walk_at "zz"
    refine ⟨_, _, rfl, Rp.str _, show L.length ≤ 90000 by omega, fun H1 s1 => ?_⟩
    have eL : isLetters (.str (S L)) = true := by
      show ((decide (1 ≤ L.length) && decide (L.length ≤ 4)) && (L.all (fun c => decide (97 ≤ c) && decide (c ≤ 122)) && decide (L.Pairwise (· < ·)))) = true
      rw [decide_eq_true hL1, decide_eq_true hL4, decide_eq_true hLp, Bool.and_true, Bool.true_and, Bool.and_true, List.all_eq_true]
      intro c hc
      rw [decide_eq_true (hLr c hc).1, decide_eq_true (hLr c hc).2]; rfl
    rw [eL]
    walk_at "zz"
    refine ⟨vt, t, L.length, rfl, rt.same s1, pt.lo, pt.hi, pt.row, hL4, fun H2 s2 => ?_⟩
    have s12 := s1.trans s2
    obtain ⟨pt0, xs, rfl, ept, _, rat⟩ := Rp.tupS (rt.same s12)
    have hxl : xs.length = t.length := by rw [rat.length, List.length_map]
    walk_at "zz"
    refine i_lenT (SqT.of ept) ?_
    rw [hxl]
    have ha6 : a.length ≤ 6 := Nat.le_trans (asc_len (L := List.range t.length) pt.acc fun x hx => List.mem_range.mpr (pt.acs x hx)) (by rw [List.length_range]; exact pt.hi)
    refine ⟨va, a, t.length, rfl, ra.same s12, pt.acs, pt.acc, by omega, fun H3 s3 => ?_⟩
    have s13 := s12.trans s3
    walk_at "zz"
    refine i_sfld ?_
    walk_at "zz"
    refine ⟨m, C, dx, _, rfl, s13 _ _ em, T.c, T.nl, by decide, ?_⟩
    refine i_nx ?_
    refine i_seq ?_
    refine i_sfld ?_
    walk_at "zz"
    refine ⟨m, C, dx, [(("_letters" : Str), V.str (S L))], rfl, upd_same, T.c, T.nt, by show 1 < 1000; decide, ?_⟩
    rw [put2, upd_upd]
    refine i_nx ?_
    refine i_sfld ?_
    walk_at "zz"
    refine ⟨m, C, dx, [(("_letters" : Str), V.str (S L)), (("_table" : Str), V.ref pt0)], rfl, upd_same, T.c, T.na, by show 2 < 1000; decide, ?_⟩
    rw [put3, upd_upd]
    walk_at "zz"
    exact k H3 _ s13 rfl
theorem c_Machine_letters {C : Addr} (T : MTxt K C) (d : MF K C "letters" "Machine.letters" s_Machine_letters) : Met P w K mg base 1 C "letters" (spLettersOf K C) [] := by
  refine met d T.c (N := n_Machine_letters) sc_Machine_letters (fun _ _ _ _ _ _ us hl => match us, hl with | [_], _ => rfl) (fun vs H Q E h => ?_) (fun f cdv A outer s H vs Q E hr h => ?_)
  · obtain ⟨m, L, t, a, rfl, _⟩ := h
    rfl
  · obtain ⟨m, L, t, a, rfl, hm, k⟩ := h
    obtain ⟨dx, vt, va, e, r1, r2⟩ := hm.ex
    refine ⟨_, (pss_one (ps_ret (pe_fldZ (K := K) rfl (pv 0) rfl))), ?_⟩
    refine zstart [some (.ref m)] rfl ?_; try dsimp only [zK, zK2]
    walk_at "zz"
    refine i_fld ?_
    walk_at "zz"
    exact ⟨m, C, dx, _, _, rfl, e, T.c, T.nl, rfl, k⟩
theorem c_Machine_table {C : Addr} (T : MTxt K C) (d : MF K C "table" "Machine.table" s_Machine_table) : Met P w K mg base 1 C "table" (spTableOf K C) [] := by
  refine met d T.c (N := n_Machine_table) sc_Machine_table (fun _ _ _ _ _ _ us hl => match us, hl with | [_], _ => rfl) (fun vs H Q E h => ?_) (fun f cdv A outer s H vs Q E hr h => ?_)
  · obtain ⟨m, L, t, a, rfl, _⟩ := h
    rfl
  · obtain ⟨m, L, t, a, rfl, hm, k⟩ := h
    obtain ⟨dx, vt, va, e, r1, r2⟩ := hm.ex
    refine ⟨_, (pss_one (ps_ret (pe_fldZ (K := K) rfl (pv 0) rfl))), ?_⟩
    refine zstart [some (.ref m)] rfl ?_; try dsimp only [zK, zK2]
    walk_at "zz"
    refine i_fld ?_
    walk_at "zz"
    exact ⟨m, C, dx, _, _, rfl, e, T.c, T.nt, rfl, k _ r1⟩
theorem c_Machine_accepts {C : Addr} (T : MTxt K C) (d : MF K C "accepts" "Machine.accepts" s_Machine_accepts) : Met P w K mg base 1 C "accepts" (spAcceptsOf K C) [] := by
  refine met d T.c (N := n_Machine_accepts) sc_Machine_accepts (fun _ _ _ _ _ _ us hl => match us, hl with | [_], _ => rfl) (fun vs H Q E h => ?_) (fun f cdv A outer s H vs Q E hr h => ?_)
  · obtain ⟨m, L, t, a, rfl, _⟩ := h
    rfl
  · obtain ⟨m, L, t, a, rfl, hm, k⟩ := h
    obtain ⟨dx, vt, va, e, r1, r2⟩ := hm.ex
    refine ⟨_, (pss_one (ps_ret (pe_fldZ (K := K) rfl (pv 0) rfl))), ?_⟩
    refine zstart [some (.ref m)] rfl ?_; try dsimp only [zK, zK2]
    walk_at "zz"
    refine i_fld ?_
    walk_at "zz"
    exact ⟨m, C, dx, _, _, rfl, e, T.c, T.na, rfl, k _ r2⟩
theorem idx_from {c : Nat} : ∀ {L : List Nat} (i : Nat), c ∈ L → (idx c L i).head? = some (i + L.idxOf c)
  | x :: L, i, h => by
    unfold idx
    by_cases e : x = c
    · subst e
      simp
    · rw [if_neg e]
      have h2 : c ∈ L := (List.mem_cons.mp h).resolve_left fun q => e q.symm
      rw [idx_from (i + 1) h2, List.idxOf_cons, show (x == c) = false by simpa using e]
      show some (i + 1 + L.idxOf c) = some (i + (L.idxOf c + 1))
      congr 1
      omega
theorem idx_of {L : List Nat} {c : Nat} (h : c ∈ L) : (idx c L 0).head? = some (L.idxOf c) := by
  rw [idx_from 0 h, Nat.zero_add]
theorem led_lt {L : List Nat} {t : List (List Nat)} (hrow : ∀ r ∈ t, r.length = L.length ∧ ∀ x ∈ r, x < t.length) : ∀ (u : List Nat) (s : Nat), s < t.length → (∀ c ∈ u, c ∈ L) → led L t s u < t.length
  | [], s, hs, _ => hs
  | c :: u, s, hs, hu => by
    show led L t ((t.getD s []).getD (L.idxOf c) 0) u < t.length
    refine led_lt hrow u _ ?_ fun d hd => hu d (List.mem_cons_of_mem _ hd)
    have e1 : t.getD s [] = t[s] := by rw [List.getD_eq_getElem?_getD, List.getElem?_eq_getElem hs]; rfl
    obtain ⟨h1, h2⟩ := hrow _ (List.getElem_mem hs)
    have hi : L.idxOf c < t[s].length := by rw [h1]; exact List.idxOf_lt_length_of_mem (hu c List.mem_cons_self)
    rw [e1, List.getD_eq_getElem?_getD, List.getElem?_eq_getElem hi]
    exact h2 _ (List.getElem_mem hi)
theorem c_end_of (d : DF K mg "end_of" s_end_of) (B : Bi mg) : Cal P w K mg base 1 "end_of" spEndOf [] := by
  refine d.cal (N := n_end_of) sc_end_of (fun _ _ _ _ _ _ us hl => match us, hl with | [_, _, _, _], _ => rfl) (fun vs H Q E h => ?_) (fun f cdv A outer s H vs Q E hr h => ?_)
  · obtain ⟨L, vt, t, s, u, rfl, _⟩ := h
    rfl
  · obtain ⟨L, vt, t, s, u, rfl, rt, hL, hrow, hs, hu, k⟩ := h
    refine ⟨_, (pss_cons (ps_for PassesOwn.never rfl (pi_str (pv 3)) (pg_name (i := 4) sc_end_of.nd rfl (by first | exact Or.inl rfl | exact Or.inr rfl)) (pss_one (ps_set (i := 2) sc_end_of.nd rfl (by first | exact Or.inl rfl | exact Or.inr rfl) (pe_ix (r := rIxT K) ix_tup (pe_ix (r := rIxT K) ix_tup (pv 1) (pv 2) (fun _ _ => rfl)) (pe_bmZ (K := K) rfl PySem.F.plainAttrs_str PySem.F.slot_str_index PySem.F.type_str_index zm_index (pv 0) (pa_cons (pv 4) pa_nil)) (fun _ _ => rfl)))))
  (pss_one (ps_ret (pv 2)))), ?_⟩
    refine zstart [some (.str (S L)), some (vt), some (.int (s : Int)), some (.str (S u)), none] rfl ?_; try dsimp only [zK, zK2]
    obtain ⟨p, xs, rfl, ep, _, ra⟩ := Rp.tupS rt
    walk_at "zz"
    refine l_str (fun i σ H1 => Same H H1 ∧ ∃ v4 : Option V, σ = [some (.str (S L)), some (.ref p), some (.int (led L t s (u.take i) : Int)), some (.str (S u)), v4]) ⟨Same.refl _, none, rfl⟩ ?_ ?_
    · rintro i c σ H1 hc ⟨sm, v4, rfl⟩
      have hcL := hu c (List.mem_of_getElem? hc)
      have hlt := led_lt hrow (u.take i) s hs fun d hd => hu d (List.mem_of_mem_take hd)
      have e2 : led L t s (u.take (i + 1)) = (t.getD (led L t s (u.take i)) []).getD (L.idxOf c) 0 := by
        unfold led
        rw [List.take_add_one, hc]
        show List.foldl _ _ (u.take i ++ [c]) = _
        rw [List.foldl_append]; rfl
      generalize led L t s (u.take i) = q at hlt e2 ⊢
      have e1 : t.getD q [] = t[q] := by rw [List.getD_eq_getElem?_getD, List.getElem?_eq_getElem hlt]; rfl
      obtain ⟨h1, h2⟩ := hrow _ (List.getElem_mem hlt)
      have hi : L.idxOf c < t[q].length := by rw [h1]; exact List.idxOf_lt_length_of_mem hcL
      obtain ⟨x, hx, rx⟩ := (ra.mono (Kp.of_same sm)).get (i := q) (d := rowD t[q]) (by rw [List.getElem?_map, List.getElem?_eq_getElem hlt]; rfl)
      obtain ⟨pr, rfl, epr, _⟩ := rowD_rp rx
      walk_at "zz"
      refine i_ixT (SqT.of (sm _ _ ep)) (atI_nat hx) ?_
      walk_at "zz"
      refine i_index (n := L.idxOf c) (idx_of hcL) ?_
      refine i_ixT (SqT.of epr) (atI_nat (v := .int ((t[q].getD (L.idxOf c) 0 : Nat) : Int)) (by
        unfold ivs
        rw [List.getElem?_map, List.getD_eq_getElem?_getD, List.getElem?_eq_getElem hi]; rfl)) ?_
      walk_at "zz"
      exact ⟨sm, _, by rw [e2, e1]⟩
    · rintro σ H1 ⟨sm, v4, rfl⟩
      rw [List.take_length]
      walk_at "zz"
      exact k _ sm
theorem inI {x : Nat} {l : List Nat} : inV (.int (x : Int)) (ivs l) = decide (x ∈ l) := by
  unfold inV ivs
  rw [List.any_map, Bool.eq_iff_iff, List.any_eq_true, decide_eq_true_iff]
  constructor
  · rintro ⟨c, hc, q⟩
    have q : ((c : Int) == (x : Int)) = true := q
    have q : (c : Int) = (x : Int) := by simpa using q
    have q : c = x := by omega
    exact q ▸ hc
  · intro h
    exact ⟨x, h, by show ((x : Int) == (x : Int)) = true; simp⟩
theorem c_says {C C2 : Addr} (d : DF K mg "says" s_says) (B : Bi mg) (T_NoWord : OwnX K mg "NoWord" C2) (c_Machine_letters : Met P w K mg base 1 C "letters" (spLettersOf K C) []) (c_Machine_table : Met P w K mg base 1 C "table" (spTableOf K C) []) (c_Machine_accepts : Met P w K mg base 1 C "accepts" (spAcceptsOf K C) [])
    (c_is_word : Cal P w K mg base 1 "is_word" spIsWord []) (c_end_of : Cal P w K mg base 1 "end_of" spEndOf []) : CalX P w K mg base 2 "says" (spSays K C C2) := by
  refine calX d (N := n_says) sc_says (fun _ _ _ _ _ _ us hl => match us, hl with | [_, _], _ => rfl) (fun vs H Q E h => ?_) (fun f cdv A outer s H vs Q E hr h => ?_)
  · obtain ⟨m, L, t, a, v, d, rfl, _⟩ := h
    rfl
  · obtain ⟨m, L, t, a, v, d, rfl, hm, pt, r, sm, k1, k2⟩ := h
    refine ⟨_, (pss_cons (ps_set (i := 2) sc_says.nd rfl (by first | exact Or.inl rfl | exact Or.inr rfl) (pe_mt0 c_Machine_letters hr (by first | decide | omega) (pv 0)))
  (pss_cons (ps_if (pt_not (pt_val (pe_c c_is_word hr (by first | decide | omega) rfl (pa_cons (pv 2) (pa_cons (pv 1) pa_nil))))) (pss_one (ps_raise0 rfl T_NoWord (takes_of rfl rfl rfl rfl) rfl)) pss_nil)
  (PSs.nox (pss_one (ps_ret (pe_cmpR (r := rIn K false) op_in_seq (pe_c c_end_of hr (by first | decide | omega) rfl (pa_cons (pv 2) (pa_cons (pe_mt0 c_Machine_table hr (by first | decide | omega) (pv 0)) (pa_cons pe_int (pa_cons (pv 1) pa_nil))))) (pe_mt0 c_Machine_accepts hr (by first | decide | omega) (pv 0)) (by rfl))))))), ?_⟩
    refine zstart [some (.ref m), some (v), none] rfl ?_; try dsimp only [zK, zK2]
    have hL4 := pt.ltr.2.2.2
    obtain ⟨dx, vt, va, em, rt, ra⟩ := hm.ex
    walk_at "zz"
    refine i_meth ?_
    walk_at "zz"
    refine ⟨m, dx, _, rfl, em, rfl, m, L, t, a, rfl, hm, ?_⟩
    walk_at "zz"
    refine ⟨L, v, d, rfl, r, sm, fun H1 s1 => ?_⟩
    walk_at "zz"
    refine brnb (fun hb => ?_) fun hb => ?_
    · walk_at "zz"
      exact k1 hb _ s1
    obtain ⟨u, rfl, rfl⟩ := r.isStr (isWord_str hb)
    walk_at "zz"
    refine i_meth ?_
    walk_at "zz"
    have hm1 := hm.same s1
    refine ⟨m, dx, _, rfl, s1 _ _ em, rfl, m, L, t, a, rfl, hm1, fun vt2 rt2 => ?_⟩
    walk_at "zz"
    refine ⟨L, vt2, t, 0, u, rfl, rt2, by omega, pt.row, pt.lo, fun c hc => of_decide_eq_true (List.all_eq_true.mp hb c hc), fun H2 s2 => ?_⟩
    walk_at "zz"
    refine i_meth ?_
    walk_at "zz"
    refine ⟨m, dx, _, rfl, s2 _ _ (s1 _ _ em), rfl, m, L, t, a, rfl, hm1.same s2, fun va2 ra2 => ?_⟩
    obtain ⟨pa, rfl, epa, _⟩ := rowD_rp ra2
    refine ⟨pa, _, rfl, .inr (SqT.of epa), rfl, by unfold ivs; rw [List.all_map]; exact List.all_eq_true.mpr fun _ _ => rfl, ?_⟩
    rw [inI, if_neg (by decide)]
    exact k2 u rfl hb _ (s1.trans s2)
end
end Y

namespace Y
open PySem PySem.Spec PyProof.Rows L2 Z
open C8 (tCut pss_cut Cal pe_c Met pe_mt pe_mt0 Mak pe_mk)
/-! ### defs that show data: no repr is under way around them -/
structure FnG (P : Program) (w : World) (K : PySem.W.Frag) (mg : Str → Option Value) (base : Heap) (CX : CXT) (k : Nat) (f : Addr) (fd : FuncData) (ps : List Str) (sp : Sp) : Prop where
  cnt : ∀ vs H Q E, sp vs H Q E → vs.length = ps.length
  go : ∀ (A : Around) (out : List Env) (s : Shared) (H : Hp) (ar : Args) (us : List Value) (vs : List V) (Q : VK) (E : XK), A.guards = some [] → Room k A → Env0 P w K mg base A out s H → BindsTo s fd ar (ps.zip us) → Vals vs us → sp vs H Q E →
    codeAny (model P w) A (.call (.ref f) ar) (CR CX out P w H s Q E) s
section
variable {P : Program} {w : World} {K : PySem.W.Frag} {mg : Str → Option Value} {base : Heap} {CX : CXT}
theorem fnG_body {k : Nat} {f : Addr} {nm qual : Str} {pars : Arguments} {body : List Stmt} {sc : Scope} {dV kV doc pm cdv ct oc : Value} {an od : Option Addr} {osl : Array (Option Value)} {N ps : List Str} {sp : Sp}
    (lk : K.lookup f = some ⟨oc, od, .func (PySem.W.fnOf nm qual pars body sc dV kV doc pm an cdv ct), osl⟩) (code : PySem.W.codeIn K cdv qual = true) (Sc : FnScope N ps sc) (cnt : ∀ vs H Q E, sp vs H Q E → vs.length = ps.length)
    (walk : ∀ (A : Around) (out : List Env) (s : Shared) (H : Hp) (vs : List V) (Q : VK) (E : XK), A.guards = some [] → Room k (A.deeper (envOfC qual sc s.heap.objs.size f cdv)) → sp vs H Q E →
      ∃ t, PSs (cxOf CX P w K mg base N qual sc f cdv A out s H E) body t ∧ t { nx := fun _ H' => Q .non H', rt := Q } (start N vs) H) :
    FnG P w K mg base CX (k + 1) f (PySem.W.fnOf nm qual pars body sc dV kV doc pm an cdv ct) ps sp := by
  constructor
  · exact cnt
  intro A out s H ar us vs Q E gd rm en bi va want
  have many := cnt vs H Q E want
  have stay : ∀ b o, base.get? b = some o → s.heap.get? b = some o := fun b o z => (en.bs b o z).1
  have inK : K.In s.heap := en.mod.kin.keeps stay
  apply codeAny_call_function rm.depth (inK _ _ lk) rfl Sc.co Sc.gen rfl (PySem.W.codeRec_of inK code)
  apply bi
  apply wpAny_newFunctionEnv_cells Sc.kind
  · rintro ⟨n, v⟩ hm
    cases Sc.par n (List.of_mem_zip hm).1 with
    | inl z => exact .inl z
    | inr z => exact .inr ⟨z, PySem.W.cellsFrom_some _ _ _ (.inl z)⟩
  · rintro env rfl s1 ic
    refine ⟨(en.mod.nolimit.keeps stay).keeps ic.toInCall.keep, codeAny_func ?_⟩
    obtain ⟨t, run, read⟩ := walk A out s H vs Q E gd (rm.deeper _) want
    have J0 : Inv (cxOf CX P w K mg base N qual sc f cdv A out s H E) [] (start N vs) H s1 := inv_start Sc rm.hd en many va ic
    have leave : ∀ (σ2 : L2.St) (H2 : Hp) (v2 : V) (u2 : Value) (s2 : Shared), Inv (cxOf CX P w K mg base N qual sc f cdv A out s H E) [] σ2 H2 s2 → RelV v2 u2 → Q v2 H2 → CE out P w H s Q u2 s2 :=
      fun σ2 H2 v2 u2 s2 J rv q => ⟨v2, H2, J.os, J.bare, J.base, J.hok, rv, q⟩
    refine wpAny_mono (run.run [] s1 (start N vs) H _ J0 read) (fun fl s2 => ?_) fun _ _ z => z
    cases fl with
    | next => rintro ⟨σ2, H2, J, q⟩; exact leave σ2 H2 .non .none s2 J rfl q
    | ret u => rintro ⟨v2, σ2, H2, J, rv, q⟩; exact leave σ2 H2 v2 u s2 J rv q
    | brk => rintro ⟨_, _, _, q⟩; exact q.elim
    | cont => rintro ⟨_, _, _, q⟩; exact q.elim
theorem okG {x qual : Str} {st : Stmt} {f : Addr} {fd : FuncData} {N ps : List Str} {k : Nat} {sp : Sp} (F : Fun K x qual st f fd) (Sc : FnScope N ps (defScope st)) (cnt : ∀ vs H Q E, sp vs H Q E → vs.length = ps.length)
    (walk : ∀ (cdv : Value) (A : Around) (out : List Env) (s : Shared) (H : Hp) (vs : List V) (Q : VK) (E : XK), A.guards = some [] → Room k (A.deeper (envOfC qual (defScope st) s.heap.objs.size f cdv)) → sp vs H Q E →
      ∃ t, PSs (cxOf CX0 P w K mg base N qual (defScope st) f cdv A out s H E).nox (defBody st) t ∧ t { nx := fun _ H' => Q .non H', rt := Q } (start N vs) H) : FnG P w K mg base CX0 (k + 1) f fd ps sp := by
  obtain ⟨_, _, _, _, _, _, cdv, _, _, rfl, lk, code⟩ := F.ex
  refine fnG_body lk code Sc cnt fun A out s H vs Q E gd rm want => ?_
  obtain ⟨t, run, read⟩ := walk cdv A out s H vs Q E gd rm want
  exact ⟨t, run.nox, read⟩
/-- .. under its name -/
structure CalG (P : Program) (w : World) (K : PySem.W.Frag) (mg : Str → Option Value) (base : Heap) (k : Nat) (x : Str) (sp : Sp) : Prop where
  ex : ∃ (f : Addr) (fd : FuncData) (ps : List Str), FnG P w K mg base CX0 k f fd ps sp ∧ mg x = some (.ref f) ∧ PySem.W.keepIn K (.ref f) = true ∧ Binds K fd ps []
theorem calG {x : Str} {st : Stmt} {N ps : List Str} {k : Nat} {sp : Sp} (d : DF K mg x st) (Sc : FnScope N ps (defScope st))
    (hb : ∀ (kV doc pm : Value) (an : Option Addr) (cdv ct : Value) (us : List Value), us.length = ps.length → bindArgs (PySem.W.fnOf x x (defArgs st) (defBody st) (defScope st) .none kV doc pm an cdv ct) ⟨us, []⟩ = pure (ps.zip us))
    (cnt : ∀ vs H Q E, sp vs H Q E → vs.length = ps.length)
    (walk : ∀ (f : Addr) (cdv : Value) (A : Around) (out : List Env) (s : Shared) (H : Hp) (vs : List V) (Q : VK) (E : XK), A.guards = some [] → Room k (A.deeper (envOfC x (defScope st) s.heap.objs.size f cdv)) → sp vs H Q E →
      ∃ t, PSs (cxOf CX0 P w K mg base N x (defScope st) f cdv A out s H E).nox (defBody st) t ∧ t { nx := fun _ H' => Q .non H', rt := Q } (start N vs) H) : CalG P w K mg base (k + 1) x sp := by
  obtain ⟨f, fd, F, hm⟩ := d.ex
  exact ⟨f, fd, ps, okG F Sc cnt (walk f), hm, F.kp, F.binds hb⟩
end
section
variable {X : Cx} {k j : Nat} {x : Str} {sp : Sp} {p pos : Pos} {e : Expr} {es : List Expr} {t : TA}
theorem pe_cG (c : CalG X.prog X.w X.K X.mg X.base k x sp) (gd : X.A.guards = some []) (hr : Room j X.A) (hk : k ≤ j) (hg : Gl X x) (ha : PA X (e :: es) t)
    (hdb : (x == ("__debug__" : Str)) = false := by decide) (he : starEach (e :: es) X.env = (false, eval e X.env) :: starEach es X.env := by rfl) (hpl : (backTo pos (starEach es X.env)).any (·.1) = false := by rfl) :
    PE X (.Call (.Name x p) (e :: es) [] pos) (tCall sp [] C8.E0 t) := by
  obtain ⟨f, fd, ps, F, hm, kp, b⟩ := c.ex
  constructor
  intro pins s σ H Q I h
  apply wpAny_Call_Name_kw (ld_glob I hg hm ?_ hdb)
  apply PySem.W.callWith_K (h₀ := X.base) I.ok.mod.kin kp (thn (ha.run pos pins s σ H _ I h) ?_) he hpl
  rintro us s1 ⟨vs, H1, I1, r, q⟩
  refine ⟨I1.kIn, ?_⟩
  rw [List.append_nil] at q
  have many := F.cnt _ _ _ _ q
  have lu : (us ++ []).length = ps.length := by rw [List.append_nil, ← r.length]; exact many
  have bd := b s1 us I1.kIn lu
  rw [List.append_nil] at bd
  apply wpAny_call
  apply codeAny_mono (F.go X.A X.stack s1 H1 ⟨us, []⟩ us vs Q C8.E0 gd (hr.mono hk) I1.env0 bd r q)
  intro res s2 hq
  match res, hq with
  | .ok (.ret u), hq => exact I1.after hq
  | .ok .next, hq => exact hq.elim
  | .ok .brk, hq => exact hq.elim
  | .ok .cont, hq => exact hq.elim
  | .error _, hq => exact hq.elim
end
/-! ### repr of data -/
def zRepr (K : PySem.W.Frag) : List V → Hp → VK → Prop := fun xs H Q => ∃ v d, xs = [v] ∧ Dp K H v d ∧ d.showable = true ∧ d.hasDict = false ∧ d.shown.length ≤ sizeLine ∧ d.depth ≤ 50 ∧ Q (.str d.shown) H
theorem zc_repr {X : Cx} (gd : X.A.guards = some []) (hu : X.A.units + 64 < cLine) : CallR X (.builtin "repr") (zRepr X.K) := by
  intro pins s σ H xs us Q I r h
  obtain ⟨v, d, rfl, hd, sh, nd, sz, dp, q⟩ := h
  obtain ⟨u, rfl, ru⟩ := vals1 r
  obtain ⟨as, rd⟩ := Dp.reads I d v u hd ru
  cases d with
  | none =>
    cases rd
    exact PySem.P.repr_of_none ⟨.str _, H, I.tok _, ⟨_, rfl⟩, q⟩
  | bool b =>
    cases rd
    exact PySem.P.repr_of_bool ⟨.str _, H, I.tok _, ⟨_, rfl⟩, q⟩
  | int i =>
    cases rd
    exact PySem.P.repr_of_int (by simpa [PyData.showable] using sh) ⟨.str _, H, I.tok _, ⟨_, rfl⟩, q⟩
  | str x =>
    cases rd
    exact PySem.P.repr_of_str ⟨.str _, H, I.tok _, ⟨_, rfl⟩, q⟩ sz
  | list ds =>
    obtain ⟨a, rfl⟩ : ∃ a, u = .ref a := by cases rd; exact ⟨_, rfl⟩
    exact repr_of_reads' rd sh (fun z => by rw [nd] at z; cases z) gd (by omega) (fun _ _ e => e) (fun h' u tk k => ⟨.str _, H, I.kept (t' := tk) k, ⟨_, rfl⟩, q⟩) sz
  | tuple ds =>
    obtain ⟨a, rfl⟩ : ∃ a, u = .ref a := by cases rd; exact ⟨_, rfl⟩
    exact repr_of_reads' rd sh (fun z => by rw [nd] at z; cases z) gd (by omega) (fun _ _ e => e) (fun h' u tk k => ⟨.str _, H, I.kept (t' := tk) k, ⟨_, rfl⟩, q⟩) sz
  | dict kv => cases hd
theorem i_repr {K : PySem.W.Frag} {H : Hp} {Q : VK} {v : V} {d : PyData} (h : Dp K H v d) (h1 : d.showable = true) (h2 : d.hasDict = false) (h3 : d.shown.length ≤ 100000) (h4 : d.depth ≤ 50) (q : Q (.str d.shown) H) : zRepr K [v] H Q := ⟨v, d, rfl, h, h1, h2, le_line h3, h4, q⟩
/-! ### the head for a law that shows data -/
theorem law_callG {P : Program} {w : World} {K : PySem.W.Frag} {mg mb : Str → Option Value} {k : Nat} {fa a : Addr} {fd : FuncData} {x : Str} {s₁ : Shared} {vs : List Value} {ns : List Int}
    (KX : K.In s₁.heap) (gns : s₁.heap.Ns mainGlobals mg) (bns : s₁.heap.Ns builtinsNs mb) (boot : ∀ x : Str, x ≠ "__name__" → mb x = bootBuiltins x) (lim : s₁.heap.NoLimit) (gens : s₁.gens = #[])
    (scr : s₁.heap.get? a = some { cls := .type "list", data := .seq vs.toArray }) (itg : IntsAre vs ns) (l63 : ns.length ≤ 63) (rm : Room k callerA)
    (F : ∀ base : Heap, K.In base → base.Ns mainGlobals mg → FnG P w K mg base CX0 k fa fd [x] (spLaw K)) (bind : ∀ (s : Shared) (u : Value), BindsTo s fd ⟨[u], []⟩ [(x, u)]) :
    codeAny (model P w) callerA (.call (.ref fa) ⟨[.ref a], []⟩) (fun r s' => r = .ok (.ret (.bool true)) ∧ OldK s₁.heap s'.heap ∧ s'.os = s₁.os ∧ AllBare s'.gens) s₁ := by
  have lsz : ns.length ≤ sizeLine := Nat.le_trans l63 (by decide)
  have vals := vals_ints itg
  have vlen := itg.length
  suffices core : ∀ H : Hp, (∀ b o, H b = some o → b = a ∧ o = .frz { cls := .type "list", data := .seq vs.toArray } (.lst (ns.map V.int))) → SqL K H a (ns.map V.int) → HOk P w H s₁.heap → (∀ o, H a = some o → K.lookup a = none) →
      codeAny (model P w) callerA (.call (.ref fa) ⟨[.ref a], []⟩) (fun r s' => r = .ok (.ret (.bool true)) ∧ OldK s₁.heap s'.heap ∧ s'.os = s₁.os ∧ AllBare s'.gens) s₁ by
    cases hk : K.lookup a with
    | some o =>
      have z := KX a o hk
      rw [scr] at z
      cases z
      exact core (fun _ => none) (fun _ _ z => by cases z) (.inr ⟨_, vs.toArray, _, hk, rfl, rfl, rfl, by rw [List.size_toArray, vlen]; exact lsz, by simpa using vals⟩) (fun _ _ z => by cases (z : (none : Option HO) = some _)) (fun _ z => by cases z)
    | none =>
      let o0 : HO := .frz { cls := .type "list", data := .seq vs.toArray } (.lst (ns.map V.int))
      have at_a : (fun b => if b = a then some o0 else none : Hp) a = some o0 := if_pos rfl
      have only : ∀ b o, (fun b => if b = a then some o0 else none : Hp) b = some o → b = a ∧ o = o0 := fun b o z => by
        by_cases q : b = a
        · have z2 := (if_pos q).symm.trans z
          exact ⟨q, (Option.some.inj z2).symm⟩
        · have z2 := (if_neg q).symm.trans z
          cases z2
      refine core _ only (.inl (.inr ⟨_, at_a⟩)) (fun b o z => ?_) fun _ _ => hk
      obtain ⟨rfl, rfl⟩ := only b o z
      exact ⟨scr, by rw [List.length_map]; exact lsz, vs, _, vals, scr⟩
  intro H only sq ok unk
  have tracked : ∀ {b : Addr}, b ≠ a → H b = none := fun {b} n => by
    cases z : H b with
    | none => rfl
    | some o => exact absurd (only b o z).1 n
  have notd : ∀ {b : Addr} {ob : Obj} {es : Array DictEntry} {ep : Nat}, s₁.heap.get? b = some ob → ob.data = .dict es ep → H b = none := fun {b ob es ep} g dd => tracked fun q => by
    subst q
    rw [scr] at g
    cases g
    cases (dd : Data.seq vs.toArray _ = Data.dict es ep)
  have seen : ∀ {b : Addr} {ob : Obj}, s₁.heap.get? b = some ob → H b = none → (hidT s₁.heap H).get? b = some ob := fun g n => hidT_get g n
  have ns2 : ∀ {b : Addr} {m : Str → Option Value}, s₁.heap.Ns b m → (hidT s₁.heap H).Ns b m := fun {b m} ⟨ob, es, ep, g, dd, rest⟩ => ⟨ob, es, ep, seen g (notd g dd), dd, rest⟩
  have inB : K.In (hidT s₁.heap H) := fun b ob g => seen (KX b ob g) (by
    cases z : H b with
    | none => rfl
    | some o =>
      obtain ⟨rfl, _⟩ := only b o z
      rw [unk o z] at g; cases g)
  have md : Mod K mg (hidT s₁.heap H) := ⟨inB, ns2 gns, ⟨mb, ns2 bns, boot⟩, let ⟨mc, c1, c2⟩ := lim; ⟨mc, ns2 c1, c2⟩⟩
  have en : Env0 P w K mg (hidT s₁.heap H) callerA [] s₁ H := ⟨rfl, md, fun _ _ g => of_hidT g, Nat.le_of_eq (hidT_size _ _), trivial, (fun b hb => by cases hb), ok, .of_eq gens⟩
  have run := (F _ inB (ns2 gns)).go callerA [] s₁ H ⟨[.ref a], []⟩ [.ref a] [.ref a] (fun v _ => v = .bl true) (fun _ _ _ => False) rfl rm en (bind s₁ (.ref a)) (.cons rfl .nil) ⟨a, ns, rfl, sq, l63, fun _ => rfl⟩
  refine codeAny_mono run fun r s' h => ?_
  match r, h with
  | .error _, h => exact h.elim
  | .ok .next, h => exact h.elim
  | .ok .brk, h => exact h.elim
  | .ok .cont, h => exact h.elim
  | .ok (.ret u), h =>
    obtain ⟨v, H', os, bare, un, ok', rv, rfl⟩ := h
    obtain rfl : u = Value.bool true := rv
    refine ⟨rfl, OldK.of_keep fun b ob g => ?_, os, bare⟩
    cases z : H b with
    | none => exact un.keep b ob g z (fun q => by cases q) (fun q => by cases q)
    | some o =>
      obtain ⟨rfl, rfl⟩ := only b o z
      obtain ⟨g1, _⟩ := ok b _ z
      obtain ⟨g2, _⟩ := ok' b _ (un.frzs b _ _ z)
      rw [g] at g1; cases g1
      exact g2
theorem walk_G {l : PySem.W.OpenLaw} {k : Nat} {q : Program} {loose : List Str} {XP : (Str → Option Value) → Heap → Prop} {YP : World → Heap → Prop} {d : DefRec} {K : Params → PySem.W.Frag} {x : Str}
    (hn : l.most = some 63) (hdf : d.params.defaults = []) (rm : Room k callerA) (hY : ∀ (w : World) (h : Heap), YP w h → (K w.params).In h)
    (F : ∀ (w : World) (mg : Str → Option Value) (fa : Addr) (h : Heap), (K w.params).In h → h.Ns mainGlobals mg → mg d.name = some (.ref fa) →
      ∃ fd : FuncData, (∀ (s : Shared) (u : Value), BindsTo s fd ⟨[u], []⟩ [(x, u)]) ∧ ∀ base : Heap, (K w.params).In base → base.Ns mainGlobals mg → FnG l.prog w (K w.params) mg base CX0 k fa fd [x] (spLaw (K w.params))) :
    PySem.W.WalkO q loose XP YP l.row.toRowW d [] (fun f vs => PySem.call f vs) := by
  refine Att.attach_call hn hdf fun w s₀ s₁ mg mb fa o pm cd doc a vs ns G Y ho hd hcd hmg hobj hints hlen hg => ?_
  obtain ⟨fd, bind, run⟩ := F w mg fa _ (hY w _ Y) G.T.g hmg
  exact law_callG (hY w _ Y) G.T.g G.T.b G.T.builtins G.T.nolimit hg hobj hints hlen rm run bind
end Y

namespace Y
open PySem PySem.Spec PyProof.Rows L2 Z
open C8 (tCut pss_cut Cal pe_c Met pe_mt pe_mt0 Mak pe_mk)
/-! ### small data, shown -/
def tame (d : PyData) : Bool := d.leavesShort 64 && decide (d.bulk ≤ 1000) && decide (d.depth ≤ 40) && d.showable && !d.hasDict
theorem i_reprT {K : PySem.W.Frag} {H : Hp} {Q : VK} {v : V} {d : PyData} (h : Dp K H v d) (t : tame d = true) (q : Q (.str (S (codes d.shown))) H) : zRepr K [v] H Q := by
  unfold tame at t
  simp only [Bool.and_eq_true, decide_eq_true_eq, Bool.not_eq_true'] at t
  obtain ⟨⟨⟨⟨t1, t2⟩, t3⟩, t4⟩, t5⟩ := t
  have hb := PyData.shown_le_bulk 64 (by decide) d t1
  exact i_repr h t4 t5 (by omega) (by omega) q
theorem tame_of {d : PyData} (h1 : d.leavesShort 64 = true) (h2 : d.bulk ≤ 1000) (h3 : d.depth ≤ 40) (h4 : d.showable = true) (h5 : d.hasDict = false) : tame d = true := by
  unfold tame
  rw [h1, h4, h5, decide_eq_true h2, decide_eq_true h3]; rfl
theorem small_short : ∀ x : Nat, x < 300 → PyData.leavesShort 64 (.int (x : Int)) = true := by decide +kernel
theorem small_show : ∀ x : Nat, x < 300 → PyData.showable (.int (x : Int)) = true := by decide +kernel
/-! rows and tables -/
theorem eqv_ids : ∀ a b : List Nat, PyData.eqvAll (ids a) (ids b) = decide (a = b)
  | [], [] => rfl
  | [], _ :: _ => rfl
  | _ :: _, [] => rfl
  | x :: a, y :: b => by
    show (PyData.eqv (.int (x : Int)) (.int (y : Int)) && PyData.eqvAll (ids a) (ids b)) = _
    rw [eqv_ids a b]
    show (((x : Int) == (y : Int)) && decide (a = b)) = _
    rw [Bool.eq_iff_iff, Bool.and_eq_true, beq_iff_eq, decide_eq_true_iff, decide_eq_true_iff, List.cons.injEq]
    constructor
    · rintro ⟨h1, h2⟩; exact ⟨by omega, h2⟩
    · rintro ⟨h1, h2⟩; exact ⟨by omega, h2⟩
theorem eqv_row (a b : List Nat) : PyData.eqv (rowD a) (rowD b) = decide (a = b) := eqv_ids a b
theorem eqv_rows : ∀ s t : List (List Nat), PyData.eqvAll (s.map rowD) (t.map rowD) = decide (s = t)
  | [], [] => rfl
  | [], _ :: _ => rfl
  | _ :: _, [] => rfl
  | x :: a, y :: b => by
    show (PyData.eqv (rowD x) (rowD y) && PyData.eqvAll (a.map rowD) (b.map rowD)) = _
    rw [eqv_rows a b, eqv_row, Bool.eq_iff_iff, Bool.and_eq_true, decide_eq_true_iff, decide_eq_true_iff, decide_eq_true_iff, List.cons.injEq]
theorem eqv_tab (s t : List (List Nat)) : PyData.eqv (tabD s) (tabD t) = decide (s = t) := eqv_rows s t
theorem lay_ids : ∀ a : List Nat, PyData.canLayAll0 (ids a) = true
  | [] => rfl
  | x :: a => by
    show (PyData.canLay0 (.int (x : Int)) && PyData.canLayAll0 (ids a)) = true
    rw [lay_ids a]; rfl
theorem dep_ids : ∀ a : List Nat, PyData.depthAll (ids a) = 0
  | [] => rfl
  | x :: a => by
    show max (PyData.depth (.int (x : Int))) (PyData.depthAll (ids a)) = 0
    rw [dep_ids a]; rfl
theorem dep_row (a : List Nat) : (rowD a).depth = 1 := by
  show PyData.depthAll (ids a) + 1 = 1
  rw [dep_ids]
theorem lay_rows : ∀ s : List (List Nat), PyData.canLayAll0 (s.map rowD) = true
  | [] => rfl
  | x :: a => by
    show (PyData.canLay0 (rowD x) && PyData.canLayAll0 (a.map rowD)) = true
    rw [lay_rows a, Bool.and_true]
    exact lay_ids x
theorem dep_rows : ∀ s : List (List Nat), PyData.depthAll (s.map rowD) ≤ 1
  | [] => Nat.zero_le _
  | x :: a => by
    show max (rowD x).depth (PyData.depthAll (a.map rowD)) ≤ 1
    have := dep_rows a
    rw [dep_row]; omega
theorem dep_tab (s : List (List Nat)) : (tabD s).depth ≤ 2 := by
  show PyData.depthAll (s.map rowD) + 1 ≤ 2
  have := dep_rows s
  omega
theorem shaped_row (a : List Nat) : SeqAt.shaped (rowD a) = true := by
  unfold SeqAt.shaped
  rw [dep_row, show (rowD a).canLay0 = true from lay_ids a]; rfl
theorem shaped_tab (s : List (List Nat)) : SeqAt.shaped (tabD s) = true := by
  unfold SeqAt.shaped
  have := dep_tab s
  rw [show (tabD s).canLay0 = true from lay_rows s, decide_eq_true (show (tabD s).depth ≤ 64 by omega)]; rfl
theorem short_ids : ∀ a : List Nat, (∀ x ∈ a, x < 300) → PyData.leavesShortAll 64 (ids a) = true
  | [], _ => rfl
  | x :: a, h => by
    show (PyData.leavesShort 64 (.int (x : Int)) && PyData.leavesShortAll 64 (ids a)) = true
    rw [short_ids a fun y hy => h y (List.mem_cons_of_mem _ hy), small_short x (h x List.mem_cons_self)]; rfl
theorem show_ids : ∀ a : List Nat, (∀ x ∈ a, x < 300) → PyData.showableAll (ids a) = true
  | [], _ => rfl
  | x :: a, h => by
    show (PyData.showable (.int (x : Int)) && PyData.showableAll (ids a)) = true
    rw [show_ids a fun y hy => h y (List.mem_cons_of_mem _ hy), small_show x (h x List.mem_cons_self)]; rfl
theorem nod_ids : ∀ a : List Nat, PyData.hasDictAll (ids a) = false
  | [] => rfl
  | x :: a => by
    show (PyData.hasDict (.int (x : Int)) || PyData.hasDictAll (ids a)) = false
    rw [nod_ids a]; rfl
theorem bulk_ids : ∀ a : List Nat, PyData.bulkAll (ids a) = a.length
  | [] => rfl
  | x :: a => by
    show PyData.bulk (.int (x : Int)) + 1 + PyData.bulkAll (ids a) = _
    rw [bulk_ids a, List.length_cons]
    show 0 + 1 + a.length = _
    omega
theorem tame_row {a : List Nat} (h : ∀ x ∈ a, x < 300) (hl : a.length ≤ 1000) : tame (rowD a) = true :=
  tame_of (short_ids a h) (by show PyData.bulkAll (ids a) ≤ 1000; rw [bulk_ids]; exact hl) (by rw [dep_row]; decide) (show_ids a h) (nod_ids a)
theorem short_rows : ∀ s : List (List Nat), (∀ r ∈ s, ∀ x ∈ r, x < 300) → PyData.leavesShortAll 64 (s.map rowD) = true
  | [], _ => rfl
  | r :: s, h => by
    show (PyData.leavesShort 64 (rowD r) && PyData.leavesShortAll 64 (s.map rowD)) = true
    rw [short_rows s fun y hy => h y (List.mem_cons_of_mem _ hy), Bool.and_true]
    exact short_ids r (h r List.mem_cons_self)
theorem show_rows : ∀ s : List (List Nat), (∀ r ∈ s, ∀ x ∈ r, x < 300) → PyData.showableAll (s.map rowD) = true
  | [], _ => rfl
  | r :: s, h => by
    show (PyData.showable (rowD r) && PyData.showableAll (s.map rowD)) = true
    rw [show_rows s fun y hy => h y (List.mem_cons_of_mem _ hy), Bool.and_true]
    exact show_ids r (h r List.mem_cons_self)
theorem nod_rows : ∀ s : List (List Nat), PyData.hasDictAll (s.map rowD) = false
  | [] => rfl
  | r :: s => by
    show (PyData.hasDict (rowD r) || PyData.hasDictAll (s.map rowD)) = false
    rw [nod_rows s, Bool.or_false]
    exact nod_ids r
theorem bulk_rows : ∀ (s : List (List Nat)) (n : Nat), (∀ r ∈ s, r.length ≤ n) → PyData.bulkAll (s.map rowD) ≤ s.length * (n + 1)
  | [], _, _ => Nat.zero_le _
  | r :: s, n, h => by
    show (rowD r).bulk + 1 + PyData.bulkAll (s.map rowD) ≤ _
    have h1 := bulk_rows s n fun y hy => h y (List.mem_cons_of_mem _ hy)
    have h2 : (rowD r).bulk = r.length := bulk_ids r
    have h3 := h r List.mem_cons_self
    rw [h2, List.length_cons, Nat.succ_mul]
    omega
theorem tame_tab {s : List (List Nat)} {n : Nat} (h : ∀ r ∈ s, r.length ≤ n ∧ ∀ x ∈ r, x < 300) (hl : s.length * (n + 1) ≤ 1000) : tame (tabD s) = true := by
  refine tame_of (short_rows s fun r hr => (h r hr).2) ?_ (by have := dep_tab s; omega) (show_rows s fun r hr => (h r hr).2) (nod_rows s)
  have := bulk_rows s n fun r hr => (h r hr).1
  exact Nat.le_trans this hl
theorem Parts.tameT {L : List Nat} {t : List (List Nat)} {a : List Nat} (p : Parts L t a) : tame (tabD t) = true := by
  refine tame_tab (n := 4) (fun r hr => ⟨by rw [(p.row r hr).1]; exact p.ltr.2.2.2, fun x hx => ?_⟩) ?_
  · have := (p.row r hr).2 x hx; have := p.hi; omega
  · have := p.hi; omega
theorem Parts.accLen {L : List Nat} {t : List (List Nat)} {a : List Nat} (p : Parts L t a) : a.length ≤ 6 :=
  Nat.le_trans (asc_len (L := List.range t.length) p.acc fun x hx => List.mem_range.mpr (p.acs x hx)) (by rw [List.length_range]; exact p.hi)
theorem Parts.tameA {L : List Nat} {t : List (List Nat)} {a : List Nat} (p : Parts L t a) : tame (rowD a) = true :=
  tame_row (fun x hx => by have := p.acs x hx; have := p.hi; omega) (by have := p.accLen; omega)
theorem noD_ids : ∀ l : List Nat, noDs (ids l) = true
  | [] => rfl
  | x :: l => by show (noD (.int (x : Int)) && noDs (ids l)) = true; rw [noD_ids l]; rfl
theorem noD_row (l : List Nat) : noD (rowD l) = true := noD_ids l
theorem noD_rows : ∀ t : List (List Nat), noDs (t.map rowD) = true
  | [] => rfl
  | x :: l => by show (noD (rowD x) && noDs (l.map rowD)) = true; rw [noD_rows l, noD_row]; rfl
theorem noD_tab (t : List (List Nat)) : noD (tabD t) = true := noD_rows t
/-! ### == of machines -/
theorem back_of {P : Value → Shared → Prop} {z : V} {v : Value} {s' : Shared} (r : RelV z v) (h : P v s') : PySem.W.CmpBack P v s' := by
  cases z <;> first | (obtain ⟨t, rfl⟩ := r; exact h) | (cases (r : v = _); exact h)
/-- x == y, x a machine: y data, or a machine -/
def rEqM (C : Addr) (sp : Sp) : R2 := fun x y H Q => ∃ a dx fs, x = .ref a ∧ H a = some (.ins C dx fs) ∧ ((∃ (N : Addr → Prop) (d : PyData), Rp N H y d) ∨ ∃ b dy gs, y = .ref b ∧ H b = some (.ins C dy gs)) ∧ sp [x, y] H Q C8.E0
theorem looks_rp {X : Cx} {pins : List (Addr × Obj)} {σ : L2.St} {H : Hp} {s : Shared} {N : Addr → Prop} {y : V} {d : PyData} {u : Value} (I : Inv X pins σ H s) (r : Rp N H y d) (ry : RelV y u) : ∃ T, PySem.W.Looks (model X.prog X.w) s.heap (typeOf u) (.type T) ∧ T ∈ ["NoneType", "bool", "int", "str", "list", "tuple", "dict"] := by
  cases r with
  | non => cases (show u = Value.none from ry); exact ⟨"NoneType", PySem.W.Looks.of_pure rfl, by decide⟩
  | bl b => cases (show u = Value.bool b from ry); exact ⟨"bool", PySem.W.Looks.of_pure rfl, by decide⟩
  | int i => obtain ⟨t, rfl⟩ := (show ∃ t, u = Value.int i t from ry); exact ⟨"int", PySem.W.Looks.of_pure rfl, by decide⟩
  | str x => obtain ⟨t, rfl⟩ := (show ∃ t, u = Value.str x t from ry); exact ⟨"str", PySem.W.Looks.of_pure rfl, by decide⟩
  | lst e _ _ =>
    cases (show u = Value.ref _ from ry)
    obtain ⟨_, _, _, _, g⟩ := I.hok _ _ e
    exact ⟨"list", (PySem.W.Looks.ld g).andThen .now, by decide⟩
  | tup e _ _ =>
    cases (show u = Value.ref _ from ry)
    obtain ⟨_, _, _, o, g, hc, _⟩ := I.hok _ _ e
    exact ⟨"tuple", hc ▸ (PySem.W.Looks.ld g).andThen .now, by decide⟩
  | dct e _ =>
    cases (show u = Value.ref _ from ry)
    obtain ⟨_, _, _, _, o, es, ep, g, ⟨hc, _⟩, _⟩ := I.hok _ _ e
    exact ⟨"dict", hc ▸ (PySem.W.Looks.ld g).andThen .now, by decide⟩
theorem sub_none {K : PySem.W.Frag} {C : Addr} : ∀ T ∈ ["NoneType", "bool", "int", "str", "list", "tuple", "dict"], PySem.W.notFirst K C (.type T) = true := by
  have h : ∀ T ∈ ["NoneType", "bool", "int", "str", "list", "tuple", "dict"], ((PySem.W.subIn K (.type T) (.ref C)) == some false) = true := by
    intro T hT
    simp only [List.mem_cons, List.not_mem_nil, or_false] at hT
    rcases hT with rfl | rfl | rfl | rfl | rfl | rfl | rfl <;> rfl
  intro T hT
  unfold PySem.W.notFirst
  rw [h T hT, Bool.or_true]
theorem op_eqM {X : Cx} {C : Addr} {k j : Nat} {sp : Sp} (c : Met X.prog X.w X.K X.mg X.base k C "__eq__" sp []) (hr : Room j X.A) (hk : k ≤ j) : OpR X (compareOp .Eq) (rEqM C sp) := by
  intro pins s σ H x y v u Q I rx ry h
  obtain ⟨a, dx, fs, rfl, ha, hy, q⟩ := h
  cases (show v = Value.ref a from rx)
  obtain ⟨f, fd, ps, ds, cl, me, F, b, vd⟩ := c.ex
  obtain ⟨mA, J, _⟩ := ins_get I.hok ha
  obtain ⟨od, J, _⟩ := J.look
  obtain ⟨m, hF⟩ := I.fr
  have run : wpAny (model X.prog X.w) X.A (call (.ref f) [.ref a, u]) (EP X pins σ Q) X.xe s := run_fn (us := [.ref a, u]) (vs := [.ref a, y]) F (hr.mono hk) b vd C8.pass0 I (.cons rfl (.cons ry .nil)) q
  show wpAny (model X.prog X.w) X.A (richCompare .Eq (.ref a) u) _ _ s
  have fin : wpAny (model X.prog X.w) X.A (call (.ref f) [.ref a, u]) (PySem.W.CmpBack (EP X pins σ Q)) X.xe s := wpAny_mono run (fun w s' z => by
    obtain ⟨z', H', I', rz, qz⟩ := z
    exact back_of rz ⟨z', H', I', rz, qz⟩) fun _ _ x => x
  rcases hy with ⟨N, d, r⟩ | ⟨b', dy, gs, rfl, hb⟩
  · obtain ⟨T, lk, hT⟩ := looks_rp I r ry
    exact PySem.W.cmp_K (op := .Eq) (tb := .type T) hr.units0 hF I.ok.mod.kin J lk (sub_none T hT) me.at_ me.fn fin
  · cases (show u = Value.ref b' from ry)
    obtain ⟨mB, J', _⟩ := ins_get I.hok hb
    obtain ⟨od', J', _⟩ := J'.look
    exact PySem.W.cmp_K (op := .Eq) (tb := .ref C) hr.units0 hF I.ok.mod.kin J J'.type (by simp [PySem.W.notFirst]) me.at_ me.fn fin
end Y

namespace Y
open PySem PySem.Spec PyProof.Rows L2 Z
open C8 (tCut pss_cut Cal pe_c Met pe_mt pe_mt0 Mak pe_mk)
open PySem.Sem (wp)
/-! ### dict keys that are pairs of a number and a tuple of numbers -/
abbrev PK := Int × List Int
section
variable {P : Program} {w : World}
abbrev IK (P : Program) (w : World) : PySem.KeyKind P w Int := intKind P w
structure PairAt (P : Program) (w : World) (h : Heap) (k : PK) (a : Addr) : Prop where
  ex : ∃ (ob : Obj) (arr : Array Value) (n : Nat) (b : Addr) (t : Tok), h.get? a = some ob ∧ ob.cls = .type "tuple" ∧ ob.data = .seq arr n ∧ arr.toList = [.int k.1 t, .ref b] ∧ IsTupleKey (IK P w) h k.2 b
def pairHash (P : Program) (w : World) (k : PK) : Int := reduceHash (Builtin.Tuple.tupleHashOf [(IK P w).hash k.1, tupleKeyHash (IK P w) k.2])
theorem PairAt.ty {s : Shared} {k : PK} {a : Addr} (x : PairAt P w s.heap k a) : s.TypeIs (.ref a) "tuple" := by
  obtain ⟨ob, _, _, _, _, g, c, _⟩ := x.ex
  exact ⟨ob, g, c⟩
theorem int_is (i : Int) (t : Tok) : (IK P w).is i (.int i t) = true := by
  show decide _ = true
  simp
theorem PairAt.one {h : Heap} {k k' : PK} {a : Addr} (x : PairAt P w h k a) (y : PairAt P w h k' a) : k = k' := by
  obtain ⟨ob, arr, n, b, t, g, c, d, e, z⟩ := x.ex
  obtain ⟨ob', arr', n', b', t', g', c', d', e', z'⟩ := y.ex
  rw [g] at g'; cases g'
  rw [d] at d'; cases d'
  rw [e] at e'
  injection e' with e1 e2
  injection e1 with e1 _
  injection e2 with e2 _
  injection e2 with e2
  subst e2
  exact Prod.ext e1 (z.inj z')
theorem PairAt.stay {h h' : Heap} {k : PK} {a d : Addr} {ob : Obj} {es : Array DictEntry} {ep : Nat} (x : PairAt P w h k a) (gd : h.get? d = some ob) (dd : ob.data = .dict es ep) (sb : Heap.SameBut d h h') : PairAt P w h' k a := by
  obtain ⟨oa, arr, n, b, t, g, c, da, e, z⟩ := x.ex
  have ne : a ≠ d := by
    intro q; subst q
    rw [g] at gd; cases gd
    rw [da] at dd; cases dd
  exact ⟨oa, arr, n, b, t, (sb.2 a ne).trans g, c, da, e, z.keeps gd dd sb⟩
variable {A : Around} {E : Value → Shared → Prop} {s : Shared}
theorem pair_hash {k : PK} {a : Addr} {Q : Int → Shared → Prop} (un : A.units + 8 < cLine) (x : PairAt P w s.heap k a) (q : Q (pairHash P w k) { s with toks := s.toks + (k.2.length + 3) }) : wpAny (model P w) A (pyHash (.ref a)) Q E s := by
  have ty := x.ty
  obtain ⟨oa, arr, n, b, t, g, c, da, e, z⟩ := x.ex
  unfold pyHash
  first | unfold pyHashByItsType | skip
  first | refine (wpAny_bind (wpAny_cRoomFor_or (.inr (show A.units < cLine by omega)) ?_)) | skip
  · apply wpAny_bind
    apply wpAny_specialOf ty F.slot_tuple_hash.lookup
    show wpAny _ _ (if (some (Value.builtin "tuple.__hash__") == some Value.none) = true then _ else _) _ E s
    rw [if_neg (by rw [beq_builtin_none]; decide)]
    apply wpAny_bind
    apply wpAny_specialOf ty F.slot_tuple_hash.lookup
    show wpAny _ _ (callSpecialIfBoundUnlessNone? (.ref a) "__hash__" _ >>= _) _ E s
    apply wpAny_bind
    apply wpAny_callSpecialIfBoundUnlessNone?_slot ty F.slot_tuple_hash
    apply wpAny_call_entry F.slot_tuple_hash ty F.entry_tuple_hash ?_ (F.args_tuple_hash_1 _)
    show wpAny _ _ (Builtin.Tuple.tupleItemsOf (.ref a) >>= _) _ _ s
    apply wpAny_bind
    apply wpAny_tupleItemsOf g da
    apply wpAny_bind
    rw [← Array.forIn_toList, e]
    let I : List Value → Array Int → Shared → Prop := fun rest acc s' =>
      (rest = [.int k.1 t, .ref b] ∧ acc.toList = [] ∧ s' = s) ∨ (rest = [.ref b] ∧ acc.toList = [(IK P w).hash k.1] ∧ s' = { s with toks := s.toks + 1 }) ∨
      (rest = [] ∧ acc.toList = [(IK P w).hash k.1, tupleKeyHash (IK P w) k.2] ∧ s' = { s with toks := s.toks + 1 + (k.2.length + 1) })
    refine wpAny_forIn_list _ I _ ?_ ?_ _ _ (.inl ⟨rfl, rfl, rfl⟩)
    · rintro y rest acc s' (⟨e1, e2, rfl⟩ | ⟨e1, e2, rfl⟩ | ⟨e1, _⟩)
      · cases e1
        refine wpAny_bind ((IK P w).pyHash (int_is k.1 t) ?_)
        first
          | exact wpAny_pure (.inr (.inl ⟨rfl, by simp [e2], rfl⟩))
          | exact wpAny_bind (wpAny_pure (wpAny_pure (.inr (.inl ⟨rfl, by simp [e2], rfl⟩))))
      · cases e1
        refine wpAny_bind (wpAny_pyHash_tuple (knd := IK P w) (by show A.units + 1 < cLine; omega) z ?_)
        first
          | exact wpAny_pure (.inr (.inr ⟨rfl, by simp [e2], rfl⟩))
          | exact wpAny_bind (wpAny_pure (wpAny_pure (.inr (.inr ⟨rfl, by simp [e2], rfl⟩))))
      · cases e1
    · rintro acc s' (⟨e1, _⟩ | ⟨e1, _⟩ | ⟨_, e2, rfl⟩)
      · cases e1
      · cases e1
      · show wpAny _ _ (retInt (Builtin.Tuple.tupleHashOf acc.toList)) _ _ _
        rw [e2]
        apply wpAny_ret_mkInt
        unfold pairHash reduceHash at q
        generalize Builtin.Tuple.tupleHashOf [(IK P w).hash k.1, tupleKeyHash (IK P w) k.2] = hv at q ⊢
        show wpAny _ _ (if (decide (-(2 : Int) ^ 63 ≤ hv) && decide (hv < 2 ^ 63)) = true then _ else _) Q E _
        have tk : s.toks + 1 + (k.2.length + 1) + 1 = s.toks + (k.2.length + 3) := by omega
        by_cases hr : (decide (-(2 : Int) ^ 63 ≤ hv) && decide (hv < 2 ^ 63)) = true
        · rw [if_pos hr] at q ⊢
          refine wpAny_pure ?_
          simpa only [tk] using q
        · rw [if_neg hr] at q ⊢
          refine wpAny_bind (wpAny_rule (wpAny_pure ?_))
          simpa only [tk] using q
theorem pair_eq {k k' : PK} {a a' : Addr} {R : Fin → Shared → Prop} (un : A.units + 8 < cLine) (x : PairAt P w s.heap k a) (y : PairAt P w s.heap k' a') (q : R (.done (.ret (.bool (decide (k = k'))))) s) :
    wpAny (model P w) A (Builtin.«tuple.__eq__» ⟨[.ref a, .ref a'], []⟩) R E s := by
  have ty' := y.ty
  obtain ⟨oa, arr, n, b, t, g, c, da, e, z⟩ := x.ex
  obtain ⟨oa', arr', n', b', t', g', c', da', e', z'⟩ := y.ex
  show wpAny _ _ (isInstance (.ref a') (.type "tuple") >>= _) _ _ s
  apply wpAny_bind
  apply wpAny_isInstance ty' isSubtype_tuple_tuple
  simp only [Bool.not_true, Bool.false_eq_true, if_false]
  apply wpAny_bind
  apply wpAny_tupleItemsOf g da
  apply wpAny_bind
  apply wpAny_tupleItemsOf g' da'
  apply wpAny_bind
  have sz : arr.size = 2 := by rw [← Array.length_toList, e]; rfl
  have sz' : arr'.size = 2 := by rw [← Array.length_toList, e']; rfl
  refine wpAny_forIn_list _ (fun rest r s' => r.1 = none ∧ s' = s ∧ (rest = [(Value.int k.1 t, Value.int k'.1 t'), (Value.ref b, Value.ref b')] ∨ (rest = [(Value.ref b, Value.ref b')] ∧ k.1 = k'.1) ∨ (rest = [] ∧ k = k'))) _ ?_ ?_ _ _ ⟨rfl, rfl, .inl (by rw [e, e']; rfl)⟩
  · rintro ⟨u, v⟩ rest r s' ⟨r0, rfl, (h | ⟨h, h1⟩ | ⟨h, _⟩)⟩
    · cases h
      refine wpAny_bind ((IK P w).eqBool (a := k.1) (b := k'.1) (int_is k.1 t) (int_is k'.1 t') ?_)
      by_cases hk : k.1 = k'.1
      · rw [decide_eq_true hk]
        simp only [Bool.not_true, Bool.false_eq_true, if_false]
        exact wpAny_pure ⟨rfl, rfl, .inr (.inl ⟨trivial, hk⟩)⟩
      · rw [decide_eq_false hk]
        simp only [Bool.not_false, if_true]
        have hf : decide (k = k') = false := decide_eq_false fun z => hk (by rw [z])
        rw [hf] at q
        exact wpAny_bind (wpAny_pure (wpAny_pure (wpAny_pure q)))
    · cases h
      refine wpAny_bind (wpAny_eqBool_tuple (knd := IK P w) (show A.units < cLine by omega) z z' ?_)
      by_cases hk : k.2 = k'.2
      · rw [decide_eq_true hk]
        simp only [Bool.not_true, Bool.false_eq_true, if_false]
        exact wpAny_pure ⟨rfl, rfl, .inr (.inr ⟨trivial, Prod.ext h1 hk⟩)⟩
      · rw [decide_eq_false hk]
        simp only [Bool.not_false, if_true]
        have hf : decide (k = k') = false := decide_eq_false fun z => hk (by rw [z])
        rw [hf] at q
        exact wpAny_bind (wpAny_pure (wpAny_pure (wpAny_pure q)))
    · cases h
  · rintro ⟨r1, r2⟩ s' ⟨r0, rfl, (h | ⟨h, _⟩ | ⟨_, h⟩)⟩
    · cases h
    · cases h
    · simp only at r0
      subst r0
      refine wpAny_pure ?_
      show R (.done (.ret (.bool (arr.size == arr'.size)))) s'
      rw [decide_eq_true h] at q
      rw [sz, sz']
      exact q
theorem pair_eqBool {k k' : PK} {a a' : Addr} {Q : Bool → Shared → Prop} (un : A.units + 9 < cLine) (x : PairAt P w s.heap k a) (y : PairAt P w s.heap k' a') (q : Q (decide (k = k')) s) :
    wpAny (model P w) A (eqBool (.ref a) (.ref a')) Q E s := by
  unfold eqBool
  try with_reducible apply wpAny_holding
  show wpAny _ _ (if (Value.ref a == Value.ref a') = true then _ else _) Q E s
  by_cases h : (Value.ref a == Value.ref a') = true
  · rw [if_pos h]
    obtain rfl : a = a' := by
      have := eq_of_beq h
      injection this
    obtain rfl := x.one y
    rw [decide_eq_true rfl] at q
    exact wpAny_bind (wpAny_rule (wpAny_pure q))
  · rw [if_neg h]
    refine wpAny_bind (wpAny_richCompare_same_room (op := .Eq) x.ty y.ty F.slot_tuple_eq ?_ (show A.units < cLine by omega))
    refine wpAny_call_entry F.slot_tuple_eq x.ty F.entry_tuple_eq ?_ (F.args_tuple_eq_2 _ _)
    exact pair_eq (A := A.in1) (show A.units + 1 + 8 < cLine by omega) x y ⟨_, rfl, (fun z => nomatch z), wpAny_truthy_bool q⟩
theorem quiet_row {l : List Int} {b : Addr} {n : Nat} {Q : Bool → Shared → Prop} (z : IsTupleKey (IK P w) s.heap l b) (q : Q true s) : wpAny (model P w) A (eqIsQuiet (n + 1) (.ref b)) Q E s := by
  have ty := z.typeIs
  obtain ⟨ob, arr, m, g, _, db, it⟩ := z
  unfold eqIsQuiet
  apply wpAny_bind
  apply wpAny_specialOf ty F.slot_tuple_eq.lookup
  show wpAny _ _ (isInstance (.ref b) (.type "tuple") >>= _) _ _ s
  apply wpAny_bind
  apply wpAny_isInstance ty isSubtype_tuple_tuple
  simp only [Bool.not_true, Bool.false_eq_true, if_false]
  apply wpAny_bind
  apply wpAny_seqItems g db
  apply wpAny_bind
  show wpAny _ _ (forIn arr _ _) _ _ s
  rw [← Array.forIn_toList]
  refine wpAny_forIn_list _ (fun rest r s' => r.1 = none ∧ s' = s ∧ ∀ v ∈ rest, carriedByValue v = true) _ ?_ ?_ _ _ ⟨rfl, rfl, it.byValue⟩
  · rintro v rest r s' ⟨r0, rfl, all⟩
    rw [eqIsQuiet_byValue n (all v List.mem_cons_self)]
    apply wpAny_bind
    apply wpAny_pure
    simp only [Bool.not_true, Bool.false_eq_true, if_false]
    exact wpAny_pure ⟨rfl, rfl, fun u hu => all u (List.mem_cons_of_mem _ hu)⟩
  · rintro ⟨r1, r2⟩ s' ⟨r0, rfl, _⟩
    simp only at r0
    subst r0
    exact wpAny_pure q
theorem pair_quiet {k : PK} {a : Addr} {Q : Bool → Shared → Prop} (x : PairAt P w s.heap k a) (q : Q true s) : wpAny (model P w) A (eqIsQuiet 8 (.ref a)) Q E s := by
  have ty := x.ty
  obtain ⟨oa, arr, n, b, t, g, c, da, e, z⟩ := x.ex
  unfold eqIsQuiet
  apply wpAny_bind
  apply wpAny_specialOf ty F.slot_tuple_eq.lookup
  show wpAny _ _ (isInstance (.ref a) (.type "tuple") >>= _) _ _ s
  apply wpAny_bind
  apply wpAny_isInstance ty isSubtype_tuple_tuple
  simp only [Bool.not_true, Bool.false_eq_true, if_false]
  apply wpAny_bind
  apply wpAny_seqItems g da
  apply wpAny_bind
  show wpAny _ _ (forIn arr _ _) _ _ s
  rw [← Array.forIn_toList, e]
  refine wpAny_forIn_list _ (fun rest r s' => r.1 = none ∧ s' = s ∧ ∀ v ∈ rest, v = .int k.1 t ∨ v = .ref b) _ ?_ ?_ _ _ ⟨rfl, rfl, by simp⟩
  · rintro v rest r s' ⟨r0, rfl, all⟩
    rcases all v List.mem_cons_self with rfl | rfl
    · rw [eqIsQuiet_byValue 7 (v := .int k.1 t) rfl]
      apply wpAny_bind
      apply wpAny_pure
      simp only [Bool.not_true, Bool.false_eq_true, if_false]
      exact wpAny_pure ⟨rfl, rfl, fun u hu => all u (List.mem_cons_of_mem _ hu)⟩
    · apply wpAny_bind
      apply quiet_row (n := 6) z
      simp only [Bool.not_true, Bool.false_eq_true, if_false]
      exact wpAny_pure ⟨rfl, rfl, fun u hu => all u (List.mem_cons_of_mem _ hu)⟩
  · rintro ⟨r1, r2⟩ s' ⟨r0, rfl, _⟩
    simp only at r0
    subst r0
    exact wpAny_pure q
def pairKind (P : Program) (w : World) : HeapKind P w PK where
  is := PairAt P w
  hash := pairHash P w
  draws := fun k => k.2.length + 3
  room := fun A => A.units + 9 < cLine
  inj := fun x y => x.one y
  keeps := fun x g d sb => x.stay g d sb
  pyHash := fun un x q => pair_hash (by omega) x q
  eqBool := fun un x y q => pair_eqBool un x y q
  quiet := fun x q => pair_quiet x q
end
end Y

namespace Y
open PySem PySem.Spec PyProof.Rows L2 Z
open C8 (tCut pss_cut Cal pe_c Met pe_mt pe_mt0 Mak pe_mk)
/-! ### dicts from marks (a flag, or a number with a tuple of numbers) to numbers -/
inductive Mk where
  | b (x : Bool)
  | p (k : PK)
  deriving DecidableEq
def Mk.pair : Mk → Bool
  | .b _ => false
  | .p _ => true
/-- a value that is a mark -/
def IsMk (H : Hp) (v : V) : Mk → Prop
  | .b x => v = .bl x
  | .p k => ∃ a b, v = .ref a ∧ H a = some (.tup [.int k.1, .ref b]) ∧ H b = some (.tup (k.2.map V.int))
def BV (p : Bool × Int) (q : Bool × Value) : Prop := p.1 = q.1 ∧ RelV (.int p.2) q.2
def PV (p : PK × Addr × Int) (q : PK × Addr × Value) : Prop := p.1 = q.1 ∧ p.2.1 = q.2.1 ∧ RelV (.int p.2.2) q.2.2
def boolO (P : Program) (w : World) (d : Addr) (bs : List (Bool × Int)) : HO := .ext fun h => bs.length ≤ sizeLine ∧ (d == sysModules) = false ∧ ∃ vs, Paired BV bs vs ∧ h.DictOf (PpSet.boolK P w) d vs
def pairO (P : Program) (w : World) (d : Addr) (ps : List (PK × Addr × Int)) : HO := .ext fun h => ps.length ≤ sizeLine ∧ (d == sysModules) = false ∧ ∃ xs, Paired PV ps xs ∧
  ∃ o es ep, h.get? d = some o ∧ o.ExactDict ∧ o.data = .dict es ep ∧ es.toList = xs.map (entryOfKey (pairKind P w)) ∧ (xs.map (·.1)).Nodup
def bEs (bs : List (Bool × Int)) : List (Mk × Int) := bs.map fun p => (.b p.1, p.2)
def pEs (ps : List (PK × Addr × Int)) : List (Mk × Int) := ps.map fun q => (.p q.1, q.2.2)
def PairH (H : Hp) (k : PK) (a : Addr) : Prop := ∃ b, H a = some (.tup [.int k.1, .ref b]) ∧ H b = some (.tup (k.2.map V.int))
/-- the dict at d, of flags or of pairs -/
def MD (P : Program) (w : World) (pr : Bool) (H : Hp) (d : Addr) (es : List (Mk × Int)) : Prop :=
  (es = [] ∧ H d = some (.dK [])) ∨ (pr = false ∧ ∃ bs, es = bEs bs ∧ H d = some (boolO P w d bs)) ∨ (pr = true ∧ ∃ ps, es = pEs ps ∧ H d = some (pairO P w d ps) ∧ ∀ q ∈ ps, PairH H q.1 q.2.1)
theorem MD.get {P : Program} {w : World} {pr : Bool} {H : Hp} {d : Addr} {es : List (Mk × Int)} (m : MD P w pr H d es) : ∃ o, H d = some o ∧ Mut (some o) := by
  rcases m with ⟨_, e⟩ | ⟨_, bs, _, e⟩ | ⟨_, ps, _, e, _⟩
  · exact ⟨_, e, trivial⟩
  · exact ⟨_, e, trivial⟩
  · exact ⟨_, e, trivial⟩
theorem MD.same {P : Program} {w : World} {pr : Bool} {H H' : Hp} {d : Addr} {es : List (Mk × Int)} (s : Same H H') (m : MD P w pr H d es) : MD P w pr H' d es := by
  rcases m with ⟨h, e⟩ | ⟨h, bs, h2, e⟩ | ⟨h, ps, h2, e, h3⟩
  · exact .inl ⟨h, s _ _ e⟩
  · exact .inr (.inl ⟨h, bs, h2, s _ _ e⟩)
  · exact .inr (.inr ⟨h, ps, h2, s _ _ e, fun q hq => by obtain ⟨b, e1, e2⟩ := h3 q hq; exact ⟨b, s _ _ e1, s _ _ e2⟩⟩)
/-- .. when another thing than a tuple is changed -/
theorem MD.other {P : Program} {w : World} {pr : Bool} {H : Hp} {d x : Addr} {o u : HO} {es : List (Mk × Int)} (m : MD P w pr H d es) (hx : H x = some u) (nt : ∀ xs, u ≠ .tup xs) (nd : d ≠ x) : MD P w pr (upd H x o) d es := by
  rcases m with ⟨h, e⟩ | ⟨h, bs, h2, e⟩ | ⟨h, ps, h2, e, h3⟩
  · exact .inl ⟨h, by rw [upd_ne nd]; exact e⟩
  · exact .inr (.inl ⟨h, bs, h2, by rw [upd_ne nd]; exact e⟩)
  · refine .inr (.inr ⟨h, ps, h2, by rw [upd_ne nd]; exact e, fun q hq => ?_⟩)
    obtain ⟨b, e1, e2⟩ := h3 q hq
    exact ⟨b, by rw [upd_ne (fun z => by subst z; rw [hx] at e1; cases e1; exact nt _ rfl)]; exact e1, by rw [upd_ne (fun z => by subst z; rw [hx] at e2; cases e2; exact nt _ rfl)]; exact e2⟩
def look (es : List (Mk × Int)) (k : Mk) : Option Int := (es.find? fun e => decide (e.1 = k)).map (·.2)
section
variable {X : Cx} {pins : List (Addr × Obj)} {σ : L2.St} {H : Hp} {s : Shared}
theorem b_look {bs : List (Bool × Int)} {vs : List (Bool × Value)} (r : Paired BV bs vs) (k : Bool) : (∃ n v, look (bEs bs) (.b k) = some n ∧ valueAt vs k = some v ∧ RelV (.int n) v) ∨ (look (bEs bs) (.b k) = none ∧ valueAt vs k = none) := by
  induction r with
  | nil => exact .inr ⟨rfl, rfl⟩
  | @cons p q bs vs h _ ih =>
    obtain ⟨h1, h2⟩ := h
    by_cases z : p.1 = k
    · refine .inl ⟨p.2, q.2, ?_, ?_, h2⟩
      · show ((((Mk.b p.1, p.2) :: bEs bs).find? fun e => decide (e.1 = Mk.b k)).map (·.2)) = _
        rw [List.find?_cons_of_pos (by simp [z])]; rfl
      · show (((q :: vs).find? fun kv => kv.1 = k).map (·.2)) = _
        rw [List.find?_cons_of_pos (by simp [← h1, z])]; rfl
    · have e1 : look (bEs (p :: bs)) (.b k) = look (bEs bs) (.b k) := by
        show ((((Mk.b p.1, p.2) :: bEs bs).find? fun e => decide (e.1 = Mk.b k)).map (·.2)) = _
        rw [List.find?_cons_of_neg (by simp [z])]; rfl
      have e2 : valueAt (q :: vs) k = valueAt vs k := by
        show (((q :: vs).find? fun kv => kv.1 = k).map (·.2)) = _
        rw [List.find?_cons_of_neg (by simp [← h1, z])]; rfl
      rw [e1, e2]; exact ih
theorem p_look {ps : List (PK × Addr × Int)} {xs : List (PK × Addr × Value)} (r : Paired PV ps xs) (k : PK) : (∃ n a v, look (pEs ps) (.p k) = some n ∧ atKey xs k = some (a, v) ∧ RelV (.int n) v) ∨ (look (pEs ps) (.p k) = none ∧ atKey xs k = none) := by
  induction r with
  | nil => exact .inr ⟨rfl, rfl⟩
  | @cons p q bs vs h _ ih =>
    obtain ⟨h1, _, h2⟩ := h
    by_cases z : p.1 = k
    · refine .inl ⟨p.2.2, q.2.1, q.2.2, ?_, ?_, h2⟩
      · show ((((Mk.p p.1, p.2.2) :: pEs bs).find? fun e => decide (e.1 = Mk.p k)).map (·.2)) = _
        rw [List.find?_cons_of_pos (by simp [z])]; rfl
      · show (((q :: vs).find? fun x => decide (x.1 = k)).map (·.2)) = _
        rw [List.find?_cons_of_pos (by simp [← h1, z])]; rfl
    · have e1 : look (pEs (p :: bs)) (.p k) = look (pEs bs) (.p k) := by
        show ((((Mk.p p.1, p.2.2) :: pEs bs).find? fun e => decide (e.1 = Mk.p k)).map (·.2)) = _
        rw [List.find?_cons_of_neg (by simp [z])]; rfl
      have e2 : atKey (q :: vs) k = atKey vs k := by
        show (((q :: vs).find? fun x => decide (x.1 = k)).map (·.2)) = _
        rw [List.find?_cons_of_neg (by simp [← h1, z])]; rfl
      rw [e1, e2]; exact ih
theorem b_view {d : Addr} {es : List (Mk × Int)} (I : Inv X pins σ H s) (m : MD X.prog X.w false H d es) : (d == sysModules) = false ∧ ∃ bs vs, es = bEs bs ∧ bs.length ≤ sizeLine ∧ Paired BV bs vs ∧ s.heap.DictOf (PpSet.boolK X.prog X.w) d vs := by
  rcases m with ⟨h, e⟩ | ⟨_, bs, h2, e⟩ | ⟨h, _⟩
  · obtain ⟨_, low, vs, r, o, es', ep, g, x, dd, kk, pp, nn⟩ := I.hok _ _ e
    cases r
    refine ⟨low, [], [], h, Nat.zero_le _, .nil, o, es', ep, g, x, dd, ?_, ?_, List.nodup_nil⟩
    · intro q hq
      have hz : es'.toList = [] := List.eq_nil_of_length_eq_zero (by rw [pp.length]; rfl)
      have : q ∈ es'.toList := by simpa using hq
      rw [hz] at this; cases this
    · have hz : es'.toList = [] := List.eq_nil_of_length_eq_zero (by rw [pp.length]; rfl)
      rw [hz]; exact .nil
  · obtain ⟨⟨l, low, vs, r, dd⟩, _⟩ := I.hok _ _ e
    exact ⟨low, bs, vs, h2, l, r, dd⟩
  · cases h
theorem p_view {d : Addr} {es : List (Mk × Int)} (I : Inv X pins σ H s) (m : MD X.prog X.w true H d es) : (d == sysModules) = false ∧ ∃ ps xs, es = pEs ps ∧ ps.length ≤ sizeLine ∧ Paired PV ps xs ∧ (∀ q ∈ ps, PairH H q.1 q.2.1) ∧ s.heap.DictOfH (pairKind X.prog X.w) d xs := by
  have at_ : ∀ {k : PK} {a : Addr}, PairH H k a → PairAt X.prog X.w s.heap k a := fun {k a} ⟨b, e1, e2⟩ => by
    obtain ⟨_, its, rv, o, g, c, n, dd⟩ := I.hok _ _ e1
    obtain ⟨_, its2, rv2, o2, g2, c2, n2, dd2⟩ := I.hok _ _ e2
    cases rv with
    | cons r1 rr =>
      cases rr with
      | cons r2 rr =>
        cases rr
        obtain ⟨t, rfl⟩ := r1
        cases (r2 : _ = Value.ref b)
        refine ⟨o, _, n, b, t, g, c, dd, by simp, o2, _, n2, g2, c2, dd2, ?_⟩
        have : ∀ (l : List Int) (vs : List Value), Vals (l.map V.int) vs → ItemsAre (intKind X.prog X.w) l vs := by
          intro l
          induction l with
          | nil => intro vs r; cases r; exact .nil
          | cons z l ih =>
            intro vs r
            cases r with
            | cons r1 r2 =>
              obtain ⟨t, rfl⟩ := r1
              exact .cons (int_is (P := X.prog) (w := X.w) z t) (ih _ r2)
        have := this _ _ rv2
        simpa using this
  rcases m with ⟨h, e⟩ | ⟨h, _⟩ | ⟨_, ps, h2, e, h3⟩
  · obtain ⟨_, low, vs, r, o, es', ep, g, x, dd, kk, pp, nn⟩ := I.hok _ _ e
    cases r
    refine ⟨low, [], [], h, Nat.zero_le _, .nil, by simp, o, es', ep, g, x, dd, ?_, by simp, List.nodup_nil⟩
    exact List.eq_nil_of_length_eq_zero (by rw [pp.length]; rfl)
  · cases h
  · obtain ⟨⟨l, low, xs, r, o, es', ep, g, x, dd, ee, nn⟩, _⟩ := I.hok _ _ e
    refine ⟨low, ps, xs, h2, l, r, h3, o, es', ep, g, x, dd, ee, fun y hy => ?_, nn⟩
    obtain ⟨i, hi, rfl⟩ := List.getElem_of_mem hy
    have hl := Paired.length r
    obtain ⟨z1, z2, _⟩ : PV (ps[i]'(by omega)) xs[i] := by
      have : ∀ {a : List (PK × Addr × Int)} {b : List (PK × Addr × Value)} (r : Paired PV a b) (i : Nat) (h1 : i < a.length) (h2 : i < b.length), PV a[i] b[i] := by
        intro a b r
        induction r with
        | nil => intro i h1; simp at h1
        | cons h _ ih =>
          intro i h1 h2
          cases i with
          | zero => exact h
          | succ i => exact ih i (by simpa using h1) (by simpa using h2)
      exact this r i (by omega) hi
    have := at_ (h3 _ (List.getElem_mem (by omega : i < ps.length)))
    rw [z1, z2] at this
    exact this
theorem key_at {k : PK} {v : V} {u : Value} (I : Inv X pins σ H s) (m : IsMk H v (.p k)) (r : RelV v u) : ∃ a, u = .ref a ∧ v = .ref a ∧ PairH H k a ∧ PairAt X.prog X.w s.heap k a := by
  obtain ⟨a, b, rfl, e1, e2⟩ := m
  cases (r : u = Value.ref a)
  refine ⟨a, rfl, rfl, ⟨b, e1, e2⟩, ?_⟩
  obtain ⟨_, its, rv, o, g, c, n, dd⟩ := I.hok _ _ e1
  obtain ⟨_, its2, rv2, o2, g2, c2, n2, dd2⟩ := I.hok _ _ e2
  cases rv with
  | cons r1 rr =>
    cases rr with
    | cons r2 rr =>
      cases rr
      obtain ⟨t, rfl⟩ := r1
      cases (r2 : _ = Value.ref b)
      refine ⟨o, _, n, b, t, g, c, dd, by simp, o2, _, n2, g2, c2, dd2, ?_⟩
      have go : ∀ (l : List Int) (vs : List Value), Vals (l.map V.int) vs → ItemsAre (intKind X.prog X.w) l vs := by
        intro l
        induction l with
        | nil => intro vs r; cases r; exact .nil
        | cons z l ih =>
          intro vs r
          cases r with
          | cons r1 r2 =>
            obtain ⟨t, rfl⟩ := r1
            exact .cons (int_is (P := X.prog) (w := X.w) z t) (ih _ r2)
      have := go _ _ rv2
      simpa using this
end
/-- mark not in numbers -/
def rMNot (P : Program) (w : World) : R2 := fun x y H Q => ∃ d es k, y = .ref d ∧ MD P w k.pair H d es ∧ IsMk H x k ∧ Q (.bl (!(look es k).isSome)) H
theorem op_notInM {X : Cx} (hu : X.A.units + 64 < cLine) : OpR X (compareOp .NotIn) (rMNot X.prog X.w) := by
  intro pins s σ H x y v u Q I rx ry h
  obtain ⟨d, es, k, rfl, m, km, q⟩ := h
  cases (ry : u = Value.ref d)
  cases k with
  | b k =>
    cases (km : x = .bl k)
    cases (rx : v = Value.bool k)
    obtain ⟨low, bs, vs, rfl, l, r, dd⟩ := b_view I m
    refine wpAny_notIn_of (PpSet.boolK_is X.prog X.w k) low dd.mapOf ?_
    refine ⟨.bl (!(look (bEs bs) (.b k)).isSome), H, I.tok _, ?_, q⟩
    rcases b_look r k with ⟨n, v, e1, e2, _⟩ | ⟨e1, e2⟩
    · rw [e1, e2]; rfl
    · rw [e1, e2]; rfl
  | p k =>
    obtain ⟨a, rfl, rfl, _, ka⟩ := key_at I km rx
    obtain ⟨low, ps, xs, rfl, l, r, h3, dd⟩ := p_view I m
    refine wpAny_notIn_heap (knd := pairKind X.prog X.w) (by show X.A.units + 1 + 9 < cLine; omega) ka low dd ?_
    refine ⟨.bl (!(look (pEs ps) (.p k)).isSome), H, I.tok _, ?_, q⟩
    rcases p_look r k with ⟨n, b, v, e1, e2, _⟩ | ⟨e1, e2⟩
    · rw [e1, e2]; rfl
    · rw [e1, e2]; rfl
/-- numbers[mark] -/
def rMGet (P : Program) (w : World) : R2 := fun x y H Q => ∃ d es k n, x = .ref d ∧ MD P w k.pair H d es ∧ IsMk H y k ∧ look es k = some n ∧ Q (.int n) H
theorem ix_mark {X : Cx} (hu : X.A.units + 64 < cLine) : IxR X (rMGet X.prog X.w) := by
  intro value slice pins s σ H x y v u Q I rx ry h hs
  obtain ⟨d, es, k, n, rfl, m, km, lk, q⟩ := h
  cases (rx : v = Value.ref d)
  cases k with
  | b k =>
    cases (km : y = .bl k)
    cases (ry : u = Value.bool k)
    obtain ⟨low, bs, vs, rfl, l, r, dd⟩ := b_view I m
    rcases b_look r k with ⟨n', v, e1, e2, rv⟩ | ⟨e1, e2⟩
    · rw [e1] at lk; cases lk
      refine subscriptTail_builtinR (x := v) dd.typeIs PySem.F.slot_dict_getitem.lookup ?_ hs
      exact wpAny_getItem_of (PpSet.boolK_is X.prog X.w k) dd.mapOf e2 ⟨rfl, .int n, H, I.tok _, rv, q⟩
    · rw [e1] at lk; cases lk
  | p k =>
    obtain ⟨a, rfl, rfl, _, ka⟩ := key_at I km ry
    obtain ⟨low, ps, xs, rfl, l, r, h3, dd⟩ := p_view I m
    rcases p_look r k with ⟨n', b, v, e1, e2, rv⟩ | ⟨e1, e2⟩
    · rw [e1] at lk; cases lk
      refine subscriptTail_builtinR (x := v) dd.typeIs PySem.F.slot_dict_getitem.lookup ?_ hs
      exact wpAny_getItem_heap (knd := pairKind X.prog X.w) (by show X.A.units + 1 + 9 < cLine; omega) ka dd e2 ⟨rfl, .int n, H, I.tok _, rv, q⟩
    · rw [e1] at lk; cases lk
theorem pairH_upd {H : Hp} {d a : Addr} {o : HO} {k : PK} (mu : Mut (H d)) (h : PairH H k a) : PairH (upd H d o) k a := by
  obtain ⟨b, e1, e2⟩ := h
  have ne : ∀ {c : Addr} {xs : List V}, H c = some (.tup xs) → c ≠ d := fun {c xs} e z => by
    subst z
    rw [e] at mu
    exact mu
  exact ⟨b, by rw [upd_ne (ne e1)]; exact e1, by rw [upd_ne (ne e2)]; exact e2⟩
/-- numbers[mark] = n, a new mark -/
def rMSet (P : Program) (w : World) : V → V → V → Hp → (Hp → Prop) → Prop := fun o i v H Q => ∃ d es k n, o = .ref d ∧ v = .int n ∧ MD P w k.pair H d es ∧ IsMk H i k ∧ look es k = none ∧ es.length < 90000 ∧ ∀ o', MD P w k.pair (upd H d o') d (es ++ [(k, n)]) → Q (upd H d o')
theorem paired_snoc {α β : Type} {R : α → β → Prop} {xs : List α} {ys : List β} {x : α} {y : β} (r : Paired R xs ys) (h : R x y) : Paired R (xs ++ [x]) (ys ++ [y]) := by
  induction r with
  | nil => exact .cons h .nil
  | cons a _ ih => exact .cons a ih
theorem set_mark {X : Cx} (hu : X.A.units + 64 < cLine) : PSet X (rMSet X.prog X.w) := by
  intro pins s σ H o i v ov iv u Q I ro ri rv h
  obtain ⟨d, es, k, n, rfl, rfl, m, km, lk, le, q⟩ := h
  cases (ro : ov = Value.ref d)
  obtain ⟨o0, eo, mu⟩ := m.get
  have mu' : Mut (H d) := by rw [eo]; exact mu
  cases k with
  | b k =>
    cases (km : i = .bl k)
    cases (ri : iv = Value.bool k)
    obtain ⟨low, bs, vs, rfl, l, r, dd⟩ := b_view I m
    rcases b_look r k with ⟨n', v, e1, e2, _⟩ | ⟨e1, e2⟩
    · rw [e1] at lk; cases lk
    have lb : bs.length < 90000 := by rw [show (bEs bs).length = bs.length from List.length_map ..] at le; exact le
    have hz : vs.length ≤ sizeLine := by rw [← Paired.length r]; exact l
    have hst : stored vs k u = vs ++ [(k, u)] := by
      unfold stored
      rw [if_neg]
      intro z
      obtain ⟨p, hp, h2⟩ := List.any_eq_true.mp z
      unfold valueAt at e2
      rw [Option.map_eq_none_iff, List.find?_eq_none] at e2
      exact e2 p hp h2
    refine wpAny_setItem_pairs (hsz := hz) (PpSet.boolK_is X.prog X.w k) dd fun h' dd' sb => ?_
    rw [hst] at dd'
    have r' : Paired BV (bs ++ [(k, n)]) (vs ++ [(k, u)]) := paired_snoc r ⟨rfl, rv⟩
    have new : ObjOk X.prog X.w (upd H d (boolO X.prog X.w d (bs ++ [(k, n)]))) h' d (boolO X.prog X.w d (bs ++ [(k, n)])) := by
      refine ⟨⟨by rw [List.length_append]; exact le_line (by simp; omega), low, _, r', dd'⟩, (by obtain ⟨o1, _, _, g, _⟩ := dd'; exact ⟨o1, g⟩), fun h1 h2 ⟨z1, z2, vs1, z3, z4⟩ st => ⟨z1, z2, vs1, z3, z4.at st⟩⟩
    refine ⟨_, I.write (x := d) (e := d) (t' := s.toks + 1) mu' (.inl rfl) (fun b q hb z => (sb.2 b hb).trans z) (by obtain ⟨o1, _, _, g, _⟩ := dd'; exact ⟨o1, g⟩) new, q _ ?_⟩
    refine .inr (.inl ⟨rfl, bs ++ [(k, n)], ?_, upd_same⟩)
    unfold bEs; rw [List.map_append]; rfl
  | p k =>
    obtain ⟨a, rfl, rfl, ph, ka⟩ := key_at I km ri
    obtain ⟨low, ps, xs, rfl, l, r, h3, dd⟩ := p_view I m
    rcases p_look r k with ⟨n', b, v, e1, e2, _⟩ | ⟨e1, e2⟩
    · rw [e1] at lk; cases lk
    have lb : ps.length < 90000 := by rw [show (pEs ps).length = ps.length from List.length_map ..] at le; exact le
    have hz : xs.length ≤ sizeLine := by rw [← Paired.length r]; exact l
    refine wpAny_setItem_heap (knd := pairKind X.prog X.w) (hsz := hz) (by show X.A.units + 1 + 9 < cLine; omega) ka dd fun h' dd' sb => ?_
    rw [storedH_new e2] at dd'
    obtain ⟨o1, es', ep, g, x1, d1, ee, _, nn⟩ := dd'
    have r' : Paired PV (ps ++ [(k, a, n)]) (xs ++ [(k, a, u)]) := paired_snoc r ⟨rfl, rfl, rv⟩
    have new : ObjOk X.prog X.w (upd H d (pairO X.prog X.w d (ps ++ [(k, a, n)]))) h' d (pairO X.prog X.w d (ps ++ [(k, a, n)])) := by
      refine ⟨⟨by rw [List.length_append]; exact le_line (by simp; omega), low, _, r', o1, es', ep, g, x1, d1, ee, nn⟩, ⟨o1, g⟩, fun h1 h2 ⟨z1, z2, xs1, z3, o2, es2, ep2, g2, x2, d2, ee2, nn2⟩ st => ⟨z1, z2, xs1, z3, o2, es2, ep2, st _ g2, x2, d2, ee2, nn2⟩⟩
    refine ⟨_, I.write (x := d) (e := d) mu' (.inl rfl) (fun b q hb z => (sb.2 b hb).trans z) ⟨o1, g⟩ new, q _ ?_⟩
    refine .inr (.inr ⟨rfl, ps ++ [(k, a, n)], ?_, upd_same, fun p hp => ?_⟩)
    · unfold pEs; rw [List.map_append]; rfl
    · rcases List.mem_append.mp hp with z | z
      · exact pairH_upd mu' (h3 p z)
      · rw [List.mem_singleton.mp z]; exact pairH_upd mu' ph
section
variable {P : Program} {w : World} {A : Around} {E : Value → Shared → Prop} {s : Shared}
theorem size_meets (d : Addr) (low : (d == sysModules) = false) : MeetsIn P w (Builtin.«dict.__len__» ⟨[.ref d], []⟩) (fun _ R s => ∃ (o : Obj) (es : Array DictEntry) (ep : Nat), s.heap.get? d = some o ∧ o.data = .dict es ep ∧ R (.ok (.ret (.int es.size s.toks))) { s with toks := s.toks + 1 }) :=
  .of_wp fun A R s ⟨o, es, ep, g, dd, h⟩ => by
    show wpAny _ _ (dictSize d >>= _) _ _ s
    unfold dictSize
    apply wpAny_bind
    apply wpAny_bind
    apply wpAny_dictEntries g dd
    apply wpAny_pure
    show wpAny _ _ (Builtin.Dict.pendingCount d >>= _) _ _ s
    apply wpAny_bind
    apply wpAny_pendingCount_other low
    apply wpAny_ret_mkInt
    rw [Nat.add_zero]; exact h
theorem len_any {d : Addr} {o : Obj} {es : Array DictEntry} {ep : Nat} {Q : Value → Shared → Prop} (low : (d == sysModules) = false) (g : s.heap.get? d = some o) (x : o.ExactDict) (dd : o.data = .dict es ep) (fit : es.size < 2 ^ 60)
    (h : Q (.int es.size (s.toks + 1)) { s with toks := s.toks + 1 + 1 }) : wpAny (model P w) A (call (.builtin "len") [.ref d]) Q E s := by
  have ty : s.TypeIs (.ref d) "dict" := ⟨o, g, x.1⟩
  refine Calls.call_function_entry kind_len plain_len entry_len (args_len1 _) ?_
  unfold Builtin.«len»
  refine wpAny_bind (m := oneArg "len" _) (wpAny_pure ?_)
  apply wpAny_bind (m := callSpecial? (.ref d) (Str.ofString "__len__"))
  apply wpAny_callSpecial?_slot (name := Str.ofString "__len__") ty F.slot_dict_len
  apply call_meetsIn F.slot_dict_len ty F.entry_dict_len (F.args_dict_len_1 _) (size_meets d low)
  refine ⟨o, es, ep, g, dd, ?_⟩
  show wpAny _ _ _ _ _ { s with toks := s.toks + 1 }
  refine wpAny_bind (wpAny_holding (wpAny_pure ?_))
  apply wpAny_bind
  apply wpAny_letGo
  show wpAny _ _ (if ((es.size : Nat) : Int) < 0 then _ else _) _ _ _
  rw [if_neg (by omega)]
  show wpAny _ _ (if ((es.size : Nat) : Int) ≥ 2 ^ 63 then _ else _) _ _ _
  rw [if_neg (by omega)]
  exact wpAny_bind (wpAny_mkInt (wpAny_pure ⟨_, rfl, h⟩))
end
/-- len(numbers) -/
def rMLen (P : Program) (w : World) : List V → Hp → VK → Prop := fun xs H Q => ∃ d es pr, xs = [.ref d] ∧ MD P w pr H d es ∧ Q (.int es.length) H
theorem call_lenM {X : Cx} : CallR X (.builtin "len") (rMLen X.prog X.w) := by
  intro pins s σ H xs us Q I r h
  obtain ⟨d, es, pr, rfl, m, q⟩ := h
  obtain ⟨u, rfl, ru⟩ := vals1 r
  cases (ru : u = Value.ref d)
  have big : (90001 : Nat) < 2 ^ 60 := by decide
  have hs : sizeLine < 2 ^ 60 := by decide
  cases pr with
  | false =>
    obtain ⟨low, bs, vs, rfl, l, r, o, es', ep, g, x, dd, kk, pp, nn⟩ := b_view I m
    have e : es'.size = (bEs bs).length := by
      have h1 := pp.length
      rw [Array.length_toList] at h1
      rw [h1, ← Paired.length r]; exact (List.length_map ..).symm
    have e2 : (bEs bs).length = bs.length := List.length_map ..
    refine len_any low g x dd (by omega) ⟨.int (bEs bs).length, H, I.tok _, ⟨_, by rw [e]⟩, q⟩
  | true =>
    obtain ⟨low, ps, xs, rfl, l, r, h3, o, es', ep, g, x, dd, ee, _, nn⟩ := p_view I m
    have e : es'.size = (pEs ps).length := by
      have h1 := congrArg List.length ee
      rw [Array.length_toList, List.length_map] at h1
      rw [h1, ← Paired.length r]; exact (List.length_map ..).symm
    have e2 : (pEs ps).length = ps.length := List.length_map ..
    refine len_any low g x dd (by omega) ⟨.int (pEs ps).length, H, I.tok _, ⟨_, by rw [e]⟩, q⟩
end Y

namespace Y
open PySem PySem.Spec PyProof.Rows L2 Z
open C8 (tCut pss_cut Cal pe_c Met pe_mt pe_mt0 Mak pe_mk)
/-! ### list(d.values()), defaults -/
theorem pair_at {κ : Type} {xs : List (κ × V)} {ys : List (κ × Value)} (r : KV xs ys) : ∀ {j : Nat} {k : κ} {y : Value}, ys[j]? = some (k, y) → ∃ z, xs[j]? = some (k, z) ∧ RelV z y := by
  have r : Paired (fun (p : κ × V) (q : κ × Value) => p.1 = q.1 ∧ RelV p.2 q.2) xs ys := r
  induction r with
  | nil => intro j k y h; simp at h
  | @cons p q a b h _ ih =>
    intro j k y hj
    cases j with
    | zero =>
      simp at hj
      subst hj
      exact ⟨p.2, by rw [List.getElem?_cons_zero]; exact congrArg some (Prod.ext h.1 rfl), h.2⟩
    | succ j => exact ih (by assumption) (by simpa using hj)
def tListVals (te : TE) : TE := fun σ H Q => te σ H fun x H1 => ∃ (d : Addr) (kvs : List (Key × V)), x = .ref d ∧ H1 d = some (.dK kvs) ∧ ∀ p, H1 p = none → Q (.ref p) (upd H1 p (.lst (kvs.map (·.2))))
theorem pe_listVals {X : Cx} {e : Expr} {te : TE} {p apos cpos pos : Pos} (hc : X.calm = true) (he : PE X e te) (hg : Gl X "list") (hm : X.mg "list" = none) (hv : bootBuiltins "list" = some (.type "list")) (hbase : attributeBase e "values" X.env (eval e X.env) = eval e X.env := by rfl) (hline : (apos.endLine == cpos.line) = true := by rfl)
    (hs : starEach [.Call (.Attribute e "values" apos) [] [] cpos] X.env = (false, eval (.Call (.Attribute e "values" apos) [] [] cpos) X.env) :: starEach [] X.env := by rfl) :
    PE X (.Call (.Name "list" p) [.Call (.Attribute e "values" apos) [] [] cpos] [] pos) (tListVals te) := by
  constructor
  intro pins s σ H Q I hq
  apply wpAny_Call_Name_kw (ld_blt I hg hm hv ?_)
  apply PyProof.Rows.callWith_type1 ?_ hs rfl
  rw [hs]
  show wpAny _ _ (spliced ((false, eval (.Call (.Attribute e "values" apos) [] [] cpos) X.env) :: backTo pos (starEach [] X.env))) _ _ s
  apply Calls.spliced_cons
  apply wpAny_Call_method (T := "dict") (id := "dict.values") hbase rfl hline F.plainAttrs_dict F.slot_dict_values F.type_dict_values (thn (he.run pins s σ H _ I hq) ?_)
  rintro u s1 ⟨x, H1, I1, rx, d, kvs, rfl, hd, q⟩
  cases (rx : u = Value.ref d)
  obtain ⟨hz, low, vs, kv, dof⟩ := I1.hok d _ hd
  obtain ⟨ep, hat⟩ := dof.dictAt
  have hl : kvs.length = vs.length := Paired.length kv
  have grow : ∀ b ob, s1.heap.get? b = some ob → (s1.heap.push { cls := .type "dict_values", data := .fields #[.ref d] }).get? b = some ob := fun b ob z => Heap.get?_push_of_some _ z
  have I2 : Inv X pins σ H1 { s1 with heap := s1.heap.push { cls := .type "dict_values", data := .fields #[.ref d] } } := I1.kept (t' := s1.toks) grow
  refine ⟨dof.typeIs, dof.mapOf.noDict, ?_⟩
  show wpAny _ _ (callWith cpos (.builtin "dict.values") [.ref d] [] []) _ X.xe s1
  apply method_meetsIn F.slot_dict_values F.entry_dict_values rfl (PySem.evalArgs_none ?_)
  refine ⟨rfl, dof.typeIs, F.args_dict_values_1 _, _, meets_dict_values (mixKind X.prog X.w) d low, ⟨vs, dof⟩, ?_⟩
  apply Calls.spliced_nil
  refine PySem.W.kdl_call (PySem.W.kdl_values (knd := mixKind X.prog X.w) (r := s1.heap.objs.size) (d := d) (kvs := vs) (ep := ep)) (I1.ok.hd hc) ⟨⟨_, Heap.get?_push_size _ rfl, rfl, rfl⟩, hat.push _⟩ (by rw [← hl]; exact hz) fun h' tk acc c keep new its => ?_
  have fresh : H1 (s1.heap.push { cls := .type "dict_values", data := .fields #[.ref d] }).objs.size = none := I2.hok.fresh (Nat.le_refl _)
  refine ⟨.ref _, upd H1 (s1.heap.push { cls := .type "dict_values", data := .fields #[.ref d] }).objs.size (.lst (kvs.map (·.2))), I2.laid keep (Nat.le_refl _) ?_, rfl, q _ fresh⟩
  show ObjOk X.prog X.w _ _ _ (.lst (kvs.map (·.2)))
  refine ⟨by rw [List.length_map]; exact hz, acc.toList, c, ?_, by rw [Array.toArray_toList]; exact new⟩
  refine vals_of_at (by rw [List.length_map, Array.length_toList (xs := acc)]; have := its.1; omega) fun j x y h1 h2 => ?_
  obtain ⟨k, hk⟩ := its.2 j y (by rw [← Array.getElem?_toList]; exact h2)
  obtain ⟨z, g1, g2⟩ := pair_at kv hk
  rw [List.getElem?_map, g1] at h1
  cases h1
  exact g2
theorem i_listVals {te : TE} {σ : L2.St} {H : Hp} {Q : VK} (q : te σ H fun x H1 => ∃ (d : Addr) (kvs : List (Key × V)), x = .ref d ∧ H1 d = some (.dK kvs) ∧ ∀ p, H1 p = none → Q (.ref p) (upd H1 p (.lst (kvs.map (·.2))))) : tListVals te σ H Q := q
end Y

namespace Y
/-! ### the fewest states, on lists -/
section
variable {κ : Type} [DecidableEq κ]
theorem nodup_le : ∀ {l m : List κ}, l.Nodup → (∀ c ∈ l, c ∈ m) → l.length ≤ m.length
  | [], _, _, _ => Nat.zero_le _
  | a :: l, m, hn, hs => by
    have ha : a ∈ m := hs a List.mem_cons_self
    have hn' := List.nodup_cons.mp hn
    have ih := nodup_le (l := l) (m := m.erase a) hn'.2 fun c hc => (List.mem_erase_of_ne (show c ≠ a from fun e => hn'.1 (by rw [← e]; exact hc))).mpr (hs c (List.mem_cons_of_mem _ hc))
    have := List.length_erase_of_mem ha
    have h0 : 0 < m.length := List.length_pos_of_mem ha
    rw [List.length_cons]
    omega
/-- those whose key is new -/
def fsts (key : Nat → κ) (o : List Nat) : List Nat := o.foldl (fun rs s => if key s ∈ rs.map key then rs else rs ++ [s]) []
theorem fsts_snoc (key : Nat → κ) (o : List Nat) (s : Nat) : fsts key (o ++ [s]) = if key s ∈ (fsts key o).map key then fsts key o else fsts key o ++ [s] := by
  unfold fsts
  rw [List.foldl_append]; rfl
/-- a statement about a list, from its beginnings -/
theorem snoc_ind {α : Type} {p : List α → Prop} (h0 : p []) (h1 : ∀ l x, p l → p (l ++ [x])) (l : List α) : p l := by
  have : ∀ n (l : List α), l.length = n → p l := by
    intro n
    induction n with
    | zero => intro l hl; rw [List.eq_nil_of_length_eq_zero hl]; exact h0
    | succ n ih =>
      intro l hl
      have hne : l ≠ [] := fun e => by rw [e] at hl; cases hl
      rw [← List.dropLast_concat_getLast hne]
      exact h1 _ _ (ih _ (by rw [List.length_dropLast]; omega))
  exact this _ l rfl
theorem fsts_sub (key : Nat → κ) (o : List Nat) : ∀ r ∈ fsts key o, r ∈ o := by
  refine snoc_ind (p := fun o => ∀ r ∈ fsts key o, r ∈ o) (by simp [fsts]) (fun o s ih r hr => ?_) o
  rw [fsts_snoc] at hr
  split at hr
  · exact List.mem_append_left _ (ih r hr)
  · rcases List.mem_append.mp hr with h | h
    · exact List.mem_append_left _ (ih r h)
    · exact List.mem_append_right _ h
theorem fsts_all (key : Nat → κ) (o : List Nat) : ∀ s ∈ o, key s ∈ (fsts key o).map key := by
  refine snoc_ind (p := fun o => ∀ s ∈ o, key s ∈ (fsts key o).map key) (by simp) (fun o x ih s hs => ?_) o
  rw [fsts_snoc]
  split
  · rename_i h
    rcases List.mem_append.mp hs with z | z
    · exact ih s z
    · rw [List.mem_singleton.mp z]; exact h
  · rw [List.map_append]
    rcases List.mem_append.mp hs with z | z
    · exact List.mem_append_left _ (ih s z)
    · rw [List.mem_singleton.mp z]; exact List.mem_append_right _ (by simp)
theorem fsts_nd (key : Nat → κ) (o : List Nat) : ((fsts key o).map key).Nodup := by
  refine snoc_ind (p := fun o => ((fsts key o).map key).Nodup) (by simp [fsts]) (fun o x ih => ?_) o
  rw [fsts_snoc]
  split
  · exact ih
  · rename_i h
    rw [List.map_append]
    exact List.nodup_append.mpr ⟨ih, by simp, fun a ha b hb => by
      intro e
      have : b = key x := by simpa using hb
      rw [e, this] at ha
      exact h ha⟩
theorem fsts_pre (key : Nat → κ) (o : List Nat) (i : Nat) : fsts key (o.take i) <+: fsts key o := by
  have : ∀ a b : List Nat, fsts key a <+: fsts key (a ++ b) := by
    intro a b
    refine snoc_ind (p := fun b => fsts key a <+: fsts key (a ++ b)) (by rw [List.append_nil]; exact List.prefix_refl _) (fun b x ih => ?_) b
    rw [← List.append_assoc, fsts_snoc]
    split
    · exact ih
    · exact ih.trans (List.prefix_append _ _)
  have h := this (o.take i) (o.drop i)
  rwa [List.take_append_drop] at h
/-- the number of a key -/
def nb (key : Nat → κ) (o : List Nat) (s : Nat) : Nat := ((fsts key o).map key).idxOf (key s)
theorem nb_lt {key : Nat → κ} {o : List Nat} {s : Nat} (h : s ∈ o) : nb key o s < (fsts key o).length := by
  have := List.idxOf_lt_length_of_mem (fsts_all key o s h)
  rwa [List.length_map] at this
theorem nb_inj {key : Nat → κ} {o : List Nat} {s u : Nat} (hs : s ∈ o) : nb key o s = nb key o u ↔ key s = key u := by
  constructor
  · intro h
    have h1 := List.idxOf_lt_length_of_mem (fsts_all key o s hs)
    have e1 := List.getElem_idxOf h1
    unfold nb at h
    have h2 : ((fsts key o).map key).idxOf (key u) < ((fsts key o).map key).length := by rw [← h]; exact h1
    have e2 := List.getElem_idxOf h2
    rw [← e1, ← e2]
    congr 1
  · intro h
    unfold nb; rw [h]
theorem nb_take {key : Nat → κ} {o : List Nat} {s i : Nat} (h : s ∈ o.take i) : nb key (o.take i) s = nb key o s := by
  obtain ⟨r, hr⟩ := fsts_pre key o i
  unfold nb
  rw [← hr, List.map_append]
  rw [List.idxOf_append, if_pos (fsts_all key _ s h)]
/-- a new key takes the next number -/
theorem nb_new {key : Nat → κ} {o : List Nat} {s i : Nat} (hs : o[i]? = some s) (h : key s ∉ (fsts key (o.take i)).map key) : nb key o s = (fsts key (o.take i)).length ∧ fsts key (o.take (i + 1)) = fsts key (o.take i) ++ [s] := by
  have e : o.take (i + 1) = o.take i ++ [s] := by rw [List.take_add_one, hs]; rfl
  have e2 : fsts key (o.take (i + 1)) = fsts key (o.take i) ++ [s] := by rw [e, fsts_snoc, if_neg h]
  refine ⟨?_, e2⟩
  have hm : s ∈ o.take (i + 1) := by rw [e]; simp
  rw [← nb_take hm]
  unfold nb
  rw [e2, List.map_append, List.idxOf_append, if_neg h]
  simp
theorem nb_old {key : Nat → κ} {o : List Nat} {s i : Nat} (hs : o[i]? = some s) (h : key s ∈ (fsts key (o.take i)).map key) : nb key o s < (fsts key (o.take i)).length ∧ fsts key (o.take (i + 1)) = fsts key (o.take i) := by
  have e : o.take (i + 1) = o.take i ++ [s] := by rw [List.take_add_one, hs]; rfl
  have e2 : fsts key (o.take (i + 1)) = fsts key (o.take i) := by rw [e, fsts_snoc, if_pos h]
  refine ⟨?_, e2⟩
  have hm : s ∈ o.take (i + 1) := by rw [e]; simp
  rw [← nb_take hm]
  unfold nb
  rw [e2]
  have := List.idxOf_lt_length_of_mem h
  rwa [List.length_map] at this
end
section
variable {κ κ' : Type} [DecidableEq κ] [DecidableEq κ']
theorem fsts_congr {key : Nat → κ} {key' : Nat → κ'} {o : List Nat} (h : ∀ s ∈ o, ∀ u ∈ o, key s = key u ↔ key' s = key' u) : fsts key o = fsts key' o := by
  have : ∀ n, fsts key (o.take n) = fsts key' (o.take n) := by
    intro n
    induction n with
    | zero => rfl
    | succ n ih =>
      by_cases hn : n < o.length
      · have e : o.take (n + 1) = o.take n ++ [o[n]] := by rw [List.take_add_one, List.getElem?_eq_getElem hn]; rfl
        rw [e, fsts_snoc, fsts_snoc, ih]
        have hiff : key o[n] ∈ (fsts key' (o.take n)).map key ↔ key' o[n] ∈ (fsts key' (o.take n)).map key' := by
          rw [List.mem_map, List.mem_map]
          constructor
          · rintro ⟨r, hr, e⟩
            exact ⟨r, hr, (h r (List.mem_of_mem_take (fsts_sub _ _ r hr)) _ (List.getElem_mem hn)).mp e⟩
          · rintro ⟨r, hr, e⟩
            exact ⟨r, hr, (h r (List.mem_of_mem_take (fsts_sub _ _ r hr)) _ (List.getElem_mem hn)).mpr e⟩
        by_cases hc : key o[n] ∈ (fsts key' (o.take n)).map key
        · rw [if_pos hc, if_pos (hiff.mp hc)]
        · rw [if_neg hc, if_neg fun z => hc (hiff.mpr z)]
      · rw [List.take_of_length_le (by omega)]
        rw [List.take_of_length_le (by omega)] at ih
        exact ih
  have h2 := this o.length
  rwa [List.take_length] at h2
theorem idx_map {α : Type} {f : α → κ} : ∀ (l : List α) (c : κ), (l.map f).idxOf c = l.findIdx fun x => decide (f x = c)
  | [], _ => rfl
  | x :: l, c => by
    rw [List.map_cons, List.idxOf_cons, List.findIdx_cons, idx_map l c]
    rfl
theorem find_congr {α : Type} {p q : α → Bool} : ∀ (l : List α), (∀ x ∈ l, p x = q x) → l.findIdx p = l.findIdx q
  | [], _ => rfl
  | x :: l, h => by
    rw [List.findIdx_cons, List.findIdx_cons, h x List.mem_cons_self, find_congr l fun y hy => h y (List.mem_cons_of_mem _ hy)]
theorem nb_congr {key : Nat → κ} {key' : Nat → κ'} {o : List Nat} (h : ∀ s ∈ o, ∀ u ∈ o, key s = key u ↔ key' s = key' u) {s : Nat} (hs : s ∈ o) : nb key o s = nb key' o s := by
  unfold nb
  rw [idx_map, idx_map, fsts_congr h]
  refine find_congr _ fun r hr => ?_
  have := h r (fsts_sub _ _ r hr) s hs
  by_cases e : key r = key s
  · rw [decide_eq_true e, decide_eq_true (this.mp e)]
  · rw [decide_eq_false e, decide_eq_false fun z => e (this.mpr z)]
/-- a finer key with no more values tells no more -/
theorem stab {key : Nat → κ} {key' : Nat → κ'} {o : List Nat} (fine : ∀ s ∈ o, ∀ u ∈ o, key' s = key' u → key s = key u) (le : (fsts key' o).length ≤ (fsts key o).length) : ∀ s ∈ o, ∀ u ∈ o, key s = key u → key' s = key' u := by
  intro s hs u hu e
  by_cases ne : key' s = key' u
  · exact ne
  exfalso
  obtain ⟨a, ha, ea⟩ := List.mem_map.mp (fsts_all key' o s hs)
  obtain ⟨b, hb, eb⟩ := List.mem_map.mp (fsts_all key' o u hu)
  have ao := fsts_sub _ _ a ha
  have bo := fsts_sub _ _ b hb
  have eab : key a = key b := by rw [fine a ao s hs ea, fine b bo u hu eb, e]
  have nab : b ≠ a := fun z => ne (by rw [← ea, ← eb, z])
  have h1 : ((fsts key o).map key).length ≤ (((fsts key' o).erase a).map key).length := by
    refine nodup_le (fsts_nd key o) fun c hc => ?_
    obtain ⟨v, hv, rfl⟩ := List.mem_map.mp hc
    have vo := fsts_sub _ _ v hv
    obtain ⟨d, hd, ed⟩ := List.mem_map.mp (fsts_all key' o v vo)
    have ed' : key d = key v := fine d (fsts_sub _ _ d hd) v vo ed
    by_cases z : d = a
    · exact List.mem_map.mpr ⟨b, (List.mem_erase_of_ne nab).mpr hb, by rw [← eab, ← z, ed']⟩
    · exact List.mem_map.mpr ⟨d, (List.mem_erase_of_ne z).mpr hd, ed'⟩
  rw [List.length_map, List.length_map, List.length_erase_of_mem ha] at h1
  have := List.length_pos_of_mem ha
  omega
end
/-! the states that are reached -/
def dl (t : List (List Nat)) (s i : Nat) : Nat := (t.getD s []).getD i 0
def rn (t : List (List Nat)) (s : Nat) (w : List Nat) : Nat := w.foldl (dl t) s
def addAll (o row : List Nat) : List Nat := row.foldl (fun o x => if x ∈ o then o else o ++ [x]) o
def bfs (t : List (List Nat)) (s0 : Nat) : Nat → List Nat
  | 0 => [s0]
  | k + 1 => addAll (bfs t s0 k) (t.getD ((bfs t s0 k).getD k 0) [])
structure Order (t : List (List Nat)) (s0 : Nat) (o : List Nat) : Prop where
  ex : ∃ k, o = bfs t s0 k ∧ o.length ≤ k ∧ ∀ j, j < k → j < (bfs t s0 j).length
theorem Order.one {t : List (List Nat)} {s0 : Nat} {o o' : List Nat} (a : Order t s0 o) (b : Order t s0 o') : o = o' := by
  obtain ⟨k, e, h1, h2⟩ := a.ex
  obtain ⟨k', e', h1', h2'⟩ := b.ex
  have : k = k' := by
    rcases Nat.lt_trichotomy k k' with z | z | z
    · have := h2' k z; rw [← e] at this; omega
    · exact z
    · have := h2 k' z; rw [← e'] at this; omega
  rw [e, e', this]
theorem addAll_pre (row : List Nat) : ∀ o : List Nat, o <+: addAll o row := by
  induction row with
  | nil => exact fun o => List.prefix_refl _
  | cons x row ih =>
    intro o
    show o <+: addAll (if x ∈ o then o else o ++ [x]) row
    split
    · exact ih o
    · exact (List.prefix_append _ _).trans (ih _)
theorem addAll_mem (row : List Nat) : ∀ (o : List Nat) (x : Nat), x ∈ addAll o row ↔ x ∈ o ∨ x ∈ row := by
  induction row with
  | nil => intro o x; simp [addAll]
  | cons y row ih =>
    intro o x
    show x ∈ addAll (if y ∈ o then o else o ++ [y]) row ↔ _
    rw [ih]
    split
    · rename_i h
      constructor
      · rintro (z | z)
        · exact .inl z
        · exact .inr (List.mem_cons_of_mem _ z)
      · rintro (z | z)
        · exact .inl z
        · rcases List.mem_cons.mp z with e | z
          · exact .inl (e ▸ h)
          · exact .inr z
    · rw [List.mem_append, List.mem_singleton, List.mem_cons, or_assoc]
theorem addAll_nd (row : List Nat) : ∀ o : List Nat, o.Nodup → (addAll o row).Nodup := by
  induction row with
  | nil => exact fun o h => h
  | cons x row ih =>
    intro o h
    show (addAll (if x ∈ o then o else o ++ [x]) row).Nodup
    split
    · exact ih o h
    · rename_i hx
      exact ih _ (List.nodup_append.mpr ⟨h, by simp, fun a ha b hb => by rw [List.mem_singleton.mp hb]; intro e; exact hx (e ▸ ha)⟩)
/-- rows of one length, of states -/
structure Tab (t : List (List Nat)) (n : Nat) : Prop where
  pos : 1 ≤ t.length
  row : ∀ r ∈ t, r.length = n ∧ ∀ x ∈ r, x < t.length
theorem Tab.get {t : List (List Nat)} {n s : Nat} (h : Tab t n) (hs : s < t.length) : t.getD s [] = t[s] ∧ t[s].length = n ∧ ∀ x ∈ t[s], x < t.length := by
  refine ⟨by rw [List.getD_eq_getElem?_getD, List.getElem?_eq_getElem hs]; rfl, h.row _ (List.getElem_mem hs)⟩
theorem Tab.dl_lt {t : List (List Nat)} {n s i : Nat} (h : Tab t n) : dl t s i < t.length := by
  have := h.pos
  unfold dl
  rcases Nat.lt_or_ge s t.length with hs | hs
  · obtain ⟨e, hl, hx⟩ := h.get hs
    rw [e, List.getD_eq_getElem?_getD]
    rcases Nat.lt_or_ge i t[s].length with hi | hi
    · rw [List.getElem?_eq_getElem hi]; exact hx _ (List.getElem_mem hi)
    · rw [List.getElem?_eq_none hi]; show 0 < _; omega
  · rw [List.getD_eq_getElem?_getD (l := t), List.getElem?_eq_none hs]
    show ([] : List Nat).getD i 0 < _
    simp; omega
theorem Tab.dl_mem {t : List (List Nat)} {n s i : Nat} (h : Tab t n) (hs : s < t.length) (hi : i < n) : dl t s i ∈ t.getD s [] := by
  obtain ⟨e1, l1, _⟩ := h.get hs
  have hi' : i < t[s].length := by omega
  unfold dl
  rw [e1, List.getD_eq_getElem?_getD, List.getElem?_eq_getElem hi']
  exact List.getElem_mem _
theorem bfs_ok {t : List (List Nat)} {n s0 : Nat} (h : Tab t n) (h0 : s0 < t.length) : ∀ k, (bfs t s0 k).Nodup ∧ (∀ x ∈ bfs t s0 k, x < t.length) ∧ (bfs t s0 k)[0]? = some s0
  | 0 => ⟨by simp [bfs], by simp [bfs, h0], rfl⟩
  | k + 1 => by
    obtain ⟨h1, h2, h3⟩ := bfs_ok h h0 k
    refine ⟨addAll_nd _ _ h1, fun x hx => ?_, ?_⟩
    · rcases (addAll_mem _ _ _).mp hx with z | z
      · exact h2 x z
      · have hs : (bfs t s0 k).getD k 0 < t.length := by
          rw [List.getD_eq_getElem?_getD]
          rcases Nat.lt_or_ge k (bfs t s0 k).length with hk | hk
          · rw [List.getElem?_eq_getElem hk]; exact h2 _ (List.getElem_mem hk)
          · rw [List.getElem?_eq_none hk]; exact h.pos
        obtain ⟨e, _, hr⟩ := h.get hs
        rw [e] at z
        exact hr x z
    · obtain ⟨r, hr⟩ := addAll_pre (t.getD ((bfs t s0 k).getD k 0) []) (bfs t s0 k)
      show (addAll _ _)[0]? = _
      rw [← hr]
      have hl : 0 < (bfs t s0 k).length := (List.getElem?_eq_some_iff.mp h3).1
      rw [List.getElem?_append_left hl]; exact h3
theorem bfs_pre (t : List (List Nat)) (s0 : Nat) : ∀ k j, bfs t s0 k <+: bfs t s0 (k + j)
  | _, 0 => List.prefix_refl _
  | k, j + 1 => (bfs_pre t s0 k j).trans (addAll_pre _ _)
theorem pre_get {α : Type} {a b : List α} (h : a <+: b) {i : Nat} {x : α} (hx : a[i]? = some x) : b[i]? = some x := by
  obtain ⟨r, rfl⟩ := h
  rw [List.getElem?_append_left (List.getElem?_eq_some_iff.mp hx).1]; exact hx
theorem Order.closed {t : List (List Nat)} {s0 : Nat} {o : List Nat} (a : Order t s0 o) {s x : Nat} (hs : s ∈ o) (hx : x ∈ t.getD s []) : x ∈ o := by
  obtain ⟨k, e, h1, h2⟩ := a.ex
  obtain ⟨i, hi, e2⟩ := List.getElem_of_mem hs
  have hik : i < k := by omega
  have hib := h2 i hik
  obtain ⟨j, rfl⟩ : ∃ j, k = i + 1 + j := ⟨k - (i + 1), by omega⟩
  have p1 := bfs_pre t s0 i (1 + j)
  rw [show i + (1 + j) = i + 1 + j by omega, ← e] at p1
  have g := pre_get p1 (List.getElem?_eq_getElem hib)
  rw [List.getElem?_eq_getElem hi, e2] at g
  have g := Option.some.inj g
  have hm : x ∈ bfs t s0 (i + 1) := (addAll_mem _ _ _).mpr (.inr (by
    rw [List.getD_eq_getElem?_getD (l := bfs t s0 i), List.getElem?_eq_getElem hib]
    show x ∈ t.getD ((bfs t s0 i)[i]) []
    rw [← g]; exact hx))
  have p2 := bfs_pre t s0 (i + 1) j
  rw [← e] at p2
  exact p2.subset hm
theorem Order.ok {t : List (List Nat)} {n s0 : Nat} {o : List Nat} (a : Order t s0 o) (h : Tab t n) (h0 : s0 < t.length) : o.Nodup ∧ (∀ x ∈ o, x < t.length) ∧ o[0]? = some s0 := by
  obtain ⟨k, e, _⟩ := a.ex
  rw [e]
  exact bfs_ok h h0 k
/-! the answers to all words -/
open Classical in
noncomputable instance funDec : DecidableEq (List Nat → Bool) := fun a b => propDecidable (a = b)
def lang (t : List (List Nat)) (a : List Nat) (s : Nat) : List Nat → Bool := fun w => decide (rn t s w ∈ a)
theorem lang_step {t : List (List Nat)} {a : List Nat} {s u : Nat} (h : lang t a s = lang t a u) (i : Nat) : lang t a (dl t s i) = lang t a (dl t u i) := by
  funext w
  exact congrFun h (i :: w)
theorem lang_acc {t : List (List Nat)} {a : List Nat} {s u : Nat} (h : lang t a s = lang t a u) : decide (s ∈ a) = decide (u ∈ a) := congrFun h []
/-- a key that tells as much as the answers to all words do -/
def Good (t : List (List Nat)) (a o : List Nat) (c : Nat → Nat) : Prop := ∀ s ∈ o, ∀ u ∈ o, c s = c u ↔ lang t a s = lang t a u
def rk (t : List (List Nat)) (c : Nat → Nat) (s : Nat) : Nat × List Nat := (c s, (t.getD s []).map c)
theorem rk_eq {t : List (List Nat)} {n : Nat} {c : Nat → Nat} {s u : Nat} (h : Tab t n) (hs : s < t.length) (hu : u < t.length) : rk t c s = rk t c u ↔ c s = c u ∧ ∀ i, i < n → c (dl t s i) = c (dl t u i) := by
  obtain ⟨e1, l1, _⟩ := h.get hs
  obtain ⟨e2, l2, _⟩ := h.get hu
  unfold rk
  rw [Prod.mk.injEq]
  refine and_congr Iff.rfl ?_
  unfold dl
  rw [e1, e2]
  constructor
  · intro h i hi
    have := congrArg (fun l => l[i]?) h
    simp only [List.getElem?_map] at this
    rw [List.getElem?_eq_getElem (by omega : i < t[s].length), List.getElem?_eq_getElem (by omega : i < t[u].length)] at this
    rw [List.getD_eq_getElem?_getD, List.getD_eq_getElem?_getD, List.getElem?_eq_getElem (by omega : i < t[s].length), List.getElem?_eq_getElem (by omega : i < t[u].length)]
    exact Option.some.inj this
  · intro h
    refine List.ext_getElem? fun i => ?_
    rw [List.getElem?_map, List.getElem?_map]
    rcases Nat.lt_or_ge i n with hi | hi
    · have := h i hi
      rw [List.getD_eq_getElem?_getD, List.getD_eq_getElem?_getD, List.getElem?_eq_getElem (by omega : i < t[s].length), List.getElem?_eq_getElem (by omega : i < t[u].length)] at this
      rw [List.getElem?_eq_getElem (by omega : i < t[s].length), List.getElem?_eq_getElem (by omega : i < t[u].length)]
      exact congrArg some this
    · rw [List.getElem?_eq_none (by omega : t[s].length ≤ i), List.getElem?_eq_none (by omega : t[u].length ≤ i)]
/-- what is alike by the answers is alike by each step's key -/
theorem rk_of_lang {t : List (List Nat)} {n : Nat} {a o : List Nat} {c : Nat → Nat} (h : Tab t n) (cl : ∀ s ∈ o, ∀ x ∈ t.getD s [], x ∈ o) (lt : ∀ s ∈ o, s < t.length) (hc : ∀ s ∈ o, ∀ u ∈ o, lang t a s = lang t a u → c s = c u) :
    ∀ s ∈ o, ∀ u ∈ o, lang t a s = lang t a u → rk t c s = rk t c u := by
  intro s hs u hu e
  exact (rk_eq h (lt s hs) (lt u hu)).mpr ⟨hc s hs u hu e, fun i hi => hc _ (cl s hs _ (h.dl_mem (lt s hs) hi)) _ (cl u hu _ (h.dl_mem (lt u hu) hi)) (lang_step e i)⟩
/-- what goes on alike answers alike -/
theorem lang_of {t : List (List Nat)} {n : Nat} {a o : List Nat} {c : Nat → Nat} (h : Tab t n) (cl : ∀ s ∈ o, ∀ x ∈ t.getD s [], x ∈ o) (lt : ∀ s ∈ o, s < t.length) (acc : ∀ s ∈ o, ∀ u ∈ o, c s = c u → (s ∈ a ↔ u ∈ a))
    (st : ∀ s ∈ o, ∀ u ∈ o, c s = c u → rk t c s = rk t c u) : ∀ s ∈ o, ∀ u ∈ o, c s = c u → lang t a s = lang t a u := by
  intro s hs u hu e
  funext w
  have : ∀ (w : List Nat) (s u : Nat), s ∈ o → u ∈ o → c s = c u → (rn t s w ∈ a ↔ rn t u w ∈ a) := by
    intro w
    induction w with
    | nil => exact fun s u hs hu e => acc s hs u hu e
    | cons i w ih =>
      intro s u hs hu e
      show rn t (dl t s i) w ∈ a ↔ rn t (dl t u i) w ∈ a
      obtain ⟨e1, l1, _⟩ := h.get (lt s hs)
      obtain ⟨e2, l2, _⟩ := h.get (lt u hu)
      rcases Nat.lt_or_ge i n with hi | hi
      · have hh := (rk_eq h (lt s hs) (lt u hu)).mp (st s hs u hu e)
        exact ih _ _ (cl s hs _ (h.dl_mem (lt s hs) hi)) (cl u hu _ (h.dl_mem (lt u hu) hi)) (hh.2 i hi)
      · have z1 : dl t s i = 0 := by
          unfold dl
          rw [e1, List.getD_eq_getElem?_getD, List.getElem?_eq_none (by omega)]; rfl
        have z2 : dl t u i = 0 := by
          unfold dl
          rw [e2, List.getD_eq_getElem?_getD, List.getElem?_eq_none (by omega)]; rfl
        rw [z1, z2]
  unfold lang
  have := this w s u hs hu e
  by_cases q : rn t s w ∈ a
  · rw [decide_eq_true q, decide_eq_true (this.mp q)]
  · rw [decide_eq_false q, decide_eq_false fun z => q (this.mpr z)]
/-! the numbers of classes, and the machine -/
noncomputable def cn (t : List (List Nat)) (a o : List Nat) (s : Nat) : Nat := nb (lang t a) o s
noncomputable def reps (t : List (List Nat)) (a o : List Nat) : List Nat := fsts (lang t a) o
noncomputable def canT (t : List (List Nat)) (a o : List Nat) : List (List Nat) := (reps t a o).map fun r => (t.getD r []).map (cn t a o)
noncomputable def canA (t : List (List Nat)) (a o : List Nat) : List Nat := (List.range (reps t a o).length).filter fun i => decide ((reps t a o).getD i 0 ∈ a)
theorem cn_of {κ : Type} [DecidableEq κ] {t : List (List Nat)} {a o : List Nat} {key : Nat → κ} (h : ∀ s ∈ o, ∀ u ∈ o, key s = key u ↔ lang t a s = lang t a u) {s : Nat} (hs : s ∈ o) : nb key o s = cn t a o s := nb_congr h hs
end Y

namespace Y
open PySem PySem.Spec PyProof.Rows L2 Z
open C8 (tCut pss_cut Cal pe_c Met pe_mt pe_mt0 Mak pe_mk)
/-! ### comprehensions with a test; tuples as data -/
theorem l_filt {σ : L2.St} {H : Hp} {Q : VK} {J : It} {n : Nat} {G : Hp → Prop} {Y : Nat → Hp → V → Hp → Prop} (w : Walk J n G Y) {j : Nat} {tt : TT} {te : TE} {vs : List Nat} {Dl : Addr} (hD : H Dl = none) (W : L2.St) (hw : wipe σ vs = W) (hw2 : ∀ x : V, wipe (W.set j (some x)) vs = W)
    (xs : List V) (hn : n = xs.length) (hl : xs.length ≤ 99999) (hY : ∀ i H1 x H2, i < n → G H1 → Y i H1 x H2 → H2 = H1 ∧ xs[i]? = some x) (hG : ∀ H1, Same H H1 → G H1) (p : V → Bool) (f : V → V)
    (ht : ∀ (x : V) (H1 : Hp) (R : Bool → Hp → Prop), x ∈ xs → Same H H1 → (∀ H2, Same H1 H2 → R (p x) H2) → tt (W.set j (some x)) H1 R)
    (hs : ∀ (x : V) (H1 : Hp) (P : VK), x ∈ xs → p x = true → Same H H1 → (∀ H2, Same H1 H2 → P (f x) H2) → te (W.set j (some x)) H1 P)
    (hd : ∀ H1, Same H H1 → H1 Dl = some (.lst ((xs.filter p).map f)) → Q (.ref Dl) H1) : LC J (gName j) tt te vs σ H Q Dl := by
  subst hn
  refine l_comp w W hw (fun i acc H1 => Same H H1 ∧ acc = ((xs.take i).filter p).map f) ⟨(Same.refl H).newz hD, by simp⟩ (fun i acc H1 _ q _ => hG H1 q.1) ?_ ?_
  · rintro i x acc H1 H2 hi ⟨sm, rfl⟩ e hl2 y
    obtain ⟨rfl, hx⟩ := hY i _ x _ hi (hG _ sm) y
    have hxm := List.mem_of_getElem? hx
    refine i_gname ?_
    refine i_lct (hw2 x) ?_
    refine ht x _ _ hxm sm fun H3 s3 => ?_
    refine brb (fun hb => ?_) fun hb => ?_
    · refine hs x _ _ hxm hb (sm.trans s3) fun H4 s4 => ?_
      refine cend ((s3.trans s4) _ _ e) hl2 (by omega) ⟨((sm.trans s3).trans s4).mutz hD, ?_⟩
      rw [List.take_add_one, hx, List.filter_append, List.map_append]; simp [hb]
    · exact ⟨_, s3 _ _ e, by omega, sm.trans s3, by rw [List.take_add_one, hx, List.filter_append, List.map_append]; simp [hb]⟩
  · rintro acc H1 ⟨sm, rfl⟩ e _
    rw [List.take_length] at e
    exact hd H1 sm e
theorem RpAll.take {N : Addr → Prop} {H : Hp} : ∀ {vs : List V} {ds : List PyData} (n : Nat), RpAll N H vs ds → RpAll N H (vs.take n) (ds.take n)
  | _, _, 0, _ => by rw [List.take_zero, List.take_zero]; exact .nil
  | _, _, _ + 1, .nil => .nil
  | _, _, n + 1, .cons a r => by rw [List.take_succ_cons, List.take_succ_cons]; exact .cons a (RpAll.take n r)
/-- what a slice leaves -/
def cutD {α : Type} (xs : List α) (lo hi : Option Int) : List α := (xs.drop (HT.sIx xs.length 0 lo)).take (HT.sIx xs.length xs.length hi - HT.sIx xs.length 0 lo)
theorem cutD_to {α : Type} (xs : List α) (n : Nat) : cutD xs none (some (n : Int)) = xs.take n := by
  unfold cutD
  rw [HT.sIx_none, HT.sIx_nat, List.drop_zero, Nat.sub_zero]
  rcases Nat.le_total n xs.length with h | h
  · rw [Nat.min_eq_left h]
  · rw [Nat.min_eq_right h, List.take_of_length_le (Nat.le_refl _), List.take_of_length_le h]
theorem cutD_from {α : Type} (xs : List α) (n : Nat) : cutD xs (some (n : Int)) none = xs.drop n := by
  unfold cutD
  rw [HT.sIx_none, HT.sIx_nat]
  rcases Nat.le_total n xs.length with h | h
  · rw [Nat.min_eq_left h, List.take_of_length_le (by rw [List.length_drop]; exact Nat.le_refl _)]
  · rw [Nat.min_eq_right h, Nat.sub_self, List.take_zero, List.drop_of_length_le h]
section
variable {K : PySem.W.Frag} {H : Hp} {Q : VK} {N : Addr → Prop}
theorem i_slRp {v : V} {ds : List PyData} {lo hi : Option Int} (r : Rp N H v (.tuple ds)) (hN : ∀ p, H p = none → ¬ N p) (q : ∀ v' H', Same H H' → Rp N H' v' (.tuple (cutD ds lo hi)) → Q v' H') : rSlA K v lo hi H Q := by
  obtain ⟨a, xs, rfl, e, n, ra⟩ := Rp.tupS r
  have hl : xs.length = ds.length := ra.length
  refine ⟨a, xs, rfl, SqT.of e, fun hw => ?_, fun _ p hp => ?_⟩
  · refine q _ H (Same.refl H) ?_
    have e2 : cutD ds lo hi = ds := by
      unfold cutD
      rw [hl] at hw
      rw [hw.1, hw.2, List.drop_zero, Nat.sub_zero, List.take_length]
    rw [e2]; exact r
  · refine q _ _ ((Same.refl H).newz hp) (.tup upd_same (hN p hp) ?_)
    have : RpAll N H (cutV xs lo hi) (cutD ds lo hi) := by
      unfold cutV cutD
      rw [hl]
      exact RpAll.take _ (ra.drop _)
    exact this.mono (Kp.refl.newz hp)
theorem i_catRp {x y : V} {ds es : List PyData} (r : Rp N H x (.tuple ds)) (r2 : Rp N H y (.tuple es)) (hN : ∀ p, H p = none → ¬ N p) (hl : ds.length + es.length ≤ 90000) (q : ∀ v' H', Same H H' → Rp N H' v' (.tuple (ds ++ es)) → Q v' H') : rCatA K x y H Q := by
  obtain ⟨a, xs, rfl, e, n, ra⟩ := Rp.tupS r
  obtain ⟨b, ys, rfl, e2, n2, rb⟩ := Rp.tupS r2
  have h1 : xs.length = ds.length := ra.length
  have h2 : ys.length = es.length := rb.length
  refine ⟨a, b, xs, ys, rfl, rfl, SqT.of e, SqT.of e2, le_line (by omega), fun z => ?_, fun _ z => ?_, fun _ _ p hp => ?_⟩
  · subst z
    have : ds = [] := List.eq_nil_of_length_eq_zero (by rw [← h1]; rfl)
    subst this
    exact q _ H (Same.refl H) r2
  · subst z
    have : es = [] := List.eq_nil_of_length_eq_zero (by rw [← h2]; rfl)
    subst this
    refine q _ H (Same.refl H) ?_
    rw [List.append_nil]; exact r
  · exact q _ _ ((Same.refl H).newz hp) (.tup upd_same (hN p hp) ((ra.append rb).mono (Kp.refl.newz hp)))
theorem i_ixRp {v : V} {ds : List PyData} {d : PyData} {i : Nat} (r : Rp N H v (.tuple ds)) (hd : ds[i]? = some d) (q : ∀ x, Rp N H x d → Q x H) : rIxT K v (.int (i : Int)) H Q := by
  obtain ⟨a, xs, rfl, e, n, ra⟩ := Rp.tupS r
  obtain ⟨x, hx, rx⟩ := ra.get hd
  exact i_ixT (SqT.of e) (atI_nat hx) (q x rx)
theorem i_lenRp {v : V} {ds : List PyData} (r : Rp N H v (.tuple ds)) (q : Q (.int (ds.length : Int)) H) : zLen K [v] H Q := by
  obtain ⟨a, xs, rfl, e, n, ra⟩ := Rp.tupS r
  refine i_lenT (SqT.of e) ?_
  rw [ra.length]; exact q
theorem i_lenRpL {v : V} {ds : List PyData} (r : Rp N H v (.list ds)) (q : Q (.int (ds.length : Int)) H) : zLen K [v] H Q := by
  cases r with
  | lst e n ra =>
    refine i_lenL (SqL.of e) ?_
    rw [ra.length]; exact q
/-- isinstance of an own class -/
theorem i_isC {C : Addr} {x : V} {d : PyData} (r : Rp N H x d) (h1 : PySem.W.isClsIn K C = true) (h2 : PySem.W.typeIn K (.ref C) = some (.type "type")) (q : Q (.bl false) H) : zIsi K [x, .ref C] H Q := by
  refine ⟨x, .ref C, _, .ref C, false, rfl, .own C, r.ty, ?_, q⟩
  have e2 : ((PySem.W.clsIn K C).isSome && PySem.W.typeIn K (.ref C) == some (.type "type")) = true := by
    have h1' : (PySem.W.clsIn K C).isSome = true := h1
    rw [h1', h2] <;> rfl
  have hm := tyN_mem d
  generalize tyN d = T at hm ⊢
  have hs : PySem.W.subIn K (.type T) (.ref C) = some false := by
    simp only [List.mem_cons, List.not_mem_nil, or_false] at hm
    rcases hm with rfl | rfl | rfl | rfl | rfl | rfl | rfl <;> rfl
  unfold PySem.W.kitOne
  have hne : (Value.type T == Value.ref C) = false := rfl
  rw [hne]
  show PySem.W.kitCls K (.type T) (.ref C) = some false
  unfold PySem.W.kitCls
  show (if ((PySem.W.clsIn K C).isSome && PySem.W.typeIn K (.ref C) == some (.type "type")) = true then PySem.W.subIn K (.type T) (.ref C) else none) = some false
  rw [if_pos e2]; exact hs
/-- what isinstance asks of an own class -/
structure InsM (K : PySem.W.Frag) (C : Addr) : Prop where
  ha : PySem.W.findIn K (.ref C) "__class__" = some (some (.builtin "object.__class__"))
  hn : PySem.W.specialIn K (.builtin "object.__class__") "__get__" = some (some (.builtin "getset_descriptor.__get__"))
  htk : PySem.W.takesIn K (.builtin "object.__class__") = some true
  hm : PySem.W.mroIn K C (.type "object") = some true
theorem i_isM {C a dx : Addr} {fs : List (Str × V)} (e : H a = some (.ins C dx fs)) (cl : Cls K C) (I : InsM K C) (q : Q (.bl true) H) : zIsi K [.ref a, .ref C] H Q := by
  refine ⟨.ref a, .ref C, .ref C, .ref C, true, rfl, .own C, .base (.ins e cl I.ha I.hn I.htk I.hm), ?_, q⟩
  unfold PySem.W.kitOne
  rw [if_pos (by simp)]
end
theorem _root_.Z.HandOk.nn {h : Addr} {H : Hp} (k : HandOk H h) : ∀ p, H p = none → ¬ p = h := fun p hp => k.ne hp
end Y

namespace Y
open PySem PySem.Spec PyProof.Rows L2 Z
open C8 (tCut pss_cut Cal pe_c Met pe_mt pe_mt0 Mak pe_mk)
abbrev s_reached : Stmt := topS 16
abbrev n_reached : List Str := ["table", "start", "order", "known", "at", "row", "state"]
theorem sc_reached : FnScope n_reached ["table", "start"] (defScope s_reached) := ⟨rfl, rfl, rfl, by decide +kernel, rfl, by decide +kernel, by decide +kernel⟩

abbrev s__numbered : Stmt := topS 23
abbrev n__numbered : List Str := ["order", "marks", "numbers", "classes", "state", "mark"]
theorem sc__numbered : FnScope n__numbered ["order", "marks"] (defScope s__numbered) := ⟨rfl, rfl, rfl, by decide +kernel, rfl, by decide +kernel, by decide +kernel⟩

abbrev s__how_many : Stmt := topS 24
abbrev n__how_many : List Str := ["classes"]
theorem sc__how_many : FnScope n__how_many ["classes"] (defScope s__how_many) := ⟨rfl, rfl, rfl, by decide +kernel, rfl, by decide +kernel, by decide +kernel⟩

/-! ### dicts by numbers -/
theorem i_dget {td ty : TE} {σ : L2.St} {H : Hp} {Q : VK} (q : td σ H fun x H1 => ty σ H1 fun y H2 => ∃ a v, x = .ref a ∧ DGet H2 a y (some v) ∧ Q v H2) : tDGet td ty σ H Q := q
theorem i_dnot {td ty : TE} {σ : L2.St} {H : Hp} {Q : VK} (q : ty σ H fun y H1 => td σ H1 fun x H2 => ∃ a o, x = .ref a ∧ DGet H2 a y o ∧ Q (.bl (!o.isSome)) H2) : tDNotIn ty td σ H Q := q
theorem i_din {td ty : TE} {σ : L2.St} {H : Hp} {Q : VK} (q : ty σ H fun y H1 => td σ H1 fun x H2 => ∃ a o, x = .ref a ∧ DGet H2 a y o ∧ Q (.bl o.isSome) H2) : tDIn ty td σ H Q := q
theorem i_dput {td ty tv : TE} {D : Ends} {σ : L2.St} {H : Hp} (q : tv σ H fun v H1 => td σ H1 fun x H2 => ty σ H2 fun y H3 => ∃ a H4, x = .ref a ∧ DPut H3 a y v H4 ∧ D.nx σ H4) : sDPut td ty tv D σ H := q
def kN (o : List Nat) (f : Nat → V) : List (Key × V) := o.map fun s => (.inl ((s : Nat) : Int), f s)
theorem kN_len (o : List Nat) (f : Nat → V) : (kN o f).length = o.length := List.length_map ..
theorem kN_get {o : List Nat} {f : Nat → V} {s : Nat} (h : s ∈ o) : valV (kN o f) (.inl ((s : Nat) : Int)) = some (f s) := by
  induction o with
  | nil => cases h
  | cons x o ih =>
    unfold valV kN
    rw [List.map_cons]
    by_cases e : x = s
    · subst e
      rw [List.find?_cons_of_pos (by simp)]; rfl
    · rw [List.find?_cons_of_neg (by simp; omega)]
      exact ih ((List.mem_cons.mp h).resolve_left fun z => e z.symm)
theorem kN_no {o : List Nat} {f : Nat → V} {s : Nat} (h : s ∉ o) : valV (kN o f) (.inl ((s : Nat) : Int)) = none := by
  unfold valV kN
  rw [Option.map_eq_none_iff, List.find?_eq_none]
  intro p hp
  obtain ⟨x, hx, rfl⟩ := List.mem_map.mp hp
  simp
  intro e
  have : x = s := by omega
  exact h (this ▸ hx)
theorem kN_put {o : List Nat} {f : Nat → V} {s : Nat} (h : s ∉ o) : putK (kN o f) (.inl ((s : Nat) : Int)) (f s) = kN (o ++ [s]) f := by
  unfold putK
  rw [if_neg]
  · unfold kN; rw [List.map_append]; rfl
  · intro z
    obtain ⟨p, hp, e⟩ := List.any_eq_true.mp z
    obtain ⟨x, hx, rfl⟩ := List.mem_map.mp hp
    simp at e
    have : x = s := by omega
    exact h (this ▸ hx)
theorem kN_dget {H : Hp} {a : Addr} {o : List Nat} {f : Nat → V} {s : Nat} (e : H a = some (.dK (kN o f))) (h : s ∈ o) : DGet H a (.int (s : Int)) (some (f s)) := by
  have := DGet.k (k := .inl ((s : Nat) : Int)) e
  rw [kN_get h] at this
  exact this
theorem kN_dno {H : Hp} {a : Addr} {o : List Nat} {f : Nat → V} {s : Nat} (e : H a = some (.dK (kN o f))) (h : s ∉ o) : DGet H a (.int (s : Int)) none := by
  have := DGet.k (k := .inl ((s : Nat) : Int)) e
  rw [kN_no h] at this
  exact this
theorem kN_dput {H : Hp} {a : Addr} {o : List Nat} {f : Nat → V} {s : Nat} (e : H a = some (.dK (kN o f))) (h : s ∉ o) (hl : o.length < 90000) : DPut H a (.int (s : Int)) (f s) (upd H a (.dK (kN (o ++ [s]) f))) := by
  have := DPut.k (k := .inl ((s : Nat) : Int)) (v := f s) e (lt_line (by rw [kN_len]; omega))
  rw [kN_put h] at this
  exact this
theorem addAll_snoc (o r : List Nat) (x : Nat) : addAll o (r ++ [x]) = if x ∈ addAll o r then addAll o r else addAll o r ++ [x] := by
  unfold addAll
  rw [List.foldl_append]; rfl
theorem rowget {t : List (List Nat)} {i : Nat} (h : i < t.length) : (t.map rowD)[i]? = some (rowD (t[i])) := by
  rw [List.getElem?_map, List.getElem?_eq_getElem h]; rfl
def spReached : Sp := fun vs H Q _ => ∃ (vt : V) (t : List (List Nat)) (n s0 : Nat), vs = [vt, .int (s0 : Int)] ∧ Rp N0 H vt (tabD t) ∧ Tab t n ∧ t.length ≤ 1000 ∧ n ≤ 1000 ∧ s0 < t.length ∧
  ∀ (p : Addr) (o : List Nat) H', Order t s0 o → H p = none → Same H H' → H' p = some (.lst (ivs o)) → Q (.ref p) H'
section
variable {P : Program} {w : World} {K : PySem.W.Frag} {mg : Str → Option Value} {base : Heap}
theorem b_reached (B : Bi mg) {f : Addr} {cdv : Value} {A : Around} {outer : List Env} {s : Shared} {H : Hp} {vs : List V} {Q : VK} {E : XK} (hr : Room 0 (A.deeper (envOfC "reached" (defScope s_reached) s.heap.objs.size f cdv))) (h : spReached vs H Q E) :
    ∃ t, PSs (cxOf CX0 P w K mg base n_reached "reached" (defScope s_reached) f cdv A outer s H E).nox (defBody s_reached) t ∧ t { nx := fun _ H' => Q .non H', rt := Q } (start n_reached vs) H := by
  obtain ⟨vt, t, n, s0, rfl, rt, TB, ht, hn, hs0, k⟩ := h
  refine ⟨_, (pss_cons (ps_set (i := 2) sc_reached.nd rfl (by first | exact Or.inl rfl | exact Or.inr rfl) (pe_lst (pa_cons (pv 1) pa_nil)))
  (pss_cons (ps_set (i := 3) sc_reached.nd rfl (by first | exact Or.inl rfl | exact Or.inr rfl) (pe_disp (pps_cons (pv 1) pe_bl pps_nil) (by rfl) (by rfl) (fun z => by cases z) (by decide)))
  (pss_cons (ps_set (i := 4) sc_reached.nd rfl (by first | exact Or.inl rfl | exact Or.inr rfl) pe_int)
  (pss_cons (ps_while PassesOwn.never (pt_cmpR z_lt (pv 4) (pe_callB (r := zLen K) zc_len (by rfl) B.len (by decide +kernel) (pa_cons (pv 2) pa_nil)) (nomark _)) (pss_cons (ps_set (i := 5) sc_reached.nd rfl (by first | exact Or.inl rfl | exact Or.inr rfl) (pe_ix (r := rIxT K) ix_tup (pv 0) (pe_ix (r := rIxL K) ix_list (pv 2) (pv 4) (fun _ _ => rfl)) (fun _ _ => rfl)))
  (pss_cons (ps_for PassesOwn.never rfl (pi_tup (pv 5)) (pg_name (i := 6) sc_reached.nd rfl (by first | exact Or.inl rfl | exact Or.inr rfl)) (pss_one (ps_if (pt_cmp (pc_dnotin (hu_of hr) (pv 6) (pv 3)) rfl) (pss_cons (ps_dput (hu_of hr) (pv 3) (pv 6) pe_bl rfl)
  (pss_one (ps_expr (pe_bmZ (K := K) rfl PySem.F.plainAttrs_list PySem.F.slot_list_append PySem.F.type_list_append zm_append (pv 2) (pa_cons (pv 6) pa_nil))))) pss_nil)))
  (pss_one (ps_aug (i := 4) sc_reached.nd rfl (by first | exact Or.inl rfl | exact Or.inr rfl) pe_int ip_add)))))
  (pss_one (ps_ret (pv 2))))))), ?_⟩
  refine zstart [some (vt), some (.int (s0 : Int)), none, none, none, none, none] rfl ?_; try dsimp only [zK, zK2]
  obtain ⟨pt, xs, rfl, ept, _, ra⟩ := Rp.tupS rt
  walk_at "zz"
  refine ⟨by show 1 ≤ sizeLine; decide, fun op hop => ?_⟩
  walk_at "zz"
  refine fun kp hkp => ?_
  have hok : ¬ kp = op := fun e => by subst e; rw [upd_same] at hkp; cases hkp
  have hkpH : H kp = none := by rw [upd_ne hok] at hkp; exact hkp
  simp only [tPairs]
  walk_at "zz"
  refine ⟨upd_same, [(.inl ((s0 : Nat) : Int), .bl true)], rfl, by show 1 ≤ 15; omega, ?_⟩
  obtain ⟨H1, hH1⟩ : ∃ H1, H1 = upd (upd (upd H op (HO.lst [V.int (s0 : Int)])) kp (HO.dK [])) kp (HO.dK (mergeK [] [(.inl ((s0 : Nat) : Int), .bl true)])) := ⟨_, rfl⟩
  have e1 : H1 op = some (.lst (ivs [s0])) := by rw [hH1, upd_ne (Ne.symm hok), upd_ne (Ne.symm hok), upd_same]; rfl
  have e2 : H1 kp = some (.dK (kN [s0] fun _ => .bl true)) := by rw [hH1, upd_same]; rfl
  have s1 : Same H H1 := by rw [hH1]; exact (((Same.refl H).mutz hop).mutz hkpH).mutz hkpH
  rw [← hH1]
  clear hH1
  walk_at "zz"
  obtain ⟨W, hW⟩ : ∃ W : Nat → L2.St → Hp → Prop, W = fun m σ H' => ∃ k o v5 v6, o = bfs t s0 k ∧ (∀ j, j < k → j < (bfs t s0 j).length) ∧ m = t.length - k ∧ Same H H' ∧ H' op = some (.lst (ivs o)) ∧ H' kp = some (.dK (kN o fun _ => .bl true)) ∧
    σ = [some (.ref pt), some (.int (s0 : Int)), some (.ref op), some (.ref kp), some (.int (k : Int)), v5, v6] := ⟨_, rfl⟩
  refine ⟨W, ⟨_, by rw [hW]; exact ⟨0, _, none, none, rfl, fun j hj => by omega, rfl, s1, e1, e2, rfl⟩⟩, fun m σ H2 wm => ?_⟩
  rw [hW] at wm
  obtain ⟨kk, o, v5, v6, ho, hj, rfl, s2, eo, ek, rfl⟩ := wm
  obtain ⟨hnd, hlt, h0⟩ := bfs_ok TB hs0 kk
  rw [← ho] at hnd hlt h0
  have hol : o.length ≤ t.length := by
    have := nodup_le hnd (fun c hc => List.mem_range.mpr (hlt c hc))
    rwa [List.length_range] at this
  have hol' : (ivs o).length = o.length := by unfold ivs; rw [List.length_map]
  walk_at "zz"
  rw [hol']
  refine brd (fun hk => ?_) fun hk => ?_
  · have hk : kk < o.length := by omega
    have hs : o[kk] < t.length := hlt _ (List.getElem_mem hk)
    obtain ⟨hr1, hr2, hr3⟩ := TB.get hs
    refine ⟨W (t.length - (kk + 1)), fun σ' H' w => ⟨_, by omega, w⟩, ?_⟩
    walk_at "zz"
    refine i_ixL (SqL.of eo) (atI_nat (v := .int (o[kk] : Int)) (by unfold ivs; rw [List.getElem?_map, List.getElem?_eq_getElem hk]; rfl)) ?_
    refine i_ixRp (rt.same s2) (rowget hs) fun x rx => ?_
    obtain ⟨pr, rfl, epr, _⟩ := rowD_rp rx
    walk_at "zz"
    have s2r : Same H2 H2 := Same.refl _
    have nop : op ≠ pr := fun e => by rw [e] at eo; rw [eo] at epr; cases epr
    have nkp : kp ≠ pr := fun e => by rw [e] at ek; rw [ek] at epr; cases epr
    refine i_KT (SqT.of epr) ?_
    refine l_for (walk_tup (xs := ivs t[o[kk]])) (fun i σ H' => Same H H' ∧ H' pr = some (.tup (ivs t[o[kk]])) ∧ H' op = some (.lst (ivs (addAll o (t[o[kk]].take i)))) ∧ H' kp = some (.dK (kN (addAll o (t[o[kk]].take i)) fun _ => .bl true)) ∧
      ∃ v6, σ = [some (.ref pt), some (.int (s0 : Int)), some (.ref op), some (.ref kp), some (.int (kk : Int)), some (.ref pr), v6]) ⟨s2, epr, eo, ek, v6, rfl⟩ (fun i σ H1 _ p => SqT.of p.2.1) ?_ ?_
    · rintro i x σ H3 H4 hi ⟨s3, er3, eo3, ek3, v6, rfl⟩ ⟨rfl, hx⟩
      have hi' : i < t[o[kk]].length := by unfold ivs at hi; rwa [List.length_map] at hi
      have hx' : x = .int (t[o[kk]][i] : Int) := by
        unfold ivs at hx
        rw [List.getElem?_map, List.getElem?_eq_getElem hi'] at hx
        exact (Option.some.inj hx).symm
      subst hx'
      have hxl : t[o[kk]][i] < t.length := hr3 _ (List.getElem_mem hi')
      have htk : t[o[kk]].take (i + 1) = t[o[kk]].take i ++ [t[o[kk]][i]] := by rw [List.take_add_one, List.getElem?_eq_getElem hi']; rfl
      have hadd := addAll_snoc o (t[o[kk]].take i) t[o[kk]][i]
      rw [← htk] at hadd
      have hnd2 := addAll_nd (t[o[kk]].take i) o hnd
      have hlt2 : (addAll o (t[o[kk]].take i)).length ≤ t.length := by
        have := nodup_le hnd2 (fun c hc => List.mem_range.mpr (show c < t.length by
          rcases (addAll_mem _ _ _).mp hc with z | z
          · exact hlt c z
          · exact hr3 c (List.mem_of_mem_take z)))
        rwa [List.length_range] at this
      generalize addAll o (t[o[kk]].take i) = o2 at eo3 ek3 hadd hnd2 hlt2
      generalize addAll o (t[o[kk]].take (i + 1)) = o3 at hadd
      generalize t[o[kk]][i] = z at hadd hxl
      by_cases hz : z ∈ o2
      · rw [if_pos hz] at hadd
        subst hadd
        walk_at "zz"
        refine i_dnot ?_
        walk_at "zz"
        refine ⟨kp, _, rfl, kN_dget ek3 hz, ?_⟩
        walk_at "zz"
        exact ⟨s3, er3, eo3, ek3, _, rfl⟩
      · rw [if_neg hz] at hadd
        subst hadd
        walk_at "zz"
        refine i_dnot ?_
        walk_at "zz"
        refine ⟨kp, _, rfl, kN_dno ek3 hz, ?_⟩
        refine ⟨true, rfl, ?_⟩
        walk_at "zz"
        refine i_dput ?_
        walk_at "zz"
        refine ⟨kp, _, rfl, kN_dput (f := fun _ => .bl true) ek3 hz (by omega), ?_⟩
        have eo4 : (upd H4 kp (.dK (kN (o2 ++ [z]) fun _ => .bl true))) op = some (.lst (ivs o2)) := by rw [upd_ne (Ne.symm hok)]; exact eo3
        walk_at "zz"
        refine i_tyL (SqL.of eo4) ?_
        walk_at "zz"
        refine i_append eo4 (by unfold ivs; rw [List.length_map]; omega) ?_
        walk_at "zz"
        refine ⟨(s3.mutz hkpH).mutz hop, by rw [upd_ne nop.symm, upd_ne nkp.symm]; exact er3, ?_, by rw [upd_ne hok, upd_same], _, rfl⟩
        rw [upd_same]; unfold ivs; rw [List.map_append]; rfl
    · rintro σ H3 ⟨s3, er3, eo3, ek3, v6, rfl⟩
      have hll : (ivs t[o[kk]]).length = t[o[kk]].length := by unfold ivs; rw [List.length_map]
      rw [hll, List.take_length] at eo3 ek3
      have hb : bfs t s0 (kk + 1) = addAll o t[o[kk]] := by
        show addAll (bfs t s0 kk) (t.getD ((bfs t s0 kk).getD kk 0) []) = _
        rw [← ho, List.getD_eq_getElem?_getD (l := o), List.getElem?_eq_getElem hk]
        show addAll o (t.getD o[kk] []) = _
        rw [hr1]
      refine ⟨_, rfl, ?_⟩
      walk_at "zz"
      refine ⟨_, _, rfl, rfl, ?_⟩
      walk_at "zz"
      rw [hW]
      refine ⟨kk + 1, _, _, _, hb.symm, fun j hjj => ?_, rfl, s3, eo3, ek3, rfl⟩
      rcases Nat.lt_succ_iff_lt_or_eq.mp hjj with h | h
      · exact hj j h
      · subst h; rw [← ho]; exact hk
  · have hk : o.length ≤ kk := by omega
    walk_at "zz"
    refine k op o H2 ⟨kk, ho, hk, hj⟩ hop s2 eo
end
end Y

namespace Y
open PySem PySem.Spec PyProof.Rows L2 Z
open C8 (tCut pss_cut Cal pe_c Met pe_mt pe_mt0 Mak pe_mk)
/-- a def with defaults, under its name -/
structure DD (K : PySem.W.Frag) (mg : Str → Option Value) (x : Str) (st : Stmt) (dvs : List V) : Prop where
  ex : ∃ (f : Addr) (fd : FuncData), FunD K x x (defArgs st) (defBody st) (defScope st) dvs [] f fd ∧ mg x = some (.ref f)
section
variable {P : Program} {w : World} {K : PySem.W.Frag} {mg : Str → Option Value} {base : Heap}
theorem DD.cal {x : Str} {st : Stmt} {dvs : List V} {N ps : List Str} {k : Nat} {sp : Sp} (n j : Nat) (d : DD K mg x st dvs) (Sc : FnScope N ps (defScope st)) (hd : dvs ≠ []) (hn : n + (dvs.length - j) = ps.length)
    (hb : ∀ (T : Addr) (kV doc pm : Value) (an : Option Addr) (cdv ct : Value) (us its : List Value), us.length = n → its.length = dvs.length →
      ∃ k, bindArgs (PySem.W.fnOf x x (defArgs st) (defBody st) (defScope st) (.ref T) kV doc pm an cdv ct) ⟨us, []⟩ = seqItems? (.ref T) >>= k ∧ k (some its.toArray) = pure (ps.zip (us ++ its.drop j)))
    (len : ∀ vs H Q E, sp vs H Q E → vs.length = ps.length)
    (walk : ∀ (f : Addr) (cdv : Value) (A : Around) (outer : List Env) (s : Shared) (H : Hp) (vs : List V) (Q : VK) (E : XK), Room k (A.deeper (envOfC x (defScope st) s.heap.objs.size f cdv)) → sp vs H Q E →
      ∃ t, PSs (cxOf CX0 P w K mg base N x (defScope st) f cdv A outer s H E).nox (defBody st) t ∧ t { nx := fun _ H' => Q .non H', rt := Q } (start N vs) H) : Cal P w K mg base (k + 1) x sp (dvs.drop j) := by
  obtain ⟨f, fd, F, hm⟩ := d.ex
  obtain ⟨ds, rv, b⟩ := F.binds1 n j hd hn hb
  refine ⟨f, fd, ps, ds, F.ok Sc len fun cdv A out s H vs Q E hr h => ?_, hm, F.kp, b, rv⟩
  obtain ⟨t, h1, h2⟩ := walk f cdv A out s H vs Q E hr h
  exact ⟨t, h1.nox, h2⟩
theorem c_reached (d : DD K mg "reached" s_reached [.int 0]) (B : Bi mg) : Cal P w K mg base 1 "reached" spReached [.int 0] ∧ Cal P w K mg base 1 "reached" spReached [] := by
  refine ⟨d.cal (N := n_reached) 1 0 sc_reached (by simp) rfl (fun T kV doc pm an cdv ct us its hl hl2 => match us, its, hl, hl2 with | [_], [_], _, _ => ⟨_, rfl, rfl⟩) (fun vs H Q E h => ?_) (fun f cdv A outer s H vs Q E hr h => b_reached B hr h),
    d.cal (N := n_reached) 2 1 sc_reached (by simp) rfl (fun T kV doc pm an cdv ct us its hl hl2 => match us, its, hl, hl2 with | [_, _], [_], _, _ => ⟨_, rfl, rfl⟩) (fun vs H Q E h => ?_) (fun f cdv A outer s H vs Q E hr h => b_reached B hr h)⟩
  · obtain ⟨vt, t, n, s0, rfl, _⟩ := h
    rfl
  · obtain ⟨vt, t, n, s0, rfl, _⟩ := h
    rfl
/-! a dict comprehension over numbers -/
def DC (J : It) (g : TG) (tt : TT) (tk tv : TE) (vs : List Nat) (σ : L2.St) (H1 : Hp) (Q : VK) (D : Addr) : Prop := ∃ W : Nat → Nat → Hp → Prop, (∃ m, W 0 m (upd H1 D (.dK []))) ∧ ∀ i m H, W i m H →
  (J.stop i H ∧ Q (.ref D) H) ∨ (J.go i H ∧ ∃ Nx : Hp → Prop, (∀ H', Nx H' → ∃ m', m' < m ∧ W (i + 1) m' H') ∧ ∀ x H', J.yld i H x H' → g x (wipe σ vs) H' fun σ2 H2 => wipe σ2 vs = wipe σ vs ∧ tt σ2 H2 fun b H3 =>
    if b = true then tk σ2 H3 fun y H4 => tv σ2 H4 fun z H5 => ∃ kvs k, y = kV k ∧ H5 D = some (.dK kvs) ∧ kvs.length < sizeLine ∧ Nx (upd H5 D (.dK (putK kvs k z))) else Nx H3)
theorem i_dc {wi : TI} {g : TG} {tt : TT} {tk tv : TE} {vs : List Nat} {σ : L2.St} {H : Hp} {Q : VK} (q : wi σ H fun J H1 => ∀ D, H1 D = none → DC J g tt tk tv vs σ H1 Q D) : tDc wi g tt tk tv vs σ H Q := q
theorem l_dcN {J : It} {σ : L2.St} {H : Hp} {Q : VK} {o : List Nat} {G : Hp → Prop} {Y : Nat → Hp → V → Hp → Prop} {n : Nat} (w : Walk J n G Y) {j : Nat} {tv : TE} {vs : List Nat} {D : Addr} (hD : H D = none) (W : L2.St) (hw : wipe σ vs = W) (hw2 : ∀ x : V, wipe (W.set j (some x)) vs = W) (hj : ∀ x : V, (W.set j (some x))[j]? = some (some x))
    (hnn : n = o.length) (hY : ∀ i H1 x H2, i < o.length → G H1 → Y i H1 x H2 → H2 = H1 ∧ (ivs o)[i]? = some x) (hG : ∀ H1, Same H H1 → G H1) (hnd : o.Nodup) (hl : o.length ≤ 1000) (f : Nat → V)
    (hs : ∀ (z : Nat) (H1 : Hp) (P : VK), z ∈ o → Same H H1 → (∀ H2, Same H1 H2 → P (f z) H2) → tv (W.set j (some (.int (z : Int)))) H1 P)
    (hd : ∀ H1, Same H H1 → H1 D = some (.dK (kN o f)) → Q (.ref D) H1) : DC J (gName j) tYes (tVar j) tv vs σ H Q D := by
  subst hnn
  refine ⟨fun i m H1 => m = o.length - i ∧ i ≤ o.length ∧ Same H H1 ∧ H1 D = some (.dK (kN (o.take i) f)), ⟨o.length, rfl, Nat.zero_le _, (Same.refl H).newz hD, upd_same⟩, ?_⟩
  rintro i m H1 ⟨rfl, hi, s1, e1⟩
  by_cases hlt : i < o.length
  · refine .inr ⟨w.goes i H1 hlt (hG _ s1), _, fun H' p => ⟨o.length - (i + 1), by omega, rfl, hlt, p⟩, fun x H2 y => ?_⟩
    obtain ⟨rfl, hx⟩ := hY i _ x _ hlt (hG _ s1) (w.yields i _ x _ hlt (hG _ s1) y)
    unfold ivs at hx
    rw [List.getElem?_map, List.getElem?_eq_getElem hlt] at hx
    have hx := (Option.some.inj hx).symm
    subst hx
    rw [hw]
    refine i_gname ?_
    refine ⟨hw2 _, ?_⟩
    refine i_yes ?_
    refine iteT ?_
    refine ⟨_, hj _, ?_⟩
    have hs1 : o[i]? = some o[i] := List.getElem?_eq_getElem hlt
    have hmem := List.getElem_mem hlt
    have htk : o.take (i + 1) = o.take i ++ [o[i]] := by rw [List.take_add_one, hs1]; rfl
    have hni : o[i] ∉ o.take i := by
      have : (o.take (i + 1)).Nodup := List.Sublist.nodup (List.take_sublist _ _) hnd
      rw [htk] at this
      intro z
      exact (List.nodup_append.mp this).2.2 _ z _ (List.mem_singleton.mpr rfl) rfl
    generalize o[i] = z at hmem htk hni
    refine hs z H2 _ hmem s1 fun H3 s3 => ?_
    refine ⟨_, .inl ((z : Nat) : Int), rfl, s3 _ _ e1, lt_line (by rw [kN_len, List.length_take]; omega), (s1.trans s3).mutz hD, ?_⟩
    rw [upd_same, kN_put hni, htk]
  · have e : i = o.length := by omega
    subst e
    rw [List.take_length] at e1
    exact .inl ⟨w.stops _ (hG _ s1), hd _ s1 e1⟩
/-- keys with their numbers -/
def zl (ks : List Mk) : List (Mk × Int) := ks.zipIdx.map fun p => (p.1, (p.2 : Int))
theorem zl_snoc (ks : List Mk) (k : Mk) : zl (ks ++ [k]) = zl ks ++ [(k, (ks.length : Int))] := by
  unfold zl
  rw [List.zipIdx_append, List.map_append]
  simp
theorem zl_len (ks : List Mk) : (zl ks).length = ks.length := by unfold zl; rw [List.length_map, List.length_zipIdx]
theorem zl_look (ks : List Mk) (k : Mk) : look (zl ks) k = if k ∈ ks then some ((ks.idxOf k : Nat) : Int) else none := by
  refine snoc_ind (p := fun ks => look (zl ks) k = if k ∈ ks then some ((ks.idxOf k : Nat) : Int) else none) rfl (fun ks x ih => ?_) ks
  have e : look (zl ks ++ [(x, (ks.length : Int))]) k = (look (zl ks) k).or (if x = k then some (ks.length : Int) else none) := by
    unfold look
    rw [List.find?_append]
    cases (zl ks).find? fun e => decide (e.1 = k) with
    | some q => rfl
    | none =>
      show Option.map (fun x : Mk × Int => x.snd) ([(x, (ks.length : Int))].find? fun e => decide (e.fst = k)) = (if x = k then some (ks.length : Int) else none)
      by_cases h : x = k
      · rw [if_pos h, List.find?_cons_of_pos (by simp [h])]; rfl
      · rw [if_neg h, List.find?_cons_of_neg (by simp [h])]; rfl
  rw [zl_snoc, e, ih]
  by_cases h : k ∈ ks
  · rw [if_pos h, if_pos (List.mem_append_left _ h), List.idxOf_append, if_pos h]; rfl
  · rw [if_neg h]
    by_cases h2 : x = k
    · subst h2
      rw [if_pos rfl, if_pos (by simp), List.idxOf_append, if_neg h]
      simp
    · rw [if_neg h2, if_neg]
      · rfl
      · intro z
        rcases List.mem_append.mp z with z | z
        · exact h z
        · exact h2 (List.mem_singleton.mp z).symm
theorem IsMk.same {H H' : Hp} {v : V} {k : Mk} (h : IsMk H v k) (s : Same H H') : IsMk H' v k := by
  cases k with
  | b x => exact h
  | p k =>
    obtain ⟨a, b, rfl, e1, e2⟩ := h
    exact ⟨a, b, rfl, s _ _ e1, s _ _ e2⟩
def spNumbered : Sp := fun vs H Q _ => ∃ (op md : Addr) (o : List Nat) (g : Nat → V) (key : Nat → Mk) (pr : Bool), vs = [.ref op, .ref md] ∧ H op = some (.lst (ivs o)) ∧ H md = some (.dK (kN o g)) ∧ o.Nodup ∧ o.length ≤ 1000 ∧ (∀ s ∈ o, IsMk H (g s) (key s) ∧ (key s).pair = pr) ∧
  ∀ (p : Addr) H', H p = none → Same H H' → H' p = some (.dK (kN o fun s => .int (nb key o s : Int))) → Q (.ref p) H'
theorem c__numbered (d : DF K mg "_numbered" s__numbered) (B : Bi mg) : Cal P w K mg base 1 "_numbered" spNumbered [] := by
  refine d.cal (N := n__numbered) sc__numbered (fun _ _ _ _ _ _ us hl => match us, hl with | [_, _], _ => rfl) (fun vs H Q E h => ?_) (fun f cdv A outer s H vs Q E hr h => ?_)
  · obtain ⟨op, md, o, g, key, pr, rfl, _⟩ := h
    rfl
  · obtain ⟨op, md, o, g, key, pr, rfl, eo, em, hnd, ho, hk, k⟩ := h
    refine ⟨_, (pss_cons (ps_set (i := 2) sc__numbered.nd rfl (by first | exact Or.inl rfl | exact Or.inr rfl) pe_dnewK)
  (pss_cons (ps_set (i := 3) sc__numbered.nd rfl (by first | exact Or.inl rfl | exact Or.inr rfl) pe_dnewK)
  (pss_cons (ps_for PassesOwn.never rfl (pi_list (pv 0)) (pg_name (i := 4) sc__numbered.nd rfl (by first | exact Or.inl rfl | exact Or.inr rfl)) (pss_cons (ps_set (i := 5) sc__numbered.nd rfl (by first | exact Or.inl rfl | exact Or.inr rfl) (pe_dget (hu_of hr) (pv 1) (pv 4) (fun _ _ => rfl)))
  (pss_cons (ps_if (pt_cmpR (op_notInM hr.units) (pv 5) (pv 2) (by rfl)) (pss_one (ps_asg (pe_callB call_lenM (by rfl) B.len (by decide +kernel) (pa_cons (pv 2) pa_nil)) (pg_sub (pv 2) (pv 5) (set_mark hr.units)))) pss_nil)
  (pss_one (ps_dput (hu_of hr) (pv 3) (pv 4) (pe_ix (ix_mark hr.units) (pv 2) (pv 5) (fun _ _ => rfl)) rfl)))))
  (pss_one (ps_ret (pv 3)))))), ?_⟩
    refine zstart [some (.ref op), some (.ref md), none, none, none, none] rfl ?_; try dsimp only [zK, zK2]
    walk_at "zz"
    refine fun nd hn => ?_
    walk_at "zz"
    refine fun cd hc => ?_
    have ncd : nd ≠ cd := fun e => by subst e; rw [upd_same] at hc; cases hc
    have hcH : H cd = none := by rw [upd_ne ncd.symm] at hc; exact hc
    have hnH : H nd = none := hn
    obtain ⟨H1, hH1⟩ : ∃ H1, H1 = upd (upd H nd (.dK [])) cd (.dK []) := ⟨_, rfl⟩
    have s1 : Same H H1 := by rw [hH1]; exact ((Same.refl H).mutz hn).mutz hcH
    have en : H1 nd = some (.dK []) := by rw [hH1, upd_ne ncd, upd_same]
    have ec : H1 cd = some (.dK []) := by rw [hH1, upd_same]
    rw [← hH1]
    clear hH1 hc hn
    walk_at "zz"
    refine i_KL (SqL.of (s1 _ _ eo)) ?_
    have hol : (ivs o).length = o.length := by unfold ivs; rw [List.length_map]
    refine l_for (walk_list (xs := ivs o)) (fun i σ H' => Same H H' ∧ MD P w pr H' nd (zl ((fsts key (o.take i)).map key)) ∧ H' cd = some (.dK (kN (o.take i) fun s => .int (nb key o s : Int))) ∧
      ∃ v4 v5, σ = [some (.ref op), some (.ref md), some (.ref nd), some (.ref cd), v4, v5]) ⟨s1, .inl ⟨rfl, en⟩, ec, none, none, rfl⟩ (fun i σ H1 _ p => SqL.of (p.1 _ _ eo)) ?_ ?_
    · rintro i x σ H3 H4 hi ⟨s3, m3, ec3, v4, v5, rfl⟩ ⟨rfl, hx⟩
      have hi' : i < o.length := by omega
      have hx' : x = .int (o[i] : Int) := by
        unfold ivs at hx
        rw [List.getElem?_map, List.getElem?_eq_getElem hi'] at hx
        exact (Option.some.inj hx).symm
      subst hx'
      have hs : o[i]? = some o[i] := List.getElem?_eq_getElem hi'
      have hmem := List.getElem_mem hi'
      have htk : o.take (i + 1) = o.take i ++ [o[i]] := by rw [List.take_add_one, hs]; rfl
      have hni : o[i] ∉ o.take i := by
        have : (o.take (i + 1)).Nodup := List.Sublist.nodup (List.take_sublist _ _) hnd
        rw [htk] at this
        intro z
        exact (List.nodup_append.mp this).2.2 _ z _ (List.mem_singleton.mpr rfl) rfl
      have hnew := nb_new (key := key) (o := o) hs
      have hold := nb_old (key := key) (o := o) hs
      generalize o[i] = z at hmem htk hni hnew hold
      obtain ⟨im, ipr⟩ := hk z hmem
      have im3 : IsMk H4 (g z) (key z) := im.same s3
      have ne1 : nd ≠ cd := ncd
      walk_at "zz"
      refine i_dget ?_
      walk_at "zz"
      refine ⟨md, g z, rfl, kN_dget (s3 _ _ em) hmem, ?_⟩
      walk_at "zz"
      subst ipr
      have hfl : (fsts key (o.take i)).length ≤ o.length := by
        have h1 := nodup_le (l := fsts key (o.take i)) (m := o) ?_ (fun c hc => List.mem_of_mem_take (fsts_sub _ _ c hc))
        · exact h1
        · exact (List.pairwise_map.mp (fsts_nd key (o.take i))).imp fun hab e => hab (congrArg key e)
      refine ⟨nd, _, key z, rfl, m3, im3, ?_⟩
      rw [zl_look]
      have hzm : z ∈ o.take (i + 1) := by rw [htk]; simp
      have hnbz := nb_take (key := key) hzm
      unfold nb at hnbz
      by_cases hz : key z ∈ (fsts key (o.take i)).map key
      · rw [if_pos hz]
        obtain ⟨_, e2⟩ := hold hz
        rw [e2] at hnbz
        refine ⟨false, rfl, ?_⟩
        walk_at "zz"
        refine i_dput ?_
        walk_at "zz"
        refine ⟨nd, _, key z, _, rfl, m3, im3, by rw [zl_look, if_pos hz], ?_⟩
        rw [hnbz]
        walk_at "zz"
        refine ⟨cd, _, rfl, kN_dput (f := fun s => .int (nb key o s : Int)) ec3 hni (by rw [List.length_take]; omega), ?_⟩
        rw [← htk]
        refine ⟨s3.mutz hcH, ?_, upd_same, _, _, rfl⟩
        rw [e2]
        exact m3.other ec3 (fun xs e => by cases e) ncd
      · rw [if_neg hz]
        obtain ⟨e1, e2⟩ := hnew hz
        rw [e2] at hnbz
        refine ⟨true, rfl, ?_⟩
        walk_at "zz"
        refine ⟨nd, _, _, rfl, m3, ?_⟩
        walk_at "zz"
        rw [zl_len, List.length_map]
        refine ⟨nd, _, key z, _, rfl, rfl, m3, im3, by rw [zl_look, if_neg hz], by rw [zl_len, List.length_map]; omega, fun o' m4 => ?_⟩
        have s4 : Same H (upd H4 nd o') := s3.mutz hnH
        have ec4 : upd H4 nd o' cd = some (.dK (kN (o.take i) fun s => .int (nb key o s : Int))) := by rw [upd_ne ncd.symm]; exact ec3
        have m4' : MD P w (key z).pair (upd H4 nd o') nd (zl ((fsts key (o.take (i + 1))).map key)) := by
          rw [e2, List.map_append, List.map_cons, List.map_nil, zl_snoc, List.length_map]
          exact m4
        generalize upd H4 nd o' = H5 at s4 ec4 m4'
        walk_at "zz"
        refine i_dput ?_
        walk_at "zz"
        have hz2 : key z ∈ (fsts key (o.take (i + 1))).map key := by rw [e2]; simp
        refine ⟨nd, _, key z, _, rfl, m4', im.same s4, by rw [zl_look, if_pos hz2], ?_⟩
        rw [e2, hnbz]
        walk_at "zz"
        refine ⟨cd, _, rfl, kN_dput (f := fun s => .int (nb key o s : Int)) ec4 hni (by rw [List.length_take]; omega), ?_⟩
        rw [← htk]
        rw [e2] at m4'
        exact ⟨s4.mutz hcH, m4'.other ec4 (fun xs e => by cases e) ncd, upd_same, _, _, rfl⟩
    · rintro σ H3 ⟨s3, m3, ec3, v4, v5, rfl⟩
      rw [hol, List.take_length] at ec3
      walk_at "zz"
      exact k cd H3 hcH s3 ec3
/-- as many classes as the greatest number tells -/
theorem nb_max {κ : Type} [DecidableEq κ] {key : Nat → κ} {o : List Nat} (h : o ≠ []) : (∀ s ∈ o, nb key o s < (fsts key o).length) ∧ ∃ s ∈ o, nb key o s + 1 = (fsts key o).length := by
  refine ⟨fun s hs => nb_lt hs, ?_⟩
  obtain ⟨x, o', rfl⟩ := List.exists_cons_of_ne_nil h
  have hx : key x ∈ (fsts key (x :: o')).map key := fsts_all key _ x List.mem_cons_self
  have hpos : 0 < (fsts key (x :: o')).length := by
    obtain ⟨r, hr, _⟩ := List.mem_map.mp hx
    exact List.length_pos_of_mem hr
  have hl : (fsts key (x :: o')).length - 1 < (fsts key (x :: o')).length := by omega
  refine ⟨(fsts key (x :: o'))[(fsts key (x :: o')).length - 1], fsts_sub _ _ _ (List.getElem_mem hl), ?_⟩
  unfold nb
  have hl2 : (fsts key (x :: o')).length - 1 < ((fsts key (x :: o')).map key).length := by rw [List.length_map]; exact hl
  have e := List.Nodup.idxOf_getElem (fsts_nd key (x :: o')) _ hl2
  rw [List.getElem_map] at e
  rw [e]; omega
def spHowMany : Sp := fun vs H Q _ => ∃ (p : Addr) (o : List Nat) (key : Nat → Mk), vs = [.ref p] ∧ H p = some (.dK (kN o fun s => .int (nb key o s : Int))) ∧ o ≠ [] ∧ o.length ≤ 1000 ∧ ∀ H', Same H H' → Q (.int ((fsts key o).length : Int)) H'
theorem c__how_many (d : DF K mg "_how_many" s__how_many) (B : Bi mg) : Cal P w K mg base 1 "_how_many" spHowMany [] := by
  refine d.cal (N := n__how_many) sc__how_many (fun _ _ _ _ _ _ us hl => match us, hl with | [_], _ => rfl) (fun vs H Q E h => ?_) (fun f cdv A outer s H vs Q E hr h => ?_)
  · obtain ⟨p, o, key, rfl, _⟩ := h
    rfl
  · obtain ⟨p, o, key, rfl, ep, hne, ho, k⟩ := h
    refine ⟨_, (pss_one (ps_ret (pe_op z_add pe_int (pe_callB (cr_max rfl) (by rfl) B.max (by decide +kernel) (pa_cons (pe_listVals (by rfl) (pv 0) rfl B.list (by decide +kernel)) pa_nil))))), ?_⟩
    refine zstart [some (.ref p)] rfl ?_; try dsimp only [zK, zK2]
    walk_at "zz"
    refine i_listVals ?_
    walk_at "zz"
    refine ⟨p, _, rfl, ep, fun q hq => ?_⟩
    walk_at "zz"
    obtain ⟨h1, s0, hs0, h2⟩ := nb_max (key := key) hne
    refine ⟨q, o.map fun s => ((nb key o s : Nat) : Int), rfl, SqL.of (by rw [upd_same]; unfold kN; rw [List.map_map, List.map_map]; rfl), by rw [List.length_map]; exact List.length_pos_of_mem hs0, fun m hm hle => ?_⟩
    obtain ⟨u, hu, rfl⟩ := List.mem_map.mp hm
    have e1 := h1 u hu
    have e2 := hle _ (List.mem_map.mpr ⟨s0, hs0, rfl⟩)
    walk_at "zz"
    rw [show (1 : Int) + (nb key o u : Nat) = ((fsts key o).length : Int) by omega]
    exact k _ ((Same.refl H).mutz hq)
end
end Y

namespace Y
/-! ### the list of deeds, shortest words first -/
/-- the deed behind one more letter -/
def nxtD (t : List (List Nat)) (g : List Nat) (i : Nat) : List Nat := g.map fun s => dl t s i
/-- one letter more behind the word u with the deed g -/
def putD1 (L : List Nat) (t : List (List Nat)) (u g : List Nat) (fs : List (List Nat × List Nat)) (i : Nat) : List (List Nat × List Nat) :=
  if nxtD t g i ∈ fs.map (·.2) then fs else fs ++ [(u ++ [L.getD i 0], nxtD t g i)]
def putD (L : List Nat) (t : List (List Nat)) (u g : List Nat) (fs : List (List Nat × List Nat)) (n : Nat) : List (List Nat × List Nat) := (List.range n).foldl (putD1 L t u g) fs
theorem putD_succ (L : List Nat) (t : List (List Nat)) (u g : List Nat) (fs : List (List Nat × List Nat)) (n : Nat) : putD L t u g fs (n + 1) = putD1 L t u g (putD L t u g fs n) n := by
  unfold putD; rw [List.range_succ, List.foldl_append]; rfl
def bfsD (L : List Nat) (t : List (List Nat)) : Nat → List (List Nat × List Nat)
  | 0 => [([], List.range t.length)]
  | k + 1 => putD L t ((bfsD L t k).getD k ([], [])).1 ((bfsD L t k).getD k ([], [])).2 (bfsD L t k) L.length
/-- what the search ends with: all deeds, or none if there are more than most -/
def DOut (L : List Nat) (t : List (List Nat)) (most : Nat) (r : Option (List (List Nat × List Nat))) : Prop :=
  ∃ K, (∀ j, j < K → j < (bfsD L t j).length ∧ (bfsD L t (j + 1)).length ≤ most) ∧ ((bfsD L t K).length ≤ K ∧ r = some (bfsD L t K) ∨ K < (bfsD L t K).length ∧ most < (bfsD L t (K + 1)).length ∧ r = none)
theorem DOut.one {L : List Nat} {t : List (List Nat)} {most : Nat} {r r' : Option (List (List Nat × List Nat))} (a : DOut L t most r) (b : DOut L t most r') : r = r' := by
  obtain ⟨K, h1, h2⟩ := a
  obtain ⟨K', h1', h2'⟩ := b
  have e : K = K' := by
    rcases Nat.lt_trichotomy K K' with z | z | z
    · obtain ⟨p, q⟩ := h1' K z
      rcases h2 with ⟨x, _⟩ | ⟨_, y, _⟩ <;> omega
    · exact z
    · obtain ⟨p, q⟩ := h1 K' z
      rcases h2' with ⟨x, _⟩ | ⟨_, y, _⟩ <;> omega
  subst e
  rcases h2 with ⟨x, e⟩ | ⟨x, _, e⟩ <;> rcases h2' with ⟨x', e'⟩ | ⟨x', _, e'⟩
  · rw [e, e']
  · omega
  · omega
  · rw [e, e']
/-- what holds of each one of the list -/
structure DOk (L : List Nat) (t : List (List Nat)) (k : Nat) (p : List Nat × List Nat) : Prop where
  len : p.2.length = t.length
  lt : ∀ s ∈ p.2, s < t.length
  wl : p.1.length ≤ k
  wd : ∀ c ∈ p.1, c ∈ L
theorem DOk.mono {L : List Nat} {t : List (List Nat)} {k k' : Nat} {p : List Nat × List Nat} (h : DOk L t k p) (hk : k ≤ k') : DOk L t k' p := ⟨h.len, h.lt, Nat.le_trans h.wl hk, h.wd⟩
theorem putD_ok {L : List Nat} {t : List (List Nat)} {n k : Nat} (TB : Tab t n) {u g : List Nat} (hg : g.length = t.length) (hu : u.length ≤ k) (huL : ∀ c ∈ u, c ∈ L) : ∀ (m : Nat) (fs : List (List Nat × List Nat)), m ≤ L.length → (∀ p ∈ fs, DOk L t (k + 1) p) → (fs.map (·.2)).Nodup →
    (∀ p ∈ putD L t u g fs m, DOk L t (k + 1) p) ∧ ((putD L t u g fs m).map (·.2)).Nodup ∧ fs <+: putD L t u g fs m ∧ (putD L t u g fs m).length ≤ fs.length + m
  | 0, fs, _, h, nd => ⟨h, nd, List.prefix_refl _, Nat.le_refl _⟩
  | m + 1, fs, hm, h, nd => by
    obtain ⟨a1, a2, a3, a4⟩ := putD_ok TB hg hu huL m fs (by omega) h nd
    rw [putD_succ]
    unfold putD1
    split
    · exact ⟨a1, a2, a3, by omega⟩
    · rename_i hn
      refine ⟨fun p hp => ?_, ?_, a3.trans (List.prefix_append _ _), by rw [List.length_append, List.length_cons, List.length_nil]; omega⟩
      · rcases List.mem_append.mp hp with hp | hp
        · exact a1 p hp
        · rw [List.mem_singleton.mp hp]
          refine ⟨by show (g.map _).length = _; rw [List.length_map, hg], fun s hs => ?_, by show (u ++ _).length ≤ k + 1; rw [List.length_append, List.length_cons, List.length_nil]; omega, fun c hc => ?_⟩
          · obtain ⟨s', _, rfl⟩ := List.mem_map.mp hs
            exact TB.dl_lt
          · rcases List.mem_append.mp hc with hc | hc
            · exact huL c hc
            · rw [List.mem_singleton.mp hc, List.getD_eq_getElem?_getD, List.getElem?_eq_getElem (by omega : m < L.length)]
              exact List.getElem_mem _
      · rw [List.map_append]
        exact List.nodup_append.mpr ⟨a2, by simp, fun a ha b hb => by
          intro e
          have hb : b = nxtD t g m := by simpa using hb
          exact hn (hb ▸ e ▸ ha)⟩
theorem bfsD_ok {L : List Nat} {t : List (List Nat)} {n : Nat} (TB : Tab t n) : ∀ k, (∀ j, j < k → j < (bfsD L t j).length) → (∀ p ∈ bfsD L t k, DOk L t k p) ∧ ((bfsD L t k).map (·.2)).Nodup
  | 0, _ => ⟨fun p hp => by
      rw [List.mem_singleton.mp hp]
      exact ⟨List.length_range, fun s hs => List.mem_range.mp hs, Nat.le_refl _, by simp⟩, by simp [bfsD]⟩
  | k + 1, h => by
    obtain ⟨a1, a2⟩ := bfsD_ok (L := L) TB k fun j hj => h j (by omega)
    have hk := h k (by omega)
    have hp := a1 _ (List.getElem_mem hk)
    have e : (bfsD L t k).getD k ([], []) = (bfsD L t k)[k] := by rw [List.getD_eq_getElem?_getD, List.getElem?_eq_getElem hk]; rfl
    have := putD_ok TB (k := k) hp.len hp.wl hp.wd L.length (bfsD L t k) (Nat.le_refl _) (fun p hp => (a1 p hp).mono (by omega)) a2
    rw [← e] at this
    exact ⟨this.1, this.2.1⟩
end Y

namespace Y
open PySem PySem.Spec PyProof.Rows L2 Z
open C8 (tCut pss_cut Cal pe_c Met pe_mt pe_mt0 Mak pe_mk)
/-! ### deeds in the heap: the list of pairs, the dict of those that are known -/
def WordAt (H : Hp) (p : Addr) (d : List Nat × List Nat) : Prop := ∃ q, H p = some (.tup [.str (S d.1), .ref q]) ∧ H q = some (.tup (ivs d.2))
theorem WordAt.imp {H H' : Hp} {p : Addr} {d : List Nat × List Nat} (h : WordAt H p d) (g : ∀ p xs, H p = some (.tup xs) → H' p = some (.tup xs)) : WordAt H' p d := by
  obtain ⟨q, e1, e2⟩ := h
  exact ⟨q, g _ _ e1, g _ _ e2⟩
def WordsAt (H : Hp) (ps : List Addr) (fs : List (List Nat × List Nat)) : Prop := Paired (WordAt H) ps fs
theorem WordsAt.imp {H H' : Hp} {ps : List Addr} {fs : List (List Nat × List Nat)} (h : WordsAt H ps fs) (g : ∀ p xs, H p = some (.tup xs) → H' p = some (.tup xs)) : WordsAt H' ps fs := by
  unfold WordsAt at h ⊢
  induction h with
  | nil => exact .nil
  | cons e _ ih => exact .cons (e.imp g) ih
theorem WordsAt.same {H H' : Hp} {ps : List Addr} {fs : List (List Nat × List Nat)} (h : WordsAt H ps fs) (s : Same H H') : WordsAt H' ps fs := h.imp fun _ _ e => s _ _ e
theorem WordsAt.other {H : Hp} {ps : List Addr} {fs : List (List Nat × List Nat)} {x : Addr} {o u : HO} (h : WordsAt H ps fs) (hx : H x = some u) (nt : ∀ xs, u ≠ .tup xs) : WordsAt (upd H x o) ps fs :=
  h.imp fun p xs e => by rw [upd_ne (fun z => by subst z; rw [hx] at e; cases e; exact nt _ rfl)]; exact e
theorem WordsAt.len {H : Hp} {ps : List Addr} {fs : List (List Nat × List Nat)} (h : WordsAt H ps fs) : ps.length = fs.length := by
  unfold WordsAt at h
  induction h with
  | nil => rfl
  | cons _ _ ih => rw [List.length_cons, List.length_cons, ih]
theorem WordsAt.get {H : Hp} : ∀ {ps : List Addr} {fs : List (List Nat × List Nat)} (h : WordsAt H ps fs) {i : Nat} (hi : i < fs.length), ∃ p, ps[i]? = some p ∧ WordAt H p fs[i]
  | _, _, .nil, i, hi => by cases hi
  | _, _, .cons e r, 0, _ => ⟨_, rfl, e⟩
  | _, _, .cons e r, i + 1, hi => by
    obtain ⟨p, h1, h2⟩ := WordsAt.get r (i := i) (by simpa using hi)
    exact ⟨p, by simpa using h1, h2⟩
def kg (g : List Nat) : List Key := g.map fun x : Nat => .inl ((x : Nat) : Int)
theorem kg_ivs (g : List Nat) : (kg g).map kV = ivs g := by
  unfold kg ivs
  rw [List.map_map]; rfl
theorem kg_inj : ∀ {g k : List Nat}, kg g = kg k → g = k
  | [], [], _ => rfl
  | [], _ :: _, h => by cases h
  | _ :: _, [], h => by cases h
  | x :: g, y :: k, h => by
    have h : (.inl ((x : Nat) : Int) : Key) :: kg g = .inl ((y : Nat) : Int) :: kg k := h
    rw [List.cons.injEq, Sum.inl.injEq] at h
    rw [kg_inj h.2, show x = y by omega]
def kT (fs : List (List Nat × List Nat)) : List (List Key × V) := fs.map fun p => (kg p.2, .bl true)
theorem kT_len (fs : List (List Nat × List Nat)) : (kT fs).length = fs.length := List.length_map ..
theorem kT_get {fs : List (List Nat × List Nat)} {g : List Nat} (h : g ∈ fs.map (·.2)) : valV (kT fs) (kg g) = some (.bl true) := by
  induction fs with
  | nil => cases h
  | cons x fs ih =>
    unfold valV kT
    rw [List.map_cons]
    by_cases e : x.2 = g
    · rw [List.find?_cons_of_pos (by simp [e])]; rfl
    · rw [List.find?_cons_of_neg (by simp; exact fun z => e (kg_inj z))]
      rw [List.map_cons, List.mem_cons] at h
      exact ih (h.resolve_left fun z => e z.symm)
theorem kT_no {fs : List (List Nat × List Nat)} {g : List Nat} (h : g ∉ fs.map (·.2)) : valV (kT fs) (kg g) = none := by
  unfold valV kT
  rw [Option.map_eq_none_iff, List.find?_eq_none]
  intro p hp
  obtain ⟨x, hx, rfl⟩ := List.mem_map.mp hp
  simp
  intro e
  exact h (List.mem_map.mpr ⟨x, hx, kg_inj e⟩)
theorem kT_put {fs : List (List Nat × List Nat)} {w g : List Nat} (h : g ∉ fs.map (·.2)) : putK (kT fs) (kg g) (.bl true) = kT (fs ++ [(w, g)]) := by
  unfold putK
  rw [if_neg]
  · unfold kT; rw [List.map_append]; rfl
  · intro z
    obtain ⟨p, hp, e⟩ := List.any_eq_true.mp z
    obtain ⟨x, hx, rfl⟩ := List.mem_map.mp hp
    simp at e
    exact h (List.mem_map.mpr ⟨x, hx, kg_inj e⟩)
theorem kT_dget {H : Hp} {a b : Addr} {fs : List (List Nat × List Nat)} {g : List Nat} (e : H a = some (.dT (kT fs))) (eb : H b = some (.tup (ivs g))) (h : g ∈ fs.map (·.2)) : DGet H a (.ref b) (some (.bl true)) := by
  have := DGet.t (k := kg g) e (by rw [kg_ivs]; exact eb)
  rw [kT_get h] at this
  exact this
theorem kT_dno {H : Hp} {a b : Addr} {fs : List (List Nat × List Nat)} {g : List Nat} (e : H a = some (.dT (kT fs))) (eb : H b = some (.tup (ivs g))) (h : g ∉ fs.map (·.2)) : DGet H a (.ref b) none := by
  have := DGet.t (k := kg g) e (by rw [kg_ivs]; exact eb)
  rw [kT_no h] at this
  exact this
theorem kT_dput {H : Hp} {a b : Addr} {fs : List (List Nat × List Nat)} {w g : List Nat} (e : H a = some (.dT (kT fs))) (eb : H b = some (.tup (ivs g))) (h : g ∉ fs.map (·.2)) (hl : fs.length < 90000) : DPut H a (.ref b) (.bl true) (upd H a (.dT (kT (fs ++ [(w, g)])))) := by
  have := DPut.t (k := kg g) (v := .bl true) e (by rw [kg_ivs]; exact eb) (lt_line (by rw [kT_len]; omega))
  rw [kT_put (w := w) h] at this
  exact this
end Y

namespace Y
open PySem PySem.Spec PyProof.Rows L2 Z
open C8 (tCut pss_cut Cal pe_c Met pe_mt pe_mt0 Mak pe_mk)
/-! ### name = {k: v for ..} -/
theorem sw_dict {k v : Expr} {gens : List Comprehension} {sc : Scope} {at1 at2 : Pos} {nm : Str} {ln : Nat} {env : Env} (isf : env.scope.kind = .function) (loc : env.scope.names.lookup nm = some .local) (same : (at2.line == at1.line) = true)
    (no : (sc.names.any fun (n, z) => n == nm && (z == .local || z == .cell)) = false) : swapsWith (.DictComp k v gens sc at1) (some (.Name nm at2)) ln env = pure true := by
  have h1 : env.kindOf nm = some .local := loc
  have h2 : env.blockKind = .function := by unfold Env.blockKind; rw [isf]; rfl
  unfold swapsWith
  simp only [h1, h2, no, Expr.pos, same]
  rfl
theorem ps_setDc {X : Cx} {i : Nat} {nm : Str} {at2 : Pos} {kx vx tg it : Expr} {ifs : List Expr} {sc : Scope} {own : List (Str × Nat)} {at1 at0 : Pos} {wi : TI} {g : TG} {tt : TT} {tk tv : TE} (calm : X.calm = true) (nd : X.N.Nodup) (hi : X.N[i]? = some nm) (loc : X.env.scope.names.lookup nm = some .local)
    (sw : swapsWith (.DictComp kx vx [⟨tg, it, ifs, 0⟩] sc at1) (some (.Name nm at2)) at0.line X.env = pure true) (pit : PI X tg it wi) (ok : BlkOk X.N X.env.scope sc own)
    (pg : ∀ (s : Shared) (H : Hp) (C : Addr) (cl : List (Str × Addr)) (fp : List Addr), PG (X.blk s H sc (compEnvC sc cl C X.env) fp) tg g) (pt : ∀ (s : Shared) (H : Hp) (C : Addr) (cl : List (Str × Addr)) (fp : List Addr), PTs (X.blk s H sc (compEnvC sc cl C X.env) fp) ifs tt)
    (pk : ∀ (s : Shared) (H : Hp) (C : Addr) (cl : List (Str × Addr)) (fp : List Addr), PE (X.blk s H sc (compEnvC sc cl C X.env) fp) kx tk)
    (pv : ∀ (s : Shared) (H : Hp) (C : Addr) (cl : List (Str × Addr)) (fp : List Addr), PE (X.blk s H sc (compEnvC sc cl C X.env) fp) vx tv) (fold : ∀ x, foldedSetIterable it X.env x = pure x := by intro _; rfl) :
    PS X (.Assign [.Name nm at2] (.DictComp kx vx [⟨tg, it, ifs, 0⟩] sc at1) at0) (tAsg (tDc wi g tt tk tv (own.map (·.2))) (gName i)) := by
  constructor
  intro pins s σ H D I want
  have want : tDc wi g tt tk tv (own.map (·.2)) σ H (fun x H1 => gName i x σ H1 D.nx) := want
  rw [exec_Assign_Name_used _ _ _ _ sw]
  apply wpAny_bind
  apply wpAny_standAt
  apply wpAny_bind
  show wpAny _ X.A (do let _ ← comprehension (.DictComp kx vx [⟨tg, it, ifs, 0⟩] sc at1) sc X.env (firstIterPos [⟨tg, it, ifs, 0⟩] at1) newDict false (eval it X.env) (some (assign (.Name nm at2) X.env))) _ _ s
  apply wpAny_bind
  refine thn (dc_core (Qf := fun _ s2 => SP X pins D .next s2) calm nd I pit ok pg pt pk pv fold want fun L C s2 m H2 I2 q ns fp => ?_) fun _ s2 z => wpAny_pure (wpAny_pure z)
  show wpAny _ _ (assign (.Name nm at2) X.env (.ref L)) _ _ _
  refine wpAny_assign_Name (store_ok2 (v := V.ref L) I2 nd hi (.inl loc) rfl (fun s3 I3 ⟨a, sb, ha⟩ => ?_) (.inr loc))
  obtain ⟨g0, g1, g2, g3, g4, g5⟩ := fp
  have ne : C ≠ a := by
    cases ha with
    | inl z => rw [z]; exact g1
    | inr z => exact fun e => g4 nm a z e.symm
  exact ⟨m, ns.sameBut sb ne, fun h3 sb3 => ⟨_, H2, I3.turned (t' := s3.toks) (fun b o hb e => (sb3.2 b hb).trans e) g0 g1 g3 g4 g5, q⟩⟩
end Y

namespace Y
open PySem PySem.Spec PyProof.Rows L2 Z
open C8 (tCut pss_cut Cal pe_c Met pe_mt pe_mt0 Mak pe_mk)
/-! ### {k: v}, k a tuple of numbers -/
def tDisp1T (tk tv : TE) : TE := fun σ H Q => ∀ p, H p = none → tk σ (upd H p (.dT [])) fun x H1 => tv σ H1 fun y H2 => H2 p = some (.dT []) ∧ ∃ (a : Addr) (k : List Key), x = .ref a ∧ H2 a = some (.tup (k.map kV)) ∧ Q (.ref p) (upd H2 p (.dT [(k, y)]))
theorem pe_disp1T {X : Cx} {pos : Pos} {ke ve : Expr} {tk tv : TE} (hu : X.A.units + 64 < cLine) (hk : PE X ke tk) (hv : PE X ve tv) : PE X (.Dict [some ke] [ve] pos) (tDisp1T tk tv) := by
  constructor
  intro pins s σ H Q I want
  have free := I.hok.fresh (Nat.le_refl s.heap.objs.size)
  have I1 := I.laid (a := s.heap.objs.size) (o := .dT []) (h' := s.heap.push { cls := .type "dict", data := .dict #[] }) (t' := s.toks) (fun _ _ q => Heap.get?_push_of_some _ q) (Nat.le_refl _) (dt_empty s.heap I.big)
  have want := want _ free
  obtain ⟨Qf, hQf⟩ : ∃ Qf : List (V × V) → Hp → Prop, Qf = fun ps H2 => ∃ x y, ps = [(x, y)] ∧ H2 s.heap.objs.size = some (.dT []) ∧ ∃ (a : Addr) (k : List Key), x = .ref a ∧ H2 a = some (.tup (k.map kV)) ∧ Q (.ref s.heap.objs.size) (upd H2 s.heap.objs.size (.dT [(k, y)])) := ⟨_, rfl⟩
  have read : tPairs [(tk, tv)] σ (upd H s.heap.objs.size (.dT [])) (fun ps H2 => match ps with
      | [(x, y)] => H2 s.heap.objs.size = some (.dT []) ∧ ∃ (a : Addr) (k : List Key), x = .ref a ∧ H2 a = some (.tup (k.map kV)) ∧ Q (.ref s.heap.objs.size) (upd H2 s.heap.objs.size (.dT [(k, y)]))
      | _ => False) := want
  have run := (pps_cons hk hv pps_nil : PPs X pos [some ke] [ve] [(tk, tv)]).run pins _ σ _ _ I1 read
  refine wpAny_Dict_any rfl rfl (by simp) (by show 1 ≤ 15; omega) (thn run fun vs s2 h2 => ?_)
  obtain ⟨ps, H2, I2, rel, q⟩ := h2
  match ps, q, rel with
  | [(x, y)], ⟨e, a, k, ex, ea, q⟩, .cons (b := (u, r)) ⟨rx, ry⟩ .nil =>
    subst ex
    have eu : u = .ref a := rx
    subst eu
    obtain ⟨z, hd, xs, rl, dd⟩ := dt_of I2.hok e
    have hxs : xs = [] := by cases rl; rfl
    subst hxs
    unfold storeAll
    rw [List.forIn_cons]
    refine wpAny_bind (wpAny_bind (wpAny_dictSet_heap (hsz := Nat.zero_le _) (show X.A.units < cLine by omega) (key_of I2.hok ea) dd fun h' dd' hs => wpAny_pure ?_))
    · show wpAny _ _ (forIn ([] : List (Value × Value)) PUnit.unit _) _ _ _
      rw [List.forIn_nil]
      refine wpAny_pure ?_
      obtain ⟨q1, es, ep, hq, h2, h3, h4, _, h5⟩ := dd'
      refine ⟨.ref s.heap.objs.size, _, d_write (ob := .dT [(k, y)]) I2 (by rw [e]; exact True.intro) hs ⟨q1, hq⟩ ⟨by show 1 ≤ sizeLine; decide, hd, _, (rl.put k ea ry).keeps fun c ys ec => ?_, q1, es, ep, hq, h2, h3, h4, h5⟩, rfl, q⟩
      rw [upd_ne (ne_of ec e (fun z => nomatch z))]
      exact ec
end Y

namespace Y
open PySem PySem.Spec PyProof.Rows L2 Z
open C8 (tCut pss_cut Cal pe_c Met pe_mt pe_mt0 Mak pe_mk)
/-! ### dicts from single letters -/
def kS (o : List Nat) (f : Nat → V) : List (Key × V) := o.map fun c => (.inr (S [c]), f c)
theorem kS_len (o : List Nat) (f : Nat → V) : (kS o f).length = o.length := List.length_map ..
theorem sing {c d : Nat} (h : S [c] = S [d]) : c = d := by
  have := S_inj h
  simpa using this
theorem kS_get {o : List Nat} {f : Nat → V} {s : Nat} (h : s ∈ o) : valV (kS o f) (.inr (S [s])) = some (f s) := by
  induction o with
  | nil => cases h
  | cons x o ih =>
    unfold kS
    rw [List.map_cons]
    by_cases e : x = s
    · subst e
      rw [valV_pos rfl]
    · rw [valV_neg fun z => e (sing (Sum.inr.inj z))]
      exact ih ((List.mem_cons.mp h).resolve_left fun z => e z.symm)
theorem kS_put {o : List Nat} {f : Nat → V} {s : Nat} (h : s ∉ o) : putK (kS o f) (.inr (S [s])) (f s) = kS (o ++ [s]) f := by
  unfold putK
  rw [if_neg]
  · unfold kS; rw [List.map_append]; rfl
  · intro z
    obtain ⟨p, hp, e⟩ := List.any_eq_true.mp z
    obtain ⟨x, hx, rfl⟩ := List.mem_map.mp hp
    have e := of_decide_eq_true e
    exact h (sing (Sum.inr.inj e) ▸ hx)
theorem kS_dget {H : Hp} {a : Addr} {o : List Nat} {f : Nat → V} {s : Nat} (e : H a = some (.dK (kS o f))) (h : s ∈ o) : DGet H a (.str (S [s])) (some (f s)) := by
  have := DGet.k (k := .inr (S [s])) e
  rw [kS_get h] at this
  exact this
/-- list(d): its keys -/
def zListD : List V → Hp → VK → Prop := fun xs H Q => ∃ (a : Addr) (kvs : List (Key × V)), xs = [.ref a] ∧ Rd H a (.dK kvs) ∧ ∀ p, H p = none → Q (.ref p) (upd H p (.lst (kvs.map fun kv => kV kv.1)))
theorem zc_listD {X : Cx} (hc : X.calm = true) : CallR X (.type "list") zListD := call_listD hc
theorem i_listD {H : Hp} {Q : VK} {a : Addr} {o : List Nat} {f : Nat → V} (e : H a = some (.dK (kS o f))) (q : ∀ p, H p = none → Q (.ref p) (upd H p (.lst (o.map fun c => V.str (S [c]))))) : zListD [.ref a] H Q :=
  ⟨a, _, rfl, .of e, fun p hp => by
    have := q p hp
    unfold kS
    rw [List.map_map]
    exact this⟩
theorem i_sortedK {K : PySem.W.Frag} {H : Hp} {Q : VK} {a : Addr} {z : List Nat} (e : H a = some (.lst (z.map fun c => V.str (S [c])))) (hl : z.length < 64) (q : ∀ (ys : List Nat) p, ys.Perm z → ys.Pairwise (· ≤ ·) → H p = none → Q (.ref p) (upd H p (.lst (ys.map fun c => V.str (S [c]))))) : rSortedS K [.ref a] H Q := by
  refine ⟨a, z.map fun c => S [c], rfl, SqL.of (by rw [List.map_map]; exact e), by rw [List.length_map]; exact hl, fun ys p py so hp => ?_⟩
  obtain ⟨zs, rfl, pz⟩ := unmap_S py
  have := q zs p pz (sorted_pw zs so) hp
  rw [List.map_map]
  exact this
/-- {k: v for c in ..}, the keys letters -/
theorem l_dcS {J : It} {σ : L2.St} {H : Hp} {Q : VK} {o : List Nat} {G : Hp → Prop} {Y : Nat → Hp → V → Hp → Prop} {n : Nat} (w : Walk J n G Y) {j : Nat} {tv : TE} {vs : List Nat} {D : Addr} (hD : H D = none) (W : L2.St) (hw : wipe σ vs = W) (hw2 : ∀ x : V, wipe (W.set j (some x)) vs = W) (hj : ∀ x : V, (W.set j (some x))[j]? = some (some x))
    (hnn : n = o.length) (hY : ∀ i H1 x H2, i < o.length → G H1 → Y i H1 x H2 → H2 = H1 ∧ (o.map fun c => V.str (S [c]))[i]? = some x) (hG : ∀ H1, Same H H1 → G H1) (hnd : o.Nodup) (hl : o.length ≤ 1000) (f : Nat → V)
    (hs : ∀ (c : Nat) (H1 : Hp) (P : VK), c ∈ o → Same H H1 → (∀ H2, Same H1 H2 → P (f c) H2) → tv (W.set j (some (.str (S [c])))) H1 P)
    (hd : ∀ H1, Same H H1 → H1 D = some (.dK (kS o f)) → Q (.ref D) H1) : DC J (gName j) tYes (tVar j) tv vs σ H Q D := by
  subst hnn
  refine ⟨fun i m H1 => m = o.length - i ∧ i ≤ o.length ∧ Same H H1 ∧ H1 D = some (.dK (kS (o.take i) f)), ⟨o.length, rfl, Nat.zero_le _, (Same.refl H).newz hD, upd_same⟩, ?_⟩
  rintro i m H1 ⟨rfl, hi, s1, e1⟩
  by_cases hlt : i < o.length
  · refine .inr ⟨w.goes i H1 hlt (hG _ s1), _, fun H' p => ⟨o.length - (i + 1), by omega, rfl, hlt, p⟩, fun x H2 y => ?_⟩
    obtain ⟨rfl, hx⟩ := hY i _ x _ hlt (hG _ s1) (w.yields i _ x _ hlt (hG _ s1) y)
    rw [List.getElem?_map, List.getElem?_eq_getElem hlt] at hx
    have hx := (Option.some.inj hx).symm
    subst hx
    rw [hw]
    refine i_gname ?_
    refine ⟨hw2 _, ?_⟩
    refine i_yes ?_
    refine iteT ?_
    refine ⟨_, hj _, ?_⟩
    have hs1 : o[i]? = some o[i] := List.getElem?_eq_getElem hlt
    have hmem := List.getElem_mem hlt
    have htk : o.take (i + 1) = o.take i ++ [o[i]] := by rw [List.take_add_one, hs1]; rfl
    have hni : o[i] ∉ o.take i := by
      have : (o.take (i + 1)).Nodup := List.Sublist.nodup (List.take_sublist _ _) hnd
      rw [htk] at this
      intro z
      exact (List.nodup_append.mp this).2.2 _ z _ (List.mem_singleton.mpr rfl) rfl
    generalize o[i] = z at hmem htk hni
    refine hs z H2 _ hmem s1 fun H3 s3 => ?_
    refine ⟨_, .inr (S [z]), rfl, s3 _ _ e1, lt_line (by rw [kS_len, List.length_take]; omega), (s1.trans s3).mutz hD, ?_⟩
    rw [upd_same, kS_put hni, htk]
  · have e : i = o.length := by omega
    subst e
    rw [List.take_length] at e1
    exact .inl ⟨w.stops _ (hG _ s1), hd _ s1 e1⟩
end Y

namespace Y
open PySem PySem.Spec PyProof.Rows L2 Z
open C8 (tCut pss_cut Cal pe_c Met pe_mt pe_mt0 Mak pe_mk)
/-! ### {k: v for ..}, the keys tuples of numbers and texts -/
theorem d_dictSetT {X : Cx} {pins : List (Addr × Obj)} {σ : L2.St} {H : Hp} {s : Shared} {E : Value → Shared → Prop} {D a : Addr} {kvs : List (List Key × V)} {k : List Key} {v : V} {r : Value} {Q : Unit → Shared → Prop} (hu : X.A.units < cLine) (I : Inv X pins σ H s)
    (hD : H D = some (.dT kvs)) (hz : kvs.length < sizeLine) (ea : H a = some (.tup (k.map kV))) (rv : RelV v r) (h : ∀ s', Inv X pins σ (upd H D (.dT (putK kvs k v))) s' → Q () s') : wpAny (model X.prog X.w) X.A (dictSet D (.ref a) r) Q E s := by
  obtain ⟨z, hd, xs, rl, dd⟩ := dt_of I.hok hD
  have hl : (putK kvs k v).length ≤ sizeLine := by have := length_putK kvs k v; omega
  refine wpAny_dictSet_heap (hsz := by rw [← rl.length]; exact z) hu (key_of I.hok ea) dd fun h' dd' hs => h _ ?_
  obtain ⟨q1, es, ep, hq, h2, h3, h4, _, h5⟩ := dd'
  refine d_write (ob := .dT (putK kvs k v)) I (by rw [hD]; exact True.intro) hs ⟨q1, hq⟩ ⟨hl, hd, _, (rl.put k ea rv).keeps fun c ys ec => ?_, q1, es, ep, hq, h2, h3, h4, h5⟩
  rw [upd_ne (ne_of ec hD (fun z => nomatch z))]
  exact ec
/-- one turn's end: the key is a tuple, the dict is D -/
def TurnT (D : Addr) (Nx : Hp → Prop) (y z : V) (H : Hp) : Prop := ∃ (kvs : List (List Key × V)) (k : List Key) (a : Addr), y = .ref a ∧ H a = some (.tup (k.map kV)) ∧ H D = some (.dT kvs) ∧ kvs.length < sizeLine ∧ Nx (upd H D (.dT (putK kvs k z)))
def DCT (J : It) (g : TG) (tt : TT) (tk tv : TE) (vs : List Nat) (σ : L2.St) (H1 : Hp) (Q : VK) (D : Addr) : Prop := ∃ W : Nat → Nat → Hp → Prop, (∃ m, W 0 m (upd H1 D (.dT []))) ∧ ∀ i m H, W i m H →
  (J.stop i H ∧ Q (.ref D) H) ∨ (J.go i H ∧ ∃ Nx : Hp → Prop, (∀ H', Nx H' → ∃ m', m' < m ∧ W (i + 1) m' H') ∧ ∀ x H', J.yld i H x H' → g x (wipe σ vs) H' fun σ2 H2 => wipe σ2 vs = wipe σ vs ∧ tt σ2 H2 fun b H3 =>
    if b = true then tk σ2 H3 fun y H4 => tv σ2 H4 fun z H5 => TurnT D Nx y z H5 else Nx H3)
def tDcT (wi : TI) (g : TG) (tt : TT) (tk tv : TE) (vs : List Nat) : TE := fun σ H Q => wi σ H fun J H1 => ∀ D, H1 D = none → DCT J g tt tk tv vs σ H1 Q D
theorem i_dcT {wi : TI} {g : TG} {tt : TT} {tk tv : TE} {vs : List Nat} {σ : L2.St} {H : Hp} {Q : VK} (q : wi σ H fun J H1 => ∀ D, H1 D = none → DCT J g tt tk tv vs σ H1 Q D) : tDcT wi g tt tk tv vs σ H Q := q
section
variable {X : Cx}
theorem pe_dcT {kx vx tg it : Expr} {ifs : List Expr} {sc : Scope} {own : List (Str × Nat)} {pos : Pos} {wi : TI} {g : TG} {tt : TT} {tk tv : TE} (hu : X.A.units + 1 < cLine) (calm : X.calm = true) (nd : X.N.Nodup) (pit : PI X tg it wi) (ok : BlkOk X.N X.env.scope sc own)
    (pg : ∀ (s : Shared) (H : Hp) (C : Addr) (cl : List (Str × Addr)) (fp : List Addr), PG (X.blk s H sc (compEnvC sc cl C X.env) fp) tg g) (pt : ∀ (s : Shared) (H : Hp) (C : Addr) (cl : List (Str × Addr)) (fp : List Addr), PTs (X.blk s H sc (compEnvC sc cl C X.env) fp) ifs tt)
    (pk : ∀ (s : Shared) (H : Hp) (C : Addr) (cl : List (Str × Addr)) (fp : List Addr), PE (X.blk s H sc (compEnvC sc cl C X.env) fp) kx tk)
    (pv : ∀ (s : Shared) (H : Hp) (C : Addr) (cl : List (Str × Addr)) (fp : List Addr), PE (X.blk s H sc (compEnvC sc cl C X.env) fp) vx tv) (fold : ∀ x, foldedSetIterable it X.env x = pure x := by intro _; rfl) :
    PE X (.DictComp kx vx [⟨tg, it, ifs, 0⟩] sc pos) (tDcT wi g tt tk tv (own.map (·.2))) := by
  refine ⟨fun pins s σ H Q I want => ?_⟩
  rw [arm_eval_DictComp]
  refine wpAny_comprehension_free (use := none) rfl fold (closure_ok fun y hy e => I.ok.has _ (ok.free y hy e)) ok.kind (fun y hy e => by rw [ok.uniq y hy, e]) (thn (pit.run pins s σ H _ I want) fun _ s1 first => thn first fun _ s2 got => ?_)
  obtain ⟨it', fp, tn, J, Ha, rfl, Ia, T, sta, fpa, go⟩ := got
  refine wpAny_newObj_type (newEnv_comp ?_)
  -- the dict is laid at the heap's end
  generalize hD : s2.heap.objs.size = D
  obtain ⟨W, ⟨m0, w0⟩, turn⟩ := go D (Ia.hok.fresh (Nat.le_of_eq hD))
  generalize hs3 : ({ s2 with heap := s2.heap.push { cls := .type "dict", data := .dict #[] } } : Shared) = s3
  have h3 : s3.heap = s2.heap.push { cls := .type "dict", data := .dict #[] } := by rw [← hs3]
  have Ib : Inv X pins σ (upd Ha D (.dT [])) s3 := by
    subst hs3
    refine Ia.laid (t' := s2.toks) (fun b o e => Heap.get?_push_of_some _ e) (Nat.le_of_eq hD) ?_
    subst hD
    exact dt_empty s2.heap Ia.big
  have fpb : ∀ b ∈ fp, FpOk X pins (upd Ha D (.dT [])) b ∧ b < s3.heap.objs.size := fun b hb => by
    obtain ⟨o, e, _⟩ := T.obj _ _ sta b hb
    have lt := Heap.lt_size e
    refine ⟨⟨?_, (fpa b hb).2⟩, by rw [h3, Heap.size_push]; exact Nat.lt_succ_of_lt lt⟩
    rw [upd_ne (by rw [← hD]; exact Nat.ne_of_lt lt)]
    exact (fpa b hb).1
  obtain ⟨Hb, hHb⟩ : ∃ Hb, upd Ha D (.dT []) = Hb := ⟨_, rfl⟩
  rw [hHb] at Ib fpb w0
  have Ic := block_start Ib ok nd fpb
  have pg := pg s3 Hb s3.heap.objs.size (cellsFrom (s3.heap.objs.size + 1) sc.names (cloFrom X.env.cells sc.names [])) fp
  have pt := pt s3 Hb s3.heap.objs.size (cellsFrom (s3.heap.objs.size + 1) sc.names (cloFrom X.env.cells sc.names [])) fp
  have pk := pk s3 Hb s3.heap.objs.size (cellsFrom (s3.heap.objs.size + 1) sc.names (cloFrom X.env.cells sc.names [])) fp
  have pv := pv s3 Hb s3.heap.objs.size (cellsFrom (s3.heap.objs.size + 1) sc.names (cloFrom X.env.cells sc.names [])) fp
  show codeAny _ _ (.compStart (.DictComp kx vx [⟨tg, it, ifs, 0⟩] sc pos) 0 (.ref it') (.ref D) (compEnvC sc (cellsFrom (s3.heap.objs.size + 1) sc.names (cloFrom X.env.cells sc.names [])) s3.heap.objs.size X.env)) (compPost (model X.prog X.w) X.A X.xe none _ (.ref D) s3.heap.objs.size) _
  generalize hce : compEnvC sc (cellsFrom (s3.heap.objs.size + 1) sc.names (cloFrom X.env.cells sc.names [])) s3.heap.objs.size X.env = ce at Ic pg pt pk pv ⊢
  have cL : ce.locals = s3.heap.objs.size := by rw [← hce]; rfl
  -- what walks stands as it was, whatever is laid
  have walkOk : ∀ {τ : L2.St} {Hx : Hp} {sx : Shared}, Inv (X.blk s3 Hb sc ce fp) [] τ Hx sx → (∀ b ∈ fp, Hx b = none) → ∀ b ∈ fp, FpOk (X.blk s3 Hb sc ce fp) [] Hx b := fun Ix hn b hb =>
    ⟨hn b hb, (Ix.ok.exf b hb).1, Ix.ok.exfs b hb, .inl hb, fun _ _ e => (Ix.ok.exf b hb).2 _ _ e, fun p hp => nomatch (show p ∈ ([] : List (Addr × Obj)) from hp)⟩
  have up3 : ∀ b o, s2.heap.get? b = some o → s3.heap.get? b = some o := fun b o e => by rw [h3]; exact Heap.get?_push_of_some _ e
  have st3 : tn 0 s3.heap := T.keep _ _ _ sta fun b _ o e => up3 b o e
  generalize hs4 : ({ s3 with heap := pushCells (s3.heap.push { cls := .type "dict", data := .dict #[] }) sc.names } : Shared) = s4 at Ic ⊢
  have st4 : tn 0 s4.heap := T.keep _ _ _ st3 fun b _ o e => by rw [← hs4]; exact pushCells_keeps _ _ _ _ (Heap.get?_push_of_some _ e)
  refine codeAny_compStart_dict (?loop : codeAny (model X.prog X.w) X.A (.compLoop (.DictComp kx vx [⟨tg, it, ifs, 0⟩] sc pos) 0 (.ref it') (.ref D) ce) _ s4) (T.self X.A 0 _ _ _ st4 ?loop)
  refine compLoop_anyD (fun n sx => ∃ i Hx, Inv (X.blk s3 Hb sc ce fp) [] (wipe σ (own.map (·.2))) Hx sx ∧ tn i sx.heap ∧ (∀ b ∈ fp, Hx b = none) ∧ W i n Hx) ?_ m0 ⟨0, Hb, Ic, st4, fun b hb => (fpb b hb).1.1, w0⟩
  rintro n s5 ⟨i, H5, I5, st5, n5, w5⟩
  rcases turn i n H5 w5 with ⟨stop, q⟩ | ⟨goes, Nx, hNx, step⟩
  · refine thnF (T.done (X.blk s3 Hb sc ce fp) rfl rfl rfl calm i [] s5 _ H5 (fun _ _ => False) I5 (walkOk I5 n5) st5 stop) fun r s6 ⟨hr, I6⟩ => ?_
    subst hr
    have I7 : Inv X pins σ H5 s6 := Ib.call' (ch := fp) I6.os I6.base I6.hok I6.bare fun b hb => by
      obtain ⟨_, x1, x2, _, x4, x5⟩ := (fpb b hb).1
      exact ⟨‹_›, x1, x4, x5⟩
    have nC : H5 s3.heap.objs.size = none := by rw [← cL]; exact I6.free
    obtain ⟨m, hn, _⟩ := I6.loc
    have hn : s6.heap.Ns ce.locals m := hn
    rw [cL] at hn
    obtain ⟨x0, x1, x2, x3, x4, x5⟩ := Ib.fpOk (Nat.le_refl _) nC
    exact ⟨m, hn, fun h'' sb => ⟨.ref D, H5, I7.turned (t' := s6.toks) (fun b o hb e => (sb.2 b hb).trans e) x0 x1 x3 x4 x5, rfl, q⟩⟩
  · refine thnF (T.item (X.blk s3 Hb sc ce fp) rfl rfl rfl calm i [] s5 _ H5 (fun _ _ => False) I5 (walkOk I5 n5) st5 goes) fun r s6 ⟨u, hr, h6⟩ => ?_
    subst hr
    refine thnF h6 fun _ s7 ⟨x, H7, I7, r7, y7, st7, n7⟩ => ?_
    refine thnF (pg.run _ s7 _ H7 x u _ (I7.pinned (walkOk I7 n7) (T.obj _ _ st7)) r7 (step x H7 y7)) fun _ s8 ⟨σ8, H8, I8, hw8, q8⟩ => ?_
    have back : ∀ {sx : Shared} {Hx : Hp}, Inv (X.blk s3 Hb sc ce fp) ([] ++ pinsAt fp s7.heap) σ8 Hx sx → Nx Hx → ∃ m, m < n ∧ ∃ i Hx, Inv (X.blk s3 Hb sc ce fp) [] (wipe σ (own.map (·.2))) Hx sx ∧ tn i sx.heap ∧ (∀ b ∈ fp, Hx b = none) ∧ W i m Hx := fun {sx Hx} Ix nx => by
      obtain ⟨m', hm, w'⟩ := hNx Hx nx
      have pin : ∀ b ∈ fp, ∀ o, s7.heap.get? b = some o → sx.heap.get? b = some o ∧ Hx b = none := fun b hb o e => by
        have := Ix.pin (b, o) (List.mem_append_right _ (List.mem_append_right _ (mem_pinsAt hb e)))
        exact ⟨this.1, this.2.1⟩
      refine ⟨m', hm, i + 1, Hx, (Ix.unpinned (pins := [])).weak (by rw [← hw8, wipe_length]) (fun j v e => ?_), T.keep _ _ _ st7 fun b hb o e => (pin b hb o e).1, fun b hb => ?_, w'⟩
      · rw [← hw8] at e
        exact (wipe_some e).1
      · obtain ⟨o, e, _⟩ := T.obj _ _ st7 b hb
        exact (pin b hb o e).2
    refine thnF (pt.run _ s8 σ8 H8 _ I8 q8) fun b s9 ⟨H9, I9, q9⟩ => ?_
    cases b with
    | false =>
      simp only [Bool.false_eq_true, if_false] at q9 ⊢
      exact back I9 q9
    | true =>
      simp only [if_true] at q9 ⊢
      refine thnF (pk.run _ s9 σ8 H9 _ I9 q9) fun z1 s10 ⟨yk, H10, I10, r10, q10⟩ => ?_
      refine thnF (pv.run _ s10 σ8 H10 _ I10 q10) fun z2 s11 ⟨yv, H11, I11, r11, kvs, k, a, ek, ea, hD11, hz11, nx⟩ => ?_
      subst ek
      have ez : z1 = .ref a := r10
      subst ez
      exact d_dictSetT (X := X.blk s3 Hb sc ce fp) (Nat.lt_of_succ_lt hu) I11 hD11 hz11 ea r11 fun s12 I12 => back I12 nx
end
/-- {k: v for ..} over what walks n steps: the keys tuples -/
theorem l_dcT {J : It} {σ : L2.St} {H : Hp} {Q : VK} {n : Nat} {G : Hp → Prop} {Y : Nat → Hp → V → Hp → Prop} (w : Walk J n G Y) {g : TG} {tt : TT} {tk tv : TE} {vs : List Nat} {D : Addr} (W : L2.St) (hw : wipe σ vs = W) (Pv : Nat → Hp → Prop) (h0 : Pv 0 (upd H D (.dT []))) (hG : ∀ i H, i ≤ n → Pv i H → G H)
    (hs : ∀ i x H1 H2, i < n → Pv i H1 → Y i H1 x H2 → g x W H2 fun σ3 H3 => wipe σ3 vs = W ∧ tt σ3 H3 fun b H4 => if b = true then tk σ3 H4 fun y H5 => tv σ3 H5 fun z H6 => TurnT D (Pv (i + 1)) y z H6 else Pv (i + 1) H4)
    (hd : ∀ H1, Pv n H1 → Q (.ref D) H1) : DCT J g tt tk tv vs σ H Q D := by
  subst hw
  refine ⟨fun i m H1 => m = n - i ∧ i ≤ n ∧ Pv i H1, ⟨n, rfl, Nat.zero_le _, h0⟩, ?_⟩
  rintro i m H1 ⟨rfl, hi, p⟩
  by_cases hlt : i < n
  · exact .inr ⟨w.goes i H1 hlt (hG _ _ hi p), Pv (i + 1), fun H' p' => ⟨n - (i + 1), by omega, rfl, hlt, p'⟩, fun x H2 y => hs i x H1 H2 hlt p (w.yields i _ x _ hlt (hG _ _ hi p) y)⟩
  · have e : i = n := by omega
    subst e
    exact .inl ⟨w.stops _ (hG _ _ hi p), hd _ p⟩
/-- one turn's end: the key is a number or a text, the dict is D -/
def TurnK (D : Addr) (Nx : Hp → Prop) (y z : V) (H : Hp) : Prop := ∃ (kvs : List (Key × V)) (k : Key), y = kV k ∧ H D = some (.dK kvs) ∧ kvs.length < sizeLine ∧ Nx (upd H D (.dK (putK kvs k z)))
theorem l_dcK {J : It} {σ : L2.St} {H : Hp} {Q : VK} {n : Nat} {G : Hp → Prop} {Y : Nat → Hp → V → Hp → Prop} (w : Walk J n G Y) {g : TG} {tt : TT} {tk tv : TE} {vs : List Nat} {D : Addr} (W : L2.St) (hw : wipe σ vs = W) (Pv : Nat → Hp → Prop) (h0 : Pv 0 (upd H D (.dK []))) (hG : ∀ i H, i ≤ n → Pv i H → G H)
    (hs : ∀ i x H1 H2, i < n → Pv i H1 → Y i H1 x H2 → g x W H2 fun σ3 H3 => wipe σ3 vs = W ∧ tt σ3 H3 fun b H4 => if b = true then tk σ3 H4 fun y H5 => tv σ3 H5 fun z H6 => TurnK D (Pv (i + 1)) y z H6 else Pv (i + 1) H4)
    (hd : ∀ H1, Pv n H1 → Q (.ref D) H1) : DC J g tt tk tv vs σ H Q D := by
  subst hw
  refine ⟨fun i m H1 => m = n - i ∧ i ≤ n ∧ Pv i H1, ⟨n, rfl, Nat.zero_le _, h0⟩, ?_⟩
  rintro i m H1 ⟨rfl, hi, p⟩
  by_cases hlt : i < n
  · exact .inr ⟨w.goes i H1 hlt (hG _ _ hi p), Pv (i + 1), fun H' p' => ⟨n - (i + 1), by omega, rfl, hlt, p'⟩, fun x H2 y => hs i x H1 H2 hlt p (w.yields i _ x _ hlt (hG _ _ hi p) y)⟩
  · have e : i = n := by omega
    subst e
    exact .inl ⟨w.stops _ (hG _ _ hi p), hd _ p⟩
/-! ### the numbers of tuples, of words -/
def kI (A : List (List Nat)) : List (List Key × V) := A.zipIdx.map fun p => (kg p.1, .int ((p.2 : Nat) : Int))
def kW (W : List (List Nat)) : List (Key × V) := W.zipIdx.map fun p => (.inr (S p.1), .int ((p.2 : Nat) : Int))
theorem kI_len (A : List (List Nat)) : (kI A).length = A.length := by unfold kI; rw [List.length_map, List.length_zipIdx]
theorem kW_len (A : List (List Nat)) : (kW A).length = A.length := by unfold kW; rw [List.length_map, List.length_zipIdx]
theorem putK_new {κ : Type} [DecidableEq κ] {kvs : List (κ × V)} {k : κ} {v : V} (h : ∀ p ∈ kvs, p.1 ≠ k) : putK kvs k v = kvs ++ [(k, v)] := by
  unfold putK
  rw [if_neg]
  intro z
  obtain ⟨p, hp, e⟩ := List.any_eq_true.mp z
  exact h p hp (of_decide_eq_true e)
theorem kI_snoc {A : List (List Nat)} {g : List Nat} (h : g ∉ A) : putK (kI A) (kg g) (.int ((A.length : Nat) : Int)) = kI (A ++ [g]) := by
  rw [putK_new fun p hp e => ?_]
  · unfold kI; rw [List.zipIdx_append, List.map_append, Nat.zero_add]; rfl
  · unfold kI at hp
    obtain ⟨q, hq, rfl⟩ := List.mem_map.mp hp
    have := kg_inj e
    exact h (this ▸ List.fst_mem_of_mem_zipIdx hq)
theorem kW_snoc {A : List (List Nat)} {g : List Nat} (h : g ∉ A) : putK (kW A) (.inr (S g)) (.int ((A.length : Nat) : Int)) = kW (A ++ [g]) := by
  rw [putK_new fun p hp e => ?_]
  · unfold kW; rw [List.zipIdx_append, List.map_append, Nat.zero_add]; rfl
  · unfold kW at hp
    obtain ⟨q, hq, rfl⟩ := List.mem_map.mp hp
    have := S_inj (Sum.inr.inj e)
    exact h (this ▸ List.fst_mem_of_mem_zipIdx hq)
theorem val_at {κ : Type} [DecidableEq κ] : ∀ {kvs : List (κ × V)} {i : Nat} {p : κ × V}, kvs[i]? = some p → (kvs.map (·.1)).Nodup → valV kvs p.1 = some p.2
  | [], i, _, h, _ => by cases h
  | q :: kvs, 0, p, h, _ => by
    have h : q = p := by simpa using h
    subst h
    exact valV_pos rfl
  | q :: kvs, i + 1, p, h, nd => by
    rw [List.getElem?_cons_succ] at h
    rw [List.map_cons, List.nodup_cons] at nd
    obtain ⟨q1, q2⟩ := q
    rw [valV_neg fun e => nd.1 (by rw [show q1 = _ from e]; exact List.mem_map.mpr ⟨_, List.mem_of_getElem? h, rfl⟩)]
    exact val_at h nd.2
theorem zip_fst {α : Type} : ∀ (l : List α) (n : Nat), (l.zipIdx n).map (·.1) = l
  | [], _ => rfl
  | a :: l, n => by rw [List.zipIdx_cons, List.map_cons, zip_fst l]
theorem kI_at {A : List (List Nat)} (nd : A.Nodup) {i : Nat} (hi : i < A.length) : valV (kI A) (kg A[i]) = some (.int ((i : Nat) : Int)) := by
  refine val_at (p := (kg A[i], .int ((i : Nat) : Int))) (i := i) ?_ ?_
  · unfold kI
    rw [List.getElem?_map, List.getElem?_zipIdx, List.getElem?_eq_getElem hi, Nat.zero_add]; rfl
  · have : (kI A).map (·.1) = A.map kg := by
      have h : A.map kg = (A.zipIdx.map (·.1)).map kg := by rw [zip_fst]
      rw [h]
      unfold kI
      rw [List.map_map, List.map_map]; rfl
    rw [this]
    exact List.pairwise_map.mpr (nd.imp fun hab e => hab (kg_inj e))
theorem kW_at {A : List (List Nat)} (nd : A.Nodup) {i : Nat} (hi : i < A.length) : valV (kW A) (.inr (S A[i]) : Key) = some (.int ((i : Nat) : Int)) := by
  refine val_at (p := ((.inr (S A[i]) : Key), .int ((i : Nat) : Int))) (i := i) ?_ ?_
  · unfold kW
    rw [List.getElem?_map, List.getElem?_zipIdx, List.getElem?_eq_getElem hi, Nat.zero_add]; rfl
  · have : (kW A).map (·.1) = A.map fun u => (.inr (S u) : Key) := by
      have h : (A.map fun u => (.inr (S u) : Key)) = (A.zipIdx.map (·.1)).map fun u => (.inr (S u) : Key) := by rw [zip_fst]
      rw [h]
      unfold kW
      rw [List.map_map, List.map_map]; rfl
    rw [this]
    exact List.pairwise_map.mpr (nd.imp fun hab e => hab (S_inj (Sum.inr.inj e)))
def KEn (K : PySem.W.Frag) (vs : List V) (H : Hp) (R : It → Prop) : Prop := ∃ a xs, vs = [.ref a] ∧ SqL K H a xs ∧ R (Ite K a)
theorem i_ien {K : PySem.W.Frag} {σ : L2.St} {H : Hp} {ta : TA} {R : It → Hp → Prop} (q : ta σ H fun vs H1 => KEn K vs H1 fun J => R J H1) : iEnum K ta σ H R := q
theorem i_KEn {K : PySem.W.Frag} {a : Addr} {xs : List V} {H : Hp} {R : It → Prop} (h : SqL K H a xs) (q : R (Ite K a)) : KEn K [.ref a] H R := ⟨a, xs, rfl, h, q⟩
end Y

namespace Y
open PySem L2
/-! ### breadth first over anything (pure) -/
section
variable {α : Type} [DecidableEq α]
def addG (o row : List α) : List α := row.foldl (fun o x => if x ∈ o then o else o ++ [x]) o
def bfsG (f : α → List α) (d s0 : α) : Nat → List α
  | 0 => [s0]
  | k + 1 => addG (bfsG f d s0 k) (f ((bfsG f d s0 k).getD k d))
structure OrdG (f : α → List α) (d s0 : α) (o : List α) : Prop where
  ex : ∃ k, o = bfsG f d s0 k ∧ o.length ≤ k ∧ ∀ j, j < k → j < (bfsG f d s0 j).length
variable {f : α → List α} {d s0 : α}
theorem OrdG.one {o o' : List α} (a : OrdG f d s0 o) (b : OrdG f d s0 o') : o = o' := by
  obtain ⟨k, e, h1, h2⟩ := a.ex
  obtain ⟨k', e', h1', h2'⟩ := b.ex
  have : k = k' := by
    rcases Nat.lt_trichotomy k k' with z | z | z
    · have := h2' k z; rw [← e] at this; omega
    · exact z
    · have := h2 k' z; rw [← e'] at this; omega
  rw [e, e', this]
theorem addG_snoc (o r : List α) (x : α) : addG o (r ++ [x]) = if x ∈ addG o r then addG o r else addG o r ++ [x] := by
  unfold addG
  rw [List.foldl_append]; rfl
theorem addG_pre (row : List α) : ∀ o : List α, o <+: addG o row := by
  induction row with
  | nil => exact fun o => List.prefix_refl _
  | cons x row ih =>
    intro o
    show o <+: addG (if x ∈ o then o else o ++ [x]) row
    split
    · exact ih o
    · exact (List.prefix_append _ _).trans (ih _)
theorem addG_mem (row : List α) : ∀ (o : List α) (x : α), x ∈ addG o row ↔ x ∈ o ∨ x ∈ row := by
  induction row with
  | nil => intro o x; simp [addG]
  | cons y row ih =>
    intro o x
    show x ∈ addG (if y ∈ o then o else o ++ [y]) row ↔ _
    rw [ih]
    split
    · rename_i h
      constructor
      · rintro (z | z)
        · exact .inl z
        · exact .inr (List.mem_cons_of_mem _ z)
      · rintro (z | z)
        · exact .inl z
        · rcases List.mem_cons.mp z with e | z
          · exact .inl (e ▸ h)
          · exact .inr z
    · rw [List.mem_append, List.mem_singleton, List.mem_cons, or_assoc]
theorem addG_nd (row : List α) : ∀ o : List α, o.Nodup → (addG o row).Nodup := by
  induction row with
  | nil => exact fun o h => h
  | cons x row ih =>
    intro o h
    show (addG (if x ∈ o then o else o ++ [x]) row).Nodup
    split
    · exact ih o h
    · rename_i hx
      exact ih _ (List.nodup_append.mpr ⟨h, by simp, fun a ha b hb => by rw [List.mem_singleton.mp hb]; intro e; exact hx (e ▸ ha)⟩)
theorem bfsG_nd : ∀ k, (bfsG f d s0 k).Nodup ∧ (bfsG f d s0 k)[0]? = some s0
  | 0 => ⟨by simp [bfsG], rfl⟩
  | k + 1 => by
    obtain ⟨h1, h2⟩ := bfsG_nd k
    refine ⟨addG_nd _ _ h1, ?_⟩
    obtain ⟨r, hr⟩ := addG_pre (f ((bfsG f d s0 k).getD k d)) (bfsG f d s0 k)
    show (addG _ _)[0]? = _
    rw [← hr]
    have hl : 0 < (bfsG f d s0 k).length := (List.getElem?_eq_some_iff.mp h2).1
    rw [List.getElem?_append_left hl]; exact h2
theorem bfsG_all {P : α → Prop} (p0 : P s0) (ps : ∀ s x, P s → x ∈ f s → P x) : ∀ k, (∀ j, j < k → j < (bfsG f d s0 j).length) → ∀ x ∈ bfsG f d s0 k, P x
  | 0, _, x, hx => by rw [show x = s0 by simpa [bfsG] using hx]; exact p0
  | k + 1, hj, x, hx => by
    have hx : x ∈ addG (bfsG f d s0 k) (f ((bfsG f d s0 k).getD k d)) := hx
    have ih := bfsG_all p0 ps k fun j h => hj j (by omega)
    rcases (addG_mem _ _ _).mp hx with hx | hx
    · exact ih x hx
    · have hk := hj k (by omega)
      refine ps _ _ (ih _ ?_) hx
      rw [List.getD_eq_getElem?_getD, List.getElem?_eq_getElem hk]
      exact List.getElem_mem _
theorem bfsG_pre : ∀ k j, bfsG f d s0 k <+: bfsG f d s0 (k + j)
  | _, 0 => List.prefix_refl _
  | k, j + 1 => (bfsG_pre k j).trans (addG_pre _ _)
theorem bfsG_len {U : List α} (hU : ∀ x ∈ U, ∀ y ∈ f x, y ∈ U) (h0 : s0 ∈ U) (k : Nat) (hj : ∀ j, j < k → j < (bfsG f d s0 j).length) : (bfsG f d s0 k).length ≤ U.length ∧ ∀ x ∈ bfsG f d s0 k, x ∈ U := by
  have h := bfsG_all (f := f) (d := d) (P := fun x => x ∈ U) h0 (fun s x hs hx => hU s hs x hx) k hj
  exact ⟨nodup_le (bfsG_nd k).1 h, h⟩
theorem OrdG.all {o : List α} (a : OrdG f d s0 o) {P : α → Prop} (p0 : P s0) (ps : ∀ s x, P s → x ∈ f s → P x) : ∀ x ∈ o, P x := by
  obtain ⟨k, e, _, hj⟩ := a.ex
  rw [e]
  exact bfsG_all p0 ps k hj
theorem OrdG.nd {o : List α} (a : OrdG f d s0 o) : o.Nodup := by
  obtain ⟨k, e, _⟩ := a.ex
  rw [e]
  exact (bfsG_nd k).1
theorem OrdG.head {o : List α} (a : OrdG f d s0 o) : o[0]? = some s0 := by
  obtain ⟨k, e, _⟩ := a.ex
  rw [e]
  exact (bfsG_nd k).2
theorem OrdG.closed {o : List α} (a : OrdG f d s0 o) {s x : α} (hs : s ∈ o) (hx : x ∈ f s) : x ∈ o := by
  obtain ⟨k, e, h1, h2⟩ := a.ex
  obtain ⟨i, hi, e2⟩ := List.getElem_of_mem hs
  have hik : i < k := by omega
  have hib := h2 i hik
  obtain ⟨j, rfl⟩ : ∃ j, k = i + 1 + j := ⟨k - (i + 1), by omega⟩
  have p1 := bfsG_pre (f := f) (d := d) (s0 := s0) i (1 + j)
  rw [show i + (1 + j) = i + 1 + j by omega, ← e] at p1
  have g := pre_get p1 (List.getElem?_eq_getElem hib)
  rw [List.getElem?_eq_getElem hi, e2] at g
  have g := Option.some.inj g
  have hm : x ∈ bfsG f d s0 (i + 1) := (addG_mem _ _ _).mpr (.inr (by
    rw [List.getD_eq_getElem?_getD (l := bfsG f d s0 i), List.getElem?_eq_getElem hib]
    show x ∈ f ((bfsG f d s0 i)[i])
    rw [← g]; exact hx))
  have p2 := bfsG_pre (f := f) (d := d) (s0 := s0) (i + 1) j
  rw [← e] at p2
  exact p2.subset hm
end
/-! ### dicts with tuples as keys, one for each of a list -/
section
variable {β : Type} [DecidableEq β] {key : β → List Key} {val : β → V} {o : List β} {q : β}
def gT (key : β → List Key) (val : β → V) (o : List β) : List (List Key × V) := o.map fun q => (key q, val q)
theorem gT_len : (gT key val o).length = o.length := List.length_map ..
theorem gT_get (inj : ∀ a b, key a = key b → a = b) (h : q ∈ o) : valV (gT key val o) (key q) = some (val q) := by
  unfold gT
  induction o with
  | nil => cases h
  | cons p r ih =>
    rw [List.map_cons]
    unfold valV
    rw [List.find?_cons]
    by_cases e : key p = key q
    · rw [decide_eq_true e]
      rw [inj _ _ e]; rfl
    · rw [decide_eq_false e]
      rcases List.mem_cons.mp h with z | z
      · rw [z] at e; exact absurd rfl e
      · exact ih z
theorem gT_no (inj : ∀ a b, key a = key b → a = b) (h : q ∉ o) : valV (gT key val o) (key q) = none := by
  unfold gT valV
  rw [List.find?_eq_none.mpr]
  · rfl
  · intro p hp
    obtain ⟨x, hx, rfl⟩ := List.mem_map.mp hp
    intro z
    have z := of_decide_eq_true z
    exact h (inj _ _ z ▸ hx)
theorem gT_put (inj : ∀ a b, key a = key b → a = b) (h : q ∉ o) {val' : β → V} (hv : ∀ p ∈ o, val' p = val p) : putK (gT key val o) (key q) (val' q) = gT key val' (o ++ [q]) := by
  rw [putK_new]
  · unfold gT
    rw [List.map_append, List.map_cons, List.map_nil]
    refine congrArg (· ++ _) (List.map_congr_left fun p hp => by rw [hv p hp])
  · intro p hp
    obtain ⟨x, hx, rfl⟩ := List.mem_map.mp hp
    exact fun z => h (inj _ _ z ▸ hx)
theorem gT_dget {H : Hp} {a b : Addr} (inj : ∀ a b, key a = key b → a = b) (e : H a = some (.dT (gT key val o))) (eb : H b = some (.tup ((key q).map kV))) (h : q ∈ o) : DGet H a (.ref b) (some (val q)) := by
  have := DGet.t e eb
  rw [gT_get inj h] at this
  exact this
theorem gT_dno {H : Hp} {a b : Addr} (inj : ∀ a b, key a = key b → a = b) (e : H a = some (.dT (gT key val o))) (eb : H b = some (.tup ((key q).map kV))) (h : q ∉ o) : DGet H a (.ref b) none := by
  have := DGet.t e eb
  rw [gT_no inj h] at this
  exact this
theorem gT_dput {H : Hp} {a b : Addr} (inj : ∀ a b, key a = key b → a = b) (e : H a = some (.dT (gT key val o))) (eb : H b = some (.tup ((key q).map kV))) (h : q ∉ o) (hl : o.length < 90000) {val' : β → V} (hv : ∀ p ∈ o, val' p = val p) : DPut H a (.ref b) (val' q) (upd H a (.dT (gT key val' (o ++ [q])))) := by
  have := DPut.t (v := val' q) e eb (Z.lt_line (by rw [gT_len]; omega))
  rw [gT_put inj h hv] at this
  exact this
end
end Y

namespace Y
open PySem PySem.Spec PyProof.Rows L2 Z
/-! ### pairs of a number and a list of numbers, in a list -/
theorem room65 {k : Nat} {A : Around} (r : Room k A) : A.units + 65 < cLine := by have := r.un; omega
def keyD (k : Nat × List Nat) : PyData := .tuple [.int (k.1 : Int), .list (ids k.2)]
theorem eqv_key (k k' : Nat × List Nat) : PyData.eqv (keyD k) (keyD k') = decide (k = k') := by
  have h : PyData.eqv (keyD k) (keyD k') = (PyData.eqvAll (ids [k.1]) (ids [k'.1]) && PyData.eqvAll (ids k.2) (ids k'.2)) := by
    show (PyData.eqv (.int (k.1 : Int)) (.int (k'.1 : Int)) && (PyData.eqvAll (ids k.2) (ids k'.2) && true)) = ((PyData.eqv (.int (k.1 : Int)) (.int (k'.1 : Int)) && true) && PyData.eqvAll (ids k.2) (ids k'.2))
    rw [Bool.and_true, Bool.and_true]
  rw [h, eqv_ids, eqv_ids, Bool.eq_iff_iff, Bool.and_eq_true, decide_eq_true_iff, decide_eq_true_iff, decide_eq_true_iff]
  obtain ⟨a, b⟩ := k
  obtain ⟨c, d⟩ := k'
  simp
theorem lay_keys : ∀ ks : List (Nat × List Nat), PyData.canLayAll0 (ks.map keyD) = true
  | [] => rfl
  | k :: ks => by
    show ((PyData.canLay0 (.int (k.1 : Int)) && (PyData.canLayAll0 (ids k.2) && true)) && PyData.canLayAll0 (ks.map keyD)) = true
    rw [lay_keys ks, show PyData.canLayAll0 (ids k.2) = true from lay_ids k.2]
    have := lay_ids [k.1]
    have : (PyData.canLay0 (.int (k.1 : Int)) && true) = true := this
    rw [Bool.and_true] at this
    rw [this]; rfl
theorem dep_key (k : Nat × List Nat) : (keyD k).depth ≤ 3 := by
  show PyData.depthAll [PyData.int (k.1 : Int), .list (ids k.2)] + 1 ≤ 3
  have h : (PyData.list (ids k.2)).depth ≤ 2 := by
    show PyData.depthAll (ids k.2) + 1 ≤ 2
    have := dep_row k.2
    have : PyData.depthAll (ids k.2) + 1 = (rowD k.2).depth := rfl
    have h2 := dep_row k.2
    omega
  have : PyData.depthAll [PyData.int (k.1 : Int), .list (ids k.2)] = max 0 (max (PyData.list (ids k.2)).depth 0) := rfl
  omega
theorem dep_keys : ∀ ks : List (Nat × List Nat), PyData.depthAll (ks.map keyD) ≤ 3
  | [] => Nat.zero_le _
  | k :: ks => by
    show max (keyD k).depth (PyData.depthAll (ks.map keyD)) ≤ 3
    have := dep_keys ks
    have := dep_key k
    omega
theorem shaped_key (k : Nat × List Nat) : SeqAt.shaped (keyD k) = true := by
  unfold SeqAt.shaped
  have h := lay_keys [k]
  have h : ((keyD k).canLay0 && true) = true := h
  rw [Bool.and_true] at h
  rw [h, decide_eq_true (show (keyD k).depth ≤ 64 by have := dep_key k; omega)]; rfl
theorem shaped_keys (ks : List (Nat × List Nat)) : SeqAt.shaped (.list (ks.map keyD)) = true := by
  unfold SeqAt.shaped
  have h2 : (PyData.list (ks.map keyD)).depth ≤ 4 := by
    show PyData.depthAll (ks.map keyD) + 1 ≤ 4
    have := dep_keys ks
    omega
  rw [show (PyData.list (ks.map keyD)).canLay0 = true from lay_keys ks, decide_eq_true (show (PyData.list (ks.map keyD)).depth ≤ 64 by omega)]; rfl
/-- the pair at p -/
def KeyAt (H : Hp) (p : Addr) (k : Nat × List Nat) : Prop := ∃ q, H p = some (.tup [.int (k.1 : Int), .ref q]) ∧ H q = some (.lst (ivs k.2))
theorem KeyAt.same {H H' : Hp} {p : Addr} {k : Nat × List Nat} (a : KeyAt H p k) (s : Same H H') : KeyAt H' p k := by
  obtain ⟨q, e1, e2⟩ := a
  exact ⟨q, s _ _ e1, s _ _ e2⟩
theorem KeyAt.dp {K : PySem.W.Frag} {H : Hp} {p : Addr} {k : Nat × List Nat} (a : KeyAt H p k) : Dp K H (.ref p) (keyD k) := by
  obtain ⟨q, e1, e2⟩ := a
  exact Rp.dp (N := N0) (d := keyD k) (by
    show (noD (.int (k.1 : Int)) && (noDs (ids k.2) && true)) = true
    rw [show noDs (ids k.2) = true from noD_row k.2]; rfl) (.tup e1 id (.cons (.int _) (.cons (.lst e2 id (ids_of _)) .nil)))
theorem keys_dp {K : PySem.W.Frag} {H : Hp} : ∀ {ps : List Addr} {ks : List (Nat × List Nat)}, Paired (KeyAt H) ps ks → DpAll K H (ps.map V.ref) (ks.map keyD)
  | _, _, .nil => .nil
  | _, _, .cons e r => .cons e.dp (keys_dp r)
theorem i_notInK {K : PySem.W.Frag} {H : Hp} {Q : VK} {a p : Addr} {k : Nat × List Nat} {ps : List Addr} {ks : List (Nat × List Nat)} (ha : KeyAt H a k) (ep : H p = some (.lst (ps.map V.ref))) (h : Paired (KeyAt H) ps ks) (q : Q (.bl (!decide (k ∈ ks))) H) : rNotInD K (.ref a) (.ref p) H Q := by
  refine ⟨keyD k, ks.map keyD, ha.dp, .lst (SqL.of ep) (keys_dp h), shaped_key k, shaped_keys ks, ?_⟩
  have : ((ks.map keyD).any fun z => PyData.eqv z (keyD k)) = decide (k ∈ ks) := by
    rw [List.any_map, Bool.eq_iff_iff, List.any_eq_true, decide_eq_true_iff]
    constructor
    · rintro ⟨x, hx, e⟩
      have e : PyData.eqv (keyD x) (keyD k) = true := e
      rw [eqv_key] at e
      rw [← of_decide_eq_true e]; exact hx
    · intro hk
      exact ⟨k, hk, by show PyData.eqv (keyD k) (keyD k) = true; rw [eqv_key]; exact decide_eq_true rfl⟩
  rw [this]
  exact q
def ixK {κ : Type} [DecidableEq κ] (ks : List κ) (k : κ) : Nat := ks.idxOf k
theorem ixK_lt {κ : Type} [DecidableEq κ] {ks : List κ} {k : κ} (h : k ∈ ks) : ∃ hl : ixK ks k < ks.length, ks[ixK ks k] = k ∧ ∀ m, m < ixK ks k → ∀ z, ks[m]? = some z → z ≠ k := by
  have hl := List.idxOf_lt_length_of_mem h
  refine ⟨hl, List.getElem_idxOf hl, fun m hm z hz e => ?_⟩
  have hne := List.not_of_lt_findIdx (p := (· == k)) hm
  have hml : m < ks.length := (List.getElem?_eq_some_iff.mp hz).1
  rw [List.getElem?_eq_getElem hml] at hz
  have h2 : (ks[m] == k) = true := by rw [Option.some.inj hz, e]; simp
  first
    | exact hne h2
    | (rw [h2] at hne; cases hne)
theorem i_idxK {K : PySem.W.Frag} {H : Hp} {Q : VK} {a p : Addr} {k : Nat × List Nat} {ps : List Addr} {ks : List (Nat × List Nat)} (ha : KeyAt H a k) (ep : H p = some (.lst (ps.map V.ref))) (h : Paired (KeyAt H) ps ks) (hk : k ∈ ks) (q : Q (.int ((ixK ks k : Nat) : Int)) H) : rIndexD K (.ref p) [.ref a] H Q := by
  obtain ⟨hl, e, hno⟩ := ixK_lt hk
  refine ⟨p, .ref a, keyD k, ks.map keyD, ixK ks k, keyD k, rfl, rfl, .lst (SqL.of ep) (keys_dp h), ha.dp, shaped_keys ks, shaped_key k, ?_, by rw [eqv_key]; exact decide_eq_true rfl, fun m z hm hz => ?_, q⟩
  · rw [List.getElem?_map, List.getElem?_eq_getElem hl, e]; rfl
  · have hml : m < ks.length := by omega
    rw [List.getElem?_map, List.getElem?_eq_getElem hml] at hz
    rw [← Option.some.inj hz, eqv_key, decide_eq_false_iff_not]
    exact hno m hm _ (List.getElem?_eq_getElem hml)
end Y

namespace Y
open PySem PySem.Spec PyProof.Rows L2 Z
open C8 (tCut pss_cut Cal pe_c Met pe_mt pe_mt0 Mak pe_mk)
abbrev s__classes : Stmt := topS 22
abbrev n__classes : List Str := ["table", "accepted", "order", "most", "classes", "state", "many", "marks", "to"]
theorem sc__classes : FnScope n__classes ["table", "accepted", "order", "most"] (defScope s__classes) := ⟨rfl, rfl, rfl, by decide +kernel, rfl, by decide +kernel, by decide +kernel⟩

/-- the flags of the accepted -/
def spClasses : Sp := fun vs H Q _ => ∃ (vt : V) (ad op : Addr) (t : List (List Nat)) (n s0 : Nat) (a o : List Nat), vs = [vt, .ref ad, .ref op, .non] ∧ Rp N0 H vt (tabD t) ∧ Tab t n ∧ t.length ≤ 1000 ∧ n ≤ 1000 ∧ s0 < t.length ∧ Order t s0 o ∧ H ad = some (.dK (kN a fun _ => .bl true)) ∧ H op = some (.lst (ivs o)) ∧ a.length ≤ 1000 ∧
  ∀ (p : Addr) H', H p = none → Same H H' → H' p = some (.dK (kN o fun s => .int (cn t a o s : Int))) → Q (.ref p) H'
theorem kN_congr {o : List Nat} {f g : Nat → V} (h : ∀ s ∈ o, f s = g s) : kN o f = kN o g := by
  unfold kN
  exact List.map_congr_left fun s hs => by rw [h s hs]
theorem kN_snoc (o : List Nat) (f : Nat → V) (s : Nat) : kN (o ++ [s]) f = kN o f ++ [(.inl ((s : Nat) : Int), f s)] := by
  unfold kN; rw [List.map_append]; rfl
theorem kN_putf {o : List Nat} {f : Nat → V} {s : Nat} {v : V} (h : s ∉ o) : putK (kN o f) (.inl ((s : Nat) : Int)) v = kN (o ++ [s]) fun u => if u = s then v else f u := by
  have e : kN o f = kN o fun u => if u = s then v else f u := kN_congr fun u hu => by
    show f u = if u = s then v else f u
    rw [if_neg fun z : u = s => h (by rw [← z]; exact hu)]
  have e2 := kN_put (f := fun u => if u = s then v else f u) h
  rw [← e, if_pos rfl] at e2
  exact e2
theorem IsMk.other {H : Hp} {v : V} {k : Mk} {x : Addr} {o u : HO} (h : IsMk H v k) (hx : H x = some u) (nt : ∀ xs, u ≠ .tup xs) : IsMk (upd H x o) v k := by
  cases k with
  | b x => exact h
  | p k =>
    obtain ⟨a, b, rfl, e1, e2⟩ := h
    exact ⟨a, b, rfl, by rw [upd_ne (fun z => by subst z; rw [hx] at e1; cases e1; exact nt _ rfl)]; exact e1, by rw [upd_ne (fun z => by subst z; rw [hx] at e2; cases e2; exact nt _ rfl)]; exact e2⟩
/-- the key of the next step -/
def kOf (t : List (List Nat)) (c : Nat → Nat) (s : Nat) : Mk := .p ((c s : Int), ((t.getD s []).map c).map fun x : Nat => (x : Int))
theorem kOf_eq {t : List (List Nat)} {c : Nat → Nat} {s u : Nat} : kOf t c s = kOf t c u ↔ rk t c s = rk t c u := by
  unfold kOf rk
  have inj : ∀ {l m : List Nat}, (l.map fun x : Nat => (x : Int)) = (m.map fun x : Nat => (x : Int)) → l = m := by
    intro l
    induction l with
    | nil => intro m h; cases m with
      | nil => rfl
      | cons y m => cases h
    | cons x l ih => intro m h; cases m with
      | nil => cases h
      | cons y m =>
        rw [List.map_cons, List.map_cons, List.cons.injEq] at h
        rw [ih h.2, show x = y by omega]
  constructor
  · intro h
    rw [Mk.p.injEq, Prod.mk.injEq] at h
    rw [Prod.mk.injEq]
    exact ⟨by omega, inj h.2⟩
  · intro h
    rw [Prod.mk.injEq] at h
    rw [h.1, h.2]
theorem cnt_le {κ κ' : Type} [DecidableEq κ] [DecidableEq κ'] {key : Nat → κ} {key' : Nat → κ'} {o : List Nat} (fine : ∀ s ∈ o, ∀ u ∈ o, key' s = key' u → key s = key u) : (fsts key o).length ≤ (fsts key' o).length := by
  have h1 : ((fsts key o).map key').Nodup := by
    rw [List.nodup_iff_pairwise_ne, List.pairwise_map]
    have := List.pairwise_map.mp (fsts_nd key o)
    refine List.Pairwise.imp_of_mem (fun {a b} ha hb hab e => ?_) this
    exact hab (fine a (fsts_sub _ _ a ha) b (fsts_sub _ _ b hb) e)
  have := nodup_le h1 (m := (fsts key' o).map key') (fun c hc => by
    obtain ⟨r, hr, rfl⟩ := List.mem_map.mp hc
    exact fsts_all key' o r (fsts_sub _ _ r hr))
  rwa [List.length_map, List.length_map] at this
/-- what the steps keep -/
structure Stp (t : List (List Nat)) (a o : List Nat) (many : Nat) (key : Nat → Mk) : Prop where
  la : ∀ s ∈ o, ∀ u ∈ o, lang t a s = lang t a u → key s = key u
  acc : ∀ s ∈ o, ∀ u ∈ o, key s = key u → (s ∈ a ↔ u ∈ a)
  le : many ≤ (fsts key o).length
  gd : many = (fsts key o).length → ∀ s ∈ o, ∀ u ∈ o, key s = key u → lang t a s = lang t a u
theorem Stp.one {t : List (List Nat)} {a o : List Nat} (h : o ≠ []) : Stp t a o 0 fun s => .b (decide (s ∈ a)) := by
  refine ⟨fun s _ u _ e => by rw [lang_acc e], fun s _ u _ e => ?_, Nat.zero_le _, fun e => ?_⟩
  · have e := Mk.b.inj e
    rw [decide_eq_decide] at e
    exact e
  · obtain ⟨x, o', rfl⟩ := List.exists_cons_of_ne_nil h
    obtain ⟨r, hr, _⟩ := List.mem_map.mp (fsts_all (fun s => Mk.b (decide (s ∈ a))) (x :: o') x List.mem_cons_self)
    have := List.length_pos_of_mem hr
    omega
theorem Stp.nxt {t : List (List Nat)} {n many : Nat} {a o : List Nat} {key : Nat → Mk} (h : Stp t a o many key) (TB : Tab t n) (cl : ∀ s ∈ o, ∀ x ∈ t.getD s [], x ∈ o) (lt : ∀ s ∈ o, s < t.length) :
    Stp t a o (fsts key o).length (kOf t (nb key o)) := by
  have ce : ∀ s ∈ o, ∀ u, nb key o s = nb key o u ↔ key s = key u := fun s hs u => nb_inj hs
  have fine : ∀ s ∈ o, ∀ u ∈ o, kOf t (nb key o) s = kOf t (nb key o) u → key s = key u := fun s hs u hu e =>
    (ce s hs u).mp (Prod.mk.inj (kOf_eq.mp e)).1
  refine ⟨fun s hs u hu e => kOf_eq.mpr (rk_of_lang TB cl lt (fun s hs u hu e => (ce s hs u).mpr (h.la s hs u hu e)) s hs u hu e), fun s hs u hu e => h.acc s hs u hu (fine s hs u hu e), cnt_le fine, fun e s hs u hu e2 => ?_⟩
  have st := stab fine (by omega)
  exact lang_of TB cl lt (c := nb key o) (fun s hs u hu e => h.acc s hs u hu ((ce s hs u).mp e)) (fun s hs u hu e => kOf_eq.mp (st s hs u hu ((ce s hs u).mp e))) s hs u hu ((ce s hs u).mpr (fine s hs u hu e2))
section
variable {P : Program} {w : World} {K : PySem.W.Frag} {mg : Str → Option Value} {base : Heap}
theorem c__classes (d : DF K mg "_classes" s__classes) (B : Bi mg) (c__numbered : Cal P w K mg base 1 "_numbered" spNumbered []) (c__how_many : Cal P w K mg base 1 "_how_many" spHowMany []) : Cal P w K mg base 2 "_classes" spClasses [] := by
  refine d.cal (N := n__classes) sc__classes (fun _ _ _ _ _ _ us hl => match us, hl with | [_, _, _, _], _ => rfl) (fun vs H Q E h => ?_) (fun f cdv A outer s H vs Q E hr h => ?_)
  · obtain ⟨vt, ad, op, t, n, s0, a, o, rfl, _⟩ := h
    rfl
  · obtain ⟨vt, ad, op, t, n, s0, a, o, rfl, rt, TB, ht, hn, hs0, hO, ea, eo, hal, k⟩ := h
    refine ⟨_, (pss_cons (ps_set (i := 4) sc__classes.nd rfl (by first | exact Or.inl rfl | exact Or.inr rfl) (pe_c c__numbered hr (by first | decide | omega) rfl (pa_cons (pv 2) (pa_cons (pe_dc (own := [("state", 5)]) (g := gName 5) (tt := tYes) (by rfl) sc__classes.nd (pi_list (pv 2)) (blkOk_by (N := n__classes) (sc := defScope s__classes) (by decide +kernel)) (fun _ _ _ _ _ => (pg_name (i := 5) sc__classes.nd rfl (by first | exact Or.inl rfl | exact Or.inr rfl))) (fun _ _ _ _ _ => pts_nil) (fun _ _ _ _ _ => (pv 5)) (fun _ _ _ _ _ => (pe_cmp (pc_din (hu_of hr) (pv 5) (pv 1)) rfl))) pa_nil))))
  (pss_cons (ps_set (i := 6) sc__classes.nd rfl (by first | exact Or.inl rfl | exact Or.inr rfl) pe_int)
  (pss_cons (ps_while PassesOwn.never (pt_cmpR z_lt (pv 6) (pe_c c__how_many hr (by first | decide | omega) rfl (pa_cons (pv 4) pa_nil)) (nomark _)) (pss_cons (ps_set (i := 6) sc__classes.nd rfl (by first | exact Or.inl rfl | exact Or.inr rfl) (pe_c c__how_many hr (by first | decide | omega) rfl (pa_cons (pv 4) pa_nil)))
  (pss_cons (ps_if (PW.pt (pw_and (pt_cmpR op_notN (pv 3) pe_non (nomark _)) (pw_and1 (pt_cmpR z_gt (pv 6) (pv 3) (nomark _))))) (pss_one ps_never) pss_nil)
  (pss_cons (ps_set (i := 7) sc__classes.nd rfl (by first | exact Or.inl rfl | exact Or.inr rfl) pe_dnewK)
  (pss_cons (ps_for PassesOwn.never rfl (pi_list (pv 2)) (pg_name (i := 5) sc__classes.nd rfl (by first | exact Or.inl rfl | exact Or.inr rfl)) (pss_one (ps_dput (hu_of hr) (pv 7) (pv 5) (pe_tup (pa_cons (pe_dget (hu_of hr) (pv 4) (pv 5) (fun _ _ => rfl)) (pa_cons (pe_callTy (r := zTuple K) zc_tuple (by rfl) B.tuple (by decide +kernel) (pa_cons (pe_lc (own := [("to", 8)]) (g := gName 8) (tt := tYes) (by rfl) sc__classes.nd (pi_tup (pe_ix (r := rIxT K) ix_tup (pv 0) (pv 5) (fun _ _ => rfl))) (blkOk_by (N := n__classes) (sc := defScope s__classes) (by decide +kernel)) (fun _ _ _ _ _ => (pg_name (i := 8) sc__classes.nd rfl (by first | exact Or.inl rfl | exact Or.inr rfl))) (fun _ _ _ _ _ => pts_nil) (fun _ _ _ _ _ => (pe_dget (hu_of hr) (pv 4) (pv 8) (fun _ _ => rfl)))) pa_nil)) pa_nil))) rfl)))
  (pss_one (ps_set (i := 4) sc__classes.nd rfl (by first | exact Or.inl rfl | exact Or.inr rfl) (pe_c c__numbered hr (by first | decide | omega) rfl (pa_cons (pv 2) (pa_cons (pv 7) pa_nil))))))))))
  (pss_one (ps_ret (pv 4)))))), ?_⟩
    refine zstart [some (vt), some (.ref ad), some (.ref op), some (.non), none, none, none, none, none] rfl ?_; try dsimp only [zK, zK2]
    obtain ⟨hnd, hlt, h0⟩ := hO.ok TB hs0
    have hne : o ≠ [] := fun e => by rw [e] at h0; cases h0
    have hol : o.length ≤ t.length := by
      have := nodup_le hnd (fun c hc => List.mem_range.mpr (hlt c hc))
      rwa [List.length_range] at this
    have cl : ∀ s ∈ o, ∀ x ∈ t.getD s [], x ∈ o := fun s hs x hx => hO.closed hs hx
    have hil : (ivs o).length = o.length := by unfold ivs; rw [List.length_map]
    walk_at "zz"
    refine i_dc ?_
    walk_at "zz"
    refine i_KL (SqL.of eo) ?_
    refine fun D hD => ?_
    refine l_dcN (walk_list (xs := ivs o)) hD [some vt, some (V.ref ad), some (V.ref op), some V.non, none, none, none, none, none] rfl (fun _ => rfl) (fun _ => rfl) hil (fun i H1 x H2 _ _ y => ⟨y.1, y.2⟩) (fun H1 s1 => SqL.of (s1 _ _ eo)) hnd (by omega) (fun s => .bl (decide (s ∈ a))) (fun z H1 P1 hz s1 hP => ?_) fun H1 s1 eD => ?_
    · refine zte [some vt, some (V.ref ad), some (V.ref op), some V.non, none, some (.int (z : Int)), none, none, none] rfl ?_
      refine i_din ?_
      walk_at "zz"
      by_cases hza : z ∈ a
      · refine ⟨ad, _, rfl, kN_dget (s1 _ _ ea) hza, ?_⟩
        have := hP H1 (Same.refl _)
        rw [decide_eq_true hza] at this
        exact this
      · refine ⟨ad, _, rfl, kN_dno (s1 _ _ ea) hza, ?_⟩
        have := hP H1 (Same.refl _)
        rw [decide_eq_false hza] at this
        exact this
    walk_at "zz"
    refine ⟨op, D, o, fun s => .bl (decide (s ∈ a)), fun s => .b (decide (s ∈ a)), false, rfl, s1 _ _ eo, eD, hnd, by omega, fun s _ => ⟨rfl, rfl⟩, fun c1 H2 hc1 s2 ec1 => ?_⟩
    have s12 := s1.trans s2
    have hc1H : H c1 = none := by
      cases e : H c1 with
      | none => rfl
      | some u => rw [s1 _ _ e] at hc1; cases hc1
    walk_at "zz"
    obtain ⟨W, hW⟩ : ∃ W : Nat → L2.St → Hp → Prop, W = fun m σ H' => ∃ (cd : Addr) (key : Nat → Mk) (many : Nat) (v5 v7 : Option V), Same H H' ∧ H cd = none ∧ H' cd = some (.dK (kN o fun s => .int (nb key o s : Int))) ∧ Stp t a o many key ∧ m = 1000 - many ∧
      σ = [some vt, some (.ref ad), some (.ref op), some .non, some (.ref cd), v5, some (.int (many : Int)), v7, none] := ⟨_, rfl⟩
    refine ⟨W, ⟨1000, by rw [hW]; exact ⟨c1, _, 0, none, none, s12, hc1H, ec1, Stp.one hne, rfl, rfl⟩⟩, fun m σ H3 wm => ?_⟩
    rw [hW] at wm
    obtain ⟨cd, key, many, v5, v7, s3, hcd, ecd, ST, rfl, rfl⟩ := wm
    walk_at "zz"
    refine ⟨cd, o, key, rfl, ecd, hne, by omega, fun H4 s4 => ?_⟩
    have hcnt : (fsts key o).length ≤ o.length := by
      refine nodup_le (l := fsts key o) (m := o) ?_ (fun c hc => fsts_sub _ _ c hc)
      exact (List.pairwise_map.mp (fsts_nd key o)).imp fun hab e => hab (congrArg key e)
    have s34 := s3.trans s4
    walk_at "zz"
    refine brd (fun hk => ?_) fun hk => ?_
    · refine ⟨W (1000 - (fsts key o).length), fun σ' H' w => ⟨_, by omega, w⟩, ?_⟩
      walk_at "zz"
      refine ⟨cd, o, key, rfl, s4 _ _ ecd, hne, by omega, fun H5 s5 => ?_⟩
      have s35 := s34.trans s5
      have ecd5 := s5 _ _ (s4 _ _ ecd)
      walk_at "zz"
      refine ⟨rfl, ?_⟩
      refine ⟨false, by simp, ?_⟩
      walk_at "zz"
      refine fun md hmd => ?_
      have hmdH : H md = none := by
        cases e : H md with
        | none => rfl
        | some u => rw [s35 _ _ e] at hmd; cases hmd
      have e6 : upd H5 md (.dK []) md = some (.dK []) := upd_same
      have s6 : Same H (upd H5 md (.dK [])) := s35.mutz hmdH
      have ecd6 : upd H5 md (.dK []) cd = some (.dK (kN o fun s => .int (nb key o s : Int))) := by rw [upd_ne (ne_of_none ecd5 hmd)]; exact ecd5
      have nmd : cd ≠ md := ne_of_none ecd5 hmd
      generalize upd H5 md (.dK []) = H6 at e6 s6 ecd6
      walk_at "zz"
      refine i_KL (SqL.of (s6 _ _ eo)) ?_
      refine l_for (walk_list (xs := ivs o)) (fun i σ H' => Same H H' ∧ H' cd = some (.dK (kN o fun s => .int (nb key o s : Int))) ∧ (∃ g, H' md = some (.dK (kN (o.take i) g)) ∧ ∀ s ∈ o.take i, IsMk H' (g s) (kOf t (nb key o) s)) ∧
        ∃ v5, σ = [some vt, some (.ref ad), some (.ref op), some .non, some (.ref cd), v5, some (.int ((fsts key o).length : Int)), some (.ref md), none]) ⟨s6, ecd6, ⟨fun _ => .non, e6, fun s hs => by cases hs⟩, v5, rfl⟩ (fun i σ H1 _ p => SqL.of (p.1 _ _ eo)) ?_ ?_
      · rintro i x σ H7 H8 hi ⟨s7, ecd7, ⟨g, emd7, hg⟩, v5, rfl⟩ ⟨rfl, hx⟩
        have hi' : i < o.length := by omega
        unfold ivs at hx
        rw [List.getElem?_map, List.getElem?_eq_getElem hi'] at hx
        have hx' := (Option.some.inj hx).symm
        subst hx'
        have hs1 : o[i]? = some o[i] := List.getElem?_eq_getElem hi'
        have hmem := List.getElem_mem hi'
        have htk : o.take (i + 1) = o.take i ++ [o[i]] := by rw [List.take_add_one, hs1]; rfl
        have hni : o[i] ∉ o.take i := by
          have : (o.take (i + 1)).Nodup := List.Sublist.nodup (List.take_sublist _ _) hnd
          rw [htk] at this
          intro z
          exact (List.nodup_append.mp this).2.2 _ z _ (List.mem_singleton.mpr rfl) rfl
        generalize o[i] = z at hmem htk hni
        have hzt := hlt z hmem
        obtain ⟨hr1, hr2, hr3⟩ := TB.get hzt
        walk_at "zz"
        refine i_dput ?_
        walk_at "zz"
        refine i_dget ?_
        walk_at "zz"
        refine ⟨cd, _, rfl, kN_dget ecd7 hmem, ?_⟩
        walk_at "zz"
        refine i_ixRp (rt.same s7) (rowget hzt) fun x rx => ?_
        obtain ⟨pr, rfl, epr, _⟩ := rowD_rp rx
        walk_at "zz"
        refine i_KT (SqT.of epr) ?_
        refine fun Dl hDl => ?_
        refine l_map (walk_tup (xs := ivs t[z])) hDl [some vt, some (.ref ad), some (.ref op), some .non, some (.ref cd), some (.int (z : Int)), some (.int ((fsts key o).length : Int)), some (.ref md), none] rfl (fun _ => rfl) (ivs t[z]) rfl (by unfold ivs; rw [List.length_map]; omega) (fun i H1 x H2 _ _ y => ⟨y.1, y.2⟩) (fun H1 s1 => SqT.of (s1 _ _ epr)) (fun v => match v with | .int i => .int (nb key o i.toNat : Int) | _ => .non) (fun x H1 P1 hx1 s1 hP => ?_) fun H9 s9 e9 => ?_
        · obtain ⟨y, hy, rfl⟩ := List.mem_map.mp hx1
          refine zte [some vt, some (.ref ad), some (.ref op), some .non, some (.ref cd), some (.int (z : Int)), some (.int ((fsts key o).length : Int)), some (.ref md), some (.int (y : Int))] rfl ?_
          refine i_dget ?_
          walk_at "zz"
          exact ⟨cd, _, rfl, kN_dget (s1 _ _ ecd7) (cl z hmem y (by rw [hr1]; exact hy)), hP H1 (Same.refl _)⟩
        walk_at "zz"
        refine i_tupleL (SqL.of e9) fun q hq => ?_
        have e10 : upd H9 q (.tup ((ivs t[z]).map fun v => match v with | .int i => .int (nb key o i.toNat : Int) | _ => .non)) q = some (.tup (((t.getD z []).map (nb key o)).map fun x : Nat => V.int (x : Int))) := by
          rw [upd_same, hr1]
          unfold ivs
          rw [List.map_map, List.map_map]; rfl
        have s10 : Same H8 (upd H9 q (.tup ((ivs t[z]).map fun v => match v with | .int i => .int (nb key o i.toNat : Int) | _ => .non))) := s9.newz hq
        generalize upd H9 q (.tup ((ivs t[z]).map fun v => match v with | .int i => .int (nb key o i.toNat : Int) | _ => .non)) = H10 at e10 s10
        walk_at "zz"
        refine ⟨by show 2 ≤ sizeLine; decide, fun r hr => ?_⟩
        have s11 : Same H8 (upd H10 r (.tup [.int (nb key o z : Int), .ref q])) := s10.newz hr
        have e11 : upd H10 r (.tup [.int (nb key o z : Int), .ref q]) r = some (.tup [.int (nb key o z : Int), .ref q]) := upd_same
        have e12 : upd H10 r (.tup [.int (nb key o z : Int), .ref q]) q = some (.tup (((t.getD z []).map (nb key o)).map fun x : Nat => V.int (x : Int))) := by rw [upd_ne (ne_of_none e10 hr)]; exact e10
        generalize upd H10 r (.tup [.int (nb key o z : Int), .ref q]) = H11 at s11 e11 e12
        walk_at "zz"
        have emd11 := s11 _ _ emd7
        have hdp := DPut.k (k := .inl ((z : Nat) : Int)) (v := .ref r) emd11 (lt_line (by rw [kN_len, List.length_take]; omega))
        rw [kN_putf hni, ← htk] at hdp
        refine ⟨md, _, rfl, hdp, ?_⟩
        have im : IsMk H11 (.ref r) (kOf t (nb key o) z) := ⟨r, q, rfl, e11, by rw [e12, List.map_map, List.map_map, List.map_map]; rfl⟩
        refine ⟨(s7.trans s11).mutz hmdH, by rw [upd_ne nmd]; exact s11 _ _ ecd7, ⟨_, upd_same, fun s hs => ?_⟩, _, rfl⟩
        show IsMk _ (if s = z then .ref r else g s) _
        by_cases hsz : s = z
        · rw [if_pos hsz, hsz]
          exact im.other emd11 (fun xs e => by cases e)
        · rw [if_neg hsz]
          refine ((hg s ?_).same s11).other emd11 (fun xs e => by cases e)
          rw [htk] at hs
          rcases List.mem_append.mp hs with h | h
          · exact h
          · exact absurd (List.mem_singleton.mp h) hsz
      · rintro σ H7 ⟨s7, ecd7, ⟨g, emd7, hg⟩, v5, rfl⟩
        rw [hil, List.take_length] at emd7 hg
        walk_at "zz"
        refine ⟨op, md, o, g, kOf t (nb key o), true, rfl, s7 _ _ eo, emd7, hnd, by omega, fun s hs => ⟨hg s hs, rfl⟩, fun c2 H8 hc2 s8 ec2 => ?_⟩
        have hc2H : H c2 = none := by
          cases e : H c2 with
          | none => rfl
          | some u => rw [s7 _ _ e] at hc2; cases hc2
        walk_at "zz"
        rw [hW]
        exact ⟨c2, kOf t (nb key o), _, _, _, s7.trans s8, hc2H, ec2, ST.nxt TB cl hlt, rfl, rfl⟩
    · have he : many = (fsts key o).length := by have := ST.le; omega
      walk_at "zz"
      refine k cd H4 hcd s34 ?_
      rw [s4 _ _ ecd]
      refine congrArg (fun z => some (HO.dK z)) (kN_congr fun s hs => ?_)
      rw [cn_of (a := a) (t := t) (fun s hs u hu => ⟨ST.gd he s hs u hu, ST.la s hs u hu⟩) hs]
end
end Y

namespace Y
open PySem PySem.Spec PyProof.Rows L2 Z
open C8 (tCut pss_cut Cal pe_c Met pe_mt pe_mt0 Mak pe_mk)
abbrev s__law_letters : Stmt := topS 47
abbrev n__law_letters : List Str := ["_law_hand_here", "_law_signs", "_law_many", "_law_rest", "_law_found", "_law_turn", "_law_at"]
theorem sc__law_letters : FnScope n__law_letters ["_law_hand_here", "_law_signs", "_law_many"] (defScope s__law_letters) := ⟨rfl, rfl, rfl, by decide +kernel, rfl, by decide +kernel, by decide +kernel⟩

abbrev s__law_shuffled : Stmt := topS 49
abbrev n__law_shuffled : List Str := ["_law_hand_here", "_law_things", "_law_rest", "_law_found", "_law_turn"]
theorem sc__law_shuffled : FnScope n__law_shuffled ["_law_hand_here", "_law_things"] (defScope s__law_shuffled) := ⟨rfl, rfl, rfl, by decide +kernel, rfl, by decide +kernel, by decide +kernel⟩

abbrev s__law_rows : Stmt := topS 48
abbrev n__law_rows : List Str := ["_law_hand_here", "_law_kind", "_law_size", "_law_many", "_law_rows_here", "_law_steps", "_law_letter", "_law_turns", "_law_state", "_law_row", "_law_to"]
theorem sc__law_rows : FnScope n__law_rows ["_law_hand_here", "_law_kind", "_law_size", "_law_many"] (defScope s__law_rows) := ⟨rfl, rfl, rfl, by decide +kernel, rfl, by decide +kernel, by decide +kernel⟩

abbrev s__law_parts : Stmt := topS 50
abbrev n__law_parts : List Str := ["_law_hand_here", "_law_most", "_law_states", "_law_kind", "_law_many", "_law_size", "_law_letters_here", "_law_table", "_law_accepts", "_law_state"]
theorem sc__law_parts : FnScope n__law_parts ["_law_hand_here", "_law_most", "_law_states"] (defScope s__law_parts) := ⟨rfl, rfl, rfl, by decide +kernel, rfl, by decide +kernel, by decide +kernel⟩

def spLetters : Sp := fun vs H Q _ => ∃ (h : Addr) (l : List Nat) (m : Nat), vs = [.ref h, .str (S l), .int (m : Int)] ∧ HandOk H h ∧ m ≤ l.length ∧ l.length ≤ 1000 ∧
  ∀ (found rest : List Nat) H', found.length = m → (found ++ rest).Perm l → Gd h H H' → Q (.str (S found)) H'
def spShuffled : Sp := fun vs H Q _ => ∃ (h a : Addr) (xs : List Nat), vs = [.ref h, .ref a] ∧ HandOk H h ∧ H a = some (.lst (ivs xs)) ∧ ¬ a = h ∧ xs.length ≤ 100 ∧
  ∀ (t : Addr) (ys : List Nat) H', H t = none → H' t = some (.lst (ivs ys)) → ys.length = xs.length → (∀ y ∈ ys, y ∈ xs) → Gd h H H' → Q (.ref t) H'
def spRows : Sp := fun vs H Q _ => ∃ (h : Addr) (kind size many : Nat), vs = [.ref h, .int (kind : Int), .int (size : Int), .int (many : Int)] ∧ HandOk H h ∧ 1 ≤ size ∧ size ≤ 6 ∧ 1 ≤ many ∧ many ≤ 4 ∧
  ∀ (v : V) (tab : List (List Nat)) H', tab.length = size → (∀ r ∈ tab, r.length = many ∧ ∀ x ∈ r, x < size) → Rp (· = h) H' v (tabD tab) → Gd h H H' → Q v H'
def spParts : Sp := fun vs H Q _ => ∃ (h : Addr), vs = [.ref h, .int 4, .int 6] ∧ HandOk H h ∧
  ∀ (p : Addr) (vt va : V) (L : List Nat) (tab : List (List Nat)) (acc : List Nat) H', Parts L tab acc → H' p = some (.tup [.str (S L), vt, va]) → ¬ p = h → Rp (· = h) H' vt (tabD tab) → Rp (· = h) H' va (rowD acc) → Gd h H H' → Q (.ref p) H'
theorem i_pop {H : Hp} {Q : VK} {l : Addr} {xs : List V} {k : Nat} {y : V} (h : H l = some (.lst xs)) (hk : xs[k]? = some y) (hl : xs.length ≤ 100000) (q : Q y (upd H l (.lst (xs.eraseIdx k)))) : zPopAt (.ref l) [.int (k : Int)] H Q := by
  have h1 := (List.getElem?_eq_some_iff.mp hk).1
  exact ⟨l, xs, k, k, y, rfl, rfl, h, by omega, by omega, by rw [seqIndex_of (by omega) (by omega)]; rfl, hk, q⟩
theorem ivs_get {l : List Nat} {k : Nat} (h : k < l.length) : (ivs l)[k]? = some (.int ((l.getD k 0 : Nat) : Int)) := by
  unfold ivs
  rw [List.getElem?_map, List.getD_eq_getElem?_getD, List.getElem?_eq_getElem h]; rfl
theorem getD_in {l : List Nat} {k : Nat} (h : k < l.length) : l.getD k 0 ∈ l := by
  rw [List.getD_eq_getElem?_getD, List.getElem?_eq_getElem h]
  exact List.getElem_mem h
theorem ivs_erase : ∀ (l : List Nat) (k : Nat), (ivs l).eraseIdx k = ivs (l.eraseIdx k)
  | [], _ => by cases ‹Nat› <;> rfl
  | x :: l, 0 => rfl
  | x :: l, k + 1 => congrArg _ (ivs_erase l k)
theorem ivs_snoc (l : List Nat) (x : Nat) : ivs l ++ [V.int (x : Int)] = ivs (l ++ [x]) := by
  unfold ivs
  rw [List.map_append]; rfl
theorem ivs_len (l : List Nat) : (ivs l).length = l.length := by unfold ivs; rw [List.length_map]
theorem emod_nat (z : Int) {n : Nat} (h : 0 < n) : ∃ x : Nat, x < n ∧ z % (n : Int) = (x : Int) := by
  have h0 := Int.emod_nonneg z (b := (n : Int)) (by omega)
  have h1 := Int.emod_lt_of_pos z (b := (n : Int)) (by omega)
  exact ⟨(z % (n : Int)).toNat, by omega, by omega⟩
theorem rgV_0 (n : Nat) : rgV 0 (n : Int) = ivs (List.range n) := by
  unfold rgV ivs
  rw [show ((n : Int) - 0).toNat = n by omega]
  refine List.map_congr_left fun i _ => ?_
  rw [Int.zero_add]
theorem i_listRg {te : L2.St → Hp → (Int → Int → Hp → Prop) → Prop} {σ : L2.St} {H : Hp} {Q : VK} (q : te σ H fun a b H1 => RgOk a b ∧ ∀ q, H1 q = none → Q (.ref q) (upd H1 q (.lst (rgV a b)))) : tLstRg te σ H Q := q
theorem i_rg1 {ta : TE} {σ : L2.St} {H : Hp} {Q : Int → Int → Hp → Prop} (q : ta σ H fun x H1 => ∃ n, x = .int n ∧ Q 0 n H1) : tRg1 ta σ H Q := q
theorem mutz' {N : Addr → Prop} {H H' : Hp} {p : Addr} {o : HO} (k : Kp N H H') (hp : H p = none) : Kp N H (upd H' p o) := fun b u e n => by
  rw [upd_ne (ne_of_none e hp)]; exact k b u e n
/-- the tuples stand as they are -/
def TK (H H' : Hp) : Prop := ∀ b xs, H b = some (.tup xs) → H' b = some (.tup xs)
theorem TK.refl {H : Hp} : TK H H := fun _ _ e => e
theorem TK.trans {H H1 H2 : Hp} (a : TK H H1) (b : TK H1 H2) : TK H H2 := fun c xs e => b c xs (a c xs e)
theorem TK.gd {h : Addr} {H H1 H2 : Hp} (a : TK H H1) (g : Gd h H1 H2) : TK H H2 := fun c xs e => by
  obtain ⟨_, _, _, _, _, _, e1, _⟩ := g.ok0.ex
  have e2 := a c xs e
  exact g.kp c _ e2 fun z => by subst z; rw [e1] at e2; cases e2
theorem TK.newz {H H1 : Hp} {p : Addr} {o : HO} (a : TK H H1) (hp : H1 p = none) : TK H (upd H1 p o) := fun c xs e => nw hp (a c xs e)
theorem TK.mutl {H H1 : Hp} {p : Addr} {o : HO} {ys : List V} (a : TK H H1) (hp : H1 p = some (.lst ys)) : TK H (upd H1 p o) := fun c xs e => by
  have e2 := a c xs e
  rw [upd_ne (fun z => by subst z; rw [hp] at e2; cases e2)]; exact e2
theorem tk_rows {N : Addr → Prop} {H H' : Hp} (a : TK H H') : ∀ {tab : List (List Nat)} {vs : List V}, RpAll N H vs (tab.map rowD) → RpAll N H' vs (tab.map rowD)
  | [], _, r => by rw [RpAll.nilS r]; exact .nil
  | row :: tab, _, r => by
    obtain ⟨v, ws, rfl, r1, r2⟩ := RpAll.consS r
    obtain ⟨p, rfl, e, n⟩ := rowD_rp r1
    exact .cons (.tup (a _ _ e) n (ids_of _)) (tk_rows a r2)
theorem kp_gd {N : Addr → Prop} {h : Addr} {H H1 H2 : Hp} (k : Kp N H H1) (g : Gd h H1 H2) (hN : N h) : Kp N H H2 := fun b o e n => g.kp _ _ (k b o e n) fun z => n (z ▸ hN)
section
variable {P : Program} {w : World} {K : PySem.W.Frag} {mg : Str → Option Value} {base : Heap}
theorem c__law_letters (d : DF K mg "_law_letters" s__law_letters) (B : Bi mg) (c__law_draw : Cal P w K mg base 1 "_law_draw" spDraw []) : Cal P w K mg base 2 "_law_letters" spLetters [] := by
  refine d.cal (N := n__law_letters) sc__law_letters (fun _ _ _ _ _ _ us hl => match us, hl with | [_, _, _], _ => rfl) (fun vs H Q E h => ?_) (fun f cdv A outer s H vs Q E hr h => ?_)
  · obtain ⟨h, l, m, rfl, _⟩ := h
    rfl
  · obtain ⟨h, l, m, rfl, hh, hm, hl, k⟩ := h
    refine ⟨_, (pss_cons (ps_set (i := 3) sc__law_letters.nd rfl (by first | exact Or.inl rfl | exact Or.inr rfl) (pv 1))
  (pss_cons (ps_set (i := 4) sc__law_letters.nd rfl (by first | exact Or.inl rfl | exact Or.inr rfl) pe_str)
  (pss_cons (ps_for PassesOwn.never rfl (pi_range1 rfl B.range (pa_cons (pv 2) pa_nil)) (pg_name (i := 5) sc__law_letters.nd rfl (by first | exact Or.inl rfl | exact Or.inr rfl)) (pss_cons (ps_set (i := 6) sc__law_letters.nd rfl (by first | exact Or.inl rfl | exact Or.inr rfl) (pe_c c__law_draw hr (by first | decide | omega) rfl (pa_cons (pv 0) (pa_cons (pe_callB zc_lens (by rfl) B.len (by decide +kernel) (pa_cons (pv 3) pa_nil)) pa_nil))))
  (pss_cons (ps_set (i := 4) sc__law_letters.nd rfl (by first | exact Or.inl rfl | exact Or.inr rfl) (pe_op z_adds (pv 4) (pe_ix ix_str (pv 3) (pv 6) (fun _ _ => rfl))))
  (pss_one (ps_set (i := 3) sc__law_letters.nd rfl (by first | exact Or.inl rfl | exact Or.inr rfl) (pe_op z_adds (pe_slice sl_str (pv 3) po_none (po_some (pv 6))) (pe_slice sl_str (pv 3) (po_some (pe_op z_add (pv 6) pe_int)) po_none)))))))
  (pss_one (ps_ret (pv 4)))))), ?_⟩
    refine zstart [some (.ref h), some (.str (S l)), some (.int m), none, none, none, none] rfl ?_; try dsimp only [zK, zK2]
    walk_at "zz"
    refine i_KR1 (by omega) ?_
    refine l_range (fun i σ H1 => ∃ (found rest : List Nat) (v5 v6 : Option V), σ = [some (.ref h), some (.str (S l)), some (.int m), some (.str (S rest)), some (.str (S found)), v5, v6] ∧ found.length = i ∧ (found ++ rest).Perm l ∧ Gd h H H1) ?_ ?_ ?_
    · exact ⟨[], l, none, none, rfl, rfl, by simp, Gd.refl hh⟩
    · rintro i σ H1 hi ⟨found, rest, v5, v6, rfl, hf, hp, g⟩
      have hlen := hp.length_eq
      rw [List.length_append] at hlen
      have hi' : i < m := by omega
      walk_at "zz"
      refine use_draw g.ok (by omega) (by omega) fun r H2 hr2 g2 => ?_
      walk_at "zz"
      have hrl : r < rest.length := by omega
      refine i_ixS (by omega) (atI_nat (List.getElem?_eq_getElem hrl)) ?_
      walk_at "zz"
      refine i_slTo (by omega) ?_
      walk_at "zz"
      refine i_slFrom (by omega) ?_
      walk_at "zz"
      refine i_adds (by rw [List.length_take, List.length_drop]; omega) ?_
      walk_at "zz"
      exact ⟨_, _, _, _, rfl, by rw [List.length_append, hf]; rfl, perm_pick hrl hp, g.trans g2⟩
    · rintro σ H1 ⟨found, rest, v5, v6, rfl, hf, hp, g⟩
      walk_at "zz"
      exact k found rest _ (by omega) hp g
theorem c__law_shuffled (d : DF K mg "_law_shuffled" s__law_shuffled) (B : Bi mg) (c__law_draw : Cal P w K mg base 1 "_law_draw" spDraw []) : Cal P w K mg base 2 "_law_shuffled" spShuffled [] := by
  refine d.cal (N := n__law_shuffled) sc__law_shuffled (fun _ _ _ _ _ _ us hl => match us, hl with | [_, _], _ => rfl) (fun vs H Q E h => ?_) (fun f cdv A outer s H vs Q E hr h => ?_)
  · obtain ⟨h, a, xs, rfl, _⟩ := h
    rfl
  · obtain ⟨h, a, xs, rfl, hh, ea, nah, hl, k⟩ := h
    refine ⟨_, (pss_cons (ps_set (i := 2) sc__law_shuffled.nd rfl (by first | exact Or.inl rfl | exact Or.inr rfl) (pe_callTy (r := zList K) zc_list (by rfl) B.list (by decide +kernel) (pa_cons (pv 1) pa_nil)))
  (pss_cons (ps_set (i := 3) sc__law_shuffled.nd rfl (by first | exact Or.inl rfl | exact Or.inr rfl) (pe_lst pa_nil))
  (pss_cons (ps_for PassesOwn.never rfl (pi_range1 rfl B.range (pa_cons (pe_callB (r := zLen K) zc_len (by rfl) B.len (by decide +kernel) (pa_cons (pv 1) pa_nil)) pa_nil)) (pg_name (i := 4) sc__law_shuffled.nd rfl (by first | exact Or.inl rfl | exact Or.inr rfl)) (pss_one (ps_expr (pe_bmZ (K := K) rfl PySem.F.plainAttrs_list PySem.F.slot_list_append PySem.F.type_list_append zm_append (pv 3) (pa_cons (pe_bmZ (K := K) rfl PySem.F.plainAttrs_list PySem.F.slot_list_pop PySem.F.type_list_pop zm_popAt (pv 2) (pa_cons (pe_c c__law_draw hr (by first | decide | omega) rfl (pa_cons (pv 0) (pa_cons (pe_callB (r := zLen K) zc_len (by rfl) B.len (by decide +kernel) (pa_cons (pv 2) pa_nil)) pa_nil))) pa_nil)) pa_nil)))))
  (pss_one (ps_ret (pv 3)))))), ?_⟩
    refine zstart [some (.ref h), some (.ref a), none, none, none] rfl ?_; try dsimp only [zK, zK2]
    walk_at "zz"
    refine i_listL (SqL.of ea) fun rs0 hrs0 => ?_
    have nrh := hh.ne hrs0
    have g1 := (Gd.refl hh).new (o := .lst (ivs xs)) hrs0
    have ea1 := nw (o := .lst (ivs xs)) hrs0 ea
    have er1 : (upd H rs0 (.lst (ivs xs))) rs0 = some (.lst (ivs xs)) := upd_same
    generalize upd H rs0 (.lst (ivs xs)) = H1 at g1 ea1 er1 ⊢
    walk_at "zz"
    refine ⟨by show 0 ≤ sizeLine; exact Nat.zero_le _, fun fs0 hfs0 => ?_⟩
    have nfh := g1.ok.ne hfs0
    have nfr : ¬ fs0 = rs0 := fun e => by subst e; rw [er1] at hfs0; cases hfs0
    have hf0 : H fs0 = none := by
      cases e : H fs0 with
      | none => rfl
      | some o => rw [g1.kp' e nfh] at hfs0; cases hfs0
    have g2 := g1.new (o := .lst []) hfs0
    have ea2 := nw (o := .lst []) hfs0 ea1
    have er2 := nw (o := .lst []) hfs0 er1
    have ef2 : (upd H1 fs0 (.lst [])) fs0 = some (.lst []) := upd_same
    generalize upd H1 fs0 (.lst []) = H2 at g2 ea2 er2 ef2 ⊢
    walk_at "zz"
    rw [ivs_len]
    refine i_KR1 (by omega) ?_
    rw [Int.toNat_natCast]
    refine l_range (fun i σ H3 => Gd h H H3 ∧ ∃ (rs fs : List Nat) (v4 : Option V), H3 rs0 = some (.lst (ivs rs)) ∧ H3 fs0 = some (.lst (ivs fs)) ∧ rs.length + i = xs.length ∧ fs.length = i ∧ (∀ x ∈ rs, x ∈ xs) ∧ (∀ x ∈ fs, x ∈ xs) ∧ σ = [some (.ref h), some (.ref a), some (.ref rs0), some (.ref fs0), v4])
      ⟨g2, xs, [], none, er2, ef2, by omega, rfl, fun x hx => hx, by simp, rfl⟩ ?_ ?_
    · rintro i σ H3 hi ⟨g3, rs, fs, v4, er3, ef3, hrl, hfl, hrm, hfm, rfl⟩
      walk_at "zz"
      refine i_tyL (SqL.of ef3) ?_
      walk_at "zz"
      refine i_tyL (SqL.of er3) ?_
      walk_at "zz"
      rw [ivs_len]
      refine use_draw g3.ok (by omega) (by omega) fun r H4 hr4 g4 => ?_
      have hr' : r < rs.length := by omega
      have er4 := g4.kp' er3 nrh
      have ef4 := g4.kp' ef3 nfh
      walk_at "zz"
      refine i_pop er4 (ivs_get hr') (by rw [ivs_len]; omega) ?_
      rw [ivs_erase]
      walk_at "zz"
      have ef5 : (upd H4 rs0 (.lst (ivs (rs.eraseIdx r)))) fs0 = some (.lst (ivs fs)) := by rw [upd_ne nfr]; exact ef4
      refine i_append ef5 (by rw [ivs_len]; omega) ?_
      rw [ivs_snoc]
      walk_at "zz"
      refine ⟨((g3.trans g4).mutz hrs0).mutz hf0, rs.eraseIdx r, fs ++ [rs.getD r 0], _, by rw [upd_ne (fun e => nfr e.symm)]; exact upd_same, upd_same, by rw [List.length_eraseIdx_of_lt hr']; omega, by rw [List.length_append, hfl]; rfl, fun x hx => hrm x (List.mem_of_mem_eraseIdx hx), fun x hx => ?_, rfl⟩
      rcases List.mem_append.mp hx with q | q
      · exact hfm x q
      · rw [List.mem_singleton.mp q]; exact hrm _ (getD_in hr')
    · rintro σ H3 ⟨g3, rs, fs, v4, er3, ef3, hrl, hfl, hrm, hfm, rfl⟩
      walk_at "zz"
      exact k fs0 fs _ hf0 ef3 (by omega) hfm g3
theorem c__law_rows (d : DF K mg "_law_rows" s__law_rows) (B : Bi mg) (c__law_draw : Cal P w K mg base 1 "_law_draw" spDraw []) (c__law_shuffled : Cal P w K mg base 2 "_law_shuffled" spShuffled []) : Cal P w K mg base 3 "_law_rows" spRows [] := by
  refine d.cal (N := n__law_rows) sc__law_rows (fun _ _ _ _ _ _ us hl => match us, hl with | [_, _, _, _], _ => rfl) (fun vs H Q E h => ?_) (fun f cdv A outer s H vs Q E hr h => ?_)
  · obtain ⟨h, kind, size, many, rfl, _⟩ := h
    rfl
  · obtain ⟨h, kind, size, many, rfl, hh, hs1, hs6, hm1, hm4, k⟩ := h
    refine ⟨_, (pss_cons (ps_set (i := 4) sc__law_rows.nd rfl (by first | exact Or.inl rfl | exact Or.inr rfl) (pe_lst pa_nil))
  (pss_cons (ps_setLc (i := 5) (own := [("_law_letter", 6)]) (g := gName 6) (tt := tYes) rfl sc__law_rows.nd rfl rfl (sw_true rfl rfl rfl (by decide +kernel)) (pi_range1 rfl B.range (pa_cons (pv 3) pa_nil)) (blkOk_by (N := n__law_rows) (sc := defScope s__law_rows) (by decide +kernel)) (fun _ _ _ _ _ => (pg_name (i := 6) sc__law_rows.nd rfl (by first | exact Or.inl rfl | exact Or.inr rfl))) (fun _ _ _ _ _ => pts_nil) (fun _ _ _ _ _ => (pe_c c__law_draw hr (by first | decide | omega) rfl (pa_cons (pv 0) (pa_cons (pv 2) pa_nil)))))
  (pss_cons (ps_setLc (i := 7) (own := [("_law_letter", 6)]) (g := gName 6) (tt := tYes) rfl sc__law_rows.nd rfl rfl (sw_true rfl rfl rfl (by decide +kernel)) (pi_range1 rfl B.range (pa_cons (pv 3) pa_nil)) (blkOk_by (N := n__law_rows) (sc := defScope s__law_rows) (by decide +kernel)) (fun _ _ _ _ _ => (pg_name (i := 6) sc__law_rows.nd rfl (by first | exact Or.inl rfl | exact Or.inr rfl))) (fun _ _ _ _ _ => pts_nil) (fun _ _ _ _ _ => (pe_c c__law_shuffled hr (by first | decide | omega) rfl (pa_cons (pv 0) (pa_cons (pe_listRg rfl (by rfl) B.list (prg_1 (by rfl) B.range (pv 2))) pa_nil)))))
  (pss_cons (ps_for PassesOwn.never rfl (pi_range1 rfl B.range (pa_cons (pv 2) pa_nil)) (pg_name (i := 8) sc__law_rows.nd rfl (by first | exact Or.inl rfl | exact Or.inr rfl)) (pss_cons (ps_set (i := 9) sc__law_rows.nd rfl (by first | exact Or.inl rfl | exact Or.inr rfl) (pe_lst pa_nil))
  (pss_cons (ps_for PassesOwn.never rfl (pi_range1 rfl B.range (pa_cons (pv 3) pa_nil)) (pg_name (i := 6) sc__law_rows.nd rfl (by first | exact Or.inl rfl | exact Or.inr rfl)) (pss_cons (ps_set (i := 10) sc__law_rows.nd rfl (by first | exact Or.inl rfl | exact Or.inr rfl) (pe_c c__law_draw hr (by first | decide | omega) rfl (pa_cons (pv 0) (pa_cons (pv 2) pa_nil))))
  (pss_cut (ps_if (pt_cmpR op_eq (pv 1) pe_int (nomark _)) (pss_one (ps_set (i := 10) sc__law_rows.nd rfl (by first | exact Or.inl rfl | exact Or.inr rfl) (pe_op z_mod (pe_callTy zc_int (by rfl) B.int (by decide +kernel) (pa_cons (pe_op z_add (pv 8) (pe_ix (r := rIxL K) ix_list (pv 5) (pv 6) (fun _ _ => rfl))) pa_nil)) (pv 2)))) pss_nil)
  (pss_cut (ps_if (pt_cmpR op_eq (pv 1) pe_int (nomark _)) (pss_one (ps_set (i := 10) sc__law_rows.nd rfl (by first | exact Or.inl rfl | exact Or.inr rfl) (pe_callB (zc_min rfl) (by rfl) B.min (by decide +kernel) (pa_cons (pe_op z_sub (pv 2) pe_int) (pa_cons (pe_op z_add (pv 8) (pe_ix (r := rIxL K) ix_list (pv 5) (pv 6) (fun _ _ => rfl))) pa_nil))))) pss_nil)
  (pss_cut (ps_if (pt_cmpR op_eq (pv 1) pe_int (nomark _)) (pss_cons (ps_set (i := 10) sc__law_rows.nd rfl (by first | exact Or.inl rfl | exact Or.inr rfl) (pv 8))
  (pss_one (ps_if (pt_cmpR op_eq (pv 8) pe_int (nomark _)) (pss_one (ps_set (i := 10) sc__law_rows.nd rfl (by first | exact Or.inl rfl | exact Or.inr rfl) (pe_op z_mod (pe_callTy zc_int (by rfl) B.int (by decide +kernel) (pa_cons (pe_op z_add pe_int (pv 6)) pa_nil)) (pv 2)))) pss_nil))) pss_nil)
  (pss_cut (ps_if (pt_cmpR op_eq (pv 1) pe_int (nomark _)) (pss_one (ps_set (i := 10) sc__law_rows.nd rfl (by first | exact Or.inl rfl | exact Or.inr rfl) (pe_op z_mod (pe_callTy zc_int (by rfl) B.int (by decide +kernel) (pa_cons (pe_op z_add pe_int (pv 6)) pa_nil)) (pv 2)))) pss_nil)
  (pss_cut (ps_if (pt_cmpR op_eq (pv 1) pe_int (nomark _)) (pss_one (ps_set (i := 10) sc__law_rows.nd rfl (by first | exact Or.inl rfl | exact Or.inr rfl) (pe_callB (zc_min rfl) (by rfl) B.min (by decide +kernel) (pa_cons (pe_op z_sub (pv 2) pe_int) (pa_cons (pe_op z_add (pv 8) (pe_callTy zc_int (by rfl) B.int (by decide +kernel) (pa_cons (pe_cmpR op_eq (pe_op z_mod (pv 8) (pv 3)) (pv 6) (nomark _)) pa_nil))) pa_nil))))) pss_nil)
  (pss_cut (ps_if (pt_cmpR op_eq (pv 1) pe_int (nomark _)) (pss_cons (ps_set (i := 10) sc__law_rows.nd rfl (by first | exact Or.inl rfl | exact Or.inr rfl) (pe_op z_sub (pv 2) pe_int))
  (pss_one (ps_if (PW.pt (pw_and (pt_cmpR z_lt (pv 8) (pe_op z_sub (pv 2) pe_int) (nomark _)) (pw_and1 (pt_cmpR op_eq (pe_op z_mod (pv 8) (pv 3)) (pv 6) (nomark _))))) (pss_one (ps_set (i := 10) sc__law_rows.nd rfl (by first | exact Or.inl rfl | exact Or.inr rfl) (pe_op z_mod (pe_callTy zc_int (by rfl) B.int (by decide +kernel) (pa_cons (pe_op z_add (pv 8) pe_int) pa_nil)) (pe_op z_sub (pv 2) pe_int)))) pss_nil))) pss_nil)
  (pss_cut (ps_if (pt_cmpR op_eq (pv 1) pe_int (nomark _)) (pss_one (ps_set (i := 10) sc__law_rows.nd rfl (by first | exact Or.inl rfl | exact Or.inr rfl) (pe_ix (r := rIxL K) ix_list (pe_ix (r := rIxL K) ix_list (pv 7) (pv 6) (fun _ _ => rfl)) (pv 8) (fun _ _ => rfl)))) pss_nil)
  (pss_one (ps_expr (pe_bmZ (K := K) rfl PySem.F.plainAttrs_list PySem.F.slot_list_append PySem.F.type_list_append zm_append (pv 9) (pa_cons (pv 10) pa_nil)))))))))))))
  (pss_one (ps_expr (pe_bmZ (K := K) rfl PySem.F.plainAttrs_list PySem.F.slot_list_append PySem.F.type_list_append zm_append (pv 4) (pa_cons (pe_callTy (r := zTuple K) zc_tuple (by rfl) B.tuple (by decide +kernel) (pa_cons (pv 9) pa_nil)) pa_nil)))))))
  (pss_one (ps_ret (pe_callTy (r := zTuple K) zc_tuple (by rfl) B.tuple (by decide +kernel) (pa_cons (pv 4) pa_nil)))))))), ?_⟩
    refine zstart [some (.ref h), some (.int (kind : Int)), some (.int (size : Int)), some (.int (many : Int)), none, none, none, none, none, none, none] rfl ?_; try dsimp only [zK, zK2]
    walk_at "zz"
    refine ⟨by show 0 ≤ sizeLine; exact Nat.zero_le _, fun ra hra => ?_⟩
    have nrah := hh.ne hra
    have g1 := (Gd.refl hh).new (o := .lst []) hra
    have era : (upd H ra (.lst [])) ra = some (.lst []) := upd_same
    generalize upd H ra (.lst []) = H1 at g1 era ⊢
    walk_at "zz"
    refine i_KR1 (by omega) ?_
    rw [Int.toNat_natCast]
    refine fun sa hsa => ?_
    have nsah := g1.ok.ne hsa
    have nsr : ¬ ra = sa := ne_of_none era hsa
    refine l_comp (walk_range (lo := 0) (n := many)) [some (.ref h), some (.int (kind : Int)), some (.int (size : Int)), some (.int (many : Int)), some (.ref ra), none, none, none, none, none, none] rfl (fun i acc H' => Gd h H1 H' ∧ ∃ steps : List Nat, acc = ivs steps ∧ steps.length = i) ⟨(Gd.refl g1.ok).new hsa, [], rfl, rfl⟩ (fun _ _ _ _ _ _ => trivial) ?_ ?_
    · rintro i x acc H2 H3 hi ⟨g2, steps, rfl, hsl⟩ e hl2 ⟨e2, rfl⟩
      subst e2
      show gName _ (V.int (0 + (i : Int))) _ _ _
      refine i_gname ?_
      refine i_lct rfl ?_
      refine i_yes ?_
      refine iteT ?_
      refine zte [some (.ref h), some (.int (kind : Int)), some (.int (size : Int)), some (.int (many : Int)), some (.ref ra), none, some (.int (0 + (i : Int))), none, none, none, none] rfl ?_
      walk_at "zz"
      refine use_draw g2.ok (by omega) (by omega) fun r H4 hr4 g4 => ?_
      refine cend (g4.kp' e nsah) hl2 (by omega) ⟨(g2.trans g4).mutz hsa, steps ++ [r], ivs_snoc _ _, by rw [List.length_append, hsl]; rfl⟩
    rintro acc H2 ⟨g2, steps, rfl, hsl⟩ esa hl2
    have era2 := g2.kp' era nrah
    walk_at "zz"
    refine i_KR1 (by omega) ?_
    rw [Int.toNat_natCast]
    refine fun ta hta => ?_
    have ntah := g2.ok.ne hta
    refine l_comp (walk_range (lo := 0) (n := many)) [some (.ref h), some (.int (kind : Int)), some (.int (size : Int)), some (.int (many : Int)), some (.ref ra), some (.ref sa), none, none, none, none, none] rfl
      (fun i acc H' => Gd h H2 H' ∧ ∃ ts : List Addr, acc = ts.map V.ref ∧ ts.length = i ∧ ∀ t ∈ ts, (¬ t = h ∧ ¬ t = ta ∧ H2 t = none) ∧ ∃ ys : List Nat, H' t = some (.lst (ivs ys)) ∧ ys.length = size ∧ ∀ y ∈ ys, y < size) ⟨(Gd.refl g2.ok).new hta, [], rfl, rfl, by simp⟩ (fun _ _ _ _ _ _ => trivial) ?_ ?_
    · rintro i x acc H3 H4 hi ⟨g3, ts, rfl, htl, hts⟩ e hl3 ⟨e2, rfl⟩
      subst e2
      show gName _ (V.int (0 + (i : Int))) _ _ _
      refine i_gname ?_
      refine i_lct rfl ?_
      refine i_yes ?_
      refine iteT ?_
      refine zte [some (.ref h), some (.int (kind : Int)), some (.int (size : Int)), some (.int (many : Int)), some (.ref ra), some (.ref sa), some (.int (0 + (i : Int))), none, none, none, none] rfl ?_
      walk_at "zz"
      refine i_listRg ?_
      refine i_rg1 ?_
      walk_at "zz"
      refine ⟨_, rfl, RgOk.of_le (by decide) (by omega) (by decide) (by omega), fun q hq => ?_⟩
      rw [rgV_0]
      have nqh := g3.ok.ne hq
      walk_at "zz"
      have g4 := g3.new (o := .lst (ivs (List.range size))) hq
      have e4 := nw (o := .lst (ivs (List.range size))) hq e
      refine ⟨h, q, List.range size, rfl, g4.ok, upd_same, nqh, by rw [List.length_range]; omega, fun t ys H5 ht et hyl hym g5 => ?_⟩
      have nth : ¬ t = h := g4.ok.ne ht
      have ntt : ¬ t = ta := fun z => by subst z; rw [e4] at ht; cases ht
      have e5 := g5.kp' e4 ntah
      have ht2 : H2 t = none := by
        cases z : H2 t with
        | none => rfl
        | some o => rw [g4.kp' z nth] at ht; cases ht
      refine cend e5 hl3 (by omega) ⟨(g4.trans g5).mutz hta, ts ++ [t], by rw [List.map_append]; rfl, by rw [List.length_append, htl]; rfl, fun t' ht' => ?_⟩
      rcases List.mem_append.mp ht' with z | z
      · obtain ⟨⟨n1, n2, n3⟩, ys', ey, hy1, hy2⟩ := hts t' z
        exact ⟨⟨n1, n2, n3⟩, ys', by rw [upd_ne n2]; exact g5.kp' (nw hq ey) n1, hy1, hy2⟩
      · rw [List.mem_singleton.mp z]
        exact ⟨⟨nth, ntt, ht2⟩, ys, by rw [upd_ne ntt]; exact et, by rw [hyl, List.length_range], fun y hy => List.mem_range.mp (hym y hy)⟩
    rintro acc Hb ⟨g3, ts, rfl, htl, hts⟩ eta hl3
    have erab := g3.kp' era2 nrah
    have esab := g3.kp' esa nsah
    walk_at "zz"
    refine i_KR1 (by omega) ?_
    have gB : Gd h H Hb := (g1.trans g2).trans g3
    have ntr : ¬ ta = ra := fun z => by subst z; rw [era2] at hta; cases hta
    have hHra : H ra = none := hra
    have nl : ∀ {p : Addr}, Hb p = none → H p = none := fun {p} hp => by
      cases z : H p with
      | none => rfl
      | some o =>
        by_cases q : p = h
        · obtain ⟨o', ho'⟩ := gB.ok.some
          rw [q, ho'] at hp; cases hp
        · rw [gB.kp _ _ z q] at hp; cases hp
    rw [Int.toNat_natCast]
    refine l_range (fun i σ H4 => Gd h H H4 ∧ Kp (fun b => b = h ∨ b = ra) Hb H4 ∧ ∃ (vs : List V) (tab : List (List Nat)) (v6 v8 v9 v10 : Option V), H4 ra = some (.lst vs) ∧ RpAll (· = h) H4 vs (tab.map rowD) ∧ tab.length = i ∧ (∀ r ∈ tab, r.length = many ∧ ∀ x ∈ r, x < size) ∧
      σ = [some (.ref h), some (.int (kind : Int)), some (.int (size : Int)), some (.int (many : Int)), some (.ref ra), some (.ref sa), v6, some (.ref ta), v8, v9, v10]) ⟨gB, Kp.refl, [], [], _, _, _, _, erab, .nil, rfl, by simp, rfl⟩ ?_ ?_
    · rintro i σ H4 hi ⟨g4, kb4, vs, tab, v6, v8, v9, v10, era4, RT, htab, hrows, rfl⟩
      walk_at "zz"
      refine ⟨by show 0 ≤ sizeLine; exact Nat.zero_le _, fun rb hrb => ?_⟩
      have nrbh := g4.ok.ne hrb
      have nrr : ¬ ra = rb := ne_of_none era4 hrb
      have hbrb : Hb rb = none := by
        cases z : Hb rb with
        | none => rfl
        | some o => rw [kb4 _ _ z (fun q => q.elim nrbh fun q => nrr q.symm)] at hrb; cases hrb
      have hHrb : H rb = none := nl hbrb
      have vlen : vs.length = i := by rw [RT.length, List.length_map, htab]
      walk_at "zz"
      refine i_KR1 (by omega) ?_
      rw [Int.toNat_natCast]
      refine l_range (fun j σ H5 => Gd h H H5 ∧ Kp (fun b => b = h ∨ b = ra) Hb H5 ∧ TK H4 H5 ∧ H5 ra = some (.lst vs) ∧ ∃ (row : List Nat) (v6 v10 : Option V), H5 rb = some (.lst (ivs row)) ∧ row.length = j ∧ (∀ x ∈ row, x < size) ∧
        σ = [some (.ref h), some (.int (kind : Int)), some (.int (size : Int)), some (.int (many : Int)), some (.ref ra), some (.ref sa), v6, some (.ref ta), some (.int (i : Int)), some (.ref rb), v10])
        ⟨g4.mutz hHrb, mutz' kb4 hbrb, TK.refl.newz hrb, nw hrb era4, [], _, _, upd_same, rfl, by simp, rfl⟩ ?_ ?_
      · rintro j σ H5 hj ⟨g5, kb5, tk5, era5, row, v6, v10, erb5, hrow1, hrow2, rfl⟩
        walk_at "zz"
        refine use_draw g5.ok (by omega) (by omega) fun x Hc hxr g6 => ?_
        have hx : x < size := by omega
        have gc := g5.trans g6
        have kbc := kp_gd kb5 g6 (.inl rfl)
        have tkc := tk5.gd g6
        have erac := g6.kp' era5 nrah
        have erbc := g6.kp' erb5 nrbh
        have ec_s : Hc sa = some (.lst (ivs steps)) := kbc _ _ esab fun q => q.elim nsah fun q => nsr q.symm
        have ec_t : Hc ta = some (.lst (ts.map V.ref)) := kbc _ _ eta fun q => q.elim ntah ntr
        have hjs : j < steps.length := by omega
        have ect : ∀ j, j < many → ∃ (tv : Addr) (ys : List Nat), (ts.map V.ref)[j]? = some (.ref tv) ∧ Hc tv = some (.lst (ivs ys)) ∧ ys.length = size ∧ ∀ y ∈ ys, y < size := fun j hj => by
          have hjt : j < ts.length := by omega
          obtain ⟨⟨n1, n2, n3⟩, ys, ey, hy1, hy2⟩ := hts _ (List.getElem_mem hjt)
          refine ⟨ts[j], ys, by rw [List.getElem?_map, List.getElem?_eq_getElem hjt]; rfl, kbc _ _ ey fun q => q.elim n1 fun q => ?_, hy1, hy2⟩
          rw [q, era2] at n3; cases n3
        walk_at "zz"
        refine i_cut (fun σ' H' => Hc = H' ∧ ∃ x : Nat, x < size ∧ σ' = [some (.ref h), some (.int (kind : Int)), some (.int (size : Int)), some (.int (many : Int)), some (.ref ra), some (.ref sa), some (.int (j : Int)), some (.ref ta), some (.int (i : Int)), some (.ref rb), some (.int (x : Int))]) ?_ ?_
        · walk_at "zz"
          refine brd (fun q => ?_) fun q => ?_
          · walk_at "zz"
            refine i_ixL (SqL.of ec_s) (atI_nat (ivs_get hjs)) ?_
            walk_at "zz"
            obtain ⟨y, hy, ey⟩ := emod_nat ((i : Int) + (steps.getD j 0 : Nat)) (show 0 < size by omega)
            rw [ey]
            exact ⟨rfl, y, hy, rfl⟩
          · walk_at "zz"
            exact ⟨rfl, x, hx, rfl⟩
        rintro σ' H' ⟨rfl, x, hx, rfl⟩
        walk_at "zz"
        refine i_cut (fun σ' H' => Hc = H' ∧ ∃ x : Nat, x < size ∧ σ' = [some (.ref h), some (.int (kind : Int)), some (.int (size : Int)), some (.int (many : Int)), some (.ref ra), some (.ref sa), some (.int (j : Int)), some (.ref ta), some (.int (i : Int)), some (.ref rb), some (.int (x : Int))]) ?_ ?_
        · walk_at "zz"
          refine brd (fun q => ?_) fun q => ?_
          · walk_at "zz"
            refine i_ixL (SqL.of ec_s) (atI_nat (ivs_get hjs)) ?_
            walk_at "zz"
            obtain ⟨y, hy, ey⟩ : ∃ y : Nat, y < size ∧ (if (i : Int) + ((steps.getD j 0 : Nat) : Int) < (size : Int) - 1 then (i : Int) + ((steps.getD j 0 : Nat) : Int) else (size : Int) - 1) = (y : Int) := by
              split
              · exact ⟨i + steps.getD j 0, by omega, by omega⟩
              · exact ⟨size - 1, by omega, by omega⟩
            rw [ey]
            exact ⟨rfl, y, hy, rfl⟩
          · walk_at "zz"
            exact ⟨rfl, x, hx, rfl⟩
        rintro σ' H' ⟨rfl, x, hx, rfl⟩
        walk_at "zz"
        refine i_cut (fun σ' H' => Hc = H' ∧ ∃ x : Nat, x < size ∧ σ' = [some (.ref h), some (.int (kind : Int)), some (.int (size : Int)), some (.int (many : Int)), some (.ref ra), some (.ref sa), some (.int (j : Int)), some (.ref ta), some (.int (i : Int)), some (.ref rb), some (.int (x : Int))]) ?_ ?_
        · walk_at "zz"
          refine brd (fun q => ?_) fun q => ?_
          · walk_at "zz"
            refine brd (fun q2 => ?_) fun q2 => ?_
            · walk_at "zz"
              obtain ⟨y, hy, ey⟩ := emod_nat (1 + (j : Int)) (show 0 < size by omega)
              rw [ey]
              exact ⟨rfl, y, hy, rfl⟩
            · walk_at "zz"
              exact ⟨rfl, i, hi, rfl⟩
          · walk_at "zz"
            exact ⟨rfl, x, hx, rfl⟩
        rintro σ' H' ⟨rfl, x, hx, rfl⟩
        walk_at "zz"
        refine i_cut (fun σ' H' => Hc = H' ∧ ∃ x : Nat, x < size ∧ σ' = [some (.ref h), some (.int (kind : Int)), some (.int (size : Int)), some (.int (many : Int)), some (.ref ra), some (.ref sa), some (.int (j : Int)), some (.ref ta), some (.int (i : Int)), some (.ref rb), some (.int (x : Int))]) ?_ ?_
        · walk_at "zz"
          refine brd (fun q => ?_) fun q => ?_
          · walk_at "zz"
            obtain ⟨y, hy, ey⟩ := emod_nat (1 + (j : Int)) (show 0 < size by omega)
            rw [ey]
            exact ⟨rfl, y, hy, rfl⟩
          · walk_at "zz"
            exact ⟨rfl, x, hx, rfl⟩
        rintro σ' H' ⟨rfl, x, hx, rfl⟩
        walk_at "zz"
        refine i_cut (fun σ' H' => Hc = H' ∧ ∃ x : Nat, x < size ∧ σ' = [some (.ref h), some (.int (kind : Int)), some (.int (size : Int)), some (.int (many : Int)), some (.ref ra), some (.ref sa), some (.int (j : Int)), some (.ref ta), some (.int (i : Int)), some (.ref rb), some (.int (x : Int))]) ?_ ?_
        · walk_at "zz"
          refine brd (fun q => ?_) fun q => ?_
          · walk_at "zz"
            refine i_intB ?_
            walk_at "zz"
            generalize decide ((i : Int) % (many : Int) = (j : Int)) = bb
            obtain ⟨c, hc, ec⟩ : ∃ c : Nat, c ≤ 1 ∧ (if bb = true then (1 : Int) else 0) = (c : Int) := by
              cases bb
              · exact ⟨0, by omega, rfl⟩
              · exact ⟨1, by omega, rfl⟩
            rw [ec]
            obtain ⟨y, hy, ey⟩ : ∃ y : Nat, y < size ∧ (if (i : Int) + (c : Int) < (size : Int) - 1 then (i : Int) + (c : Int) else (size : Int) - 1) = (y : Int) := by
              split
              · exact ⟨i + c, by omega, by omega⟩
              · exact ⟨size - 1, by omega, by omega⟩
            rw [ey]
            exact ⟨rfl, y, hy, rfl⟩
          · walk_at "zz"
            exact ⟨rfl, x, hx, rfl⟩
        rintro σ' H' ⟨rfl, x, hx, rfl⟩
        walk_at "zz"
        refine i_cut (fun σ' H' => Hc = H' ∧ ∃ x : Nat, x < size ∧ σ' = [some (.ref h), some (.int (kind : Int)), some (.int (size : Int)), some (.int (many : Int)), some (.ref ra), some (.ref sa), some (.int (j : Int)), some (.ref ta), some (.int (i : Int)), some (.ref rb), some (.int (x : Int))]) ?_ ?_
        · walk_at "zz"
          refine brd (fun q => ?_) fun q => ?_
          · walk_at "zz"
            refine brd (fun q2 => ?_) fun q2 => ?_
            · walk_at "zz"
              refine brd (fun q3 => ?_) fun q3 => ?_
              · walk_at "zz"
                obtain ⟨y, hy, ey⟩ := emod_nat ((i : Int) + 1) (show 0 < size - 1 by omega)
                rw [show (size : Int) - 1 = ((size - 1 : Nat) : Int) by omega, ey]
                exact ⟨rfl, y, by omega, rfl⟩
              · walk_at "zz"
                exact ⟨rfl, size - 1, by omega, by rw [show ((size - 1 : Nat) : Int) = (size : Int) - 1 by omega]⟩
            · walk_at "zz"
              exact ⟨rfl, size - 1, by omega, by rw [show ((size - 1 : Nat) : Int) = (size : Int) - 1 by omega]⟩
          · walk_at "zz"
            exact ⟨rfl, x, hx, rfl⟩
        rintro σ' H' ⟨rfl, x, hx, rfl⟩
        walk_at "zz"
        refine i_cut (fun σ' H' => Hc = H' ∧ ∃ x : Nat, x < size ∧ σ' = [some (.ref h), some (.int (kind : Int)), some (.int (size : Int)), some (.int (many : Int)), some (.ref ra), some (.ref sa), some (.int (j : Int)), some (.ref ta), some (.int (i : Int)), some (.ref rb), some (.int (x : Int))]) ?_ ?_
        · walk_at "zz"
          refine brd (fun q => ?_) fun q => ?_
          · walk_at "zz"
            obtain ⟨tv, ys, htv, hty, hyl, hym⟩ := ect j (by omega)
            refine i_ixL (SqL.of ec_t) (atI_nat htv) ?_
            walk_at "zz"
            refine i_ixL (SqL.of hty) (atI_nat (ivs_get (by rw [hyl]; exact hi))) ?_
            walk_at "zz"
            exact ⟨rfl, _, hym _ (getD_in (by rw [hyl]; exact hi)), rfl⟩
          · walk_at "zz"
            exact ⟨rfl, x, hx, rfl⟩
        rintro σ' H' ⟨rfl, x, hx, rfl⟩
        walk_at "zz"
        refine i_tyL (SqL.of erbc) ?_
        walk_at "zz"
        refine i_append erbc (by rw [ivs_len]; omega) ?_
        rw [ivs_snoc]
        walk_at "zz"
        refine ⟨gc.mutz hHrb, mutz' kbc hbrb, tkc.mutl erbc, by rw [upd_ne nrr]; exact erac, row ++ [x], _, _, upd_same, by rw [List.length_append, hrow1]; rfl, fun y hy => ?_, rfl⟩
        rcases List.mem_append.mp hy with q | q
        · exact hrow2 y q
        · rw [List.mem_singleton.mp q]; exact hx
      · rintro σ H5 ⟨g5, kb5, tk5, era5, row, v6, v10, erb5, hrow1, hrow2, rfl⟩
        walk_at "zz"
        refine i_tyL (SqL.of era5) ?_
        walk_at "zz"
        refine i_tupleL (SqL.of erb5) fun p hp => ?_
        walk_at "zz"
        have nph := g5.ok.ne hp
        have npr : ¬ ra = p := ne_of_none era5 hp
        have hbp : Hb p = none := by
          cases z : Hb p with
          | none => rfl
          | some o => rw [kb5 _ _ z (fun q => q.elim nph fun q => npr q.symm)] at hp; cases hp
        have era6 := nw (o := .tup (ivs row)) hp era5
        refine i_append era6 (by omega) ?_
        have RT2 := tk_rows ((tk5.newz (o := .tup (ivs row)) hp).mutl (o := .lst (vs ++ [V.ref p])) era6) RT
        walk_at "zz"
        refine ⟨(g5.new hp).mutz hHra, ?_, vs ++ [.ref p], tab ++ [row], _, _, _, _, upd_same, ?_, by rw [List.length_append, htab]; rfl, fun r hr => ?_, rfl⟩
        · exact fun b u e n => by
            rw [upd_ne (fun q => n (.inr q))]
            exact nw hp (kb5 b u e n)
        · rw [List.map_append]
          refine RpAll.append RT2 (.cons ?_ .nil)
          exact .tup (by rw [upd_ne (fun q => npr q.symm)]; exact upd_same) nph (ids_of _)
        · rcases List.mem_append.mp hr with q | q
          · exact hrows r q
          · rw [List.mem_singleton.mp q]; exact ⟨hrow1, hrow2⟩
    · rintro σ H4 ⟨g4, kb4, vs, tab, v6, v8, v9, v10, era4, RT, htab, hrows, rfl⟩
      walk_at "zz"
      refine i_tupleL (SqL.of era4) fun p hp => ?_
      exact k _ tab _ htab hrows (.tup upd_same (g4.ok.ne hp) (RT.mono (Kp.refl.newz hp))) (g4.new hp)
end
end Y

namespace Y
open PySem PySem.Spec PyProof.Rows L2 Z
open C8 (tCut pss_cut Cal pe_c Met pe_mt pe_mt0 Mak pe_mk)
abbrev s__law_classes : Stmt := topS 51
abbrev n__law_classes : List Str := ["_law_table", "_law_accepts", "_law_states", "_law_classes_here", "_law_state", "_law_turn", "_law_keys", "_law_later", "_law_key", "_law_to"]
theorem sc__law_classes : FnScope n__law_classes ["_law_table", "_law_accepts", "_law_states"] (defScope s__law_classes) := ⟨rfl, rfl, rfl, by decide +kernel, rfl, by decide +kernel, by decide +kernel⟩

def spClassesK : Sp := fun vs H Q _ => ∃ (N : Addr → Prop) (vt va : V) (sp : Addr) (t : List (List Nat)) (n s0 : Nat) (a o : List Nat), vs = [vt, va, .ref sp] ∧ Rp N H vt (tabD t) ∧ Rp N H va (rowD a) ∧ Tab t n ∧ t.length ≤ 1000 ∧ n ≤ 1000 ∧ s0 < t.length ∧ Order t s0 o ∧ H sp = some (.lst (ivs o)) ∧ a.length ≤ 1000 ∧
  ∀ (p : Addr) (c : Nat → Nat) H', H p = none → Same H H' → H' p = some (.dK (kN o fun s => .int (c s : Int))) → (∀ s ∈ o, ∀ u ∈ o, c s = c u ↔ lang t a s = lang t a u) → Q (.ref p) H'
/-- the steps, for any numbers that tell what the key tells -/
theorem Stp.nxtK {t : List (List Nat)} {n many : Nat} {a o : List Nat} {key : Nat → Mk} {c : Nat → Nat} (h : Stp t a o many key) (ce : ∀ s ∈ o, ∀ u ∈ o, c s = c u ↔ key s = key u) (TB : Tab t n) (cl : ∀ s ∈ o, ∀ x ∈ t.getD s [], x ∈ o) (lt : ∀ s ∈ o, s < t.length) :
    Stp t a o (fsts key o).length (kOf t c) ∧ (fsts key o).length ≤ (fsts (kOf t c) o).length := by
  have fine : ∀ s ∈ o, ∀ u ∈ o, kOf t c s = kOf t c u → key s = key u := fun s hs u hu e => (ce s hs u hu).mp (Prod.mk.inj (kOf_eq.mp e)).1
  refine ⟨⟨fun s hs u hu e => kOf_eq.mpr (rk_of_lang TB cl lt (fun s hs u hu e => (ce s hs u hu).mpr (h.la s hs u hu e)) s hs u hu e), fun s hs u hu e => h.acc s hs u hu (fine s hs u hu e), cnt_le fine, fun e s hs u hu e2 => ?_⟩, cnt_le fine⟩
  have st := stab fine (by omega)
  exact lang_of TB cl lt (c := c) (fun s hs u hu e => h.acc s hs u hu ((ce s hs u hu).mp e)) (fun s hs u hu e => kOf_eq.mp (st s hs u hu ((ce s hs u hu).mp e))) s hs u hu ((ce s hs u hu).mpr (fine s hs u hu e2))
/-- a key whose list is not at nd -/
def KeyN (nd : Addr) (H : Hp) (p : Addr) (k : Nat × List Nat) : Prop := ∃ q, q ≠ nd ∧ H p = some (.tup [.int (k.1 : Int), .ref q]) ∧ H q = some (.lst (ivs k.2))
theorem KeyN.at {nd : Addr} {H : Hp} {p : Addr} {k : Nat × List Nat} (a : KeyN nd H p k) : KeyAt H p k := by
  obtain ⟨q, _, e1, e2⟩ := a
  exact ⟨q, e1, e2⟩
theorem pairK {α β : Type} {R R' : α → β → Prop} (h : ∀ a b, R a b → R' a b) : ∀ {as : List α} {bs : List β}, Paired R as bs → Paired R' as bs
  | _, _, .nil => .nil
  | _, _, .cons e r => .cons (h _ _ e) (pairK h r)
theorem KeyN.same {nd : Addr} {H H' : Hp} {p : Addr} {k : Nat × List Nat} (a : KeyN nd H p k) (s : Same H H') : KeyN nd H' p k := by
  obtain ⟨q, n, e1, e2⟩ := a
  exact ⟨q, n, s _ _ e1, s _ _ e2⟩
theorem KeyN.mutN {nd : Addr} {H : Hp} {p : Addr} {k : Nat × List Nat} {xs : List V} {o : HO} (e : H nd = some (.lst xs)) (a : KeyN nd H p k) : KeyN nd (upd H nd o) p k := by
  obtain ⟨q, n, e1, e2⟩ := a
  exact ⟨q, n, by rw [upd_ne (fun z => by rw [z, e] at e1; cases e1)]; exact e1, by rw [upd_ne n]; exact e2⟩
theorem KeyN.mutD {nd ld : Addr} {H : Hp} {p : Addr} {k : Nat × List Nat} {d : List (Key × V)} {o : HO} (e : H ld = some (.dK d)) (a : KeyN nd H p k) : KeyN nd (upd H ld o) p k := by
  obtain ⟨q, n, e1, e2⟩ := a
  exact ⟨q, n, by rw [upd_ne (fun z => by rw [z, e] at e1; cases e1)]; exact e1, by rw [upd_ne (fun z => by rw [z, e] at e2; cases e2)]; exact e2⟩
section
variable {P : Program} {w : World} {K : PySem.W.Frag} {mg : Str → Option Value} {base : Heap}
theorem c__law_classesK (d : DF K mg "_law_classes" s__law_classes) (B : Bi mg) : Cal P w K mg base 1 "_law_classes" spClassesK [] := by
  refine d.cal (N := n__law_classes) sc__law_classes (fun _ _ _ _ _ _ us hl => match us, hl with | [_, _, _], _ => rfl) (fun vs H Q E h => ?_) (fun f cdv A outer s H vs Q E hr h => ?_)
  · obtain ⟨N, vt, va, sp, t, n, s0, a, o, rfl, _⟩ := h
    rfl
  · obtain ⟨N, vt, va, sp, t, n, s0, a, o, rfl, rt, ra, TB, ht, hn, hs0, hO, eo, hal, k⟩ := h
    refine ⟨_, (pss_cons (ps_set (i := 3) sc__law_classes.nd rfl (by first | exact Or.inl rfl | exact Or.inr rfl) pe_dnewK)
  (pss_cons (ps_for PassesOwn.never rfl (pi_list (pv 2)) (pg_name (i := 4) sc__law_classes.nd rfl (by first | exact Or.inl rfl | exact Or.inr rfl)) (pss_one (ps_dput (hu_of hr) (pv 3) (pv 4) (pe_callTy zc_int (by rfl) B.int (by decide +kernel) (pa_cons (pe_cmpR (r := rIn K false) op_in_seq (pv 4) (pv 1) (by rfl)) pa_nil)) rfl)))
  (pss_cons (ps_for PassesOwn.never rfl (pi_range1 rfl B.range (pa_cons (pe_callB (r := zLen K) zc_len (by rfl) B.len (by decide +kernel) (pa_cons (pv 2) pa_nil)) pa_nil)) (pg_name (i := 5) sc__law_classes.nd rfl (by first | exact Or.inl rfl | exact Or.inr rfl)) (pss_cons (ps_set (i := 6) sc__law_classes.nd rfl (by first | exact Or.inl rfl | exact Or.inr rfl) (pe_lst pa_nil))
  (pss_cons (ps_set (i := 7) sc__law_classes.nd rfl (by first | exact Or.inl rfl | exact Or.inr rfl) pe_dnewK)
  (pss_cons (ps_for PassesOwn.never rfl (pi_list (pv 2)) (pg_name (i := 4) sc__law_classes.nd rfl (by first | exact Or.inl rfl | exact Or.inr rfl)) (pss_cons (ps_set (i := 8) sc__law_classes.nd rfl (by first | exact Or.inl rfl | exact Or.inr rfl) (pe_tup (pa_cons (pe_dget (hu_of hr) (pv 3) (pv 4) (fun _ _ => rfl)) (pa_cons (pe_lc (own := [("_law_to", 9)]) (g := gName 9) (tt := tYes) (by rfl) sc__law_classes.nd (pi_tup (pe_ix (r := rIxT K) ix_tup (pv 0) (pv 4) (fun _ _ => rfl))) (blkOk_by (N := n__law_classes) (sc := defScope s__law_classes) (by decide +kernel)) (fun _ _ _ _ _ => (pg_name (i := 9) sc__law_classes.nd rfl (by first | exact Or.inl rfl | exact Or.inr rfl))) (fun _ _ _ _ _ => pts_nil) (fun _ _ _ _ _ => (pe_dget (hu_of hr) (pv 3) (pv 9) (fun _ _ => rfl)))) pa_nil))))
  (pss_cons (ps_if (pt_cmpR (r := rNotInD K) (op_notInD (room65 hr)) (pv 8) (pv 6) (by rfl)) (pss_one (ps_expr (pe_bmZ (K := K) rfl PySem.F.plainAttrs_list PySem.F.slot_list_append PySem.F.type_list_append zm_append (pv 6) (pa_cons (pv 8) pa_nil)))) pss_nil)
  (pss_one (ps_dput (hu_of hr) (pv 7) (pv 4) (pe_bmZ (K := K) (r := rIndexD K) rfl PySem.F.plainAttrs_list PySem.F.slot_list_index PySem.F.type_list_index (mt_indexD (room65 hr)) (pv 6) (pa_cons (pv 8) pa_nil)) rfl)))))
  (pss_one (ps_set (i := 3) sc__law_classes.nd rfl (by first | exact Or.inl rfl | exact Or.inr rfl) (pv 7)))))))
  (pss_one (ps_ret (pv 3)))))), ?_⟩
    obtain ⟨pa, rfl, epa, _⟩ := rowD_rp ra
    refine zstart [some (vt), some (.ref pa), some (.ref sp), none, none, none, none, none, none, none] rfl ?_; try dsimp only [zK, zK2]
    obtain ⟨hnd, hlt, h0⟩ := hO.ok TB hs0
    have hne : o ≠ [] := fun e => by rw [e] at h0; cases h0
    have hol : o.length ≤ t.length := by
      have := nodup_le hnd (fun c hc => List.mem_range.mpr (hlt c hc))
      rwa [List.length_range] at this
    have cl : ∀ s ∈ o, ∀ x ∈ t.getD s [], x ∈ o := fun s hs x hx => hO.closed hs hx
    have hil : (ivs o).length = o.length := by unfold ivs; rw [List.length_map]
    walk_at "zz"
    refine fun cd hcd => ?_
    have e1 : upd H cd (.dK []) cd = some (.dK []) := upd_same
    have s1 : Same H (upd H cd (.dK [])) := (Same.refl H).newz hcd
    generalize upd H cd (.dK []) = H1 at e1 s1
    walk_at "zz"
    refine i_KL (SqL.of (s1 _ _ eo)) ?_
    refine l_for (walk_list (xs := ivs o)) (fun i σ H' => Same H H' ∧ H' cd = some (.dK (kN (o.take i) fun s => .int ((if s ∈ a then 1 else 0 : Nat) : Int))) ∧ ∃ v4, σ = [some vt, some (.ref pa), some (.ref sp), some (.ref cd), v4, none, none, none, none, none])
      ⟨s1, e1, none, rfl⟩ (fun i σ H1 _ p => SqL.of (p.1 _ _ eo)) ?_ ?_
    · rintro i x σ H2 H3 hi ⟨s2, e2, v4, rfl⟩ ⟨rfl, hx⟩
      have hi' : i < o.length := by omega
      unfold ivs at hx
      rw [List.getElem?_map, List.getElem?_eq_getElem hi'] at hx
      have hx' := (Option.some.inj hx).symm
      subst hx'
      have hs1 : o[i]? = some o[i] := List.getElem?_eq_getElem hi'
      have htk : o.take (i + 1) = o.take i ++ [o[i]] := by rw [List.take_add_one, hs1]; rfl
      have hni : o[i] ∉ o.take i := by
        have : (o.take (i + 1)).Nodup := List.Sublist.nodup (List.take_sublist _ _) hnd
        rw [htk] at this
        intro z
        exact (List.nodup_append.mp this).2.2 _ z _ (List.mem_singleton.mpr rfl) rfl
      generalize o[i] = z at htk hni
      walk_at "zz"
      refine i_dput ?_
      walk_at "zz"
      refine ⟨pa, _, rfl, .inr (SqT.of (s2 _ _ epa)), rfl, by unfold ivs; rw [List.all_map]; exact List.all_eq_true.mpr fun _ _ => rfl, ?_⟩
      rw [inI, if_neg (by decide)]
      walk_at "zz"
      refine i_intB ?_
      walk_at "zz"
      have hdp := kN_dput (f := fun s => V.int ((if s ∈ a then 1 else 0 : Nat) : Int)) e2 hni (by rw [List.length_take]; omega)
      rw [← htk] at hdp
      have ev : V.int (if decide (z ∈ a) = true then 1 else 0) = V.int ((if z ∈ a then 1 else 0 : Nat) : Int) := by
        by_cases q : z ∈ a
        · rw [decide_eq_true q, if_pos rfl, if_pos q]; rfl
        · rw [decide_eq_false q, if_neg (by decide), if_neg q]; rfl
      refine ⟨cd, _, rfl, by rw [ev]; exact hdp, ?_⟩
      exact ⟨s2.mutz hcd, upd_same, _, rfl⟩
    · rintro σ H2 ⟨s2, e2, v4, rfl⟩
      rw [hil, List.take_length] at e2
      walk_at "zz"
      refine i_lenL (SqL.of (s2 _ _ eo)) ?_
      rw [hil]
      refine i_KR1 (by omega) ?_
      rw [Int.toNat_natCast]
      have ce0 : ∀ s ∈ o, ∀ u ∈ o, (if s ∈ a then 1 else 0 : Nat) = (if u ∈ a then 1 else 0) ↔ (fun s => Mk.b (decide (s ∈ a))) s = (fun s => Mk.b (decide (s ∈ a))) u := fun s _ u _ => by
        by_cases q1 : s ∈ a <;> by_cases q2 : u ∈ a <;> simp [q1, q2]
      have hpos : ∀ key : Nat → Mk, 1 ≤ (fsts key o).length := fun key => by
        obtain ⟨x, o', rfl⟩ := List.exists_cons_of_ne_nil hne
        obtain ⟨r, hr, _⟩ := List.mem_map.mp (fsts_all key (x :: o') x List.mem_cons_self)
        exact List.length_pos_of_mem hr
      have hflo : ∀ key : Nat → Mk, (fsts key o).length ≤ o.length := fun key => by
        refine nodup_le (l := fsts key o) (m := o) ?_ (fun c hc => fsts_sub _ _ c hc)
        exact (List.pairwise_map.mp (fsts_nd key o)).imp fun hab e => hab (congrArg _ e)
      refine l_range (fun j σ H3 => Same H H3 ∧ ∃ (cd : Addr) (c : Nat → Nat) (key : Nat → Mk) (m0 : Nat) (v4 v5 v6 v7 v8 : Option V), H cd = none ∧ H3 cd = some (.dK (kN o fun s => .int (c s : Int))) ∧ (∀ s ∈ o, ∀ u ∈ o, c s = c u ↔ key s = key u) ∧ Stp t a o m0 key ∧ (j + 1 ≤ (fsts key o).length ∨ ∀ s ∈ o, ∀ u ∈ o, key s = key u → lang t a s = lang t a u) ∧
        σ = [some vt, some (.ref pa), some (.ref sp), some (.ref cd), v4, v5, v6, v7, v8, none]) ⟨s2, cd, _, fun s => Mk.b (decide (s ∈ a)), 0, v4, none, none, none, none, hcd, e2, ce0, Stp.one hne, .inl (hpos _), rfl⟩ ?_ ?_
      · clear e2 s2 v4 e1 s1 hcd cd
        rintro j σ H3 hj ⟨s3, cd, c, key, m0, v4, v5, v6, v7, v8, hcd, ecd, ce, ST, hmk, rfl⟩
        obtain ⟨ST2, hle⟩ := ST.nxtK ce TB cl hlt
        walk_at "zz"
        refine ⟨by show 0 ≤ sizeLine; decide, fun nd hnd' => ?_⟩
        have hndH : H nd = none := by
          cases e : H nd with
          | none => rfl
          | some u => rw [s3 _ _ e] at hnd'; cases hnd'
        have ncn : cd ≠ nd := ne_of_none ecd hnd'
        have s4 : Same H3 (upd H3 nd (.lst [])) := (Same.refl H3).newz hnd'
        have e4n : upd H3 nd (.lst []) nd = some (.lst (([] : List Addr).map V.ref)) := upd_same
        generalize upd H3 nd (.lst []) = H4 at s4 e4n
        walk_at "zz"
        refine fun ld hld => ?_
        have nnl : nd ≠ ld := ne_of_none e4n hld
        have hldH : H ld = none := by
          cases e : H ld with
          | none => rfl
          | some u => rw [s4 _ _ (s3 _ _ e)] at hld; cases hld
        have ncl : cd ≠ ld := ne_of_none (s4 _ _ ecd) hld
        have s5 : Same H4 (upd H4 ld (.dK [])) := (Same.refl H4).newz hld
        have e5l : upd H4 ld (.dK []) ld = some (.dK []) := upd_same
        generalize upd H4 ld (.dK []) = H5 at s5 e5l
        have s35 := s4.trans s5
        walk_at "zz"
        have s05 := s3.trans s35
        refine i_KL (SqL.of (s05 _ _ eo)) ?_
        refine l_for (walk_list (xs := ivs o)) (fun i σ H' => Same H H' ∧ H' cd = some (.dK (kN o fun s => .int (c s : Int))) ∧ (∃ ps : List Addr, H' nd = some (.lst (ps.map V.ref)) ∧ Paired (KeyN nd H') ps ((fsts (rk t c) (o.take i)).map (rk t c))) ∧ H' ld = some (.dK (kN (o.take i) fun s => .int (nb (rk t c) o s : Int))) ∧
          ∃ v4 v8, σ = [some vt, some (.ref pa), some (.ref sp), some (.ref cd), v4, some (.int (j : Int)), some (.ref nd), some (.ref ld), v8, none]) ⟨s05, s35 _ _ ecd, ⟨[], s5 _ _ e4n, .nil⟩, e5l, _, _, rfl⟩ (fun i σ H1 _ p => SqL.of (p.1 _ _ eo)) ?_ ?_
        · clear s05 e5l s35 s5 s4 e4n hld hnd' s3 ecd
          rintro i x σ H5 H6 hi ⟨s5, ecd5, ⟨ps, en5, hps⟩, el5, v4, v8, rfl⟩ ⟨rfl, hx⟩
          have hi' : i < o.length := by omega
          unfold ivs at hx
          rw [List.getElem?_map, List.getElem?_eq_getElem hi'] at hx
          have hx' := (Option.some.inj hx).symm
          subst hx'
          have hs : o[i]? = some o[i] := List.getElem?_eq_getElem hi'
          have hmem := List.getElem_mem hi'
          have htk : o.take (i + 1) = o.take i ++ [o[i]] := by rw [List.take_add_one, hs]; rfl
          have hni : o[i] ∉ o.take i := by
            have : (o.take (i + 1)).Nodup := List.Sublist.nodup (List.take_sublist _ _) hnd
            rw [htk] at this
            intro z
            exact (List.nodup_append.mp this).2.2 _ z _ (List.mem_singleton.mpr rfl) rfl
          have hnew := nb_new (key := rk t c) (o := o) hs
          have hold := nb_old (key := rk t c) (o := o) hs
          generalize o[i] = z at hmem htk hni hnew hold
          have hzt := hlt z hmem
          obtain ⟨hr1, hr2, hr3⟩ := TB.get hzt
          walk_at "zz"
          refine i_dget ?_
          walk_at "zz"
          refine ⟨cd, _, rfl, kN_dget ecd5 hmem, ?_⟩
          walk_at "zz"
          refine i_ixRp (rt.same s5) (rowget hzt) fun x rx => ?_
          obtain ⟨pr, rfl, epr, _⟩ := rowD_rp rx
          refine i_KT (SqT.of epr) ?_
          refine fun Dl hDl => ?_
          have nDn : Dl ≠ nd := fun e => by rw [e, en5] at hDl; cases hDl
          refine l_map (walk_tup (xs := ivs t[z])) hDl [some vt, some (.ref pa), some (.ref sp), some (.ref cd), some (.int (z : Int)), some (.int (j : Int)), some (.ref nd), some (.ref ld), v8, none] rfl (fun _ => rfl) (ivs t[z]) rfl (by unfold ivs; rw [List.length_map]; omega) (fun i H1 x H2 _ _ y => ⟨y.1, y.2⟩) (fun H1 s1 => SqT.of (s1 _ _ epr)) (fun v => match v with | .int i => .int (c i.toNat : Int) | _ => .non) (fun x H1 P1 hx1 s1 hP => ?_) fun H9 s9 e9 => ?_
          · obtain ⟨y, hy, rfl⟩ := List.mem_map.mp hx1
            refine zte [some vt, some (.ref pa), some (.ref sp), some (.ref cd), some (.int (z : Int)), some (.int (j : Int)), some (.ref nd), some (.ref ld), v8, some (.int (y : Int))] rfl ?_
            refine i_dget ?_
            walk_at "zz"
            exact ⟨cd, _, rfl, kN_dget (s1 _ _ ecd5) (cl z hmem y (by rw [hr1]; exact hy)), hP H1 (Same.refl _)⟩
          have e9 : H9 Dl = some (.lst (ivs (rk t c z).2)) := by
            rw [e9]
            show _ = some (HO.lst (ivs ((t.getD z []).map c)))
            rw [hr1]
            unfold ivs
            rw [List.map_map, List.map_map]; rfl
          walk_at "zz"
          refine ⟨by show 2 ≤ sizeLine; decide, fun r hr => ?_⟩
          have s11 : Same H6 (upd H9 r (.tup [.int (c z : Int), .ref Dl])) := s9.newz hr
          have e11 : upd H9 r (.tup [.int (c z : Int), .ref Dl]) r = some (.tup [.int (c z : Int), .ref Dl]) := upd_same
          have e12 : upd H9 r (.tup [.int (c z : Int), .ref Dl]) Dl = some (.lst (ivs (rk t c z).2)) := by rw [upd_ne (ne_of_none e9 hr)]; exact e9
          generalize upd H9 r (.tup [.int (c z : Int), .ref Dl]) = H11 at s11 e11 e12
          have im : KeyN nd H11 r (rk t c z) := ⟨Dl, nDn, e11, e12⟩
          have hps11 := pairK (fun p k a => KeyN.same a s11) hps
          have en11 := s11 _ _ en5
          have el11 := s11 _ _ el5
          have ecd11 := s11 _ _ ecd5
          have s011 := s5.trans s11
          have hfl : (fsts (rk t c) (o.take i)).length ≤ o.length := by
            refine nodup_le (l := fsts (rk t c) (o.take i)) (m := o) ?_ (fun c hc => List.mem_of_mem_take (fsts_sub _ _ c hc))
            exact (List.pairwise_map.mp (fsts_nd (rk t c) (o.take i))).imp fun hab e => hab (congrArg _ e)
          have hzm : z ∈ o.take (i + 1) := by rw [htk]; simp
          have hnbz := nb_take (key := rk t c) hzm
          have hnbz : ixK ((fsts (rk t c) (o.take (i + 1))).map (rk t c)) (rk t c z) = nb (rk t c) o z := hnbz
          walk_at "zz"
          refine i_notInK im.at en11 (pairK (fun p k a => a.at) hps11) ?_
          walk_at "zz"
          refine brn (fun hz => ?_) fun hz => ?_
          · obtain ⟨e1, e2⟩ := hnew hz
            rw [e2] at hnbz
            walk_at "zz"
            refine i_tyL (SqL.of en11) ?_
            walk_at "zz"
            have hpl : ps.length = (fsts (rk t c) (o.take i)).length := by
              have := hps.length
              rw [List.length_map] at this; exact this
            refine i_append en11 (by rw [List.length_map]; omega) ?_
            have en12 : upd H11 nd (.lst (ps.map V.ref ++ [.ref r])) nd = some (.lst ((ps ++ [r]).map V.ref)) := by rw [upd_same, List.map_append]; rfl
            have s12 : Same H (upd H11 nd (.lst (ps.map V.ref ++ [.ref r]))) := s011.mutz hndH
            have el12 : upd H11 nd (.lst (ps.map V.ref ++ [.ref r])) ld = some (.dK (kN (o.take i) fun s => .int (nb (rk t c) o s : Int))) := by rw [upd_ne nnl.symm]; exact el11
            have ecd12 : upd H11 nd (.lst (ps.map V.ref ++ [.ref r])) cd = some (.dK (kN o fun s => .int (c s : Int))) := by rw [upd_ne ncn]; exact ecd11
            have im12 := im.mutN (o := .lst (ps.map V.ref ++ [.ref r])) en11
            have hps12 : Paired (KeyN nd (upd H11 nd (.lst (ps.map V.ref ++ [.ref r])))) (ps ++ [r]) ((fsts (rk t c) (o.take i) ++ [z]).map (rk t c)) := by
              rw [List.map_append]
              exact Paired.snoc (pairK (fun p k a => a.mutN en11) hps11) im12
            generalize upd H11 nd (.lst (ps.map V.ref ++ [.ref r])) = H12 at en12 s12 el12 ecd12 im12 hps12
            walk_at "zz"
            refine i_dput ?_
            walk_at "zz"
            refine i_tyL (SqL.of en12) ?_
            walk_at "zz"
            refine i_idxK im12.at en12 (pairK (fun p k a => a.at) hps12) (by simp) ?_
            rw [hnbz]
            walk_at "zz"
            refine ⟨ld, _, rfl, kN_dput (f := fun s => .int (nb (rk t c) o s : Int)) el12 hni (by rw [List.length_take]; omega), ?_⟩
            rw [← htk]
            exact ⟨s12.mutz hldH, by rw [upd_ne ncl]; exact ecd12, ⟨ps ++ [r], by rw [upd_ne nnl]; exact en12, by rw [e2]; exact pairK (fun p k a => a.mutD el12) hps12⟩, upd_same, _, _, rfl⟩
          · obtain ⟨_, e2⟩ := hold hz
            rw [e2] at hnbz
            walk_at "zz"
            refine i_dput ?_
            walk_at "zz"
            refine i_tyL (SqL.of en11) ?_
            walk_at "zz"
            refine i_idxK im.at en11 (pairK (fun p k a => a.at) hps11) hz ?_
            rw [hnbz]
            walk_at "zz"
            refine ⟨ld, _, rfl, kN_dput (f := fun s => .int (nb (rk t c) o s : Int)) el11 hni (by rw [List.length_take]; omega), ?_⟩
            rw [← htk]
            exact ⟨s011.mutz hldH, by rw [upd_ne ncl]; exact ecd11, ⟨ps, by rw [upd_ne nnl]; exact en11, by rw [e2]; exact pairK (fun p k a => a.mutD el11) hps11⟩, upd_same, _, _, rfl⟩
        · rintro σ H6 ⟨s6, ecd6, ⟨ps, en6, hps⟩, el6, v4, v8, rfl⟩
          rw [hil, List.take_length] at el6
          have kk : ∀ s ∈ o, ∀ u ∈ o, kOf t c s = kOf t c u ↔ rk t c s = rk t c u := fun s _ u _ => kOf_eq
          walk_at "zz"
          refine ⟨s6, ld, _, kOf t c, (fsts key o).length, _, _, _, _, _, hldH, el6, fun s hs u hu => (nb_inj hs).trans (kk s hs u hu).symm, ST2, ?_, rfl⟩
          rcases hmk with h | h
          · by_cases e : (fsts key o).length = (fsts (kOf t c) o).length
            · exact .inr (ST2.gd e)
            · exact .inl (by omega)
          · refine .inr fun s hs u hu e => ?_
            exact h s hs u hu ((ce s hs u hu).mp (Prod.mk.inj (kOf_eq.mp e)).1)
      · rintro σ H3 ⟨s3, cd, c, key, m0, v4, v5, v6, v7, v8, hcd, ecd, ce, ST, hmk, rfl⟩
        walk_at "zz"
        refine k cd c H3 hcd s3 ecd fun s hs u hu => (ce s hs u hu).trans ⟨fun e => ?_, ST.la s hs u hu⟩
        rcases hmk with h | h
        · have := hflo key; omega
        · exact h s hs u hu e
end
end Y

namespace Y
/-! ### least machines with the same answers are the same -/
section
variable {κ μ : Type} [DecidableEq κ] [DecidableEq μ]
def stp (r : List κ) (x : κ) : List κ := if x ∈ r then r else r ++ [x]
/-- the first ones of each -/
def dd (xs : List κ) : List κ := xs.foldl stp []
theorem dd_app (xs ys : List κ) : dd (xs ++ ys) = ys.foldl stp (dd xs) := by unfold dd; rw [List.foldl_append]
theorem dd_snoc (xs : List κ) (x : κ) : dd (xs ++ [x]) = if x ∈ dd xs then dd xs else dd xs ++ [x] := by rw [dd_app]; rfl
theorem dd_mem (xs : List κ) : ∀ x, x ∈ dd xs ↔ x ∈ xs := by
  refine snoc_ind (p := fun xs => ∀ x, x ∈ dd xs ↔ x ∈ xs) (fun x => by simp [dd]) (fun xs y ih x => ?_) xs
  rw [dd_snoc]
  split
  · rename_i h
    rw [List.mem_append, List.mem_singleton, ih]
    constructor
    · exact .inl
    · rintro (z | rfl)
      · exact z
      · exact (ih _).mp h
  · rw [List.mem_append, List.mem_append, ih]
theorem dd_nd (xs : List κ) : (dd xs).Nodup := by
  refine snoc_ind (p := fun xs => (dd xs).Nodup) (by simp [dd]) (fun xs y ih => ?_) xs
  rw [dd_snoc]
  split
  · exact ih
  · rename_i h
    exact List.nodup_append.mpr ⟨ih, by simp, fun a ha b hb => by rw [List.mem_singleton.mp hb]; intro e; exact h (e ▸ ha)⟩
theorem dd_pre (xs ys : List κ) : dd xs <+: dd (xs ++ ys) := by
  refine snoc_ind (p := fun ys => dd xs <+: dd (xs ++ ys)) (by rw [List.append_nil]; exact List.prefix_refl _) (fun ys y ih => ?_) ys
  rw [← List.append_assoc, dd_snoc]
  split
  · exact ih
  · exact ih.trans (List.prefix_append _ _)
theorem dd_congr {xs ys : List κ} (h : dd xs = dd ys) (zs : List κ) : dd (xs ++ zs) = dd (ys ++ zs) := by rw [dd_app, dd_app, h]
theorem dd_in {xs zs : List κ} (h : ∀ z ∈ zs, z ∈ xs) : dd (xs ++ zs) = dd xs := by
  revert h
  refine snoc_ind (p := fun zs => (∀ z ∈ zs, z ∈ xs) → dd (xs ++ zs) = dd xs) (fun _ => by rw [List.append_nil]) (fun zs y ih h => ?_) zs
  rw [← List.append_assoc, dd_snoc, ih fun z hz => h z (List.mem_append_left _ hz), if_pos ((dd_mem xs y).mpr (h y (by simp)))]
theorem dd_map (f : κ → μ) (xs : List κ) : dd ((dd xs).map f) = dd (xs.map f) := by
  refine snoc_ind (p := fun xs => dd ((dd xs).map f) = dd (xs.map f)) rfl (fun xs x ih => ?_) xs
  rw [dd_snoc, List.map_append, List.map_cons, List.map_nil]
  split
  · rename_i h
    rw [ih, dd_in]
    intro z hz
    rw [List.mem_singleton.mp hz]
    exact List.mem_map.mpr ⟨x, (dd_mem xs x).mp h, rfl⟩
  · rw [List.map_append, List.map_cons, List.map_nil]
    exact dd_congr ih _
theorem dd_flat (z : List μ) (f : κ → List μ) (xs : List κ) : dd (z ++ (dd xs).flatMap f) = dd (z ++ xs.flatMap f) := by
  refine snoc_ind (p := fun xs => dd (z ++ (dd xs).flatMap f) = dd (z ++ xs.flatMap f)) rfl (fun xs x ih => ?_) xs
  rw [dd_snoc, List.flatMap_append, List.flatMap_cons, List.flatMap_nil, List.append_nil, ← List.append_assoc]
  split
  · rename_i h
    rw [ih]
    exact (dd_in (xs := z ++ xs.flatMap f) fun y hy => List.mem_append_right _ (List.mem_flatMap.mpr ⟨x, (dd_mem xs x).mp h, hy⟩)).symm
  · rw [List.flatMap_append, List.flatMap_cons, List.flatMap_nil, List.append_nil, ← List.append_assoc]
    exact dd_congr ih _
theorem fsts_dd {key : Nat → κ} (o : List Nat) : (fsts key o).map key = dd (o.map key) := by
  refine snoc_ind (p := fun o => (fsts key o).map key = dd (o.map key)) rfl (fun o x ih => ?_) o
  rw [fsts_snoc, List.map_append, List.map_cons, List.map_nil, dd_snoc, ← ih]
  split
  · rfl
  · rw [List.map_append]; rfl
/-- a list that is walked breadth first from x0 -/
structure Canon (x0 : κ) (ch : κ → List κ) (R : List κ) : Prop where
  fx : R = dd ([x0] ++ R.flatMap ch)
  ca : ∀ m, m < R.length → m < (dd ([x0] ++ (R.take m).flatMap ch)).length
theorem Canon.pre {x0 : κ} {ch : κ → List κ} {R : List κ} (c : Canon x0 ch R) (m : Nat) : dd ([x0] ++ (R.take m).flatMap ch) <+: R := by
  have h := dd_pre ([x0] ++ (R.take m).flatMap ch) ((R.drop m).flatMap ch)
  rw [List.append_assoc, ← List.flatMap_append, List.take_append_drop, ← c.fx] at h
  exact h
theorem Canon.one {x0 : κ} {ch : κ → List κ} {R R' : List κ} (c : Canon x0 ch R) (c' : Canon x0 ch R') : R = R' := by
  have key : ∀ {R R' : List κ}, Canon x0 ch R → Canon x0 ch R' → ∀ m, m ≤ R.length → R.take m = R'.take m ∧ m ≤ R'.length := by
    intro R R' c c' m
    induction m with
    | zero => exact fun _ => ⟨by simp, Nat.zero_le _⟩
    | succ m ih =>
      intro hm
      obtain ⟨e, hl⟩ := ih (by omega)
      have h1 := c.ca m (by omega)
      have p1 := c.pre m
      have p2 := c'.pre m
      rw [← e] at p2
      obtain ⟨r1, q1⟩ := p1
      obtain ⟨r2, q2⟩ := p2
      generalize dd ([x0] ++ (R.take m).flatMap ch) = Pm at h1 q1 q2
      have t1 : R.take (m + 1) = Pm.take (m + 1) := by rw [← q1, List.take_append_of_le_length (by omega)]
      have t2 : R'.take (m + 1) = Pm.take (m + 1) := by rw [← q2, List.take_append_of_le_length (by omega)]
      refine ⟨by rw [t1, t2], ?_⟩
      have := congrArg List.length q2
      rw [List.length_append] at this
      omega
  obtain ⟨e1, l1⟩ := key c c' R.length (Nat.le_refl _)
  obtain ⟨e2, l2⟩ := key c' c R'.length (Nat.le_refl _)
  have : R.length = R'.length := by omega
  rw [List.take_length, this, List.take_length] at e1
  exact e1
/-- .. an image of such a list is one -/
theorem Canon.img {x0 : κ} {ch : κ → List κ} {R : List κ} (c : Canon x0 ch R) (f : κ → μ) (ch' : μ → List μ) (h : ∀ x ∈ R, (ch x).map f = ch' (f x)) : Canon (f x0) ch' (dd (R.map f)) := by
  have flat : ∀ xs : List κ, (∀ x ∈ xs, x ∈ R) → ([x0] ++ xs.flatMap ch).map f = [f x0] ++ (xs.map f).flatMap ch' := by
    intro xs hxs
    rw [List.map_append, List.map_cons, List.map_nil, List.map_flatMap, List.flatMap_map]
    refine congrArg _ ?_
    induction xs with
    | nil => rfl
    | cons x xs ih =>
      rw [List.flatMap_cons, List.flatMap_cons, ih fun y hy => hxs y (List.mem_cons_of_mem _ hy), h x (hxs x List.mem_cons_self)]
  have fx : dd (R.map f) = dd ([f x0] ++ (dd (R.map f)).flatMap ch') := by
    rw [dd_flat, ← flat R fun x hx => hx, ← dd_map f ([x0] ++ R.flatMap ch), ← c.fx]
  refine ⟨fx, fun m hm => ?_⟩
  -- the first place in R of what is m-th
  obtain ⟨y, hy⟩ : ∃ y, (dd (R.map f))[m] = y := ⟨_, rfl⟩
  have hyR : y ∈ R.map f := (dd_mem _ _).mp (by rw [← hy]; exact List.getElem_mem hm)
  obtain ⟨j, hj, hj1, hj2⟩ : ∃ j, ∃ hj : j < R.length, f R[j] = y ∧ y ∉ (R.take j).map f := by
    have hidx : (R.map f).idxOf y < R.length := by
      have := List.idxOf_lt_length_of_mem hyR
      rwa [List.length_map] at this
    refine ⟨(R.map f).idxOf y, hidx, ?_, ?_⟩
    · have := List.getElem_idxOf (List.idxOf_lt_length_of_mem hyR)
      rwa [List.getElem_map] at this
    · intro z
      rw [List.map_take] at z
      obtain ⟨i, hi, e⟩ := List.getElem_of_mem z
      rw [List.length_take] at hi
      rw [List.getElem_take] at e
      have := List.not_of_lt_findIdx (p := (· == y)) (xs := R.map f) (i := i) (by show i < (R.map f).idxOf y; omega)
      rw [e, beq_self_eq_true] at this
      cases this
  have pj : dd ((R.take j).map f) <+: dd (R.map f) := by
    have := dd_pre ((R.take j).map f) ((R.drop j).map f)
    rwa [← List.map_append, List.take_append_drop] at this
  have nd := dd_nd (R.map f)
  have ndj : y ∉ dd ((R.take j).map f) := fun z => hj2 ((dd_mem _ _).mp z)
  have pj1 : dd ((R.take j).map f) ++ [y] <+: dd (R.map f) := by
    have e : R.take (j + 1) = R.take j ++ [R[j]] := by rw [List.take_add_one, List.getElem?_eq_getElem hj]; rfl
    have := dd_pre ((R.take (j + 1)).map f) ((R.drop (j + 1)).map f)
    rw [← List.map_append, List.take_append_drop, e, List.map_append, List.map_cons, List.map_nil, hj1, dd_snoc, if_neg ndj] at this
    exact this
  have hlen : (dd ((R.take j).map f)).length = m := by
    obtain ⟨r, q⟩ := pj1
    have h1 : (dd (R.map f))[(dd ((R.take j).map f)).length]? = some y := by
      rw [← q, List.append_assoc, List.getElem?_append_right (Nat.le_refl _), Nat.sub_self]; rfl
    have h2 : (dd (R.map f))[m]? = some y := by rw [List.getElem?_eq_getElem hm, hy]
    have hl : (dd ((R.take j).map f)).length < (dd (R.map f)).length := (List.getElem?_eq_some_iff.mp h1).1
    exact (List.getElem?_inj hl nd).mp (by rw [h1, h2])
  have htake : (dd (R.map f)).take m = dd ((R.take j).map f) := by
    obtain ⟨r, q⟩ := pj
    rw [← q, ← hlen, List.take_append_of_le_length (Nat.le_refl _), List.take_length]
  rw [htake, dd_flat, ← flat (R.take j) fun x hx => List.mem_of_mem_take hx, ← dd_map]
  have hc := c.ca j hj
  have hp := c.pre j
  have hin : R[j] ∈ dd ([x0] ++ (R.take j).flatMap ch) := by
    obtain ⟨r, q⟩ := hp
    have : (dd ([x0] ++ (R.take j).flatMap ch))[j]? = some R[j] := by
      have h0 : R[j]? = some R[j] := List.getElem?_eq_getElem hj
      have h3 : (dd ([x0] ++ (R.take j).flatMap ch) ++ r)[j]? = R[j]? := by rw [q]
      rw [List.getElem?_append_left hc] at h3
      rw [h3]; exact h0
    exact List.mem_of_getElem? this
  have hyin : y ∈ dd ((dd ([x0] ++ (R.take j).flatMap ch)).map f) := (dd_mem _ _).mpr (List.mem_map.mpr ⟨_, hin, hj1⟩)
  have hsub : dd ((dd ([x0] ++ (R.take j).flatMap ch)).map f) <+: dd (R.map f) := by
    obtain ⟨r, q⟩ := hp
    have := dd_pre ((dd ([x0] ++ (R.take j).flatMap ch)).map f) (r.map f)
    rwa [← List.map_append, q] at this
  obtain ⟨i, hi, e⟩ := List.getElem_of_mem hyin
  obtain ⟨r, q⟩ := hsub
  have h1 : (dd (R.map f))[i]? = some y := by rw [← q, List.getElem?_append_left hi, List.getElem?_eq_getElem hi, e]
  have h2 : (dd (R.map f))[m]? = some y := by rw [List.getElem?_eq_getElem hm, hy]
  have : i = m := (List.getElem?_inj ((List.getElem?_eq_some_iff.mp h1).1) nd).mp (by rw [h1, h2])
  omega
end
/-! the order of a table's states is one -/
theorem addAll_stp (row : List Nat) (o : List Nat) : addAll o row = row.foldl stp o := rfl
theorem Order.canon {t : List (List Nat)} {n s0 : Nat} {o : List Nat} (a : Order t s0 o) (TB : Tab t n) (h0 : s0 < t.length) : Canon s0 (fun s => t.getD s []) o := by
  obtain ⟨K, e, h1, h2⟩ := a.ex
  have step : ∀ k, k ≤ K → bfs t s0 k = dd ([s0] ++ (o.take k).flatMap fun s => t.getD s []) := by
    intro k
    induction k with
    | zero => exact fun _ => rfl
    | succ k ih =>
      intro hk
      have ih := ih (by omega)
      have hlt := h2 k (by omega)
      have pk : bfs t s0 k <+: o := by
        have := bfs_pre t s0 k (K - k)
        rw [show k + (K - k) = K by omega, ← e] at this
        exact this
      have hko : o[k]? = (bfs t s0 k)[k]? := by
        obtain ⟨r, q⟩ := pk
        rw [← q, List.getElem?_append_left hlt]
      have hko2 : o[k]? = some ((bfs t s0 k).getD k 0) := by rw [hko, List.getD_eq_getElem?_getD, List.getElem?_eq_getElem hlt]; rfl
      have htk : o.take (k + 1) = o.take k ++ [(bfs t s0 k).getD k 0] := by rw [List.take_add_one, hko2]; rfl
      rw [htk, List.flatMap_append, List.flatMap_cons, List.flatMap_nil, List.append_nil, ← List.append_assoc, dd_app, ← ih]
      rfl
  refine ⟨?_, fun m hm => ?_⟩
  · have := step K (Nat.le_refl _)
    rw [List.take_of_length_le h1] at this
    rw [← this]; exact e
  · have := h2 m (by omega)
    rwa [step m (by omega)] at this
/-- the answers behind a letter -/
def dv (l : List Nat → Bool) (i : Nat) : List Nat → Bool := fun w => l (i :: w)
theorem lang_row {t : List (List Nat)} {n : Nat} {a : List Nat} {s : Nat} (TB : Tab t n) (hs : s < t.length) : (t.getD s []).map (lang t a) = (List.range n).map (dv (lang t a s)) := by
  obtain ⟨e, hl, _⟩ := TB.get hs
  rw [e]
  refine List.ext_getElem (by rw [List.length_map, List.length_map, List.length_range, hl]) fun i h1 h2 => ?_
  rw [List.getElem_map, List.getElem_map, List.getElem_range]
  funext w
  show lang t a (t[s][i]'(by rw [List.length_map] at h1; exact h1)) w = lang t a s (i :: w)
  show decide (rn t _ w ∈ a) = decide (rn t (dl t s i) w ∈ a)
  have : dl t s i = t[s][i]'(by rw [List.length_map] at h1; exact h1) := by
    unfold dl
    rw [e, List.getD_eq_getElem?_getD, List.getElem?_eq_getElem (by rw [List.length_map] at h1; exact h1)]; rfl
  rw [this]
theorem reps_canon {t : List (List Nat)} {n : Nat} {a o : List Nat} (TB : Tab t n) (h : Order t 0 o) : Canon (lang t a 0) (fun l => (List.range n).map (dv l)) ((reps t a o).map (lang t a)) := by
  have c := h.canon TB TB.pos
  obtain ⟨_, hlt, _⟩ := h.ok TB TB.pos
  have := c.img (lang t a) (fun l => (List.range n).map (dv l)) fun x hx => lang_row TB (hlt x hx)
  rwa [← fsts_dd] at this
theorem canT_of {t : List (List Nat)} {n : Nat} {a o : List Nat} (TB : Tab t n) (h : Order t 0 o) : canT t a o = ((reps t a o).map (lang t a)).map fun l => ((List.range n).map (dv l)).map fun x => ((reps t a o).map (lang t a)).idxOf x := by
  obtain ⟨_, hlt, _⟩ := h.ok TB TB.pos
  rw [List.map_map]
  unfold canT
  refine List.map_congr_left fun r hr => ?_
  have hro := fsts_sub _ _ r hr
  show _ = ((List.range n).map (dv (lang t a r))).map _
  rw [← lang_row TB (hlt r hro), List.map_map]
  rfl
theorem canA_of {t : List (List Nat)} {a o : List Nat} : canA t a o = (List.range ((reps t a o).map (lang t a)).length).filter fun i => (((reps t a o).map (lang t a)).getD i fun _ => false) [] := by
  unfold canA
  rw [List.length_map]
  refine List.filter_congr fun i hi => ?_
  have hi := List.mem_range.mp hi
  rw [List.getD_eq_getElem?_getD, List.getD_eq_getElem?_getD, List.getElem?_map, List.getElem?_eq_getElem hi]
  rfl
/-- least machines that answer alike are one -/
theorem can_one {t t' : List (List Nat)} {n : Nat} {a a' o o' : List Nat} (TB : Tab t n) (TB' : Tab t' n) (h : Order t 0 o) (h' : Order t' 0 o') (e : lang t a 0 = lang t' a' 0) : canT t a o = canT t' a' o' ∧ canA t a o = canA t' a' o' := by
  have c := reps_canon (a := a) TB h
  have c' := reps_canon (a := a') TB' h'
  rw [e] at c
  have q := c.one c'
  rw [canT_of TB h, canT_of TB' h', canA_of, canA_of (t := t'), q]
  exact ⟨rfl, rfl⟩
end Y

namespace Y
/-! ### least machines from any first state; what they answer -/
theorem dl_out {t : List (List Nat)} {n s i : Nat} (TB : Tab t n) (hi : n ≤ i) : dl t s i = 0 := by
  unfold dl
  by_cases hs : s < t.length
  · obtain ⟨e, hl, _⟩ := TB.get hs
    rw [e, List.getD_eq_getElem?_getD, List.getElem?_eq_none (by omega)]; rfl
  · rw [show t.getD s [] = [] from by rw [List.getD_eq_getElem?_getD, List.getElem?_eq_none (by omega)]; rfl]; rfl
/-- the answers to words of n letters -/
noncomputable def lgN (n : Nat) (t : List (List Nat)) (a : List Nat) (s : Nat) : List Nat → Bool := fun w => decide (∀ i ∈ w, i < n) && lang t a s w
theorem lgN_in {n : Nat} {t : List (List Nat)} {a w : List Nat} {s : Nat} (h : ∀ i ∈ w, i < n) : lgN n t a s w = lang t a s w := by
  unfold lgN
  rw [decide_eq_true h, Bool.true_and]
theorem lgN_cons {n : Nat} {t : List (List Nat)} {a w : List Nat} {s i : Nat} (h : i < n) : lgN n t a s (i :: w) = lgN n t a (dl t s i) w := by
  unfold lgN
  have e : decide (∀ j ∈ i :: w, j < n) = decide (∀ j ∈ w, j < n) := by
    by_cases q : ∀ j ∈ w, j < n
    · rw [decide_eq_true q, decide_eq_true]
      intro j hj
      rcases List.mem_cons.mp hj with z | z
      · rw [z]; exact h
      · exact q j z
    · rw [decide_eq_false q, decide_eq_false]
      exact fun z => q fun j hj => z j (List.mem_cons_of_mem _ hj)
  rw [e]; rfl
theorem lgN_ext {n : Nat} {t t' : List (List Nat)} {a a' : List Nat} {s s' : Nat} (h : ∀ w, (∀ i ∈ w, i < n) → lang t a s w = lang t' a' s' w) : lgN n t a s = lgN n t' a' s' := by
  funext w
  by_cases q : ∀ i ∈ w, i < n
  · rw [lgN_in q, lgN_in q, h w q]
  · unfold lgN
    rw [decide_eq_false q]; rfl
theorem lgN_iff {n : Nat} {t : List (List Nat)} {a : List Nat} {s u : Nat} (TB : Tab t n) : lgN n t a s = lgN n t a u ↔ lang t a s = lang t a u := by
  constructor
  · intro h
    have : ∀ (w : List Nat) (s u : Nat), lgN n t a s = lgN n t a u → lang t a s w = lang t a u w := by
      intro w
      induction w with
      | nil => exact fun s u h => by have := congrFun h []; rwa [lgN_in (by simp), lgN_in (by simp)] at this
      | cons i w ih =>
        intro s u h
        show lang t a (dl t s i) w = lang t a (dl t u i) w
        by_cases hi : i < n
        · refine ih _ _ ?_
          funext v
          have := congrFun h (i :: v)
          rwa [lgN_cons hi, lgN_cons hi] at this
        · rw [dl_out TB (by omega), dl_out TB (by omega)]
    exact funext fun w => this w s u h
  · exact fun h => lgN_ext fun w _ => congrFun h w
theorem lgN_row {t : List (List Nat)} {n : Nat} {a : List Nat} {s : Nat} (TB : Tab t n) (hs : s < t.length) : (t.getD s []).map (lgN n t a) = (List.range n).map (dv (lgN n t a s)) := by
  obtain ⟨e, hl, _⟩ := TB.get hs
  rw [e]
  refine List.ext_getElem (by rw [List.length_map, List.length_map, List.length_range, hl]) fun i h1 h2 => ?_
  rw [List.getElem_map, List.getElem_map, List.getElem_range]
  have hi : i < n := by rw [List.length_map, List.length_range] at h2; exact h2
  funext w
  show lgN n t a (t[s][i]'(by rw [hl]; exact hi)) w = lgN n t a s (i :: w)
  rw [lgN_cons hi]
  have : dl t s i = t[s][i]'(by rw [hl]; exact hi) := by
    unfold dl
    rw [e, List.getD_eq_getElem?_getD, List.getElem?_eq_getElem (by rw [hl]; exact hi)]; rfl
  rw [this]
section
variable {t : List (List Nat)} {n s0 : Nat} {a o : List Nat}
theorem reps_lgN (TB : Tab t n) : reps t a o = fsts (lgN n t a) o := fsts_congr fun s _ u _ => (lgN_iff TB).symm
theorem cn_lgN (TB : Tab t n) {s : Nat} (hs : s ∈ o) : cn t a o s = nb (lgN n t a) o s := nb_congr (fun s _ u _ => (lgN_iff TB).symm) hs
theorem reps_canonN (TB : Tab t n) (h : Order t s0 o) (h0 : s0 < t.length) : Canon (lgN n t a s0) (fun l => (List.range n).map (dv l)) ((reps t a o).map (lgN n t a)) := by
  have c := h.canon TB h0
  obtain ⟨_, hlt, _⟩ := h.ok TB h0
  have := c.img (lgN n t a) (fun l => (List.range n).map (dv l)) fun x hx => lgN_row TB (hlt x hx)
  rw [← fsts_dd] at this
  rwa [reps_lgN TB]
theorem canT_ofN (TB : Tab t n) (h : Order t s0 o) (h0 : s0 < t.length) : canT t a o = ((reps t a o).map (lgN n t a)).map fun l => ((List.range n).map (dv l)).map fun x => ((reps t a o).map (lgN n t a)).idxOf x := by
  obtain ⟨_, hlt, _⟩ := h.ok TB h0
  rw [List.map_map]
  unfold canT
  refine List.map_congr_left fun r hr => ?_
  have hro := fsts_sub _ _ r hr
  show _ = ((List.range n).map (dv (lgN n t a r))).map _
  rw [← lgN_row TB (hlt r hro), List.map_map]
  refine List.map_congr_left fun x hx => ?_
  rw [cn_lgN TB (h.closed hro hx), reps_lgN TB]
  rfl
theorem canA_ofN : canA t a o = (List.range ((reps t a o).map (lgN n t a)).length).filter fun i => (((reps t a o).map (lgN n t a)).getD i fun _ => false) [] := by
  unfold canA
  rw [List.length_map]
  refine List.filter_congr fun i hi => ?_
  have hi := List.mem_range.mp hi
  rw [List.getD_eq_getElem?_getD, List.getD_eq_getElem?_getD, List.getElem?_map, List.getElem?_eq_getElem hi]
  show decide ((reps t a o)[i] ∈ a) = lgN n t a (reps t a o)[i] []
  rw [lgN_in (by simp)]; rfl
end
theorem can_oneS {t t' : List (List Nat)} {n s0 s0' : Nat} {a a' o o' : List Nat} (TB : Tab t n) (TB' : Tab t' n) (h : Order t s0 o) (h' : Order t' s0' o') (hs : s0 < t.length) (hs' : s0' < t'.length) (e : ∀ w, (∀ i ∈ w, i < n) → lang t a s0 w = lang t' a' s0' w) : canT t a o = canT t' a' o' ∧ canA t a o = canA t' a' o' := by
  have c := reps_canonN (a := a) TB h hs
  have c' := reps_canonN (a := a') TB' h' hs'
  rw [lgN_ext e] at c
  have q := c.one c'
  rw [canT_ofN TB h hs, canT_ofN TB' h' hs', canA_ofN (n := n), canA_ofN (n := n) (t := t'), q]
  exact ⟨rfl, rfl⟩
section
variable {t : List (List Nat)} {n s0 : Nat} {a o : List Nat}
theorem cn_rep {s : Nat} (hs : s ∈ o) : ∃ h : cn t a o s < (reps t a o).length, lang t a (reps t a o)[cn t a o s] = lang t a s := by
  have hlt : cn t a o s < (reps t a o).length := nb_lt hs
  refine ⟨hlt, ?_⟩
  have hm := fsts_all (lang t a) o s hs
  have : ((fsts (lang t a) o).map (lang t a))[((fsts (lang t a) o).map (lang t a)).idxOf (lang t a s)]'(List.idxOf_lt_length_of_mem hm) = lang t a s := List.getElem_idxOf (List.idxOf_lt_length_of_mem hm)
  rw [List.getElem_map] at this
  exact this
theorem can_dl (TB : Tab t n) (h : Order t s0 o) (h0 : s0 < t.length) {s i : Nat} (hs : s ∈ o) (hi : i < n) : dl (canT t a o) (cn t a o s) i = cn t a o (dl t s i) := by
  obtain ⟨_, hlt, _⟩ := h.ok TB h0
  obtain ⟨hc, hr⟩ := cn_rep (t := t) (a := a) hs
  generalize hρ : (reps t a o)[cn t a o s] = ρ at hr
  have hρo : ρ ∈ o := by rw [← hρ]; exact fsts_sub _ _ _ (List.getElem_mem hc)
  obtain ⟨e1, hl, _⟩ := TB.get (hlt ρ hρo)
  have e : (canT t a o).getD (cn t a o s) [] = (t.getD ρ []).map (cn t a o) := by
    unfold canT
    rw [List.getD_eq_getElem?_getD, List.getElem?_map, List.getElem?_eq_getElem hc, hρ]; rfl
  unfold dl
  rw [e, List.getD_eq_getElem?_getD, List.getElem?_map]
  have hir : i < (t.getD ρ []).length := by rw [e1, hl]; exact hi
  rw [List.getElem?_eq_getElem hir]
  show cn t a o (t.getD ρ [])[i] = cn t a o (dl t s i)
  have e2 : dl t ρ i = (t.getD ρ [])[i] := by
    unfold dl
    rw [List.getD_eq_getElem?_getD, List.getElem?_eq_getElem hir]; rfl
  rw [← e2]
  have m1 : dl t ρ i ∈ o := h.closed hρo (TB.dl_mem (hlt ρ hρo) hi)
  have m2 : dl t s i ∈ o := h.closed hs (TB.dl_mem (hlt s hs) hi)
  exact (nb_inj m1).mpr (lang_step hr i) |>.trans rfl
theorem can_rn (TB : Tab t n) (h : Order t s0 o) (h0 : s0 < t.length) : ∀ (w : List Nat) (s : Nat), s ∈ o → (∀ i ∈ w, i < n) → rn (canT t a o) (cn t a o s) w = cn t a o (rn t s w) ∧ rn t s w ∈ o
  | [], _, hs, _ => ⟨rfl, hs⟩
  | i :: w, s, hs, hw => by
    obtain ⟨_, hlt, _⟩ := h.ok TB h0
    have hi := hw i (by simp)
    have m := h.closed hs (TB.dl_mem (hlt s hs) hi)
    have ih := can_rn TB h h0 w (dl t s i) m fun j hj => hw j (List.mem_cons_of_mem _ hj)
    show rn (canT t a o) (dl (canT t a o) (cn t a o s) i) w = _ ∧ _
    rw [can_dl TB h h0 hs hi]
    exact ih
theorem can_acc {s : Nat} (hs : s ∈ o) : cn t a o s ∈ canA t a o ↔ s ∈ a := by
  obtain ⟨hc, hr⟩ := cn_rep (t := t) (a := a) hs
  have := lang_acc hr
  have e : (reps t a o).getD (cn t a o s) 0 = (reps t a o)[cn t a o s] := by rw [List.getD_eq_getElem?_getD, List.getElem?_eq_getElem hc]; rfl
  unfold canA
  rw [List.mem_filter, List.mem_range, e, this, decide_eq_true_eq]
  exact ⟨fun h => h.2, fun h => ⟨hc, h⟩⟩
theorem cn_start (TB : Tab t n) (h : Order t s0 o) (h0 : s0 < t.length) : s0 ∈ o ∧ cn t a o s0 = 0 := by
  obtain ⟨_, _, hz⟩ := h.ok TB h0
  have hm := List.mem_of_getElem? hz
  refine ⟨hm, ?_⟩
  obtain ⟨o', rfl⟩ : ∃ o', o = s0 :: o' := by
    cases o with
    | nil => cases hz
    | cons x o' => cases hz; exact ⟨o', rfl⟩
  have hp : fsts (lang t a) ((s0 :: o').take 1) <+: fsts (lang t a) (s0 :: o') := fsts_pre _ _ 1
  have e1 : fsts (lang t a) ((s0 :: o').take 1) = [s0] := rfl
  rw [e1] at hp
  obtain ⟨r, hr⟩ := hp
  show nb (lang t a) (s0 :: o') s0 = 0
  unfold nb
  rw [← hr]
  show List.idxOf (lang t a s0) (lang t a s0 :: _) = 0
  exact List.idxOf_cons_self
/-- the least machine answers as the first state did -/
theorem can_lang (TB : Tab t n) (h : Order t s0 o) (h0 : s0 < t.length) {w : List Nat} (hw : ∀ i ∈ w, i < n) : lang (canT t a o) (canA t a o) 0 w = lang t a s0 w := by
  obtain ⟨hm, hz⟩ := cn_start (a := a) TB h h0
  obtain ⟨e1, e2⟩ := can_rn (a := a) TB h h0 w s0 hm hw
  rw [hz] at e1
  unfold lang
  rw [e1]
  by_cases q : rn t s0 w ∈ a
  · rw [decide_eq_true q, decide_eq_true ((can_acc e2).mpr q)]
  · rw [decide_eq_false q, decide_eq_false fun z => q ((can_acc e2).mp z)]
end
end Y

namespace Y
open PySem PySem.Spec PyProof.Rows L2 Z
open C8 (tCut pss_cut Cal pe_c Met pe_mt pe_mt0 Mak pe_mk)
/-! ### a list or a tuple: what walks, reads and holds both -/
def SqE (K : PySem.W.Frag) (b : Bool) (H : Hp) (a : Addr) (xs : List V) : Prop := if b = true then SqL K H a xs else SqT K H a xs
def mkS (b : Bool) (xs : List V) : HO := if b = true then .lst xs else .tup xs
def ItE (K : PySem.W.Frag) (b : Bool) (a : Addr) : It := if b = true then Itl K a else Itt K a
section
variable {K : PySem.W.Frag} {b : Bool} {H : Hp} {a : Addr} {xs : List V}
theorem SqE.of (e : H a = some (mkS b xs)) : SqE K b H a xs := by
  cases b
  · exact SqT.of e
  · exact SqL.of e
theorem SqE.or (h : SqE K b H a xs) : SqL K H a xs ∨ SqT K H a xs := by
  cases b
  · exact .inr h
  · exact .inl h
theorem walk_E : Walk (ItE K b a) xs.length (fun H => SqE K b H a xs) (YAt xs) := by
  cases b
  · exact walk_tup
  · exact walk_list
end
def iSeq (K : PySem.W.Frag) (te : TE) : TI := fun σ H R => te σ H fun x H1 => ∃ b a, x = .ref a ∧ (∃ xs, SqE K b H1 a xs) ∧ R (ItE K b a) H1
def rIxE (K : PySem.W.Frag) : R2 := fun x y H Q => ∃ b p xs i v, x = .ref p ∧ y = .int i ∧ SqE K b H p xs ∧ atI xs i = some v ∧ Q v H
section
variable {X : Cx}
theorem pi_seq {tg l : Expr} {tl : TE} (hl : PE X l tl) : PI X tg l (iSeq X.K tl) := by
  refine ⟨fun pins s σ H R I h => ?_⟩
  refine thn (hl.run pins s σ H _ I h) fun v s1 ⟨x, H1, I1, r1, q1⟩ => ?_
  obtain ⟨b, a, e, ⟨xs, hq⟩, q⟩ := q1
  subst e
  cases r1
  cases b with
  | true =>
    obtain ⟨its, rv, p, hz⟩ := I1.list hq
    refine wpAny_pyIter_list p.isList ?_
    refine ⟨s1.heap.objs.size, [s1.heap.objs.size], _, _, H1, rfl, I1.kept (t' := s1.toks) fun b o e => Heap.get?_push_of_some _ e, turn_list a _, ⟨_, Heap.get?_push_size _ rfl, rfl, rfl⟩, fun b hb => ?_, q⟩
    have e : b = s1.heap.objs.size := by simpa using hb
    subst e
    exact I1.fpOk (Nat.le_refl _) (I1.hok.fresh (Nat.le_refl _))
  | false =>
    obtain ⟨its, rv, p, hz⟩ := I1.tuple hq
    refine wpAny_pyIter_tuple (show s1.heap.IsTuple a its.toArray from p) ?_
    refine ⟨s1.heap.objs.size, [s1.heap.objs.size], _, _, H1, rfl, I1.kept (t' := s1.toks) fun b o e => Heap.get?_push_of_some _ e, turn_tuple a _, ⟨_, Heap.get?_push_size _ rfl, rfl, rfl⟩, fun b hb => ?_, q⟩
    have e : b = s1.heap.objs.size := by simpa using hb
    subst e
    exact I1.fpOk (Nat.le_refl _) (I1.hok.fresh (Nat.le_refl _))
theorem ix_E : IxR X (rIxE X.K) := by
  intro value slice pins s σ H x y v u Q I rx ry h hs
  obtain ⟨b, p, xs, i, z, ex, ey, hq, he, q⟩ := h
  cases b with
  | true => exact ix_list value slice pins s σ H x y v u Q I rx ry ⟨p, xs, i, z, ex, ey, hq, he, q⟩ hs
  | false => exact ix_tup value slice pins s σ H x y v u Q I rx ry ⟨p, xs, i, z, ex, ey, hq, he, q⟩ hs
end
def KEs (K : PySem.W.Frag) (x : V) (H1 : Hp) (P : Bool → Addr → Prop) : Prop := ∃ b a, x = .ref a ∧ (∃ xs, SqE K b H1 a xs) ∧ P b a
section
variable {K : PySem.W.Frag} {H : Hp} {σ : L2.St} {te : TE} {Q : VK}
theorem i_iseq {R : It → Hp → Prop} (q : te σ H fun x H1 => KEs K x H1 fun b a => R (ItE K b a) H1) : iSeq K te σ H R := q
theorem i_KE {P : Bool → Addr → Prop} (b : Bool) {a : Addr} {xs : List V} (h : SqE K b H a xs) (q : P b a) : KEs K (.ref a) H P := ⟨b, a, rfl, ⟨xs, h⟩, q⟩
theorem i_ixE (b : Bool) {p : Addr} {xs : List V} {i : Int} {v : V} (h : SqE K b H p xs) (ha : atI xs i = some v) (q : Q v H) : rIxE K (.ref p) (.int i) H Q := ⟨b, p, xs, i, v, rfl, rfl, h, ha, q⟩
end
/-- numbers in a list or a tuple -/
def SeqOf (N : Addr → Prop) (H : Hp) (v : V) (l : List Nat) : Prop := ∃ b a, v = .ref a ∧ ¬ N a ∧ H a = some (mkS b (ivs l))
/-- rows of numbers, each and all in lists or tuples -/
def TabOf (N : Addr → Prop) (H : Hp) (v : V) (t : List (List Nat)) : Prop := ∃ b a vs, v = .ref a ∧ ¬ N a ∧ H a = some (mkS b vs) ∧ Paired (SeqOf N H) vs t
section
variable {N : Addr → Prop} {H H' : Hp} {v : V} {l : List Nat} {t : List (List Nat)}
theorem SeqOf.mono (k : Kp N H H') (h : SeqOf N H v l) : SeqOf N H' v l := by
  obtain ⟨b, a, rfl, n, e⟩ := h
  exact ⟨b, a, rfl, n, k _ _ e n⟩
theorem paired_imp {α β : Type} {R R' : α → β → Prop} (h : ∀ x y, R x y → R' x y) : ∀ {xs : List α} {ys : List β}, Paired R xs ys → Paired R' xs ys
  | _, _, .nil => .nil
  | _, _, .cons e r => .cons (h _ _ e) (paired_imp h r)
theorem paired_get {α β : Type} {R : α → β → Prop} : ∀ {xs : List α} {ys : List β}, Paired R xs ys → ∀ {i : Nat} (hi : i < ys.length), ∃ x, xs[i]? = some x ∧ R x ys[i]
  | _, _, .nil, i, hi => by cases hi
  | _, _, .cons e r, 0, _ => ⟨_, rfl, e⟩
  | _, _, .cons e r, i + 1, hi => by
    obtain ⟨p, h1, h2⟩ := paired_get r (i := i) (by simpa using hi)
    exact ⟨p, by simpa using h1, h2⟩
theorem TabOf.mono (k : Kp N H H') (h : TabOf N H v t) : TabOf N H' v t := by
  obtain ⟨b, a, vs, rfl, n, e, p⟩ := h
  exact ⟨b, a, vs, rfl, n, k _ _ e n, paired_imp (fun _ _ r => r.mono k) p⟩
theorem SeqOf.same (s : Same H H') (h : SeqOf N H v l) : SeqOf N H' v l := h.mono (Kp.of_same s)
theorem TabOf.same (s : Same H H') (h : TabOf N H v t) : TabOf N H' v t := h.mono (Kp.of_same s)
theorem SeqOf.free (h : SeqOf N H v l) : SeqOf N0 H v l := by
  obtain ⟨b, a, e, _, q⟩ := h
  exact ⟨b, a, e, id, q⟩
theorem SeqOf.rp (r : Rp N H v (rowD l)) : SeqOf N H v l := by
  obtain ⟨p, rfl, e, n⟩ := rowD_rp r
  exact ⟨false, p, rfl, n, e⟩
theorem tabs_rp : ∀ {vs : List V} {t : List (List Nat)}, RpAll N H vs (t.map rowD) → Paired (SeqOf N H) vs t
  | _, [], r => by rw [RpAll.nilS r]; exact .nil
  | _, x :: t, r => by
    obtain ⟨v, ws, rfl, a, b⟩ := RpAll.consS (d := rowD x) (ds := t.map rowD) r
    exact .cons (SeqOf.rp a) (tabs_rp b)
theorem TabOf.rp (r : Rp N H v (tabD t)) : TabOf N H v t := by
  obtain ⟨p, xs, rfl, e, n, ra⟩ := Rp.tupS r
  exact ⟨false, p, xs, rfl, n, e, tabs_rp ra⟩
theorem i_ixTab {K : PySem.W.Frag} {H0 : Hp} {Q : VK} {i : Nat} (r : TabOf N H0 v t) (s : Same H0 H) (hi : i < t.length) (q : ∀ x, SeqOf N H0 x t[i] → Q x H) : rIxE K v (.int (i : Int)) H Q := by
  obtain ⟨b, a, vs, rfl, _, e, p⟩ := r
  obtain ⟨x, hx, rx⟩ := paired_get p hi
  exact i_ixE b (SqE.of (s _ _ e)) (atI_nat hx) (q x rx)
end
theorem cal_imp {P : Program} {w : World} {K : PySem.W.Frag} {mg : Str → Option Value} {base : Heap} {k : Nat} {x : Str} {sp sp' : Sp} {dvs : List V} (c : Cal P w K mg base k x sp dvs) (h : ∀ vs H Q E, sp' vs H Q E → sp vs H Q E) : Cal P w K mg base k x sp' dvs := by
  obtain ⟨f, fd, ps, ds, F, r⟩ := c.ex
  exact ⟨f, fd, ps, ds, F.imp h, r⟩
end Y

namespace Y
open PySem PySem.Spec PyProof.Rows L2 Z
open C8 (tCut pss_cut Cal pe_c Met pe_mt pe_mt0 Mak pe_mk)
abbrev s_least_parts : Stmt := topS 21
abbrev n_least_parts : List Str := ["table", "accepts", "start", "most", "order", "accepted", "state", "classes", "rows", "yes", "to"]
theorem sc_least_parts : FnScope n_least_parts ["table", "accepts", "start", "most"] (defScope s_least_parts) := ⟨rfl, rfl, rfl, by decide +kernel, rfl, by decide +kernel, by decide +kernel⟩

abbrev s_machine_of_parts : Stmt := topS 27
abbrev n_machine_of_parts : List Str := ["letters", "table", "accepts", "machine"]
theorem sc_machine_of_parts : FnScope n_machine_of_parts ["letters", "table", "accepts"] (defScope s_machine_of_parts) := ⟨rfl, rfl, rfl, by decide +kernel, rfl, by decide +kernel, by decide +kernel⟩

abbrev s_least : Stmt := topS 29
abbrev n_least : List Str := ["machine", "table", "accepts"]
theorem sc_least : FnScope n_least ["machine"] (defScope s_least) := ⟨rfl, rfl, rfl, by decide +kernel, rfl, by decide +kernel, by decide +kernel⟩

def spLeastParts : Sp := fun vs H Q _ => ∃ (vt va : V) (t : List (List Nat)) (n s0 : Nat) (a : List Nat), vs = [vt, va, .int (s0 : Int), .non] ∧ Rp N0 H vt (tabD t) ∧ SeqOf N0 H va a ∧ Tab t n ∧ t.length ≤ 1000 ∧ n ≤ 1000 ∧ s0 < t.length ∧ a.Nodup ∧ a.length ≤ 1000 ∧
  ∀ (p : Addr) (o : List Nat) (vt' va' : V) H', Order t s0 o → Same H H' → H' p = some (.tup [vt', va']) → Rp N0 H' vt' (tabD (canT t a o)) → Rp N0 H' va' (rowD (canA t a o)) → Q (.ref p) H'
/-- rows at their addresses -/
def RowsAt (H : Hp) (ps : List Addr) (rs : List (List Nat)) : Prop := Paired (fun p r => H p = some (.tup (ivs r))) ps rs
theorem RowsAt.imp {H H' : Hp} {ps : List Addr} {rs : List (List Nat)} (h : RowsAt H ps rs) (g : ∀ p xs, H p = some (.tup xs) → H' p = some (.tup xs)) : RowsAt H' ps rs := by
  unfold RowsAt at h ⊢
  induction h with
  | nil => exact .nil
  | cons e _ ih => exact .cons (g _ _ e) ih
theorem RowsAt.same {H H' : Hp} {ps : List Addr} {rs : List (List Nat)} (h : RowsAt H ps rs) (s : Same H H') : RowsAt H' ps rs := h.imp fun _ _ e => s _ _ e
theorem RowsAt.other {H : Hp} {ps : List Addr} {rs : List (List Nat)} {x : Addr} {o u : HO} (h : RowsAt H ps rs) (hx : H x = some u) (nt : ∀ xs, u ≠ .tup xs) : RowsAt (upd H x o) ps rs :=
  h.imp fun p xs e => by rw [upd_ne (fun z => by subst z; rw [hx] at e; cases e; exact nt _ rfl)]; exact e
theorem ivs_rp {N : Addr → Prop} {H : Hp} : ∀ l : List Nat, RpAll N H (ivs l) (ids l)
  | [] => .nil
  | x :: l => .cons (.int _) (ivs_rp l)
theorem RowsAt.rp {H : Hp} {ps : List Addr} {rs : List (List Nat)} (h : RowsAt H ps rs) : RpAll N0 H (ps.map V.ref) (rs.map rowD) := by
  unfold RowsAt at h
  induction h with
  | nil => exact .nil
  | cons e _ ih => exact .cons (.tup e id (ivs_rp _)) ih
theorem RowsAt.len {H : Hp} {ps : List Addr} {rs : List (List Nat)} (h : RowsAt H ps rs) : ps.length = rs.length := by
  unfold RowsAt at h
  induction h with
  | nil => rfl
  | cons _ _ ih => rw [List.length_cons, List.length_cons, ih]
def yesOf (a R : List Nat) : List Nat := (List.range R.length).filter fun i => decide (R.getD i 0 ∈ a)
theorem yes_snoc (a R : List Nat) (z : Nat) : yesOf a (R ++ [z]) = if z ∈ a then yesOf a R ++ [R.length] else yesOf a R := by
  unfold yesOf
  rw [List.length_append, List.length_cons, List.length_nil, List.range_succ, List.filter_append]
  have e : (List.range R.length).filter (fun i => decide ((R ++ [z]).getD i 0 ∈ a)) = (List.range R.length).filter fun i => decide (R.getD i 0 ∈ a) := by
    refine List.filter_congr fun i hi => ?_
    have hi := List.mem_range.mp hi
    rw [List.getD_eq_getElem?_getD, List.getD_eq_getElem?_getD, List.getElem?_append_left hi]
  rw [e, List.filter_cons, List.filter_nil]
  have e2 : (R ++ [z]).getD R.length 0 = z := by
    rw [List.getD_eq_getElem?_getD, List.getElem?_append_right (Nat.le_refl _), Nat.sub_self]; rfl
  rw [e2]
  by_cases h : z ∈ a
  · rw [if_pos h, decide_eq_true h]; rfl
  · rw [if_neg h, decide_eq_false h, if_neg (by decide)]; exact List.append_nil _
section
variable {P : Program} {w : World} {K : PySem.W.Frag} {mg : Str → Option Value} {base : Heap}
theorem b_least_parts (B : Bi mg) (c_reached : Cal P w K mg base 1 "reached" spReached []) (c__classes : Cal P w K mg base 2 "_classes" spClasses []) {f : Addr} {cdv : Value} {A : Around} {outer : List Env} {s : Shared} {H : Hp} {vs : List V} {Q : VK} {E : XK} (hr : Room 2 (A.deeper (envOfC "least_parts" (defScope s_least_parts) s.heap.objs.size f cdv))) (h : spLeastParts vs H Q E) :
    ∃ t, PSs (cxOf CX0 P w K mg base n_least_parts "least_parts" (defScope s_least_parts) f cdv A outer s H E).nox (defBody s_least_parts) t ∧ t { nx := fun _ H' => Q .non H', rt := Q } (start n_least_parts vs) H := by
  obtain ⟨vt, va, t, n, s0, a, rfl, rt, ra, TB, ht, hn, hs0, hand, hal, k⟩ := h
  refine ⟨_, (pss_cons (ps_set (i := 4) sc_least_parts.nd rfl (by first | exact Or.inl rfl | exact Or.inr rfl) (pe_c c_reached hr (by first | decide | omega) rfl (pa_cons (pv 0) (pa_cons (pv 2) pa_nil))))
  (pss_cons (ps_setDc (i := 5) (own := [("state", 6)]) (g := gName 6) (tt := tYes) rfl sc_least_parts.nd rfl rfl (sw_dict rfl rfl rfl (by decide +kernel)) (pi_seq (pv 1)) (blkOk_by (N := n_least_parts) (sc := defScope s_least_parts) (by decide +kernel)) (fun _ _ _ _ _ => (pg_name (i := 6) sc_least_parts.nd rfl (by first | exact Or.inl rfl | exact Or.inr rfl))) (fun _ _ _ _ _ => pts_nil) (fun _ _ _ _ _ => (pv 6)) (fun _ _ _ _ _ => pe_bl))
  (pss_cons (ps_set (i := 7) sc_least_parts.nd rfl (by first | exact Or.inl rfl | exact Or.inr rfl) (pe_c c__classes hr (by first | decide | omega) rfl (pa_cons (pv 0) (pa_cons (pv 5) (pa_cons (pv 4) (pa_cons (pv 3) pa_nil))))))
  (pss_cons (ps_set (i := 8) sc_least_parts.nd rfl (by first | exact Or.inl rfl | exact Or.inr rfl) (pe_lst pa_nil))
  (pss_cons (ps_set (i := 9) sc_least_parts.nd rfl (by first | exact Or.inl rfl | exact Or.inr rfl) (pe_lst pa_nil))
  (pss_cons (ps_for PassesOwn.never rfl (pi_list (pv 4)) (pg_name (i := 6) sc_least_parts.nd rfl (by first | exact Or.inl rfl | exact Or.inr rfl)) (pss_one (ps_if (pt_cmpR op_eq (pe_dget (hu_of hr) (pv 7) (pv 6) (fun _ _ => rfl)) (pe_callB (r := zLen K) zc_len (by rfl) B.len (by decide +kernel) (pa_cons (pv 8) pa_nil)) (nomark _)) (pss_cut (ps_if (pt_cmp (pc_din (hu_of hr) (pv 6) (pv 5)) rfl) (pss_one (ps_expr (pe_bmZ (K := K) rfl PySem.F.plainAttrs_list PySem.F.slot_list_append PySem.F.type_list_append zm_append (pv 9) (pa_cons (pe_callB (r := zLen K) zc_len (by rfl) B.len (by decide +kernel) (pa_cons (pv 8) pa_nil)) pa_nil)))) pss_nil)
  (pss_one (ps_expr (pe_bmZ (K := K) rfl PySem.F.plainAttrs_list PySem.F.slot_list_append PySem.F.type_list_append zm_append (pv 8) (pa_cons (pe_callTy (r := zTuple K) zc_tuple (by rfl) B.tuple (by decide +kernel) (pa_cons (pe_lc (own := [("to", 10)]) (g := gName 10) (tt := tYes) (by rfl) sc_least_parts.nd (pi_tup (pe_ix (r := rIxT K) ix_tup (pv 0) (pv 6) (fun _ _ => rfl))) (blkOk_by (N := n_least_parts) (sc := defScope s_least_parts) (by decide +kernel)) (fun _ _ _ _ _ => (pg_name (i := 10) sc_least_parts.nd rfl (by first | exact Or.inl rfl | exact Or.inr rfl))) (fun _ _ _ _ _ => pts_nil) (fun _ _ _ _ _ => (pe_dget (hu_of hr) (pv 7) (pv 10) (fun _ _ => rfl)))) pa_nil)) pa_nil))))) pss_nil)))
  (pss_one (ps_ret (pe_tup (pa_cons (pe_callTy (r := zTuple K) zc_tuple (by rfl) B.tuple (by decide +kernel) (pa_cons (pv 8) pa_nil)) (pa_cons (pe_callTy (r := zTuple K) zc_tuple (by rfl) B.tuple (by decide +kernel) (pa_cons (pv 9) pa_nil)) pa_nil))))))))))), ?_⟩
  refine zstart [some (vt), some (va), some (.int (s0 : Int)), some (.non), none, none, none, none, none, none, none] rfl ?_; try dsimp only [zK, zK2]
  walk_at "zz"
  refine ⟨vt, t, n, s0, rfl, rt, TB, ht, hn, hs0, fun op o H1 hO hop s1 eo => ?_⟩
  obtain ⟨hnd, hlt, h0⟩ := hO.ok TB hs0
  have hol : o.length ≤ t.length := by
    have := nodup_le hnd (fun c hc => List.mem_range.mpr (hlt c hc))
    rwa [List.length_range] at this
  have cl : ∀ s ∈ o, ∀ x ∈ t.getD s [], x ∈ o := fun s hs x hx => hO.closed hs hx
  have hil : (ivs o).length = o.length := by unfold ivs; rw [List.length_map]
  have hial : (ivs a).length = a.length := by unfold ivs; rw [List.length_map]
  obtain ⟨ba, pa, rfl, _, epa⟩ := ra
  walk_at "zz"
  refine i_dc ?_
  refine i_iseq ?_
  walk_at "zz"
  refine i_KE ba (SqE.of (s1 _ _ epa)) ?_
  refine fun ad hD => ?_
  refine l_dcN (walk_E (b := ba) (xs := ivs a)) hD [some vt, some (.ref pa), some (V.int ↑s0), some V.non, some (V.ref op), none, none, none, none, none, none] rfl (fun _ => rfl) (fun _ => rfl) hial (fun i H1 x H2 _ _ y => ⟨y.1, y.2⟩) (fun H2 s2 => SqE.of (s2 _ _ (s1 _ _ epa))) hand hal (fun s => .bl true) (fun z H1 P1 hz s1 hP => ?_) fun H2 s2 eD => ?_
  · refine i_c ?_
    exact hP H1 (Same.refl _)
  have s12 := s1.trans s2
  walk_at "zz"
  refine ⟨vt, ad, op, t, n, s0, a, o, rfl, rt.same s12, TB, ht, hn, hs0, hO, eD, s2 _ _ eo, hal, fun cd H3 hcd s3 ecd => ?_⟩
  have s13 := s12.trans s3
  have eo3 := s3 _ _ (s2 _ _ eo)
  have ead3 := s3 _ _ eD
  walk_at "zz"
  refine ⟨by show 0 ≤ sizeLine; decide, fun rp hrp => ?_⟩
  have hrpH : H rp = none := by
    cases e : H rp with
    | none => rfl
    | some u => rw [s13 _ _ e] at hrp; cases hrp
  have s14 : Same H (upd H3 rp (.lst [])) := s13.mutz hrpH
  have e14 : upd H3 rp (.lst []) rp = some (.lst []) := upd_same
  have s34 : Same H3 (upd H3 rp (.lst [])) := (Same.refl H3).mutz hrp
  have nor : op ≠ rp := ne_of_none eo3 hrp
  have nar : ad ≠ rp := ne_of_none ead3 hrp
  have ncr : cd ≠ rp := ne_of_none ecd hrp
  generalize upd H3 rp (.lst []) = H4 at s14 e14 s34
  walk_at "zz"
  refine ⟨by show 0 ≤ sizeLine; decide, fun yp hyp => ?_⟩
  have hypH : H yp = none := by
    cases e : H yp with
    | none => rfl
    | some u => rw [s14 _ _ e] at hyp; cases hyp
  have s15 : Same H (upd H4 yp (.lst [])) := s14.mutz hypH
  have e15 : upd H4 yp (.lst []) yp = some (.lst []) := upd_same
  have nry : rp ≠ yp := ne_of_none e14 hyp
  have noy : op ≠ yp := ne_of_none (s34 _ _ eo3) hyp
  have nay : ad ≠ yp := ne_of_none (s34 _ _ ead3) hyp
  have ncy : cd ≠ yp := ne_of_none (s34 _ _ ecd) hyp
  have e16 : upd H4 yp (.lst []) rp = some (.lst []) := by rw [upd_ne nry]; exact e14
  have s45 : Same H3 (upd H4 yp (.lst [])) := s34.trans ((Same.refl H4).mutz hyp)
  generalize upd H4 yp (.lst []) = H5 at s15 e15 e16 s45
  have eo5 := s45 _ _ eo3
  have ead5 := s45 _ _ ead3
  have ecd5 := s45 _ _ ecd
  walk_at "zz"
  refine i_KL (SqL.of eo5) ?_
  obtain ⟨Ri, hRi⟩ : ∃ Ri : Nat → List Nat, Ri = fun i => fsts (lang t a) (o.take i) := ⟨_, rfl⟩
  refine l_for (walk_list (xs := ivs o)) (fun i σ H' => Same H H' ∧ H' op = some (.lst (ivs o)) ∧ H' ad = some (.dK (kN a fun _ => .bl true)) ∧ H' cd = some (.dK (kN o fun s => .int (cn t a o s : Int))) ∧
    (∃ ps, H' rp = some (.lst (ps.map V.ref)) ∧ RowsAt H' ps ((Ri i).map fun r => (t.getD r []).map (cn t a o))) ∧ H' yp = some (.lst (ivs (yesOf a (Ri i)))) ∧
    ∃ v6, σ = [some vt, some (.ref pa), some (.int (s0 : Int)), some .non, some (.ref op), some (.ref ad), v6, some (.ref cd), some (.ref rp), some (.ref yp), none]) ⟨s15, eo5, ead5, ecd5, ⟨[], e16, by rw [hRi]; exact .nil⟩, by rw [hRi]; exact e15, _, rfl⟩ (fun i σ H1 _ p => SqL.of p.2.1) ?_ ?_
  · rintro i x σ H6 H7 hi ⟨s6, eo6, ead6, ecd6, ⟨ps, erp6, hps⟩, eyp6, v6, rfl⟩ ⟨rfl, hx⟩
    have hi' : i < o.length := by omega
    unfold ivs at hx
    rw [List.getElem?_map, List.getElem?_eq_getElem hi'] at hx
    have hx' := (Option.some.inj hx).symm
    subst hx'
    have hs1 : o[i]? = some o[i] := List.getElem?_eq_getElem hi'
    have hmem := List.getElem_mem hi'
    have hnew := nb_new (key := lang t a) (o := o) hs1
    have hold := nb_old (key := lang t a) (o := o) hs1
    have hRl : (Ri i).length ≤ o.length := by
      rw [hRi]
      refine nodup_le (l := fsts (lang t a) (o.take i)) (m := o) ?_ (fun c hc => List.mem_of_mem_take (fsts_sub _ _ c hc))
      exact (List.pairwise_map.mp (fsts_nd (lang t a) (o.take i))).imp fun hab e => hab (congrArg _ e)
    have e1 : fsts (lang t a) (o.take i) = Ri i := by rw [hRi]
    have e2 : fsts (lang t a) (o.take (i + 1)) = Ri (i + 1) := by rw [hRi]
    rw [e1, e2] at hnew hold
    generalize o[i] = z at hmem hnew hold
    have hzt := hlt z hmem
    obtain ⟨hr1, hr2, hr3⟩ := TB.get hzt
    walk_at "zz"
    refine i_dget ?_
    walk_at "zz"
    refine ⟨cd, _, rfl, kN_dget ecd6 hmem, ?_⟩
    have hpl : ps.length = (Ri i).length := by rw [hps.len, List.length_map]
    walk_at "zz"
    rw [List.length_map, hpl]
    by_cases hm : lang t a z ∈ (Ri i).map (lang t a)
    · obtain ⟨h1, h2⟩ := hold hm
      have hne : ¬ ((cn t a o z : Nat) : Int) = ((Ri i).length : Int) := fun e => by
        have : nb (lang t a) o z = (Ri i).length := by have e : ((nb (lang t a) o z : Nat) : Int) = ((Ri i).length : Int) := e; omega
        omega
      rw [decide_eq_false hne]
      walk_at "zz"
      rw [h2]
      exact ⟨s6, eo6, ead6, ecd6, ⟨ps, erp6, hps⟩, eyp6, _, rfl⟩
    · obtain ⟨h1, h2⟩ := hnew hm
      have hne : ((cn t a o z : Nat) : Int) = ((Ri i).length : Int) := by
        show ((nb (lang t a) o z : Nat) : Int) = _
        rw [h1]
      rw [decide_eq_true hne]
      walk_at "zz"
      refine i_cut (fun σ H' => Same H H' ∧ H' op = some (.lst (ivs o)) ∧ H' cd = some (.dK (kN o fun s => .int (cn t a o s : Int))) ∧ H' ad = some (.dK (kN a fun _ => .bl true)) ∧ H' rp = some (.lst (ps.map V.ref)) ∧ RowsAt H' ps ((Ri i).map fun r => (t.getD r []).map (cn t a o)) ∧ H' yp = some (.lst (ivs (yesOf a (Ri (i + 1))))) ∧
        σ = [some vt, some (.ref pa), some (.int (s0 : Int)), some .non, some (.ref op), some (.ref ad), some (.int (z : Int)), some (.ref cd), some (.ref rp), some (.ref yp), none]) ?_ ?_
      · have hys := yes_snoc a (Ri i) z
        rw [← h2] at hys
        walk_at "zz"
        refine i_din ?_
        walk_at "zz"
        by_cases hza : z ∈ a
        · rw [if_pos hza] at hys
          refine ⟨ad, _, rfl, kN_dget ead6 hza, ?_⟩
          refine ⟨true, rfl, ?_⟩
          walk_at "zz"
          refine i_tyL (SqL.of eyp6) ?_
          walk_at "zz"
          rw [List.length_map, hpl]
          have hyl : (yesOf a (Ri i)).length ≤ (Ri i).length := by
            unfold yesOf
            have := List.length_filter_le (fun i_1 => decide ((Ri i).getD i_1 0 ∈ a)) (List.range (Ri i).length)
            rwa [List.length_range] at this
          refine i_append eyp6 (by unfold ivs; rw [List.length_map]; omega) ?_
          walk_at "zz"
          refine ⟨s6.mutz hypH, by rw [upd_ne noy]; exact eo6, by rw [upd_ne ncy]; exact ecd6, by rw [upd_ne nay]; exact ead6, by rw [upd_ne nry]; exact erp6, hps.other eyp6 (fun xs e => by cases e), ?_, rfl⟩
          rw [upd_same, hys]
          unfold ivs
          rw [List.map_append]; rfl
        · rw [if_neg hza] at hys
          refine ⟨ad, _, rfl, kN_dno ead6 hza, ?_⟩
          refine ⟨false, rfl, ?_⟩
          walk_at "zz"
          exact ⟨s6, eo6, ecd6, ead6, erp6, hps, by rw [hys]; exact eyp6, rfl⟩
      · rintro σ' H8 ⟨s8, eo8, ecd8, ead8, erp8, hps8, eyp8, rfl⟩
        walk_at "zz"
        refine i_tyL (SqL.of erp8) ?_
        walk_at "zz"
        refine i_ixRp (rt.same s8) (rowget hzt) fun x rx => ?_
        obtain ⟨pr, rfl, epr, _⟩ := rowD_rp rx
        walk_at "zz"
        refine i_KT (SqT.of epr) ?_
        refine fun Dl hDl => ?_
        refine l_map (walk_tup (xs := ivs t[z])) hDl [some vt, some (V.ref pa), some (V.int ↑s0), some V.non, some (V.ref op), some (V.ref ad), some (V.int ↑z), some (V.ref cd), some (V.ref rp), some (V.ref yp), none] rfl (fun _ => rfl) (ivs t[z]) rfl (by unfold ivs; rw [List.length_map]; omega) (fun i H1 x H2 _ _ y => ⟨y.1, y.2⟩) (fun H1 s1 => SqT.of (s1 _ _ epr)) (fun v => match v with | .int i => .int (cn t a o i.toNat : Int) | _ => .non) (fun x H1 P1 hx1 s1 hP => ?_) fun H9 s9 e9 => ?_
        · obtain ⟨y, hy, rfl⟩ := List.mem_map.mp hx1
          refine zte [some vt, some (V.ref pa), some (V.int ↑s0), some V.non, some (V.ref op), some (V.ref ad), some (V.int ↑z), some (V.ref cd), some (V.ref rp), some (V.ref yp), some (.int (y : Int))] rfl ?_
          refine i_dget ?_
          walk_at "zz"
          exact ⟨cd, _, rfl, kN_dget (s1 _ _ ecd8) (cl z hmem y (by rw [hr1]; exact hy)), hP H1 (Same.refl _)⟩
        walk_at "zz"
        refine i_tupleL (SqL.of e9) fun q hq => ?_
        have e10 : upd H9 q (.tup ((ivs t[z]).map fun v => match v with | .int i => .int (cn t a o i.toNat : Int) | _ => .non)) q = some (.tup (ivs ((t.getD z []).map (cn t a o)))) := by
          rw [upd_same, hr1]
          unfold ivs
          rw [List.map_map, List.map_map]; rfl
        have s10 : Same H8 (upd H9 q (.tup ((ivs t[z]).map fun v => match v with | .int i => .int (cn t a o i.toNat : Int) | _ => .non))) := s9.newz hq
        generalize upd H9 q (.tup ((ivs t[z]).map fun v => match v with | .int i => .int (cn t a o i.toNat : Int) | _ => .non)) = H10 at e10 s10
        have erp10 := s10 _ _ erp8
        walk_at "zz"
        refine i_append erp10 (by rw [List.length_map]; omega) ?_
        walk_at "zz"
        refine ⟨(s8.trans s10).mutz hrpH, by rw [upd_ne nor]; exact s10 _ _ eo8, by rw [upd_ne nar]; exact s10 _ _ ead8, by rw [upd_ne ncr]; exact s10 _ _ ecd8, ⟨ps ++ [q], by rw [upd_same, List.map_append]; rfl, ?_⟩, by rw [upd_ne nry.symm]; exact s10 _ _ eyp8, _, rfl⟩
        rw [h2, List.map_append]
        have hp2 : RowsAt H10 (ps ++ [q]) ((Ri i).map (fun r => (t.getD r []).map (cn t a o)) ++ [(t.getD z []).map (cn t a o)]) := Paired.snoc (hps8.same s10) e10
        exact hp2.other erp10 (fun xs e => by cases e)
  · rintro σ H6 ⟨s6, eo6, ead6, ecd6, ⟨ps, erp6, hps⟩, eyp6, v6, rfl⟩
    have hR : Ri (ivs o).length = reps t a o := by
      rw [hRi]
      show fsts (lang t a) (o.take (ivs o).length) = _
      rw [hil, List.take_length]; rfl
    rw [hR] at hps eyp6
    walk_at "zz"
    refine i_tupleL (SqL.of erp6) fun q1 hq1 => ?_
    have eq1 : upd H6 q1 (.tup (ps.map V.ref)) q1 = some (.tup (ps.map V.ref)) := upd_same
    have s7 : Same H6 (upd H6 q1 (.tup (ps.map V.ref))) := (Same.refl H6).newz hq1
    generalize upd H6 q1 (.tup (ps.map V.ref)) = H7 at eq1 s7
    walk_at "zz"
    refine i_tupleL (SqL.of (s7 _ _ eyp6)) fun q2 hq2 => ?_
    have eq2 : upd H7 q2 (.tup (ivs (yesOf a (reps t a o)))) q2 = some (.tup (ivs (yesOf a (reps t a o)))) := upd_same
    have s8 : Same H7 (upd H7 q2 (.tup (ivs (yesOf a (reps t a o))))) := (Same.refl H7).newz hq2
    generalize upd H7 q2 (.tup (ivs (yesOf a (reps t a o)))) = H8 at eq2 s8
    walk_at "zz"
    refine ⟨by show 2 ≤ sizeLine; decide, fun r hr => ?_⟩
    have s9 : Same H8 (upd H8 r (.tup [.ref q1, .ref q2])) := (Same.refl H8).newz hr
    walk_at "zz"
    refine k r o _ _ _ hO (((s6.trans s7).trans s8).trans s9) upd_same (.tup (s9 _ _ (s8 _ _ eq1)) id (by
      unfold canT
      exact (((hps.same s7).same s8).same s9).rp)) (.tup (s9 _ _ eq2) id (ivs_rp _))
end
end Y

namespace Y
open PySem PySem.Spec PyProof.Rows L2 Z
open C8 (tCut pss_cut Cal pe_c Met pe_mt pe_mt0 Mak pe_mk)
section
variable {P : Program} {w : World} {K : PySem.W.Frag} {mg : Str → Option Value} {base : Heap}
theorem c_least_parts (d : DD K mg "least_parts" s_least_parts [.int 0, .non]) (B : Bi mg) (c_reached : Cal P w K mg base 1 "reached" spReached []) (c__classes : Cal P w K mg base 2 "_classes" spClasses []) : Cal P w K mg base 3 "least_parts" spLeastParts [.int 0, .non] := by
  refine d.cal (N := n_least_parts) 2 0 sc_least_parts (by simp) rfl (fun T kV doc pm an cdv ct us its hl hl2 => match us, its, hl, hl2 with | [_, _], [_, _], _, _ => ⟨_, rfl, rfl⟩) (fun vs H Q E h => ?_) (fun f cdv A outer s H vs Q E hr h => b_least_parts B c_reached c__classes hr h)
  obtain ⟨vt, va, t, n, s0, a, rfl, _⟩ := h
  rfl
theorem putA {v x y z : V} : putF ("_letters" : Str) v [(("_letters" : Str), x), (("_table" : Str), y), (("_accepts" : Str), z)] = [(("_letters" : Str), v), (("_table" : Str), y), (("_accepts" : Str), z)] := by
  show (if ("_letters" : Str) = ("_letters" : Str) then _ else _) = _
  rw [if_pos rfl]
theorem putB {v x y z : V} : putF ("_table" : Str) v [(("_letters" : Str), x), (("_table" : Str), y), (("_accepts" : Str), z)] = [(("_letters" : Str), x), (("_table" : Str), v), (("_accepts" : Str), z)] := by
  show (if ("_letters" : Str) = ("_table" : Str) then _ else _) = _
  rw [if_neg (by decide +kernel)]
  show _ :: (if ("_table" : Str) = ("_table" : Str) then _ else _) = _
  rw [if_pos rfl]
theorem putC {v x y z : V} : putF ("_accepts" : Str) v [(("_letters" : Str), x), (("_table" : Str), y), (("_accepts" : Str), z)] = [(("_letters" : Str), x), (("_table" : Str), y), (("_accepts" : Str), v)] := by
  show (if ("_letters" : Str) = ("_accepts" : Str) then _ else _) = _
  rw [if_neg (by decide +kernel)]
  show _ :: (if ("_table" : Str) = ("_accepts" : Str) then _ else _) = _
  rw [if_neg (by decide +kernel)]
  show _ :: _ :: (if ("_accepts" : Str) = ("_accepts" : Str) then _ else _) = _
  rw [if_pos rfl]
theorem i_makeM {C : Addr} {sp : Sp} {dvs : List V} {E : XK} {t : TA} {σ : L2.St} {H : Hp} {Q : VK} (q : t σ H fun vs H1 => ∀ x dx, H1 x = none → H1 dx = none → dx ≠ x →
  sp (.ref x :: (vs ++ dvs)) (upd (upd H1 dx (.own x)) x (.ins C dx [])) (fun v H2 => v = .non ∧ Q (.ref x) H2) E) : tMake C sp dvs E t σ H Q := q
def spMOP (C : Addr) : Sp := fun vs H Q _ => ∃ (v vt va : V), vs = [v, vt, va] ∧ ∀ (m dx : Addr) H', H m = none → Same H H' → H' m = some (.ins C dx [("_letters", v), ("_table", vt), ("_accepts", va)]) → Q (.ref m) H'
theorem c_machine_of_parts {C : Addr} (d : DF K mg "machine_of_parts" s_machine_of_parts) (B : Bi mg) (T_Machine : MTxt K C) (m_Machine : Mak P w K mg base 5 "Machine" C (spInit C) []) : Cal P w K mg base 7 "machine_of_parts" (spMOP C) [] := by
  refine d.cal (N := n_machine_of_parts) sc_machine_of_parts (fun _ _ _ _ _ _ us hl => match us, hl with | [_, _, _], _ => rfl) (fun vs H Q E h => ?_) (fun f cdv A outer s H vs Q E hr h => ?_)
  · obtain ⟨v, vt, va, rfl, _⟩ := h
    rfl
  · obtain ⟨v, vt, va, rfl, k⟩ := h
    refine ⟨_, (pss_cons (ps_set (i := 3) sc_machine_of_parts.nd rfl (by first | exact Or.inl rfl | exact Or.inr rfl) (pe_mk m_Machine hr (by first | decide | omega) rfl (pa_cons pe_str (pa_cons (pe_tup (pa_cons (pe_tup (pa_cons pe_int pa_nil)) pa_nil)) (pa_cons (pe_tup pa_nil) pa_nil)))))
  (pss_cons (ps_fld (pv 3) (pv 0) rfl)
  (pss_cons (ps_fld (pv 3) (pv 1) rfl)
  (pss_cons (ps_fld (pv 3) (pv 2) rfl)
  (pss_one (ps_ret (pv 3))))))), ?_⟩
    refine zstart [some (v), some (vt), some (va), none] rfl ?_; try dsimp only [zK, zK2]
    walk_at "zz"
    refine i_makeM ?_
    walk_at "zz"
    refine ⟨by show 1 ≤ sizeLine; decide, fun p1 h1 => ?_⟩
    have e1 : upd H p1 (.tup [.int 0]) p1 = some (.tup [.int 0]) := upd_same
    have s1 : Same H (upd H p1 (.tup [.int 0])) := (Same.refl H).newz h1
    generalize upd H p1 (.tup [.int 0]) = H1 at e1 s1
    walk_at "zz"
    refine ⟨by show 1 ≤ sizeLine; decide, fun p2 h2 => ?_⟩
    have e2 : upd H1 p2 (.tup [.ref p1]) p2 = some (.tup [.ref p1]) := upd_same
    have s2 : Same H1 (upd H1 p2 (.tup [.ref p1])) := (Same.refl H1).newz h2
    generalize upd H1 p2 (.tup [.ref p1]) = H2 at e2 s2
    walk_at "zz"
    refine ⟨by show 0 ≤ sizeLine; decide, fun p3 h3 => ?_⟩
    have e3 : upd H2 p3 (.tup []) p3 = some (.tup []) := upd_same
    have s3 : Same H2 (upd H2 p3 (.tup [])) := (Same.refl H2).newz h3
    generalize upd H2 p3 (.tup []) = H3 at e3 s3
    walk_at "zz"
    refine fun m dx hm hd hne => ?_
    have s03 := (s1.trans s2).trans s3
    have s4 : Same H3 (upd (upd H3 dx (.own m)) m (.ins C dx [])) := ((Same.refl H3).mutz hd).mutz hm
    have hmH : H m = none := by
      cases e : H m with
      | none => rfl
      | some u => rw [s03 _ _ e] at hm; cases hm
    have PT : Parts [97] [[0]] [] := ⟨⟨by simp, by simp, by simp, by simp⟩, by simp, by simp, by simp, by simp, by simp⟩
    have rt : Rp N0 (upd (upd H3 dx (.own m)) m (.ins C dx [])) (.ref p2) (tabD [[0]]) := .tup (s4 _ _ (s3 _ _ e2)) id (.cons (.tup (s4 _ _ (s3 _ _ (s2 _ _ e1))) id (.cons (.int _) .nil)) .nil)
    have ra : Rp N0 (upd (upd H3 dx (.own m)) m (.ins C dx [])) (.ref p3) (rowD []) := .tup (s4 _ _ e3) id .nil
    have s04 := s03.trans s4
    refine ⟨m, dx, .ref p2, .ref p3, [97], [[0]], [], rfl, upd_same, PT, rt, ra, ?_⟩
    rintro H5 H6 s5 rfl
    refine ⟨rfl, ?_⟩
    have s05 := s04.trans s5
    walk_at "zz"
    refine i_sfld ?_
    walk_at "zz"
    refine ⟨m, C, dx, _, rfl, upd_same, T_Machine.c, T_Machine.nl, by show 3 < 1000; decide, ?_⟩
    rw [show putF (("_letters" : Str)) v [(("_letters" : Str), V.str (S [97])), (("_table" : Str), V.ref p2), (("_accepts" : Str), V.ref p3)] = [(("_letters" : Str), v), (("_table" : Str), V.ref p2), (("_accepts" : Str), V.ref p3)] from putA, upd_upd]
    walk_at "zz"
    refine i_sfld ?_
    walk_at "zz"
    refine ⟨m, C, dx, _, rfl, upd_same, T_Machine.c, T_Machine.nt, by show 3 < 1000; decide, ?_⟩
    rw [show putF (("_table" : Str)) vt [(("_letters" : Str), v), (("_table" : Str), V.ref p2), (("_accepts" : Str), V.ref p3)] = [(("_letters" : Str), v), (("_table" : Str), vt), (("_accepts" : Str), V.ref p3)] from putB, upd_upd]
    walk_at "zz"
    refine i_sfld ?_
    walk_at "zz"
    refine ⟨m, C, dx, _, rfl, upd_same, T_Machine.c, T_Machine.na, by show 3 < 1000; decide, ?_⟩
    rw [show putF (("_accepts" : Str)) va [(("_letters" : Str), v), (("_table" : Str), vt), (("_accepts" : Str), V.ref p3)] = [(("_letters" : Str), v), (("_table" : Str), vt), (("_accepts" : Str), va)] from putC, upd_upd]
    walk_at "zz"
    exact k m dx _ hmH (s05.mutz hmH) upd_same
/-- a machine, of any size -/
structure Big (L : List Nat) (t : List (List Nat)) (a : List Nat) : Prop where
  tab : Tab t L.length
  hi : t.length ≤ 1000
  wide : L.length ≤ 1000
  nd : a.Nodup
  few : a.length ≤ 1000
theorem Parts.big {L : List Nat} {t : List (List Nat)} {a : List Nat} (p : Parts L t a) : Big L t a := by
  have nd : a.Nodup := p.acc.imp fun h => by omega
  have hl : a.length ≤ t.length := by
    have := nodup_le nd (fun c hc => List.mem_range.mpr (p.acs c hc))
    rwa [List.length_range] at this
  have := p.hi
  have := p.ltr.2.2.2
  exact ⟨⟨p.lo, p.row⟩, by omega, by omega, nd, by omega⟩
def spLeast (K : PySem.W.Frag) (C : Addr) : Sp := fun vs H Q _ => ∃ (m : Addr) (L : List Nat) (t : List (List Nat)) (a : List Nat), vs = [.ref m] ∧ IsM K H C m L t a ∧ Big L t a ∧
  ∀ (m' : Addr) (o : List Nat) H', Order t 0 o → H m' = none → Same H H' → IsM K H' C m' L (canT t a o) (canA t a o) → Q (.ref m') H'
theorem c_least {C : Addr} (d : DF K mg "least" s_least) (B : Bi mg) (c_Machine_letters : Met P w K mg base 1 C "letters" (spLettersOf K C) []) (c_Machine_table : Met P w K mg base 1 C "table" (spTableOf K C) []) (c_Machine_accepts : Met P w K mg base 1 C "accepts" (spAcceptsOf K C) [])
    (c_least_parts : Cal P w K mg base 3 "least_parts" spLeastParts [.int 0, .non]) (c_machine_of_parts : Cal P w K mg base 7 "machine_of_parts" (spMOP C) []) : Cal P w K mg base 8 "least" (spLeast K C) [] := by
  refine d.cal (N := n_least) sc_least (fun _ _ _ _ _ _ us hl => match us, hl with | [_], _ => rfl) (fun vs H Q E h => ?_) (fun f cdv A outer s H vs Q E hr h => ?_)
  · obtain ⟨m, L, t, a, rfl, _⟩ := h
    rfl
  · obtain ⟨m, L, t, a, rfl, hm, BG, k⟩ := h
    refine ⟨_, (pss_cons (ps_asg (pe_c c_least_parts hr (by first | decide | omega) rfl (pa_cons (pe_mt0 c_Machine_table hr (by first | decide | omega) (pv 0)) (pa_cons (pe_mt0 c_Machine_accepts hr (by first | decide | omega) (pv 0)) pa_nil))) (pg_tup rfl (pgs_cons (pg_name (i := 1) sc_least.nd rfl (by first | exact Or.inl rfl | exact Or.inr rfl)) (pgs_cons (pg_name (i := 2) sc_least.nd rfl (by first | exact Or.inl rfl | exact Or.inr rfl)) pgs_nil))))
  (pss_one (ps_ret (pe_c c_machine_of_parts hr (by first | decide | omega) rfl (pa_cons (pe_mt0 c_Machine_letters hr (by first | decide | omega) (pv 0)) (pa_cons (pv 1) (pa_cons (pv 2) pa_nil))))))), ?_⟩
    refine zstart [some (.ref m), none, none] rfl ?_; try dsimp only [zK, zK2]
    obtain ⟨dx, vt, va, em, rt, ra⟩ := hm.ex
    walk_at "zz"
    refine i_meth ?_
    walk_at "zz"
    refine ⟨m, dx, _, rfl, em, rfl, m, L, t, a, rfl, hm, fun vt2 rt2 => ?_⟩
    walk_at "zz"
    refine i_meth ?_
    walk_at "zz"
    refine ⟨m, dx, _, rfl, em, rfl, m, L, t, a, rfl, hm, fun va2 ra2 => ?_⟩
    walk_at "zz"
    refine ⟨vt2, va2, t, L.length, 0, a, rfl, rt2, .rp ra2, BG.tab, BG.hi, BG.wide, BG.tab.pos, BG.nd, BG.few, fun p o vt' va' H1 hO s1 ep rt' ra' => ?_⟩
    walk_at "zz"
    refine i_meth ?_
    walk_at "zz"
    refine ⟨m, dx, _, rfl, s1 _ _ em, rfl, m, L, t, a, rfl, hm.same s1, ?_⟩
    walk_at "zz"
    refine ⟨_, _, _, rfl, fun m' dx' H2 hm' s2 em' => ?_⟩
    have hmH : H m' = none := by
      cases e : H m' with
      | none => rfl
      | some u => rw [s1 _ _ e] at hm'; cases hm'
    exact k m' o H2 hO hmH (s1.trans s2) ⟨dx', vt', va', em', rt'.same s2, ra'.same s2⟩
end
end Y

namespace Y
open PySem PySem.Spec PyProof.Rows L2 Z
open C8 (tCut pss_cut Cal pe_c Met pe_mt pe_mt0 Mak pe_mk)
/-- a list as a map -/
def ap (g : List Nat) (s : Nat) : Nat := g.getD s 0
def it (g : List Nat) : Nat → Nat → Nat
  | 0, s => s
  | n + 1, s => it g n (ap g s)
structure Clo (g : List Nat) : Prop where
  lo : 1 ≤ g.length
  hi : g.length ≤ 6
  lt : ∀ x ∈ g, x < g.length
theorem ap_lt {g : List Nat} (c : Clo g) {s : Nat} (h : s < g.length) : ap g s < g.length := by
  unfold ap
  rw [List.getD_eq_getElem?_getD, List.getElem?_eq_getElem h]
  exact c.lt _ (List.getElem_mem h)
theorem it_lt {g : List Nat} (c : Clo g) : ∀ (n : Nat) {s : Nat}, s < g.length → it g n s < g.length
  | 0, _, h => h
  | n + 1, _, h => it_lt c n (ap_lt c h)
theorem it_add (g : List Nat) : ∀ (n m s : Nat), it g (n + m) s = it g m (it g n s)
  | 0, m, s => by rw [Nat.zero_add]; rfl
  | n + 1, m, s => by
    rw [show n + 1 + m = (n + m) + 1 by omega]
    show it g (n + m) (ap g s) = it g m (it g n (ap g s))
    exact it_add g n m _
theorem it_snoc (g : List Nat) (n s : Nat) : it g (n + 1) s = ap g (it g n s) := it_add g n 1 s
def sq (g : List Nat) : List Nat := g.map (ap g)
theorem sq_clo {g : List Nat} (c : Clo g) : Clo (sq g) := by
  have e : (sq g).length = g.length := by unfold sq; rw [List.length_map]
  refine ⟨by rw [e]; exact c.lo, by rw [e]; exact c.hi, fun x hx => ?_⟩
  rw [e]
  obtain ⟨y, hy, rfl⟩ := List.mem_map.mp hx
  exact ap_lt c (c.lt y hy)
theorem ap_sq {g : List Nat} {s : Nat} (h : s < g.length) : ap (sq g) s = ap g (ap g s) := by
  unfold sq
  show (g.map (ap g)).getD s 0 = ap g (g.getD s 0)
  rw [List.getD_eq_getElem?_getD, List.getElem?_map, List.getD_eq_getElem?_getD, List.getElem?_eq_getElem h]; rfl
theorem it_sq {g : List Nat} (c : Clo g) : ∀ (n : Nat) {s : Nat}, s < g.length → it (sq g) n s = it g (2 * n) s
  | 0, _, _ => rfl
  | n + 1, s, h => by
    rw [show 2 * (n + 1) = 2 * n + 1 + 1 by omega]
    show it (sq g) n (ap (sq g) s) = it g (2 * n) (ap g (ap g s))
    rw [ap_sq h, it_sq c n (ap_lt c (ap_lt c h))]
theorem it_half {g : List Nat} (c : Clo g) {n s : Nat} (h : s < g.length) : it g n s = it (sq g) (n / 2) (if n % 2 = 1 then ap g s else s) := by
  split
  · rw [it_sq c _ (ap_lt c h)]
    have : n = 2 * (n / 2) + 1 := by omega
    rw [show it g n s = it g (2 * (n / 2) + 1) s by rw [← this]]
    rfl
  · rw [it_sq c _ h]
    have : n = 2 * (n / 2) := by omega
    rw [← this]
/-! the states come again -/
theorem nd_len : ∀ (n : Nat) (l : List Nat), l.Nodup → (∀ x ∈ l, x < n) → l.length ≤ n
  | 0, l, _, h => by
    cases l with
    | nil => exact Nat.le_refl _
    | cons x l => exact absurd (h x List.mem_cons_self) (Nat.not_lt_zero _)
  | n + 1, l, hn, h => by
    by_cases hm : n ∈ l
    · have := nd_len n (l.erase n) (hn.erase n) fun x hx => by
        have h1 := h x (List.mem_of_mem_erase hx)
        have h2 : x ≠ n := fun e => by
          subst e
          exact (hn.not_mem_erase) hx
        omega
      rw [List.length_erase_of_mem hm] at this
      omega
    · have := nd_len n l hn fun x hx => by
        have h1 := h x hx
        have h2 : x ≠ n := fun e => hm (e ▸ hx)
        omega
      omega
theorem again {g : List Nat} (c : Clo g) : ∃ i j, i < j ∧ j ≤ g.length ∧ it g i 0 = it g j 0 := by
  by_cases h : ∃ i j, i < j ∧ j ≤ g.length ∧ it g i 0 = it g j 0
  · exact h
  exfalso
  have hn : ((List.range (g.length + 1)).map fun i => it g i 0).Nodup := by
    refine List.pairwise_map.mpr (List.pairwise_lt_range.imp_of_mem fun {a b} ha hb hab e => h ⟨a, b, hab, ?_, e⟩)
    have := List.mem_range.mp hb
    omega
  have := nd_len g.length _ hn fun x hx => by
    obtain ⟨i, _, rfl⟩ := List.mem_map.mp hx
    exact it_lt c i c.lo
  rw [List.length_map, List.length_range] at this
  omega
theorem ring {g : List Nat} {a r : Nat} (h : it g (a + r) 0 = it g a 0) : ∀ (q b : Nat), it g (a + (r * q + b)) 0 = it g (a + b) 0
  | 0, b => by rw [Nat.mul_zero, Nat.zero_add]
  | q + 1, b => by
    rw [show a + (r * (q + 1) + b) = (a + r) + (r * q + b) by rw [Nat.mul_succ]; omega, it_add, h, ← it_add]
    exact ring h q b
/-- what is told of the states until one comes again -/
theorem far_ring {g : List Nat} (c : Clo g) {st : Nat} (hst : it g st 0 = it g g.length 0) (hmin : ∀ i < st, it g i 0 ≠ it g g.length 0) (hle : st ≤ g.length) {n : Nat} (hn : g.length < n) :
    st < g.length ∧ it g n 0 = it g (st + (n - st) % (g.length - st)) 0 := by
  obtain ⟨i, j, hij, hj, e⟩ := again c
  have e2 : it g (i + (g.length - j)) 0 = it g g.length 0 := by
    rw [it_add, e, ← it_add, show j + (g.length - j) = g.length by omega]
  have hlt : st < g.length := by
    rcases Nat.lt_or_ge (i + (g.length - j)) st with h | h
    · exact absurd e2 (hmin _ h)
    · omega
  refine ⟨hlt, ?_⟩
  have hr : it g (st + (g.length - st)) 0 = it g st 0 := by rw [show st + (g.length - st) = g.length by omega, hst]
  have := ring hr ((n - st) / (g.length - st)) ((n - st) % (g.length - st))
  rw [Nat.div_add_mod, show st + (n - st) = n by omega] at this
  exact this
/-- where a word leads from each state -/
def endsL (L : List Nat) (t : List (List Nat)) (u : List Nat) : List Nat := (List.range t.length).map fun s => led L t s u
theorem ends_len {L : List Nat} {t : List (List Nat)} {u : List Nat} : (endsL L t u).length = t.length := by unfold endsL; rw [List.length_map, List.length_range]
theorem ap_ends {L : List Nat} {t : List (List Nat)} {u : List Nat} {s : Nat} (h : s < t.length) : ap (endsL L t u) s = led L t s u := by
  unfold ap endsL
  rw [List.getD_eq_getElem?_getD, List.getElem?_map, List.getElem?_range h]; rfl
theorem ends_clo {L : List Nat} {t : List (List Nat)} {a u : List Nat} (pt : Parts L t a) (hu : ∀ c ∈ u, c ∈ L) : Clo (endsL L t u) := by
  refine ⟨by rw [ends_len]; exact pt.lo, by rw [ends_len]; exact pt.hi, fun x hx => ?_⟩
  rw [ends_len]
  obtain ⟨s, hs, rfl⟩ := List.mem_map.mp hx
  exact led_lt pt.row u s (List.mem_range.mp hs) hu
theorem led_append (L : List Nat) (t : List (List Nat)) (s : Nat) (u v : List Nat) : led L t s (u ++ v) = led L t (led L t s u) v := by
  unfold led; rw [List.foldl_append]
theorem led_rep {L : List Nat} {t : List (List Nat)} {a u : List Nat} (pt : Parts L t a) (hu : ∀ c ∈ u, c ∈ L) : ∀ (n s : Nat), s < t.length → led L t s (List.replicate n u).flatten = it (endsL L t u) n s
  | 0, s, _ => rfl
  | n + 1, s, hs => by
    rw [List.replicate_succ, List.flatten_cons, led_append]
    show _ = it (endsL L t u) n (ap (endsL L t u) s)
    rw [ap_ends hs]
    exact led_rep pt hu n _ (led_lt pt.row u s hs hu)
/-- three times the word so many times -/
theorem it_three {L : List Nat} {t : List (List Nat)} {a u : List Nat} (pt : Parts L t a) (hu : ∀ c ∈ u, c ∈ L) : ∀ (n s : Nat), s < t.length → it (endsL L t (List.replicate 3 u).flatten) n s = it (endsL L t u) (n * 3) s
  | 0, s, _ => rfl
  | n + 1, s, hs => by
    have e := led_rep pt hu 3 s hs
    show it _ n (ap _ s) = _
    rw [ap_ends hs, e, show (n + 1) * 3 = 3 + n * 3 by omega, it_add]
    refine it_three pt hu n _ ?_
    have := it_lt (ends_clo pt hu) 3 (s := s) (by rw [ends_len]; exact hs)
    rw [ends_len] at this
    exact this
end Y

namespace Y
open PySem PySem.Spec PyProof.Rows L2 Z
open C8 (tCut pss_cut Cal pe_c Met pe_mt pe_mt0 Mak pe_mk)
abbrev s_ends_of : Stmt := topS 14
abbrev n_ends_of : List Str := ["letters", "table", "word", "state"]
theorem sc_ends_of : FnScope n_ends_of ["letters", "table", "word"] (defScope s_ends_of) := ⟨rfl, rfl, rfl, by decide +kernel, rfl, by decide +kernel, by decide +kernel⟩

abbrev s_then : Stmt := topS 15
abbrev n_then : List Str := ["one", "other", "state"]
theorem sc_then : FnScope n_then ["one", "other"] (defScope s_then) := ⟨rfl, rfl, rfl, by decide +kernel, rfl, by decide +kernel, by decide +kernel⟩


def spEndsOf : Sp := fun vs H Q _ => ∃ (L : List Nat) (vt : V) (t : List (List Nat)) (a u : List Nat), vs = [.str (S L), vt, .str (S u)] ∧ Rp N0 H vt (tabD t) ∧ Parts L t a ∧ (∀ c ∈ u, c ∈ L) ∧ ∀ (p : Addr) H', Same H H' → H' p = some (.tup (ivs (endsL L t u))) → Q (.ref p) H'
def spThen : Sp := fun vs H Q _ => ∃ (p q : Addr) (g k : List Nat), vs = [.ref p, .ref q] ∧ H p = some (.tup (ivs g)) ∧ H q = some (.tup (ivs k)) ∧ g.length ≤ 6 ∧ (∀ x ∈ g, x < k.length) ∧ ∀ (r : Addr) H', Same H H' → H' r = some (.tup (ivs (g.map (ap k)))) → Q (.ref r) H'
/-- whether it is a number of times -/
def isTimes : PyData → Bool := btw 0 (10 ^ 30)
def natOf : PyData → Nat
  | .int i => i.toNat
  | _ => 0
theorem isTimes_int {d : PyData} (h : isTimes d = true) : ∃ n : Nat, d = .int (n : Int) ∧ n ≤ 10 ^ 30 := by
  cases d with
  | int i =>
    have h : (decide (0 ≤ i) && decide (i ≤ 10 ^ 30)) = true := h
    rw [Bool.and_eq_true, decide_eq_true_eq, decide_eq_true_eq] at h
    exact ⟨i.toNat, by rw [Int.toNat_of_nonneg h.1], by have := h.2; omega⟩
  | _ => cases h
def farSays (L : List Nat) (t : List (List Nat)) (a u : List Nat) (n : Nat) : Bool := decide (it (endsL L t u) n 0 ∈ a)
def spSaysFar (K : PySem.W.Frag) (C C2 C3 : Addr) : Sp := fun vs H Q E => ∃ (m : Addr) (L : List Nat) (t : List (List Nat)) (a : List Nat) (v x : V) (d e : PyData), vs = [.ref m, v, x] ∧ IsM K H C m L t a ∧ Parts L t a ∧ Rp N0 H v d ∧ Sml d ∧ Rp N0 H x e ∧
  (isWord L d = false → ∀ H', Same H H' → E (.ref C2) none H') ∧ (isWord L d = true → isTimes e = false → ∀ H', Same H H' → E (.ref C3) none H') ∧
  (∀ u n, d = .str (S u) → isWord L d = true → e = .int (n : Nat) → isTimes e = true → ∀ H', Same H H' → Q (.bl (farSays L t a u n)) H')
section
variable {P : Program} {w : World} {K : PySem.W.Frag} {mg : Str → Option Value} {base : Heap}
theorem c_ends_of (d : DF K mg "ends_of" s_ends_of) (B : Bi mg) (c_end_of : Cal P w K mg base 1 "end_of" spEndOf []) : Cal P w K mg base 2 "ends_of" spEndsOf [] := by
  refine d.cal (N := n_ends_of) sc_ends_of (fun _ _ _ _ _ _ us hl => match us, hl with | [_, _, _], _ => rfl) (fun vs H Q E h => ?_) (fun f cdv A outer s H vs Q E hr h => ?_)
  · obtain ⟨L, vt, t, a, u, rfl, _⟩ := h
    rfl
  · obtain ⟨L, vt, t, a, u, rfl, rt, pt, hu, k⟩ := h
    refine ⟨_, (pss_one (ps_ret (pe_callTy (r := zTuple K) zc_tuple (by rfl) B.tuple (by decide +kernel) (pa_cons (pe_lc (own := [("state", 3)]) (g := gName 3) (tt := tYes) (by rfl) sc_ends_of.nd (pi_range1 rfl B.range (pa_cons (pe_callB (r := zLen K) zc_len (by rfl) B.len (by decide +kernel) (pa_cons (pv 1) pa_nil)) pa_nil)) (blkOk_by (N := n_ends_of) (sc := defScope s_ends_of) (by decide +kernel)) (fun _ _ _ _ _ => (pg_name (i := 3) sc_ends_of.nd rfl (by first | exact Or.inl rfl | exact Or.inr rfl))) (fun _ _ _ _ _ => pts_nil) (fun _ _ _ _ _ => (pe_c c_end_of hr (by first | decide | omega) rfl (pa_cons (pv 0) (pa_cons (pv 1) (pa_cons (pv 3) (pa_cons (pv 2) pa_nil))))))) pa_nil)))), ?_⟩
    refine zstart [some (.str (S L)), some (vt), some (.str (S u)), none] rfl ?_; try dsimp only [zK, zK2]
    obtain ⟨p, xs, rfl, ep, _, ra⟩ := Rp.tupS rt
    have hxl : xs.length = t.length := by rw [ra.length, List.length_map]
    have hL4 := pt.ltr.2.2.2
    have h6 := pt.hi
    walk_at "zz"
    refine i_lenT (SqT.of ep) ?_
    rw [hxl]
    refine i_KR1 (by omega) ?_
    rw [Int.toNat_natCast]
    refine fun Dl hD => ?_
    refine l_mapR hD [some (.str (S L)), some (.ref p), some (.str (S u)), none] rfl (fun _ => rfl) (by omega) (fun i => .int (led L t i u : Int)) (fun i H1 P1 hi s1 hP => ?_) fun H1 s1 e => ?_
    · refine zte [some (.str (S L)), some (.ref p), some (.str (S u)), some (.int (i : Int))] rfl ?_
      walk_at "zz"
      exact ⟨L, .ref p, t, i, u, rfl, rt.same s1, by omega, pt.row, hi, hu, fun H2 s2 => hP _ s2⟩
    · walk_at "zz"
      refine i_tupleL (SqL.of e) fun q hq => ?_
      refine k q _ (s1.newz hq) ?_
      rw [upd_same]
      unfold ivs endsL
      rw [List.map_map]; rfl
theorem c_then (d : DF K mg "then" s_then) (B : Bi mg) : Cal P w K mg base 1 "then" spThen [] := by
  refine d.cal (N := n_then) sc_then (fun _ _ _ _ _ _ us hl => match us, hl with | [_, _], _ => rfl) (fun vs H Q E h => ?_) (fun f cdv A outer s H vs Q E hr h => ?_)
  · obtain ⟨p, q, g, k, rfl, _⟩ := h
    rfl
  · obtain ⟨p, q, g, k, rfl, ep, eq, hg, hlt, kk⟩ := h
    refine ⟨_, (pss_one (ps_ret (pe_callTy (r := zTuple K) zc_tuple (by rfl) B.tuple (by decide +kernel) (pa_cons (pe_lc (own := [("state", 2)]) (g := gName 2) (tt := tYes) (by rfl) sc_then.nd (pi_tup (pv 0)) (blkOk_by (N := n_then) (sc := defScope s_then) (by decide +kernel)) (fun _ _ _ _ _ => (pg_name (i := 2) sc_then.nd rfl (by first | exact Or.inl rfl | exact Or.inr rfl))) (fun _ _ _ _ _ => pts_nil) (fun _ _ _ _ _ => (pe_ix (r := rIxT K) ix_tup (pv 1) (pv 2) (fun _ _ => rfl)))) pa_nil)))), ?_⟩
    refine zstart [some (.ref p), some (.ref q), none] rfl ?_; try dsimp only [zK, zK2]
    walk_at "zz"
    refine i_KT (SqT.of ep) ?_
    refine fun Dl hD => ?_
    refine l_map (walk_tup (xs := ivs g)) hD [some (.ref p), some (.ref q), none] rfl (fun _ => rfl) (ivs g) rfl (by unfold ivs; rw [List.length_map]; omega) (fun i H1 x H2 _ _ y => ⟨y.1, y.2⟩) (fun H1 s1 => SqT.of (s1 _ _ ep)) (fun v => match v with | .int i => .int (ap k i.toNat : Int) | _ => .non) (fun x H1 P1 hx1 s1 hP => ?_) fun H1 s1 e => ?_
    · obtain ⟨z, hz, rfl⟩ := List.mem_map.mp hx1
      have hzk := hlt z hz
      refine zte [some (.ref p), some (.ref q), some (.int (z : Int))] rfl ?_
      walk_at "zz"
      refine i_ixT (SqT.of (s1 _ _ eq)) (atI_nat (v := .int (ap k z : Int)) (by
        unfold ivs ap
        rw [List.getElem?_map, List.getD_eq_getElem?_getD, List.getElem?_eq_getElem hzk]; rfl)) ?_
      exact hP _ (Same.refl _)
    · walk_at "zz"
      refine i_tupleL (SqL.of e) fun r hr2 => ?_
      refine kk r _ (s1.newz hr2) ?_
      rw [upd_same]
      unfold ivs
      rw [List.map_map, List.map_map]; rfl
end
end Y

namespace Y
open PySem PySem.Spec PyProof.Rows L2 Z
open C8 (tCut pss_cut Cal pe_c Met pe_mt pe_mt0 Mak pe_mk)


abbrev s_deed : Stmt := topS 34
abbrev n_deed : List Str := ["machine", "word"]
theorem sc_deed : FnScope n_deed ["machine", "word"] (defScope s_deed) := ⟨rfl, rfl, rfl, by decide +kernel, rfl, by decide +kernel, by decide +kernel⟩

def isDeed (n : Nat) : PyData → Bool
  | .tuple ds => decide (ds.length = n) && ds.all (btw 0 ((n : Int) - 1))
  | _ => false
def vbtw (lo hi : Int) : V → Bool
  | .int i => decide (lo ≤ i) && decide (i ≤ hi)
  | _ => false
theorem vbtw_rp {N : Addr → Prop} {H : Hp} {v : V} {d : PyData} {lo hi : Int} (r : Rp N H v d) : btw lo hi d = vbtw lo hi v := by
  cases r <;> rfl
theorem vbtw_all {N : Addr → Prop} {H : Hp} {lo hi : Int} : ∀ {vs : List V} {ds : List PyData}, RpAll N H vs ds → ds.all (btw lo hi) = vs.all (vbtw lo hi)
  | _, _, .nil => rfl
  | _, _, .cons r ra => by rw [List.all_cons, List.all_cons, vbtw_rp r, vbtw_all ra]
def spIsDeed : Sp := fun vs H Q _ => ∃ (x : V) (d : PyData) (n : Nat), vs = [x, .int (n : Int)] ∧ Rp N0 H x d ∧ n ≤ 1000 ∧ ∀ H', Same H H' → Q (.bl (isDeed n d)) H'
section
variable {P : Program} {w : World} {K : PySem.W.Frag} {mg : Str → Option Value} {base : Heap}
theorem isDeed_row {n : Nat} {d : PyData} (h : isDeed n d = true) : ∃ g : List Nat, d = rowD g ∧ g.length = n ∧ ∀ x ∈ g, x < n := by
  obtain ⟨ds, rfl⟩ : ∃ ds, d = .tuple ds := by cases d <;> first | exact ⟨_, rfl⟩ | cases h
  have h : (decide (ds.length = n) && ds.all (btw 0 ((n : Int) - 1))) = true := h
  rw [Bool.and_eq_true, decide_eq_true_eq] at h
  obtain ⟨h1, h2⟩ := h
  have : ∀ ds : List PyData, ds.all (btw 0 ((n : Int) - 1)) = true → ∃ g : List Nat, ds = ids g ∧ ∀ x ∈ g, x < n := by
    intro ds
    induction ds with
    | nil => exact fun _ => ⟨[], rfl, by simp⟩
    | cons x ds ih =>
      intro h
      rw [List.all_cons, Bool.and_eq_true] at h
      obtain ⟨g, hg, hx⟩ := ih h.2
      have hb := h.1
      cases x with
      | int i =>
        have hb : (decide ((0 : Int) ≤ i) && decide (i ≤ (n : Int) - 1)) = true := hb
        rw [Bool.and_eq_true, decide_eq_true_eq, decide_eq_true_eq] at hb
        refine ⟨i.toNat :: g, ?_, fun y hy => ?_⟩
        · show _ = PyData.int ((i.toNat : Nat) : Int) :: ids g
          rw [Int.toNat_of_nonneg hb.1, hg]
        · rcases List.mem_cons.mp hy with e | hy
          · subst e; omega
          · exact hx y hy
      | _ => cases hb
  obtain ⟨g, rfl, hx⟩ := this ds h2
  refine ⟨g, rfl, ?_, hx⟩
  rw [← h1]; unfold ids; rw [List.length_map]
theorem can_len {t : List (List Nat)} {a o : List Nat} : (canT t a o).length = (reps t a o).length := by unfold canT; rw [List.length_map]
theorem can_parts {L : List Nat} {t : List (List Nat)} {a o : List Nat} (p : Parts L t a) (h : Order t 0 o) : Parts L (canT t a o) (canA t a o) := by
  have TB : Tab t L.length := ⟨p.lo, p.row⟩
  obtain ⟨hnd, hlt, h0⟩ := h.ok TB TB.pos
  have hol : o.length ≤ t.length := by
    have := nodup_le hnd (fun c hc => List.mem_range.mpr (hlt c hc))
    rwa [List.length_range] at this
  have hr : (reps t a o).length ≤ o.length := by
    refine nodup_le (l := reps t a o) (m := o) ?_ (fun c hc => fsts_sub _ _ c hc)
    exact (List.pairwise_map.mp (fsts_nd (lang t a) o)).imp fun hab e => hab (congrArg _ e)
  have h0m : 0 ∈ o := List.mem_of_getElem? h0
  have h1 : 1 ≤ (reps t a o).length := by
    obtain ⟨r, hr, _⟩ := List.mem_map.mp (fsts_all (lang t a) o 0 h0m)
    exact List.length_pos_of_mem hr
  have := p.hi
  refine ⟨p.ltr, by rw [can_len]; exact h1, by rw [can_len]; omega, fun r hr => ?_, ?_, fun x hx => ?_⟩
  · obtain ⟨s, hs, rfl⟩ := List.mem_map.mp hr
    have so := fsts_sub _ _ s hs
    obtain ⟨e, hl, _⟩ := TB.get (hlt s so)
    refine ⟨by rw [List.length_map, e, hl], fun x hx => ?_⟩
    obtain ⟨y, hy, rfl⟩ := List.mem_map.mp hx
    rw [can_len]
    exact nb_lt (h.closed so hy)
  · unfold canA
    exact List.Pairwise.filter _ List.pairwise_lt_range
  · unfold canA at hx
    rw [can_len]
    exact List.mem_range.mp (List.mem_filter.mp hx).1
def spDone (K : PySem.W.Frag) (C C2 : Addr) : Sp := fun vs H Q E => ∃ (m : Addr) (L : List Nat) (t : List (List Nat)) (a : List Nat) (x y : V) (d e : PyData), vs = [.ref m, x, y] ∧ IsM K H C m L t a ∧ Parts L t a ∧ Rp N0 H x d ∧ Rp N0 H y e ∧ ∀ o, Order t 0 o →
  ((isDeed (reps t a o).length d && isDeed (reps t a o).length e) = false → ∀ H', Same H H' → E (.ref C2) none H') ∧
  (∀ g k, d = rowD g → e = rowD k → g.length = (reps t a o).length → k.length = (reps t a o).length → (∀ x ∈ g, x < (reps t a o).length) → (∀ x ∈ k, x < (reps t a o).length) → ∀ (p : Addr) H', Same H H' → H' p = some (.tup (ivs (g.map (ap k)))) → Q (.ref p) H')
def spDeed (K : PySem.W.Frag) (C C2 : Addr) : Sp := fun vs H Q E => ∃ (m : Addr) (L : List Nat) (t : List (List Nat)) (a : List Nat) (v : V) (d : PyData), vs = [.ref m, v] ∧ IsM K H C m L t a ∧ Parts L t a ∧ Rp N0 H v d ∧ Sml d ∧
  (isWord L d = false → ∀ H', Same H H' → E (.ref C2) none H') ∧ (∀ u o, d = .str (S u) → isWord L d = true → Order t 0 o → ∀ (p : Addr) H', Same H H' → H' p = some (.tup (ivs (endsL L (canT t a o) u))) → Q (.ref p) H')
theorem c_deed {C C2 : Addr} (d : DF K mg "deed" s_deed) (B : Bi mg) (T_NoWord : OwnX K mg "NoWord" C2) (c_Machine_letters : Met P w K mg base 1 C "letters" (spLettersOf K C) []) (c_is_word : Cal P w K mg base 1 "is_word" spIsWord []) (c_least : Cal P w K mg base 8 "least" (spLeast K C) []) (c_Machine_table : Met P w K mg base 1 C "table" (spTableOf K C) []) (c_ends_of : Cal P w K mg base 2 "ends_of" spEndsOf []) : CalX P w K mg base 9 "deed" (spDeed K C C2) := by
  refine calX d (N := n_deed) sc_deed (fun _ _ _ _ _ _ us hl => match us, hl with | [_, _], _ => rfl) (fun vs H Q E h => ?_) (fun f cdv A outer s H vs Q E hr h => ?_)
  · obtain ⟨m, L, t, a, v, d, rfl, _⟩ := h
    rfl
  · obtain ⟨m, L, t, a, v, d, rfl, hm, pt, r, sm, k1, k2⟩ := h
    refine ⟨_, (pss_cons (ps_if (pt_not (pt_val (pe_c c_is_word hr (by first | decide | omega) rfl (pa_cons (pe_mt0 c_Machine_letters hr (by first | decide | omega) (pv 0)) (pa_cons (pv 1) pa_nil))))) (pss_one (ps_raise0 rfl T_NoWord (takes_of rfl rfl rfl rfl) rfl)) pss_nil)
  (PSs.nox (pss_one (ps_ret (pe_c c_ends_of hr (by first | decide | omega) rfl (pa_cons (pe_mt0 c_Machine_letters hr (by first | decide | omega) (pv 0)) (pa_cons (pe_mt0 c_Machine_table hr (by first | decide | omega) (pe_c c_least hr (by first | decide | omega) rfl (pa_cons (pv 0) pa_nil))) (pa_cons (pv 1) pa_nil)))))))), ?_⟩
    refine zstart [some (.ref m), some (v)] rfl ?_; try dsimp only [zK, zK2]
    obtain ⟨dx, vt, va, em, rt, ra⟩ := hm.ex
    walk_at "zz"
    refine i_meth ?_
    walk_at "zz"
    refine ⟨m, dx, _, rfl, em, rfl, m, L, t, a, rfl, hm, ?_⟩
    walk_at "zz"
    refine ⟨L, v, d, rfl, r, sm, fun H1 s1 => ?_⟩
    walk_at "zz"
    refine brnb (fun hb => ?_) fun hb => ?_
    · walk_at "zz"
      exact k1 hb _ s1
    obtain ⟨u, rfl, rfl⟩ := r.isStr (isWord_str hb)
    have hu : ∀ c ∈ u, c ∈ L := fun c hc => of_decide_eq_true (List.all_eq_true.mp hb c hc)
    walk_at "zz"
    refine i_meth ?_
    walk_at "zz"
    refine ⟨m, dx, _, rfl, s1 _ _ em, rfl, m, L, t, a, rfl, hm.same s1, ?_⟩
    walk_at "zz"
    refine i_meth ?_
    walk_at "zz"
    refine ⟨m, L, t, a, rfl, hm.same s1, pt.big, fun m' o H2 hO hm' s2 im' => ?_⟩
    obtain ⟨dx', vt', va', em', rt', ra'⟩ := im'.ex
    walk_at "zz"
    refine ⟨m', dx', _, rfl, em', rfl, m', L, _, _, rfl, im', fun vt2 rt2 => ?_⟩
    walk_at "zz"
    refine ⟨L, vt2, _, _, u, rfl, rt2, can_parts pt hO, hu, fun p H3 s3 ep => ?_⟩
    exact k2 u o rfl hb hO p H3 ((s1.trans s2).trans s3) ep
end
end Y

namespace Y
open PySem
/-! ### words between words, and a new first state (pure) -/
theorem sm_none {H H' : L2.Hp} {p : Addr} (s : L2.Same H H') (h : H' p = none) : H p = none := by
  cases e : H p with
  | none => rfl
  | some u => rw [s _ _ e] at h; cases h
theorem rn_app (t : List (List Nat)) (s : Nat) (u v : List Nat) : rn t s (u ++ v) = rn t (rn t s u) v := by unfold rn; rw [List.foldl_append]
theorem rn_lt {t : List (List Nat)} {n : Nat} (TB : Tab t n) : ∀ (w : List Nat) (s : Nat), s < t.length → rn t s w < t.length
  | [], _, h => h
  | i :: w, s, _ => by
    show rn t (dl t s i) w < t.length
    exact rn_lt TB w _ TB.dl_lt
/-- a word as the places of its letters -/
def ix (L u : List Nat) : List Nat := u.map fun c => L.idxOf c
theorem ix_lt {L u : List Nat} (h : ∀ c ∈ u, c ∈ L) : ∀ i ∈ ix L u, i < L.length := fun i hi => by
  obtain ⟨c, hc, rfl⟩ := List.mem_map.mp hi
  exact List.idxOf_lt_length_of_mem (h c hc)
theorem ix_app (L u v : List Nat) : ix L (u ++ v) = ix L u ++ ix L v := List.map_append
theorem led_rn (L : List Nat) (t : List (List Nat)) (s : Nat) (u : List Nat) : led L t s u = rn t s (ix L u) := by
  unfold led rn ix
  rw [List.foldl_map]; rfl
/-- the states from which the word v leads to accepted ones -/
def accI (t : List (List Nat)) (a v : List Nat) : List Nat := (List.range t.length).filter fun s => decide (rn t s v ∈ a)
theorem accI_mem {t : List (List Nat)} {a v : List Nat} {s : Nat} (hs : s < t.length) : s ∈ accI t a v ↔ rn t s v ∈ a := by
  unfold accI
  rw [List.mem_filter, List.mem_range, decide_eq_true_eq]
  exact ⟨fun h => h.2, fun h => ⟨hs, h⟩⟩
theorem accI_nd (t : List (List Nat)) (a v : List Nat) : (accI t a v).Nodup := (List.nodup_range).filter _
theorem accI_len (t : List (List Nat)) (a v : List Nat) : (accI t a v).length ≤ t.length := by
  have := List.length_filter_le (fun s => decide (rn t s v ∈ a)) (List.range t.length)
  rwa [List.length_range] at this
theorem lang_accI {t : List (List Nat)} {n : Nat} {a v : List Nat} {s : Nat} (TB : Tab t n) (hs : s < t.length) (w : List Nat) : lang t (accI t a v) s w = lang t a s (w ++ v) := by
  unfold lang
  rw [rn_app]
  have := accI_mem (a := a) (v := v) (rn_lt TB w s hs)
  by_cases q : rn t (rn t s w) v ∈ a
  · rw [decide_eq_true q, decide_eq_true (this.mpr q)]
  · rw [decide_eq_false q, decide_eq_false fun z => q (this.mp z)]
theorem lang_rn (t : List (List Nat)) (a : List Nat) (s : Nat) (u w : List Nat) : lang t a (rn t s u) w = lang t a s (u ++ w) := by unfold lang; rw [rn_app]
/-- the machine between two words answers as the machine does of the whole -/
theorem mid_lang {t : List (List Nat)} {n : Nat} {a u v w o : List Nat} (TB : Tab t n) (h : Order t (rn t 0 u) o) (hw : ∀ i ∈ w, i < n) : lang (canT t (accI t a v) o) (canA t (accI t a v) o) 0 w = lang t a 0 (u ++ w ++ v) := by
  have h0 := rn_lt TB u 0 TB.pos
  rw [can_lang TB h h0 hw, lang_accI TB h0, lang_rn, List.append_assoc]
theorem can_tab {t : List (List Nat)} {n s0 : Nat} {a o : List Nat} (TB : Tab t n) (h : Order t s0 o) (h0 : s0 < t.length) : Tab (canT t a o) n := by
  obtain ⟨hnd, hlt, hz⟩ := h.ok TB h0
  have hl : (canT t a o).length = (reps t a o).length := by unfold canT; rw [List.length_map]
  have h0m : s0 ∈ o := List.mem_of_getElem? hz
  refine ⟨?_, fun r hr => ?_⟩
  · rw [hl]
    obtain ⟨r, hr, _⟩ := List.mem_map.mp (fsts_all (lang t a) o s0 h0m)
    exact List.length_pos_of_mem hr
  · obtain ⟨s, hs, rfl⟩ := List.mem_map.mp hr
    have so := fsts_sub _ _ s hs
    obtain ⟨e, hl2, _⟩ := TB.get (hlt s so)
    refine ⟨by rw [List.length_map, e, hl2], fun x hx => ?_⟩
    obtain ⟨y, hy, rfl⟩ := List.mem_map.mp hx
    rw [hl]
    exact nb_lt (h.closed so hy)
theorem can_partsS {L : List Nat} {t : List (List Nat)} {a a' o : List Nat} {s0 : Nat} (p : Parts L t a') (h : Order t s0 o) (h0 : s0 < t.length) : Parts L (canT t a o) (canA t a o) := by
  have TB : Tab t L.length := ⟨p.lo, p.row⟩
  have TB2 := can_tab (a := a) TB h h0
  obtain ⟨hnd, hlt, _⟩ := h.ok TB h0
  have hol : o.length ≤ t.length := by
    have := nodup_le hnd (fun c hc => List.mem_range.mpr (hlt c hc))
    rwa [List.length_range] at this
  have hr : (reps t a o).length ≤ o.length := by
    refine nodup_le (l := reps t a o) (m := o) ?_ (fun c hc => fsts_sub _ _ c hc)
    exact (List.pairwise_map.mp (fsts_nd (lang t a) o)).imp fun hab e => hab (congrArg _ e)
  have hl : (canT t a o).length = (reps t a o).length := by unfold canT; rw [List.length_map]
  have := p.hi
  refine ⟨p.ltr, TB2.pos, by omega, TB2.row, ?_, fun x hx => ?_⟩
  · unfold canA
    exact List.Pairwise.filter _ List.pairwise_lt_range
  · unfold canA at hx
    rw [hl]
    exact List.mem_range.mp (List.mem_filter.mp hx).1
/-- a new first state, which goes on as f does -/
def upT (t : List (List Nat)) (f : Nat) : List (List Nat) := ((t.getD f []).map (· + 1)) :: t.map fun r => r.map (· + 1)
def upA (t : List (List Nat)) (a v : List Nat) (f : Nat) : List Nat := (if rn t f v ∈ a then [0] else []) ++ (accI t a v).map (· + 1)
theorem up_len (t : List (List Nat)) (f : Nat) : (upT t f).length = t.length + 1 := by unfold upT; rw [List.length_cons, List.length_map]
theorem up_tab {t : List (List Nat)} {n f : Nat} (TB : Tab t n) (hf : f < t.length) : Tab (upT t f) n := by
  have key : ∀ r ∈ t, (r.map (· + 1)).length = n ∧ ∀ x ∈ r.map (· + 1), x < (upT t f).length := fun r hr => by
    obtain ⟨h1, h2⟩ := TB.row r hr
    refine ⟨by rw [List.length_map, h1], fun x hx => ?_⟩
    obtain ⟨y, hy, rfl⟩ := List.mem_map.mp hx
    have := h2 y hy
    rw [up_len]; omega
  refine ⟨by rw [up_len]; omega, fun r hr => ?_⟩
  have hr : r ∈ ((t.getD f []).map (· + 1)) :: t.map fun r => r.map (· + 1) := hr
  rcases List.mem_cons.mp hr with e | hr
  · obtain ⟨e1, _, _⟩ := TB.get hf
    rw [e, e1]
    exact key _ (List.getElem_mem hf)
  · obtain ⟨q, hq, rfl⟩ := List.mem_map.mp hr
    exact key q hq
theorem up_dl {t : List (List Nat)} {n f s i : Nat} (TB : Tab t n) (hs : s < t.length) (hi : i < n) : dl (upT t f) (s + 1) i = dl t s i + 1 := by
  obtain ⟨e, hl, _⟩ := TB.get hs
  unfold dl upT
  have e2 : (t.map fun r => r.map (· + 1)).getD s [] = t[s].map (· + 1) := by
    rw [List.getD_eq_getElem?_getD, List.getElem?_map, List.getElem?_eq_getElem hs]; rfl
  rw [e, List.getD_cons_succ, e2]
  rw [List.getD_eq_getElem?_getD, List.getElem?_map, List.getD_eq_getElem?_getD, List.getElem?_eq_getElem (by rw [hl]; exact hi)]; rfl
theorem up_dl0 {t : List (List Nat)} {n f i : Nat} (TB : Tab t n) (hf : f < t.length) (hi : i < n) : dl (upT t f) 0 i = dl t f i + 1 := by
  obtain ⟨e, hl, _⟩ := TB.get hf
  unfold dl upT
  rw [List.getD_cons_zero, e, List.getD_eq_getElem?_getD, List.getElem?_map, List.getD_eq_getElem?_getD, List.getElem?_eq_getElem (by rw [hl]; exact hi)]; rfl
theorem up_rn {t : List (List Nat)} {n f : Nat} (TB : Tab t n) : ∀ (w : List Nat) (s : Nat), s < t.length → (∀ i ∈ w, i < n) → rn (upT t f) (s + 1) w = rn t s w + 1
  | [], _, _, _ => rfl
  | i :: w, s, hs, hw => by
    have hi := hw i (by simp)
    show rn (upT t f) (dl (upT t f) (s + 1) i) w = rn t (dl t s i) w + 1
    rw [up_dl TB hs hi]
    exact up_rn TB w _ TB.dl_lt fun j hj => hw j (List.mem_cons_of_mem _ hj)
theorem upA_succ {t : List (List Nat)} {a v : List Nat} {f s : Nat} : s + 1 ∈ upA t a v f ↔ s ∈ accI t a v := by
  unfold upA
  rw [List.mem_append]
  constructor
  · rintro (h | h)
    · split at h
      · simp at h
      · cases h
    · obtain ⟨y, hy, e⟩ := List.mem_map.mp h
      have : y = s := by omega
      rw [← this]; exact hy
  · exact fun h => .inr (List.mem_map.mpr ⟨s, h, rfl⟩)
theorem upA_zero {t : List (List Nat)} {a v : List Nat} {f : Nat} : 0 ∈ upA t a v f ↔ rn t f v ∈ a := by
  unfold upA
  rw [List.mem_append]
  constructor
  · rintro (h | h)
    · split at h
      · assumption
      · cases h
    · obtain ⟨y, _, e⟩ := List.mem_map.mp h
      omega
  · exact fun h => .inl (by rw [if_pos h]; simp)
theorem up_lang {t : List (List Nat)} {n f : Nat} {a v w : List Nat} (TB : Tab t n) (hf : f < t.length) (hw : ∀ i ∈ w, i < n) : lang (upT t f) (upA t a v f) 0 w = lang t (accI t a v) f w := by
  unfold lang
  cases w with
  | nil =>
    show decide (0 ∈ upA t a v f) = decide (f ∈ accI t a v)
    have h1 := upA_zero (t := t) (a := a) (v := v) (f := f)
    have h2 := accI_mem (a := a) (v := v) hf
    by_cases q : rn t f v ∈ a
    · rw [decide_eq_true (h1.mpr q), decide_eq_true (h2.mpr q)]
    · rw [decide_eq_false fun z => q (h1.mp z), decide_eq_false fun z => q (h2.mp z)]
  | cons i w =>
    have hi := hw i (by simp)
    have e1 : rn (upT t f) 0 (i :: w) = rn t (dl t f i) w + 1 := by
      show rn (upT t f) (dl (upT t f) 0 i) w = _
      rw [up_dl0 TB hf hi, up_rn TB w _ TB.dl_lt fun j hj => hw j (List.mem_cons_of_mem _ hj)]
    have e3 : rn t f (i :: w) = rn t (dl t f i) w := rfl
    rw [e1, e3]
    have h1 := upA_succ (t := t) (a := a) (v := v) (f := f) (s := rn t (dl t f i) w)
    by_cases q : rn t (dl t f i) w ∈ accI t a v
    · rw [decide_eq_true (h1.mpr q), decide_eq_true q]
    · rw [decide_eq_false fun z => q (h1.mp z), decide_eq_false q]
theorem upA_len (t : List (List Nat)) (a v : List Nat) (f : Nat) : (upA t a v f).length ≤ t.length + 1 := by
  unfold upA
  rw [List.length_append, List.length_map]
  have := accI_len t a v
  split
  · rw [List.length_cons, List.length_nil]; omega
  · rw [List.length_nil]; omega
end Y

namespace Y
open PySem
/-! ### least machines: numbered as they come, each two states told apart by a short word (pure) -/
theorem order_ex {t : List (List Nat)} {n s0 : Nat} (TB : Tab t n) (h0 : s0 < t.length) : ∃ o, Order t s0 o := by
  have key : ∀ (m k : Nat), t.length - k ≤ m → (∀ j, j < k → j < (bfs t s0 j).length) → ∃ o, Order t s0 o := by
    intro m
    induction m with
    | zero =>
      intro k hk hj
      obtain ⟨h1, h2, _⟩ := bfs_ok TB h0 k
      have := nodup_le h1 fun c hc => List.mem_range.mpr (h2 c hc)
      rw [List.length_range] at this
      exact ⟨_, k, rfl, by omega, hj⟩
    | succ m ih =>
      intro k hk hj
      by_cases hl : (bfs t s0 k).length ≤ k
      · exact ⟨_, k, rfl, hl, hj⟩
      · by_cases hk2 : t.length ≤ k
        · obtain ⟨h1, h2, _⟩ := bfs_ok TB h0 k
          have := nodup_le h1 fun c hc => List.mem_range.mpr (h2 c hc)
          rw [List.length_range] at this
          omega
        · refine ih (k + 1) (by omega) fun j hj2 => ?_
          rcases Nat.lt_succ_iff_lt_or_eq.mp hj2 with z | z
          · exact hj j z
          · subst z; omega
  exact key t.length 0 (by omega) fun j hj => by omega
theorem dd_id {κ : Type} [DecidableEq κ] (xs : List κ) : xs.Nodup → dd xs = xs := by
  refine snoc_ind (p := fun xs => xs.Nodup → dd xs = xs) (fun _ => rfl) (fun xs x ih h => ?_) xs
  obtain ⟨h1, _, h2⟩ := List.nodup_append.mp h
  rw [dd_snoc, ih h1, if_neg fun z => h2 x z x (by simp) rfl]
section
variable {t : List (List Nat)} {n : Nat} {a o : List Nat}
/-- the states of a least machine stand in the order in which they come -/
theorem can_order (TB : Tab t n) (h : Order t 0 o) : Order (canT t a o) 0 (List.range (canT t a o).length) := by
  have h0 := TB.pos
  have TC := can_tab (a := a) TB h h0
  obtain ⟨o', ho'⟩ := order_ex TC TC.pos
  have c1 := ho'.canon TC TC.pos
  have c2 := reps_canonN (a := a) TB h h0
  have hnd : ((reps t a o).map (lgN n t a)).Nodup := by rw [reps_lgN TB]; exact fsts_nd _ _
  have hlen : (canT t a o).length = ((reps t a o).map (lgN n t a)).length := by unfold canT; rw [List.length_map, List.length_map]
  have c3 := c2.img (fun x => ((reps t a o).map (lgN n t a)).idxOf x) (fun s => (canT t a o).getD s []) fun x hx => by
    have hl := List.idxOf_lt_length_of_mem hx
    show _ = (canT t a o).getD (((reps t a o).map (lgN n t a)).idxOf x) []
    rw [canT_ofN TB h h0, List.getD_eq_getElem?_getD, List.getElem?_map, List.getElem?_eq_getElem hl, List.getElem_idxOf hl]; rfl
  have e1 : ((reps t a o).map (lgN n t a)).map (fun x => ((reps t a o).map (lgN n t a)).idxOf x) = List.range (canT t a o).length := by
    refine List.ext_getElem (by rw [List.length_map, List.length_range, hlen]) fun i h1 h2 => ?_
    rw [List.length_map] at h1
    rw [List.getElem_map, List.getElem_range, List.Nodup.idxOf_getElem hnd i h1]
  have e2 : ((reps t a o).map (lgN n t a)).idxOf (lgN n t a 0) = 0 := by
    obtain ⟨m0, e⟩ := cn_start (a := a) TB h h0
    rw [cn_lgN TB m0] at e
    unfold nb at e
    rw [← reps_lgN TB] at e
    exact e
  rw [e1, dd_id _ List.nodup_range, e2] at c3
  rw [← c1.one c3]; exact ho'
theorem order_full {N : Nat} (TB : Tab t n) (h : Order t 0 (List.range N)) (hN : 1 ≤ N) : bfs t 0 N = List.range N ∧ ∀ j, j < N → j < (bfs t 0 j).length := by
  obtain ⟨K, e, h1, h2⟩ := h.ex
  rw [List.length_range] at h1
  have hK : K ≤ N := by
    refine Classical.byContradiction fun z => ?_
    have h3 := h2 (K - 1) (by omega)
    have h4 := (bfs_pre t 0 (K - 1) 1).length_le
    rw [show K - 1 + 1 = K by omega, ← e, List.length_range] at h4
    omega
  have : K = N := by omega
  subst this
  exact ⟨e.symm, h2⟩
/-- two states that words of at most k letters tell apart -/
def Sep (t : List (List Nat)) (a : List Nat) (m k s u : Nat) : Prop := ∃ w : List Nat, w.length ≤ k ∧ (∀ i ∈ w, i < m) ∧ ¬ (rn t s w ∈ a ↔ rn t u w ∈ a)
open Classical in
noncomputable def kyS (t : List (List Nat)) (a : List Nat) (m k s : Nat) : List Nat → Bool := fun w => decide (w.length ≤ k ∧ (∀ i ∈ w, i < m) ∧ rn t s w ∈ a)
theorem kyS_eq {m k s u : Nat} : kyS t a m k s = kyS t a m k u ↔ ¬ Sep t a m k s u := by
  constructor
  · rintro e ⟨w, h1, h2, h3⟩
    have := congrFun e w
    unfold kyS at this
    have := decide_eq_decide.mp this
    exact h3 ⟨fun z => (this.mp ⟨h1, h2, z⟩).2.2, fun z => (this.mpr ⟨h1, h2, z⟩).2.2⟩
  · intro hn
    funext w
    unfold kyS
    refine decide_eq_decide.mpr ⟨fun ⟨h1, h2, h3⟩ => ⟨h1, h2, ?_⟩, fun ⟨h1, h2, h3⟩ => ⟨h1, h2, ?_⟩⟩
    · exact Classical.byContradiction fun z => hn ⟨w, h1, h2, fun q => z (q.mp h3)⟩
    · exact Classical.byContradiction fun z => hn ⟨w, h1, h2, fun q => z (q.mpr h3)⟩
theorem Sep.mono {m k k' s u : Nat} (h : Sep t a m k s u) (hk : k ≤ k') : Sep t a m k' s u := by
  obtain ⟨w, h1, h2⟩ := h
  exact ⟨w, by omega, h2⟩
theorem Sep.step {m k s u : Nat} (h : Sep t a m (k + 1) s u) : Sep t a m k s u ∨ ∃ i, i < m ∧ Sep t a m k (dl t s i) (dl t u i) := by
  obtain ⟨w, h1, h2, h3⟩ := h
  cases w with
  | nil => exact .inl ⟨[], Nat.zero_le _, by simp, h3⟩
  | cons i w => exact .inr ⟨i, h2 i (by simp), w, by simpa using h1, fun j hj => h2 j (List.mem_cons_of_mem _ hj), h3⟩
theorem Sep.cons {m k s u i : Nat} (hi : i < m) (h : Sep t a m k (dl t s i) (dl t u i)) : Sep t a m (k + 1) s u := by
  obtain ⟨w, h1, h2, h3⟩ := h
  exact ⟨i :: w, by simpa using h1, fun j hj => by
    rcases List.mem_cons.mp hj with z | z
    · rw [z]; exact hi
    · exact h2 j z, h3⟩
/-- what a word tells apart, a word of at most as many letters as there are states tells apart -/
theorem sep_few {m : Nat} (TB : Tab t m) {k s u : Nat} (hs : s < t.length) (hu : u < t.length) (h : Sep t a m k s u) : Sep t a m t.length s u := by
  refine Classical.byContradiction fun hn => ?_
  -- somewhere nothing new is told apart
  obtain ⟨F, hF⟩ : ∃ F : Nat → Nat, F = fun k => (fsts (kyS t a m k) (List.range t.length)).length := ⟨_, rfl⟩
  have hle : ∀ k, F k ≤ t.length := fun k => by
    rw [hF]
    have h1 : (fsts (kyS t a m k) (List.range t.length)).Nodup := List.Pairwise.of_map (kyS t a m k) (fun _ _ hne e => hne (congrArg _ e)) (fsts_nd (kyS t a m k) (List.range t.length))
    have := nodup_le h1 (fsts_sub (kyS t a m k) (List.range t.length))
    rwa [List.length_range] at this
  have hpos : 1 ≤ F 0 := by
    rw [hF]
    have := fsts_all (kyS t a m 0) (List.range t.length) 0 (List.mem_range.mpr TB.pos)
    have := List.length_pos_of_mem this
    rwa [List.length_map] at this
  obtain ⟨k0, hk0, hst⟩ : ∃ k0, k0 ≤ t.length ∧ F (k0 + 1) ≤ F k0 := by
    refine Classical.byContradiction fun z => ?_
    have up : ∀ j, j ≤ t.length + 1 → j + 1 ≤ F j := fun j => by
      induction j with
      | zero => exact fun _ => hpos
      | succ j ih =>
        intro hj
        have h1 := ih (by omega)
        have h2 : ¬ F (j + 1) ≤ F j := fun q => z ⟨j, by omega, q⟩
        omega
    have := up (t.length + 1) (Nat.le_refl _)
    have := hle (t.length + 1)
    omega
  rw [hF] at hst
  have st := stab (key := kyS t a m k0) (key' := kyS t a m (k0 + 1)) (o := List.range t.length) (fun s _ u _ e => kyS_eq.mpr fun q => kyS_eq.mp e (q.mono (Nat.le_succ _))) hst
  -- so nothing new ever
  have stay : ∀ (j s u : Nat), s < t.length → u < t.length → ¬ Sep t a m k0 s u → ¬ Sep t a m (k0 + j) s u := fun j => by
    induction j with
    | zero => exact fun _ _ _ _ h => h
    | succ j ih =>
      intro s u hs hu hn2 hsep
      have h1 := kyS_eq.mp (st s (List.mem_range.mpr hs) u (List.mem_range.mpr hu) (kyS_eq.mpr hn2))
      rcases Sep.step (k := k0 + j) hsep with z | ⟨i, hi, z⟩
      · exact ih s u hs hu hn2 z
      · refine ih _ _ TB.dl_lt TB.dl_lt (fun q => h1 (q.cons hi)) z
  have hnk : ¬ Sep t a m k0 s u := fun q => hn (q.mono hk0)
  exact stay k s u hs hu hnk (h.mono (by omega))
/-- each two states of a least machine are told apart -/
theorem can_apart (TB : Tab t n) (h : Order t 0 o) {c c' : Nat} (hc : c < (canT t a o).length) (hc' : c' < (canT t a o).length) (hne : c ≠ c') : Sep (canT t a o) (canA t a o) n (canT t a o).length c c' := by
  have h0 := TB.pos
  have TC := can_tab (a := a) TB h h0
  have hl : (canT t a o).length = (reps t a o).length := by unfold canT; rw [List.length_map]
  have at' : ∀ {c : Nat} (hc : c < (reps t a o).length), (reps t a o)[c] ∈ o ∧ cn t a o (reps t a o)[c] = c := fun {c} hc => by
    have hm : (reps t a o)[c] ∈ o := by
      rw [List.getElem_of_eq (reps_lgN TB) hc]
      exact fsts_sub _ _ _ (List.getElem_mem _)
    refine ⟨hm, ?_⟩
    rw [cn_lgN TB hm]
    unfold nb
    have hc2 : c < ((fsts (lgN n t a) o).map (lgN n t a)).length := by rw [List.length_map, ← reps_lgN TB]; exact hc
    have e : lgN n t a (reps t a o)[c] = ((fsts (lgN n t a) o).map (lgN n t a))[c] := by rw [List.getElem_map, List.getElem_of_eq (reps_lgN TB) hc]
    rw [e]
    exact List.Nodup.idxOf_getElem (fsts_nd _ _) c hc2
  rw [hl] at hc hc'
  obtain ⟨m1, e1⟩ := at' hc
  obtain ⟨m2, e2⟩ := at' hc'
  refine Classical.byContradiction fun hns => ?_
  refine hne ?_
  rw [← e1, ← e2, cn_lgN TB m1, cn_lgN TB m2, nb_inj m1]
  refine lgN_ext fun w hw => ?_
  obtain ⟨r1, n1⟩ := can_rn (a := a) TB h h0 w _ m1 hw
  obtain ⟨r2, n2⟩ := can_rn (a := a) TB h h0 w _ m2 hw
  rw [e1] at r1
  rw [e2] at r2
  unfold lang
  refine decide_eq_decide.mpr ?_
  refine Classical.byContradiction fun z => hns (sep_few TC (by rw [hl]; exact hc) (by rw [hl]; exact hc') ⟨w, Nat.le_refl _, hw, fun q => z ?_⟩)
  rw [r1, r2, can_acc n1, can_acc n2] at q
  exact q
/-- the least machine of a least machine is this one -/
theorem can_again (TB : Tab t n) (h : Order t 0 o) {o2 : List Nat} (h2 : Order (canT t a o) 0 o2) : canT (canT t a o) (canA t a o) o2 = canT t a o ∧ canA (canT t a o) (canA t a o) o2 = canA t a o :=
  can_oneS (can_tab TB h TB.pos) TB h2 h (can_tab (a := a) TB h TB.pos).pos TB.pos fun _ hw => can_lang TB h TB.pos hw
end
end Y

namespace Y
open PySem PySem.Spec PyProof.Rows L2 Z
open C8 (tCut pss_cut Cal pe_c Met pe_mt pe_mt0 Mak pe_mk)


def spWholeI : Sp := fun vs H Q _ => ∃ i : Int, vs = [.int i] ∧ ∀ H', Same H H' → Q (.bl true) H'
def spOrd : Sp := fun vs H Q _ => ∃ (N : Addr → Prop) (v : V) (T : List (List Nat)) (n : Nat), vs = [v] ∧ Rp N H v (tabD T) ∧ Tab T n ∧ T.length ≤ 6 ∧ n ≤ 1000 ∧ Order T 0 (List.range T.length) ∧ ∀ (p : Addr) H', H p = none → Same H H' → H' p = some (.lst (ivs (List.range T.length))) → Q (.ref p) H'
theorem i_inRowA {K : PySem.W.Frag} {N : Addr → Prop} {H : Hp} {Q : VK} {va : V} {a : List Nat} {s : Nat} (ra : Rp N H va (rowD a)) (q : Q (.bl (decide (s ∈ a))) H) : rIn K false (.int (s : Int)) va H Q := by
  obtain ⟨pa, rfl, epa, _⟩ := rowD_rp ra
  refine ⟨pa, _, rfl, .inr (SqT.of epa), rfl, by unfold ivs; rw [List.all_map]; exact List.all_eq_true.mpr fun _ _ => rfl, ?_⟩
  rw [inI, if_neg (by decide)]
  exact q
theorem i_ninI {K : PySem.W.Frag} {H : Hp} {Q : VK} {p : Addr} {a : List Nat} {s : Nat} (e : H p = some (.lst (ivs a))) (q : Q (.bl (!decide (s ∈ a))) H) : rIn K true (.int (s : Int)) (.ref p) H Q := by
  refine ⟨p, _, rfl, .inl (SqL.of e), rfl, by unfold ivs; rw [List.all_map]; exact List.all_eq_true.mpr fun _ _ => rfl, ?_⟩
  rw [inI, if_pos rfl]
  exact q
theorem i_neBA {c d : Bool} {H : Hp} {Q : VK} (q : Q (.bl (!decide (c = d))) H) : rNe (.bl c) (.bl d) H Q := ⟨rfl, by
  have e : decide (V.bl c = V.bl d) = decide (c = d) := by simp
  rw [e]; exact q⟩
section
variable {P : Program} {w : World} {K : PySem.W.Frag} {mg : Str → Option Value} {base : Heap}
end
end Y

namespace Y
open PySem PySem.Spec PyProof.Rows L2 Z
open C8 (tCut pss_cut Cal pe_c Met pe_mt pe_mt0 Mak pe_mk pe_gc)
def spShufP : Sp := fun vs H Q _ => ∃ (h a : Addr) (xs : List Nat), vs = [.ref h, .ref a] ∧ HandOk H h ∧ H a = some (.lst (ivs xs)) ∧ ¬ a = h ∧ xs.length ≤ 100 ∧
  ∀ (t : Addr) (ys : List Nat) H', H t = none → H' t = some (.lst (ivs ys)) → ys.Perm xs → Gd h H H' → Q (.ref t) H'
theorem i_idxL {K : PySem.W.Frag} {H : Hp} {Q : VK} {p : Addr} {o : List Nat} {x : Nat} (e : H p = some (.lst (ivs o))) (hx : x ∈ o) (q : Q (.int (o.idxOf x : Int)) H) : rIndex K (.ref p) [.int (x : Int)] H Q := by
  have hl : o.idxOf x < o.length := List.idxOf_lt_length_of_mem hx
  refine ⟨p, ivs o, .int (x : Int), o.idxOf x, .int (x : Int), rfl, rfl, SqL.of e, rfl, by unfold ivs; rw [List.all_map]; exact List.all_eq_true.mpr fun _ _ => rfl, ?_, ?_, fun m z hm hz => ?_, q⟩
  · unfold ivs; rw [List.getElem?_map, List.getElem?_eq_getElem hl, List.getElem_idxOf hl]; rfl
  · show decide _ = true
    simp
  · unfold ivs at hz
    rw [List.getElem?_map, List.getElem?_eq_getElem (by omega)] at hz
    obtain rfl := (Option.some.inj hz)
    have hne := List.not_of_lt_findIdx (p := (· == x)) hm
    have hne : ¬ o[m] = x := fun z => by
      have h2 : (o[m] == x) = true := by rw [z]; simp
      first
        | exact hne h2
        | (rw [h2] at hne; cases hne)
    show ((o[m] : Int) == (x : Int)) = false
    rw [beq_eq_false_iff_ne]
    omega
section
variable {P : Program} {w : World} {K : PySem.W.Frag} {mg : Str → Option Value} {base : Heap}
theorem c__law_shuffledP (d : DF K mg "_law_shuffled" s__law_shuffled) (B : Bi mg) (c__law_draw : Cal P w K mg base 1 "_law_draw" spDraw []) : Cal P w K mg base 2 "_law_shuffled" spShufP [] := by
  refine d.cal (N := n__law_shuffled) sc__law_shuffled (fun _ _ _ _ _ _ us hl => match us, hl with | [_, _], _ => rfl) (fun vs H Q E h => ?_) (fun f cdv A outer s H vs Q E hr h => ?_)
  · obtain ⟨h, a, xs, rfl, _⟩ := h
    rfl
  · obtain ⟨h, a, xs, rfl, hh, ea, nah, hl, k⟩ := h
    refine ⟨_, (pss_cons (ps_set (i := 2) sc__law_shuffled.nd rfl (by first | exact Or.inl rfl | exact Or.inr rfl) (pe_callTy (r := zList K) zc_list (by rfl) B.list (by decide +kernel) (pa_cons (pv 1) pa_nil)))
  (pss_cons (ps_set (i := 3) sc__law_shuffled.nd rfl (by first | exact Or.inl rfl | exact Or.inr rfl) (pe_lst pa_nil))
  (pss_cons (ps_for PassesOwn.never rfl (pi_range1 rfl B.range (pa_cons (pe_callB (r := zLen K) zc_len (by rfl) B.len (by decide +kernel) (pa_cons (pv 1) pa_nil)) pa_nil)) (pg_name (i := 4) sc__law_shuffled.nd rfl (by first | exact Or.inl rfl | exact Or.inr rfl)) (pss_one (ps_expr (pe_bmZ (K := K) rfl PySem.F.plainAttrs_list PySem.F.slot_list_append PySem.F.type_list_append zm_append (pv 3) (pa_cons (pe_bmZ (K := K) rfl PySem.F.plainAttrs_list PySem.F.slot_list_pop PySem.F.type_list_pop zm_popAt (pv 2) (pa_cons (pe_c c__law_draw hr (by first | decide | omega) rfl (pa_cons (pv 0) (pa_cons (pe_callB (r := zLen K) zc_len (by rfl) B.len (by decide +kernel) (pa_cons (pv 2) pa_nil)) pa_nil))) pa_nil)) pa_nil)))))
  (pss_one (ps_ret (pv 3)))))), ?_⟩
    refine zstart [some (.ref h), some (.ref a), none, none, none] rfl ?_; try dsimp only [zK, zK2]
    walk_at "zz"
    refine i_listL (SqL.of ea) fun rs0 hrs0 => ?_
    have nrh := hh.ne hrs0
    have g1 := (Gd.refl hh).new (o := .lst (ivs xs)) hrs0
    have ea1 := nw (o := .lst (ivs xs)) hrs0 ea
    have er1 : (upd H rs0 (.lst (ivs xs))) rs0 = some (.lst (ivs xs)) := upd_same
    generalize upd H rs0 (.lst (ivs xs)) = H1 at g1 ea1 er1 ⊢
    walk_at "zz"
    refine ⟨by show 0 ≤ sizeLine; exact Nat.zero_le _, fun fs0 hfs0 => ?_⟩
    have nfh := g1.ok.ne hfs0
    have nfr : ¬ fs0 = rs0 := fun e => by subst e; rw [er1] at hfs0; cases hfs0
    have hf0 : H fs0 = none := by
      cases e : H fs0 with
      | none => rfl
      | some o => rw [g1.kp' e nfh] at hfs0; cases hfs0
    have g2 := g1.new (o := .lst []) hfs0
    have ea2 := nw (o := .lst []) hfs0 ea1
    have er2 := nw (o := .lst []) hfs0 er1
    have ef2 : (upd H1 fs0 (.lst [])) fs0 = some (.lst []) := upd_same
    generalize upd H1 fs0 (.lst []) = H2 at g2 ea2 er2 ef2 ⊢
    walk_at "zz"
    rw [ivs_len]
    refine i_KR1 (by omega) ?_
    rw [Int.toNat_natCast]
    refine l_range (fun i σ H3 => Gd h H H3 ∧ ∃ (rs fs : List Nat) (v4 : Option V), H3 rs0 = some (.lst (ivs rs)) ∧ H3 fs0 = some (.lst (ivs fs)) ∧ rs.length + i = xs.length ∧ fs.length = i ∧ (fs ++ rs).Perm xs ∧ σ = [some (.ref h), some (.ref a), some (.ref rs0), some (.ref fs0), v4])
      ⟨g2, xs, [], none, er2, ef2, by omega, rfl, List.Perm.refl _, rfl⟩ ?_ ?_
    · rintro i σ H3 hi ⟨g3, rs, fs, v4, er3, ef3, hrl, hfl, hpm, rfl⟩
      walk_at "zz"
      refine i_tyL (SqL.of ef3) ?_
      walk_at "zz"
      refine i_tyL (SqL.of er3) ?_
      walk_at "zz"
      rw [ivs_len]
      refine use_draw g3.ok (by omega) (by omega) fun r H4 hr4 g4 => ?_
      have hr' : r < rs.length := by omega
      have er4 := g4.kp' er3 nrh
      have ef4 := g4.kp' ef3 nfh
      walk_at "zz"
      refine i_pop er4 (ivs_get hr') (by rw [ivs_len]; omega) ?_
      rw [ivs_erase]
      walk_at "zz"
      have ef5 : (upd H4 rs0 (.lst (ivs (rs.eraseIdx r)))) fs0 = some (.lst (ivs fs)) := by rw [upd_ne nfr]; exact ef4
      refine i_append ef5 (by rw [ivs_len]; omega) ?_
      rw [ivs_snoc]
      walk_at "zz"
      refine ⟨((g3.trans g4).mutz hrs0).mutz hf0, rs.eraseIdx r, fs ++ [rs.getD r 0], _, by rw [upd_ne (fun e => nfr e.symm)]; exact upd_same, upd_same, by rw [List.length_eraseIdx_of_lt hr']; omega, by rw [List.length_append, hfl]; rfl, ?_, rfl⟩
      have e1 : rs.getD r 0 = rs[r] := by rw [List.getD_eq_getElem?_getD, List.getElem?_eq_getElem hr']; rfl
      rw [e1, List.eraseIdx_eq_take_drop_succ]
      exact perm_pick hr' hpm
    · rintro σ H3 ⟨g3, rs, fs, v4, er3, ef3, hrl, hfl, hpm, rfl⟩
      walk_at "zz"
      obtain rfl := List.eq_nil_of_length_eq_zero (show rs.length = 0 by omega)
      rw [List.append_nil] at hpm
      exact k fs0 fs _ hf0 ef3 hpm g3
end
end Y

namespace Y
open PySem PySem.Spec PyProof.Rows L2 Z
open C8 (tCut pss_cut Cal pe_c Met pe_mt pe_mt0 Mak pe_mk)
abbrev s__law_least : Stmt := topS 52
abbrev n__law_least : List Str := ["_law_table", "_law_accepts", "_law_states", "_law_at", "_law_to", "_law_classes_here", "_law_order", "_law_state", "_law_one", "_law_numbers", "_law_rows_here", "_law_k"]
theorem sc__law_least : FnScope n__law_least ["_law_table", "_law_accepts"] (defScope s__law_least) := ⟨rfl, rfl, rfl, by decide +kernel, rfl, by decide +kernel, by decide +kernel⟩

def spLeastK : Sp := fun vs H Q _ => ∃ (N : Addr → Prop) (vt va : V) (t : List (List Nat)) (n : Nat) (a : List Nat), vs = [vt, va] ∧ Rp N H vt (tabD t) ∧ Rp N H va (rowD a) ∧ Tab t n ∧ t.length ≤ 1000 ∧ n ≤ 1000 ∧ a.length ≤ 1000 ∧
  ∀ (p q1 q2 : Addr) (ps : List Addr) (o : List Nat) H', Order t 0 o → H' p = some (.tup [.ref q1, .ref q2]) → H' q1 = some (.tup (ps.map V.ref)) → RowsAt H' ps (canT t a o) → H' q2 = some (.tup (ivs (canA t a o))) → Same H H' → Q (.ref p) H'
section
variable {P : Program} {w : World} {K : PySem.W.Frag} {mg : Str → Option Value} {base : Heap}
theorem c__law_leastK (d : DF K mg "_law_least" s__law_least) (B : Bi mg) (c__law_classes : Cal P w K mg base 1 "_law_classes" spClassesK []) : Cal P w K mg base 2 "_law_least" spLeastK [] := by
  refine d.cal (N := n__law_least) sc__law_least (fun _ _ _ _ _ _ us hl => match us, hl with | [_, _], _ => rfl) (fun vs H Q E h => ?_) (fun f cdv A outer s H vs Q E hr h => ?_)
  · obtain ⟨N, vt, va, t, n, a, rfl, _⟩ := h
    rfl
  · obtain ⟨N, vt, va, t, n, a, rfl, rt, ra, TB, ht, hn, hal, k⟩ := h
    refine ⟨_, (pss_cons (ps_set (i := 2) sc__law_least.nd rfl (by first | exact Or.inl rfl | exact Or.inr rfl) (pe_lst (pa_cons pe_int pa_nil)))
  (pss_cons (ps_set (i := 3) sc__law_least.nd rfl (by first | exact Or.inl rfl | exact Or.inr rfl) pe_int)
  (pss_cons (ps_while PassesOwn.never (pt_cmpR z_lt (pv 3) (pe_callB (r := zLen K) zc_len (by rfl) B.len (by decide +kernel) (pa_cons (pv 2) pa_nil)) (nomark _)) (pss_cons (ps_for PassesOwn.never rfl (pi_tup (pe_ix (r := rIxT K) ix_tup (pv 0) (pe_ix (r := rIxL K) ix_list (pv 2) (pv 3) (fun _ _ => rfl)) (fun _ _ => rfl))) (pg_name (i := 4) sc__law_least.nd rfl (by first | exact Or.inl rfl | exact Or.inr rfl)) (pss_one (ps_if (pt_cmpR (r := rIn K true) op_notIn_seq (pv 4) (pv 2) (by rfl)) (pss_one (ps_expr (pe_bmZ (K := K) rfl PySem.F.plainAttrs_list PySem.F.slot_list_append PySem.F.type_list_append zm_append (pv 2) (pa_cons (pv 4) pa_nil)))) pss_nil)))
  (pss_one (ps_set (i := 3) sc__law_least.nd rfl (by first | exact Or.inl rfl | exact Or.inr rfl) (pe_op z_add (pv 3) pe_int)))))
  (pss_cons (ps_set (i := 5) sc__law_least.nd rfl (by first | exact Or.inl rfl | exact Or.inr rfl) (pe_c c__law_classes hr (by first | decide | omega) rfl (pa_cons (pv 0) (pa_cons (pv 1) (pa_cons (pv 2) pa_nil)))))
  (pss_cons (ps_set (i := 6) sc__law_least.nd rfl (by first | exact Or.inl rfl | exact Or.inr rfl) (pe_lst pa_nil))
  (pss_cons (ps_for PassesOwn.never rfl (pi_list (pv 2)) (pg_name (i := 7) sc__law_least.nd rfl (by first | exact Or.inl rfl | exact Or.inr rfl)) (pss_one (ps_if (pt_cmpR (r := rIn K true) op_notIn_seq (pe_dget (hu_of hr) (pv 5) (pv 7) (fun _ _ => rfl)) (pe_lc (own := [("_law_one", 8)]) (g := gName 8) (tt := tYes) (by rfl) sc__law_least.nd (pi_list (pv 6)) (blkOk_by (N := n__law_least) (sc := defScope s__law_least) (by decide +kernel)) (fun _ _ _ _ _ => (pg_name (i := 8) sc__law_least.nd rfl (by first | exact Or.inl rfl | exact Or.inr rfl))) (fun _ _ _ _ _ => pts_nil) (fun _ _ _ _ _ => (pe_dget (hu_of hr) (pv 5) (pv 8) (fun _ _ => rfl)))) (by rfl)) (pss_one (ps_expr (pe_bmZ (K := K) rfl PySem.F.plainAttrs_list PySem.F.slot_list_append PySem.F.type_list_append zm_append (pv 6) (pa_cons (pv 7) pa_nil)))) pss_nil)))
  (pss_cons (ps_set (i := 9) sc__law_least.nd rfl (by first | exact Or.inl rfl | exact Or.inr rfl) (pe_lc (own := [("_law_state", 7)]) (g := gName 7) (tt := tYes) (by rfl) sc__law_least.nd (pi_list (pv 6)) (blkOk_by (N := n__law_least) (sc := defScope s__law_least) (by decide +kernel)) (fun _ _ _ _ _ => (pg_name (i := 7) sc__law_least.nd rfl (by first | exact Or.inl rfl | exact Or.inr rfl))) (fun _ _ _ _ _ => pts_nil) (fun _ _ _ _ _ => (pe_dget (hu_of hr) (pv 5) (pv 7) (fun _ _ => rfl)))))
  (pss_cons (ps_set (i := 10) sc__law_least.nd rfl (by first | exact Or.inl rfl | exact Or.inr rfl) (pe_callTy (r := zTuple K) zc_tuple (by rfl) B.tuple (by decide +kernel) (pa_cons (pe_lc (own := [("_law_state", 7)]) (g := gName 7) (tt := tYes) (by rfl) sc__law_least.nd (pi_list (pv 6)) (blkOk_by (N := n__law_least) (sc := defScope s__law_least) (by decide +kernel)) (fun _ _ _ _ _ => (pg_name (i := 7) sc__law_least.nd rfl (by first | exact Or.inl rfl | exact Or.inr rfl))) (fun _ _ _ _ _ => pts_nil) (fun _ _ _ _ _ => (pe_callTy (r := zTuple K) zc_tuple (by rfl) B.tuple (by decide +kernel) (pa_cons (pe_lc (own := [("_law_to", 4)]) (g := gName 4) (tt := tYes) (wi := iTup K (tOp (rIxT K) (tVar 0) (tVar 7))) (by rfl) sc__law_least.nd (by refine pi_tup ?_; refine pe_ix (r := rIxT K) ix_tup ?_ ?_ (fun _ _ => rfl); exact pv 0; exact pv 7) (blkOk_by (N := n__law_least) (by rfl)) (fun _ _ _ _ _ => (pg_name (i := 4) sc__law_least.nd rfl (by first | exact Or.inl rfl | exact Or.inr rfl))) (fun _ _ _ _ _ => pts_nil) (fun _ _ _ _ _ => (pe_bmZ (K := K) (r := rIndex K) rfl PySem.F.plainAttrs_list PySem.F.slot_list_index PySem.F.type_list_index mt_index (pv 9) (pa_cons (pe_dget (hu_of hr) (pv 5) (pv 4) (fun _ _ => rfl)) pa_nil)))) pa_nil)))) pa_nil)))
  (pss_one (ps_ret (pe_tup (pa_cons (pv 10) (pa_cons (pe_callTy (r := zTuple K) zc_tuple (by rfl) B.tuple (by decide +kernel) (pa_cons (pe_lc (own := [("_law_k", 11)]) (g := gName 11) (by rfl) sc__law_least.nd (pi_range1 rfl B.range (pa_cons (pe_callB (r := zLen K) zc_len (by rfl) B.len (by decide +kernel) (pa_cons (pv 6) pa_nil)) pa_nil)) (blkOk_by (N := n__law_least) (sc := defScope s__law_least) (by decide +kernel)) (fun _ _ _ _ _ => (pg_name (i := 11) sc__law_least.nd rfl (by first | exact Or.inl rfl | exact Or.inr rfl))) (fun _ _ _ _ _ => (pts_one (pt_cmpR (r := rIn K false) op_in_seq (pe_ix (r := rIxL K) ix_list (pv 6) (pv 11) (fun _ _ => rfl)) (pv 1) (by rfl)))) (fun _ _ _ _ _ => (pv 11))) pa_nil)) pa_nil))))))))))))), ?_⟩
    obtain ⟨pt, xs0, rfl, ept, npt, rows0⟩ := Rp.tupS rt
    refine zstart [some (.ref pt), some (va), none, none, none, none, none, none, none, none, none, none] rfl ?_; try dsimp only [zK, zK2]
    have hs0 := TB.pos
    walk_at "zz"
    refine ⟨by show 1 ≤ sizeLine; decide, fun op hop => ?_⟩
    have e1 : upd H op (.lst [.int 0]) op = some (.lst (ivs [0])) := upd_same
    have s1 : Same H (upd H op (.lst [.int 0])) := (Same.refl H).newz hop
    generalize upd H op (.lst [.int 0]) = H1 at e1 s1
    walk_at "zz"
    obtain ⟨W, hW⟩ : ∃ W : Nat → L2.St → Hp → Prop, W = fun m σ H' => ∃ k o v4, o = bfs t 0 k ∧ (∀ j, j < k → j < (bfs t 0 j).length) ∧ m = t.length - k ∧ Same H H' ∧ H' op = some (.lst (ivs o)) ∧
      σ = [some (.ref pt), some va, some (.ref op), some (.int (k : Int)), v4, none, none, none, none, none, none, none] := ⟨_, rfl⟩
    refine ⟨W, ⟨_, by rw [hW]; exact ⟨0, _, none, rfl, fun j hj => by omega, rfl, s1, e1, rfl⟩⟩, fun m σ H2 wm => ?_⟩
    rw [hW] at wm
    obtain ⟨kk, o, v4, ho, hj, rfl, s2, eo, rfl⟩ := wm
    obtain ⟨hnd, hlt, h0⟩ := bfs_ok TB hs0 kk
    rw [← ho] at hnd hlt h0
    have hol : o.length ≤ t.length := by
      have := nodup_le hnd (fun c hc => List.mem_range.mpr (hlt c hc))
      rwa [List.length_range] at this
    have hol' : (ivs o).length = o.length := by unfold ivs; rw [List.length_map]
    walk_at "zz"
    rw [hol']
    refine brd (fun hk => ?_) fun hk => ?_
    · have hk : kk < o.length := by omega
      have hs : o[kk] < t.length := hlt _ (List.getElem_mem hk)
      obtain ⟨hr1, hr2, hr3⟩ := TB.get hs
      refine ⟨W (t.length - (kk + 1)), fun σ' H' w => ⟨_, by omega, w⟩, ?_⟩
      walk_at "zz"
      refine i_ixL (SqL.of eo) (atI_nat (v := .int (o[kk] : Int)) (by unfold ivs; rw [List.getElem?_map, List.getElem?_eq_getElem hk]; rfl)) ?_
      refine i_ixRp (rt.same s2) (rowget hs) fun x rx => ?_
      obtain ⟨pr, rfl, epr, _⟩ := rowD_rp rx
      have nop : op ≠ pr := fun e => by rw [← e, eo] at epr; cases epr
      refine i_KT (SqT.of epr) ?_
      refine l_for (walk_tup (xs := ivs t[o[kk]])) (fun i σ H' => Same H H' ∧ H' pr = some (.tup (ivs t[o[kk]])) ∧ H' op = some (.lst (ivs (addAll o (t[o[kk]].take i)))) ∧
        ∃ v4, σ = [some (.ref pt), some va, some (.ref op), some (.int (kk : Int)), v4, none, none, none, none, none, none, none]) ⟨s2, epr, eo, v4, rfl⟩ (fun i σ H1 _ p => SqT.of p.2.1) ?_ ?_
      · rintro i x σ H3 H4 hi ⟨s3, er3, eo3, v4, rfl⟩ ⟨rfl, hx⟩
        have hi' : i < t[o[kk]].length := by unfold ivs at hi; rwa [List.length_map] at hi
        have hx' : x = .int (t[o[kk]][i] : Int) := by
          unfold ivs at hx
          rw [List.getElem?_map, List.getElem?_eq_getElem hi'] at hx
          exact (Option.some.inj hx).symm
        subst hx'
        have hxl : t[o[kk]][i] < t.length := hr3 _ (List.getElem_mem hi')
        have htk : t[o[kk]].take (i + 1) = t[o[kk]].take i ++ [t[o[kk]][i]] := by rw [List.take_add_one, List.getElem?_eq_getElem hi']; rfl
        have hadd := addAll_snoc o (t[o[kk]].take i) t[o[kk]][i]
        rw [← htk] at hadd
        have hnd2 := addAll_nd (t[o[kk]].take i) o hnd
        have hlt2 : (addAll o (t[o[kk]].take i)).length ≤ t.length := by
          have := nodup_le hnd2 (fun c hc => List.mem_range.mpr (show c < t.length by
            rcases (addAll_mem _ _ _).mp hc with z | z
            · exact hlt c z
            · exact hr3 c (List.mem_of_mem_take z)))
          rwa [List.length_range] at this
        generalize addAll o (t[o[kk]].take i) = o2 at eo3 hadd hnd2 hlt2
        generalize addAll o (t[o[kk]].take (i + 1)) = o3 at hadd
        generalize t[o[kk]][i] = z at hadd hxl
        walk_at "zz"
        refine ⟨op, _, rfl, .inl (SqL.of eo3), rfl, by unfold ivs; rw [List.all_map]; exact List.all_eq_true.mpr fun _ _ => rfl, ?_⟩
        rw [inI, if_pos rfl]
        by_cases hz : z ∈ o2
        · rw [if_pos hz] at hadd
          subst hadd
          rw [decide_eq_true hz]
          refine ⟨false, rfl, ?_⟩
          walk_at "zz"
          exact ⟨s3, er3, eo3, _, rfl⟩
        · rw [if_neg hz] at hadd
          subst hadd
          rw [decide_eq_false hz]
          refine ⟨true, rfl, ?_⟩
          walk_at "zz"
          refine i_tyL (SqL.of eo3) ?_
          walk_at "zz"
          refine i_append eo3 (by unfold ivs; rw [List.length_map]; omega) ?_
          walk_at "zz"
          refine ⟨s3.mutz hop, by rw [upd_ne nop.symm]; exact er3, ?_, _, rfl⟩
          rw [upd_same]; unfold ivs; rw [List.map_append]; rfl
      · rintro σ H3 ⟨s3, er3, eo3, v4, rfl⟩
        have hll : (ivs t[o[kk]]).length = t[o[kk]].length := by unfold ivs; rw [List.length_map]
        rw [hll, List.take_length] at eo3
        have hb : bfs t 0 (kk + 1) = addAll o t[o[kk]] := by
          show addAll (bfs t 0 kk) (t.getD ((bfs t 0 kk).getD kk 0) []) = _
          rw [← ho, List.getD_eq_getElem?_getD (l := o), List.getElem?_eq_getElem hk]
          show addAll o (t.getD o[kk] []) = _
          rw [hr1]
        walk_at "zz"
        rw [hW]
        refine ⟨kk + 1, _, _, hb.symm, fun j hjj => ?_, rfl, s3, eo3, rfl⟩
        rcases Nat.lt_succ_iff_lt_or_eq.mp hjj with h | h
        · exact hj j h
        · subst h; rw [← ho]; exact hk
    · have hk : o.length ≤ kk := by omega
      have hO : Order t 0 o := ⟨kk, ho, hk, hj⟩
      walk_at "zz"
      refine ⟨N, .ref pt, va, op, t, n, 0, a, o, rfl, rt.same s2, ra.same s2, TB, ht, hn, hs0, hO, eo, hal, fun cd c H3 hcd s3 ecd good => ?_⟩
      walk_at "zz"
      refine ⟨by show 0 ≤ sizeLine; decide, fun od hod => ?_⟩
      have hodH : H od = none := by
        cases e : H od with
        | none => rfl
        | some u => rw [s3 _ _ (s2 _ _ e)] at hod; cases hod
      have s5 : Same H (upd H3 od (.lst [])) := (s2.trans s3).mutz hodH
      have e5 : upd H3 od (.lst []) od = some (.lst []) := upd_same
      have ecd5 : upd H3 od (.lst []) cd = some (.dK (kN o fun s => .int (c s : Int))) := by rw [upd_ne (ne_of_none ecd hod)]; exact ecd
      have eop5 : upd H3 od (.lst []) op = some (.lst (ivs o)) := by rw [upd_ne (ne_of_none (s3 _ _ eo) hod)]; exact s3 _ _ eo
      have nco : cd ≠ od := ne_of_none ecd hod
      have npo : op ≠ od := ne_of_none (s3 _ _ eo) hod
      generalize upd H3 od (.lst []) = H5 at s5 e5 ecd5 eop5
      walk_at "zz"
      refine i_KL (SqL.of eop5) ?_
      refine l_for (walk_list (xs := ivs o)) (fun i σ H' => Same H H' ∧ H' op = some (.lst (ivs o)) ∧ H' cd = some (.dK (kN o fun s => .int (c s : Int))) ∧ H' od = some (.lst (ivs (fsts c (o.take i)))) ∧
        ∃ v7, σ = [some (.ref pt), some va, some (.ref op), some (.int (kk : Int)), v4, some (.ref cd), some (.ref od), v7, none, none, none, none]) ⟨s5, eop5, ecd5, e5, none, rfl⟩ (fun i σ H1 _ p => SqL.of p.2.1) ?_ ?_
      · rintro i x σ H6 H7 hi ⟨s6, eop6, ecd6, eod6, v7, rfl⟩ ⟨rfl, hx⟩
        have hi' : i < o.length := by omega
        unfold ivs at hx
        rw [List.getElem?_map, List.getElem?_eq_getElem hi'] at hx
        have hx' := (Option.some.inj hx).symm
        subst hx'
        have hs1 : o[i]? = some o[i] := List.getElem?_eq_getElem hi'
        have hmem := List.getElem_mem hi'
        have hnew := nb_new (key := c) (o := o) hs1
        have hold := nb_old (key := c) (o := o) hs1
        have hfl : (fsts c (o.take i)).length ≤ o.length := by
          refine nodup_le (l := fsts c (o.take i)) (m := o) ?_ (fun c hc => List.mem_of_mem_take (fsts_sub _ _ c hc))
          exact (List.pairwise_map.mp (fsts_nd c (o.take i))).imp fun hab e => hab (congrArg _ e)
        have hfm : ∀ r ∈ fsts c (o.take i), r ∈ o := fun r hr => List.mem_of_mem_take (fsts_sub _ _ r hr)
        generalize o[i] = z at hmem hnew hold
        have hil2 : (ivs (fsts c (o.take i))).length = (fsts c (o.take i)).length := by unfold ivs; rw [List.length_map]
        walk_at "zz"
        refine i_dget ?_
        walk_at "zz"
        refine ⟨cd, _, rfl, kN_dget ecd6 hmem, ?_⟩
        walk_at "zz"
        refine i_KL (SqL.of eod6) ?_
        refine fun Dl hDl => ?_
        refine l_map (walk_list (xs := ivs (fsts c (o.take i)))) hDl [some (.ref pt), some va, some (.ref op), some (.int (kk : Int)), v4, some (.ref cd), some (.ref od), some (.int (z : Int)), none, none, none, none] rfl (fun _ => rfl) (ivs (fsts c (o.take i))) rfl (by rw [hil2]; omega) (fun i H1 x H2 _ _ y => ⟨y.1, y.2⟩) (fun H1 s1 => SqL.of (s1 _ _ eod6)) (fun v => match v with | .int i => .int (c i.toNat : Int) | _ => .non) (fun x H1 P1 hx1 s1 hP => ?_) fun H9 s9 e9 => ?_
        · obtain ⟨y, hy, rfl⟩ := List.mem_map.mp hx1
          refine zte [some (.ref pt), some va, some (.ref op), some (.int (kk : Int)), v4, some (.ref cd), some (.ref od), some (.int (z : Int)), some (.int (y : Int)), none, none, none] rfl ?_
          refine i_dget ?_
          walk_at "zz"
          exact ⟨cd, _, rfl, kN_dget (s1 _ _ ecd6) (hfm y hy), hP H1 (Same.refl _)⟩
        have e9 : H9 Dl = some (.lst (ivs ((fsts c (o.take i)).map c))) := by
          rw [e9]
          unfold ivs
          rw [List.map_map, List.map_map]; rfl
        have eod9 := s9 _ _ eod6
        walk_at "zz"
        refine ⟨Dl, _, rfl, .inl (SqL.of e9), rfl, by unfold ivs; rw [List.all_map]; exact List.all_eq_true.mpr fun _ _ => rfl, ?_⟩
        rw [inI, if_pos rfl]
        by_cases hz : c z ∈ (fsts c (o.take i)).map c
        · obtain ⟨_, e2⟩ := hold hz
          rw [decide_eq_true hz]
          refine ⟨false, rfl, ?_⟩
          walk_at "zz"
          rw [e2]
          exact ⟨s6.trans s9, s9 _ _ eop6, s9 _ _ ecd6, eod9, _, rfl⟩
        · obtain ⟨e1, e2⟩ := hnew hz
          rw [decide_eq_false hz]
          refine ⟨true, rfl, ?_⟩
          walk_at "zz"
          refine i_tyL (SqL.of eod9) ?_
          walk_at "zz"
          refine i_append eod9 (by rw [hil2]; omega) ?_
          walk_at "zz"
          rw [e2]
          refine ⟨(s6.trans s9).mutz hodH, by rw [upd_ne npo]; exact s9 _ _ eop6, by rw [upd_ne nco]; exact s9 _ _ ecd6, ?_, _, rfl⟩
          rw [upd_same]; unfold ivs; rw [List.map_append]; rfl
      · rintro σ H6 ⟨s6, eop6, ecd6, eod6, v7, rfl⟩
        rw [hol', List.take_length] at eod6
        have hfc : fsts c o = reps t a o := fsts_congr good
        have hnbc : ∀ s ∈ o, nb c o s = cn t a o s := fun s hs => cn_of good hs
        have hrl : (reps t a o).length ≤ o.length := by
          refine nodup_le (l := reps t a o) (m := o) ?_ (fun c hc => fsts_sub _ _ c hc)
          exact (List.pairwise_map.mp (fsts_nd (lang t a) o)).imp fun hab e => hab (congrArg _ e)
        have hrm : ∀ r ∈ reps t a o, r ∈ o := fun r hr => fsts_sub _ _ r hr
        have hkey : ∀ s ∈ o, c s ∈ (fsts c o).map c := fun s hs => fsts_all c o s hs
        rw [hfc] at eod6
        have hor : (ivs (reps t a o)).length = (reps t a o).length := by unfold ivs; rw [List.length_map]
        walk_at "zz"
        refine i_KL (SqL.of eod6) ?_
        refine fun Dn hDn => ?_
        refine l_map (walk_list (xs := ivs (reps t a o))) hDn [some (.ref pt), some va, some (.ref op), some (.int (kk : Int)), v4, some (.ref cd), some (.ref od), none, none, none, none, none] rfl (fun _ => rfl) (ivs (reps t a o)) rfl (by rw [hor]; omega) (fun i H1 x H2 _ _ y => ⟨y.1, y.2⟩) (fun H1 s1 => SqL.of (s1 _ _ eod6)) (fun v => match v with | .int i => .int (c i.toNat : Int) | _ => .non) (fun x H1 P1 hx1 s1 hP => ?_) fun H7 s7 e7 => ?_
        · obtain ⟨y, hy, rfl⟩ := List.mem_map.mp hx1
          refine zte [some (.ref pt), some va, some (.ref op), some (.int (kk : Int)), v4, some (.ref cd), some (.ref od), some (.int (y : Int)), none, none, none, none] rfl ?_
          refine i_dget ?_
          walk_at "zz"
          exact ⟨cd, _, rfl, kN_dget (s1 _ _ ecd6) (hrm y hy), hP H1 (Same.refl _)⟩
        have e7 : H7 Dn = some (.lst (ivs ((fsts c o).map c))) := by
          rw [e7, hfc]
          unfold ivs
          rw [List.map_map, List.map_map]; rfl
        have eod7 := s7 _ _ eod6
        have ecd7 := s7 _ _ ecd6
        have s07 := s6.trans s7
        clear eod6 ecd6 eop6 s6 s7 hDn
        walk_at "zz"
        refine i_KL (SqL.of eod7) ?_
        refine fun Dl hDl => ?_
        refine l_comp (walk_list (xs := ivs (reps t a o))) [some (.ref pt), some va, some (.ref op), some (.int (kk : Int)), v4, some (.ref cd), some (.ref od), none, none, some (.ref Dn), none, none] rfl (fun i acc H' => Same H7 H' ∧ ∃ ps, acc = ps.map V.ref ∧ RowsAt H' ps (((reps t a o).take i).map fun r => (t.getD r []).map (cn t a o))) ⟨(Same.refl H7).newz hDl, [], rfl, .nil⟩ (fun i acc H' _ p _ => SqL.of (p.1 _ _ eod7)) ?_ ?_
        · rintro i x acc H8' H8 hi ⟨s8, ps, rfl, hps⟩ e8 hl8 ⟨rfl, hx⟩
          have hi' : i < (reps t a o).length := by omega
          unfold ivs at hx
          rw [List.getElem?_map, List.getElem?_eq_getElem hi'] at hx
          have hx' := (Option.some.inj hx).symm
          subst hx'
          have htk : (reps t a o).take (i + 1) = (reps t a o).take i ++ [(reps t a o)[i]] := by rw [List.take_add_one, List.getElem?_eq_getElem hi']; rfl
          have hzo := hrm _ (List.getElem_mem hi')
          generalize (reps t a o)[i] = z at htk hzo
          have hzt := hlt z hzo
          obtain ⟨hr1, hr2, hr3⟩ := TB.get hzt
          have s08 := s07.trans s8
          refine i_gname ?_
          refine i_lct rfl ?_
          refine i_yes ?_
          refine iteT ?_
          refine zte [some (.ref pt), some va, some (.ref op), some (.int (kk : Int)), v4, some (.ref cd), some (.ref od), some (.int (z : Int)), none, some (.ref Dn), none, none] rfl ?_
          walk_at "zz"
          refine i_ixRp (rt.same s08) (rowget hzt) fun x rx => ?_
          obtain ⟨pr, rfl, epr, _⟩ := rowD_rp rx
          refine i_KT (SqT.of epr) ?_
          refine fun Dl2 hDl2 => ?_
          refine l_map (walk_tup (xs := ivs t[z])) hDl2 [some (.ref pt), some va, some (.ref op), some (.int (kk : Int)), none, some (.ref cd), some (.ref od), some (.int (z : Int)), none, some (.ref Dn), none, none] rfl (fun _ => rfl) (ivs t[z]) rfl (by unfold ivs; rw [List.length_map]; omega) (fun i H1 x H2 _ _ y => ⟨y.1, y.2⟩) (fun H1 s1 => SqT.of (s1 _ _ epr)) (fun v => match v with | .int i => .int (cn t a o i.toNat : Int) | _ => .non) (fun x H1 P1 hx1 s1 hP => ?_) fun H9 s9 e9 => ?_
          · obtain ⟨y, hy, rfl⟩ := List.mem_map.mp hx1
            have hyo : y ∈ o := hO.closed hzo (by rw [hr1]; exact hy)
            have en1 := s1 _ _ (s8 _ _ e7)
            refine zte [some (.ref pt), some va, some (.ref op), some (.int (kk : Int)), some (.int (y : Int)), some (.ref cd), some (.ref od), some (.int (z : Int)), none, some (.ref Dn), none, none] rfl ?_
            walk_at "zz"
            refine i_tyL (SqL.of en1) ?_
            walk_at "zz"
            refine i_dget ?_
            walk_at "zz"
            refine ⟨cd, _, rfl, kN_dget (s1 _ _ (s8 _ _ ecd7)) hyo, ?_⟩
            refine i_idxL en1 (hkey y hyo) ?_
            have hq : ((fsts c o).map c).idxOf (c y) = cn t a o y := hnbc y hyo
            rw [hq]
            exact hP H1 (Same.refl _)
          walk_at "zz"
          refine i_tupleL (SqL.of e9) fun q hq => ?_
          have e10 : upd H9 q (.tup ((ivs t[z]).map fun v => match v with | .int i => .int (cn t a o i.toNat : Int) | _ => .non)) q = some (.tup (ivs ((t.getD z []).map (cn t a o)))) := by
            rw [upd_same, hr1]
            unfold ivs
            rw [List.map_map, List.map_map]; rfl
          have s10 : Same H8 (upd H9 q (.tup ((ivs t[z]).map fun v => match v with | .int i => .int (cn t a o i.toNat : Int) | _ => .non))) := s9.newz hq
          generalize upd H9 q (.tup ((ivs t[z]).map fun v => match v with | .int i => .int (cn t a o i.toNat : Int) | _ => .non)) = H10 at e10 s10
          refine cend (s10 _ _ e8) hl8 (by omega) ⟨(s8.trans s10).mutz hDl, ps ++ [q], by rw [List.map_append]; rfl, ?_⟩
          rw [htk, List.map_append]
          have hp2 : RowsAt H10 (ps ++ [q]) (((reps t a o).take i).map (fun r => (t.getD r []).map (cn t a o)) ++ [(t.getD z []).map (cn t a o)]) := Paired.snoc (hps.same s10) e10
          exact hp2.other (s10 _ _ e8) (fun xs e => by cases e)
        · rintro acc H8 ⟨s8, ps, rfl, hps⟩ e8 _
          rw [hor, List.take_length] at hps
          walk_at "zz"
          refine i_tupleL (SqL.of e8) fun q1 hq1 => ?_
          have eq1 : upd H8 q1 (.tup (ps.map V.ref)) q1 = some (.tup (ps.map V.ref)) := upd_same
          have s9 : Same H8 (upd H8 q1 (.tup (ps.map V.ref))) := (Same.refl H8).newz hq1
          generalize upd H8 q1 (.tup (ps.map V.ref)) = H9 at eq1 s9
          have s09 := s07.trans (s8.trans s9)
          have eod9 := s9 _ _ (s8 _ _ eod7)
          walk_at "zz"
          rw [hor]
          refine i_KR1 (by omega) ?_
          rw [Int.toNat_natCast]
          refine fun Dl2 hDl2 => ?_
          have ra9 := ra.same s09
          refine l_filtR hDl2 [some (.ref pt), some va, some (.ref op), some (.int (kk : Int)), v4, some (.ref cd), some (.ref od), v7, none, some (.ref Dn), some (.ref q1), none] rfl (fun _ => rfl) (by omega) (fun k => decide ((reps t a o).getD k 0 ∈ a)) (fun k => V.int (k : Int)) (fun k' H11 R hk1 s11 hP => ?_) (fun k' H11 P1 hk1 _ s11 hP => ?_) fun H11 s11 e11 => ?_
          · refine zte [some (.ref pt), some va, some (.ref op), some (.int (kk : Int)), v4, some (.ref cd), some (.ref od), v7, none, some (.ref Dn), some (.ref q1), some (.int (k' : Int))] rfl ?_
            walk_at "zz"
            have hgd : (reps t a o).getD k' 0 = (reps t a o)[k'] := by rw [List.getD_eq_getElem?_getD, List.getElem?_eq_getElem hk1]; rfl
            refine i_ixL (SqL.of (s11 _ _ eod9)) (atI_nat (v := .int (((reps t a o).getD k' 0 : Nat) : Int)) (by unfold ivs; rw [List.getElem?_map, List.getElem?_eq_getElem hk1, hgd]; rfl)) ?_
            walk_at "zz"
            refine i_inRowA (ra9.same s11) ?_
            exact ⟨_, rfl, hP _ (Same.refl _)⟩
          · refine zte [some (.ref pt), some va, some (.ref op), some (.int (kk : Int)), v4, some (.ref cd), some (.ref od), v7, none, some (.ref Dn), some (.ref q1), some (.int (k' : Int))] rfl ?_
            walk_at "zz"
            exact hP _ (Same.refl _)
          have e11 : H11 Dl2 = some (.lst (ivs (canA t a o))) := e11
          walk_at "zz"
          refine i_tupleL (SqL.of e11) fun q2 hq2 => ?_
          have eq2 : upd H11 q2 (.tup (ivs (canA t a o))) q2 = some (.tup (ivs (canA t a o))) := upd_same
          have s12 : Same H11 (upd H11 q2 (.tup (ivs (canA t a o)))) := (Same.refl H11).newz hq2
          generalize upd H11 q2 (.tup (ivs (canA t a o))) = H12 at eq2 s12
          walk_at "zz"
          refine ⟨by show 2 ≤ sizeLine; decide, fun p hp => ?_⟩
          have s13 : Same H12 (upd H12 p (.tup [.ref q1, .ref q2])) := (Same.refl H12).newz hp
          have sf := (s11.trans s12).trans s13
          exact k p q1 q2 ps o _ hO upd_same (sf _ _ eq1) ((hps.same s9).same sf) (s13 _ _ eq2) (s09.trans sf)
end
end Y

namespace Y
open PySem PySem.Spec PyProof.Rows L2 Z
open C8 (tCut pss_cut Cal pe_c Met pe_mt pe_mt0 Mak pe_mk)
/-! ### a tuple of numbers in a list of such -/
def rInT (K : PySem.W.Frag) : R2 := fun x y H Q => ∃ (a p : Addr) (g : List Nat) (ps : List Addr) (A : List (List Nat)), x = .ref a ∧ y = .ref p ∧ H a = some (.tup (ivs g)) ∧ H p = some (.lst (ps.map V.ref)) ∧ RowsAt H ps A ∧ Q (.bl (decide (g ∈ A))) H
theorem ivsI : ∀ {a b : List Nat}, ivs a = ivs b → a = b
  | [], [], _ => rfl
  | [], _ :: _, h => by cases h
  | _ :: _, [], h => by cases h
  | x :: a, y :: b, h => by
    have h : V.int (x : Int) :: ivs a = V.int (y : Int) :: ivs b := h
    rw [List.cons.injEq, V.int.injEq] at h
    rw [ivsI h.2, show x = y by omega]
theorem rel_refs : ∀ {ps : List Addr} {its : List Value}, Vals (ps.map V.ref) its → its = ps.map Value.ref
  | [], _, h => by cases h; rfl
  | p :: ps, _, .cons h r => by
    have h : _ = Value.ref p := h
    rw [List.map_cons, h, rel_refs r]
theorem op_inT {X : Cx} (hu : X.A.units + 64 < cLine) : OpR X (compareOp .In) (rInT X.K) := by
  intro pins s σ H x y v u Q I rx ry h
  obtain ⟨a, p, g, ps, A, rfl, rfl, ea, ep, rr, q⟩ := h
  obtain rfl : v = Value.ref a := rx
  obtain rfl : u = Value.ref p := ry
  obtain ⟨its, r, pl, hz⟩ := I.list (SqL.of ep)
  have hi := rel_refs r
  subst hi
  have dp : ∀ {b : Addr} {k : List Nat}, H b = some (.tup (ivs k)) → Dp X.K H (.ref b) (rowD k) := fun {b k} e => Rp.dp (N := N0) (d := rowD k) (noD_row k) (.tup e id (ids_of _))
  obtain ⟨as, ra⟩ := Dp.reads I _ _ _ (dp ea) (show RelV (.ref a) (.ref a) from rfl)
  classical
  have key : ∀ (qs : List Addr) (B : List (List Nat)), RowsAt H qs B → (∀ w ∈ qs.map Value.ref, ∃ b k, w = Value.ref b ∧ H b = some (.tup (ivs k))) ∧ (qs.map Value.ref).any (fun w => decide (∃ b, w = Value.ref b ∧ H b = some (.tup (ivs g)))) = decide (g ∈ B) := by
    intro qs B h
    induction h with
    | nil => exact ⟨(fun w hw => by cases hw), by simp⟩
    | cons e _ ih =>
      rename_i b k qs' B' _
      refine ⟨fun w hw => ?_, ?_⟩
      · rcases List.mem_cons.mp hw with hw | hw
        · exact ⟨_, _, hw, e⟩
        · exact ih.1 w hw
      · rw [List.map_cons, List.any_cons, ih.2]
        have : decide (∃ c, Value.ref b = Value.ref c ∧ H c = some (.tup (ivs g))) = decide (g = k) := by
          rw [Bool.eq_iff_iff, decide_eq_true_iff, decide_eq_true_iff]
          constructor
          · rintro ⟨c, hc, ec⟩
            cases hc
            rw [e] at ec
            exact (ivsI (HO.tup.inj (Option.some.inj ec))).symm
          · rintro rfl
            exact ⟨_, rfl, e⟩
        rw [this, Bool.eq_iff_iff, Bool.or_eq_true, decide_eq_true_iff, decide_eq_true_iff, decide_eq_true_iff, List.mem_cons]
  obtain ⟨k1, k2⟩ := key ps A rr
  refine SeqAt.in_listAt (fun w => decide (∃ b, w = Value.ref b ∧ H b = some (.tup (ivs g)))) pl.isList (fun w hw => ?_) ⟨.bl _, H, I, rfl, ?_⟩
  · obtain ⟨b, k, rfl, eb⟩ := k1 w (by simpa using hw)
    obtain ⟨bs, rb⟩ := Dp.reads I _ _ _ (dp eb) (show RelV (.ref b) (.ref b) from rfl)
    have := SeqAt.eqAt_reads (rowD k) (rowD g) X.A.in1 s _ _ _ _ rb ra (lay_ids k) (lay_ids g) (by rw [dep_row, dep_row]; show X.A.in1.units + min 1 1 < cLine; have : X.A.in1.units ≤ X.A.units + 1 := Nat.le_refl _; omega)
    rw [eqv_row] at this
    have e : decide (∃ c, Value.ref b = Value.ref c ∧ H c = some (.tup (ivs g))) = decide (k = g) := by
      rw [Bool.eq_iff_iff, decide_eq_true_iff, decide_eq_true_iff]
      constructor
      · rintro ⟨c, hc, ec⟩
        cases hc
        rw [eb] at ec
        exact ivsI (HO.tup.inj (Option.some.inj ec))
      · rintro rfl
        exact ⟨_, rfl, eb⟩
    rw [e]
    exact this
  · have : ((ps.map Value.ref).toArray).any (fun w => decide (∃ b, w = Value.ref b ∧ H b = some (.tup (ivs g)))) = decide (g ∈ A) := by
      rw [← k2]; simp
    rw [this]
    exact q
end Y

namespace Y
open PySem PySem.Spec PyProof.Rows L2 Z
open C8 (tCut pss_cut Cal pe_c Met pe_mt pe_mt0 Mak pe_mk)


/-! ### numbers and lines as texts -/
abbrev nm (n : Nat) : List Nat := TL.numL n
def hLet : List Nat := [108, 101, 116, 116, 101, 114, 115, 32]
def hSt : List Nat := [115, 116, 97, 116, 101]
def hAc : List Nat := [97, 99, 99, 101, 112, 116, 115]
def lineOf (h row : List Nat) : List Nat := TL.joinL [32] (h :: row.map nm)
def linesOf (L : List Nat) (t : List (List Nat)) (a : List Nat) : List (List Nat) := (hLet ++ L) :: (t.map (lineOf hSt) ++ [lineOf hAc a])
def textOf (L : List Nat) (t : List (List Nat)) (a : List Nat) : List Nat := TL.joinL [10] (linesOf L t a)
theorem nm_mono : ∀ {n m : Nat}, n ≤ m → (nm n).length ≤ (nm m).length := fun {n m} => by
  induction m using Nat.strongRecOn generalizing n with
  | ind m ih =>
    intro h
    by_cases hn : n < 10
    · rw [show nm n = [48 + n] from TL.numL_lt hn]
      have := TL.numL_ne m
      cases e : nm m with
      | nil => exact absurd e this
      | cons x r => simp
    · rw [show nm n = nm (n / 10) ++ [48 + n % 10] from TL.numL_step (by omega), show nm m = nm (m / 10) ++ [48 + m % 10] from TL.numL_step (by omega), List.length_append, List.length_append]
      have := ih (m / 10) (by omega) (n := n / 10) (by omega)
      simp only [List.length_cons, List.length_nil]
      omega
theorem nm_pos (n : Nat) : 1 ≤ (nm n).length := by
  have := TL.numL_ne n
  cases e : nm n with
  | nil => exact absurd e this
  | cons x r => simp
theorem nm_len {n : Nat} (h : n < 10000) : (nm n).length ≤ 4 := TL.numL_len (by omega) (by omega)
theorem nm_dig {n c : Nat} (h : c ∈ nm n) : 48 ≤ c ∧ c ≤ 57 := TL.numL_digits n c h
theorem nm_free {n s : Nat} (h : s < 48 ∨ 57 < s) : s ∉ nm n := TL.numL_free h
theorem join_SS (a : List Nat) (ys : List (List Nat)) : Txt.join (S a) (ys.map S) = S (TL.joinL a ys) := SX.join_S a ys
theorem num_SS (n : Nat) : Str.ofString (toString ((n : Nat) : Int)) = S (nm n) := SX.num_S n
def zSplit : V → List V → Hp → VK → Prop := fun x xs H Q => ∃ a b, x = V.str a ∧ xs = [V.str b] ∧ (b.length == 0) = false ∧ a.length + 2 ≤ sizeLine ∧ rNewStrs (Txt.split a b) H Q
theorem zm_split {X : Cx} : MtR X "str.split" zSplit := mt_split
def zIntS : List V → Hp → VK → Prop := fun xs H Q => ∃ a n, xs = [V.str a] ∧ PySem.intText? a = some n ∧ a.length ≤ 640 ∧ Q (.int n) H
theorem zc_intS {X : Cx} : CallR X (.type "int") zIntS := call_int_str
/-- a joined text, split -/
theorem split_joined {s : Nat} (hs : s < 256) {ps : List (List Nat)} (hne : ps ≠ []) (hp : ∀ p ∈ ps, s ∉ p) : Txt.split (S (TL.joinL [s] ps)) (S [s]) = ps.map S := by
  rw [← join_SS]
  refine TL.split_join (s := s) (S := []) (by simp [TL.tl, S]) ?_ (fun e => hne (List.map_eq_nil_iff.mp e)) fun p h => ?_
  · simp [S, hs]
  · obtain ⟨z, hz, rfl⟩ := List.mem_map.mp h
    have := hp z hz
    simpa [TL.tl, S] using this
theorem i_split {s : Nat} (hs : s < 256) {ps : List (List Nat)} (hne : ps ≠ []) (hp : ∀ p ∈ ps, s ∉ p) (hl : (TL.joinL [s] ps).length ≤ 400000) {H : Hp} {Q : VK} (q : ∀ p, H p = none → Q (.ref p) (upd H p (.lst (ps.map fun x => V.str (S x))))) : zSplit (.str (S (TL.joinL [s] ps))) [.str (S [s])] H Q :=
  ⟨_, _, rfl, rfl, rfl, by rw [S_len]; have : 400002 ≤ sizeLine := (by decide); omega, by
    rw [split_joined hs hne hp]
    intro p hp
    have := q p hp
    rw [List.map_map]
    exact this⟩
theorem int_nm {n : Nat} (h : (nm n).length ≤ 640) : PySem.intText? (S (nm n)) = some (n : Int) := by
  have := SX.int_S (a := nm n) (List.all_eq_true.mpr fun c hc => by have := nm_dig hc; simp; omega) (TL.numL_ne n) (by omega)
  rw [TL.numL_val] at this
  exact this
theorem i_intS {n : Nat} (h : (nm n).length ≤ 640) {H : Hp} {Q : VK} (q : Q (.int (n : Int)) H) : zIntS [.str (S (nm n))] H Q := ⟨_, _, rfl, int_nm h, by rw [S_len]; exact h, q⟩
theorem joined_len {s : List Nat} {B : Nat} : ∀ {ps : List (List Nat)}, (∀ p ∈ ps, p.length ≤ B) → (TL.joinL s ps).length ≤ ps.length * (B + s.length)
  | [], _ => by show 0 ≤ _; omega
  | [p], h => by
    have := h p (by simp)
    show p.length ≤ 1 * (B + s.length)
    omega
  | p :: q :: r, h => by
    have h1 := h p (by simp)
    have ih := joined_len (s := s) (ps := q :: r) fun z hz => h z (List.mem_cons_of_mem _ hz)
    show (p ++ (s ++ TL.joinL s (q :: r))).length ≤ _
    rw [List.length_append, List.length_append, List.length_cons (a := p), Nat.succ_mul]
    omega
theorem line_len {h row : List Nat} (hh : h.length ≤ 20) (hr : ∀ x ∈ row, x < 10000) : (lineOf h row).length ≤ (row.length + 1) * 21 := by
  have := joined_len (s := [32]) (B := 20) (ps := h :: row.map nm) fun p hp => by
    rcases List.mem_cons.mp hp with z | z
    · rw [z]; exact hh
    · obtain ⟨x, hx, rfl⟩ := List.mem_map.mp z
      have := nm_len (hr x hx)
      omega
  rw [List.length_cons, List.length_map] at this
  exact this
theorem log_small {n : Nat} (h : n ≤ 1000000) : n.log2 < 1920 := by
  by_cases h0 : n = 0
  · subst h0; decide
  · exact (Nat.log2_lt h0).mpr (Nat.lt_of_lt_of_le (show n < 2 ^ 20 by omega) (Nat.pow_le_pow_right (by omega) (by omega)))
theorem cut_tail (x : V) (xs : List V) : cutV (x :: xs) (some 1) none = xs := by
  unfold cutV
  rw [show (some (1 : Int)) = some ((1 : Nat) : Int) from rfl, HT.sIx_nat, HT.sIx_none]
  simp
theorem non_ivs (l : List Nat) : inV V.non (ivs l) = false := by
  unfold inV ivs
  rw [List.any_map, List.any_eq_false]
  intro c _ q
  cases q
def spNumberOf : Sp := fun vs H Q _ => ∃ n most : Nat, vs = [.str (S (nm n)), .int (most : Int)] ∧ n ≤ most ∧ most ≤ 1000 ∧ ∀ H', Same H H' → Q (.int (n : Int)) H'
def spReadStates : Sp := fun vs H Q _ => ∃ (h row : List Nat) (many : Nat), vs = [.str (S h), .str (S (lineOf h row)), .int (many : Int)] ∧ 32 ∉ h ∧ h.length ≤ 20 ∧ 1 ≤ many ∧ many ≤ 1000 ∧ (∀ x ∈ row, x < many) ∧ row.length ≤ 200 ∧ ∀ (p : Addr) H', Same H H' → H' p = some (.tup (ivs row)) → Q (.ref p) H'
section
variable {P : Program} {w : World} {K : PySem.W.Frag} {mg : Str → Option Value} {base : Heap}
end
end Y

namespace Y
open PySem PySem.Spec PyProof.Rows L2 Z
open C8 (tCut pss_cut Cal pe_c Met pe_mt pe_mt0 Mak pe_mk pe_gc)

/-- the parts of a machine that a text tells -/
structure TxtOk (L : List Nat) (t : List (List Nat)) (a : List Nat) : Prop where
  ltr : Ltrs L
  tab : Tab t L.length
  hi : t.length ≤ 100
  asc : a.Pairwise (· < ·)
  al : ∀ x ∈ a, x < t.length
theorem TxtOk.few {L : List Nat} {t : List (List Nat)} {a : List Nat} (o : TxtOk L t a) : a.length ≤ 100 := by
  have := nodup_le (l := a) (o.asc.imp fun h => by omega) (fun c hc => List.mem_range.mpr (o.al c hc))
  rw [List.length_range] at this
  have := o.hi
  omega
theorem line_free {h row : List Nat} (hh : 10 ∉ h) : 10 ∉ lineOf h row := by
  unfold lineOf
  have key : ∀ ps : List (List Nat), (∀ p ∈ ps, 10 ∉ p) → 10 ∉ TL.joinL [32] ps := fun ps => by
    induction ps with
    | nil => exact fun _ z => by cases z
    | cons p ps ih =>
      intro hp z
      have h1 := hp p (by simp)
      have h2 := ih fun q hq => hp q (List.mem_cons_of_mem _ hq)
      cases ps with
      | nil => exact h1 z
      | cons q r =>
        have z : 10 ∈ p ++ ([32] ++ TL.joinL [32] (q :: r)) := z
        rcases List.mem_append.mp z with z | z
        · exact h1 z
        · rcases List.mem_append.mp z with z | z
          · have := List.mem_singleton.mp z; omega
          · exact h2 z
  refine key _ fun p hp => ?_
  rcases List.mem_cons.mp hp with z | z
  · rw [z]; exact hh
  · obtain ⟨x, _, rfl⟩ := List.mem_map.mp z
    exact nm_free (by omega)
theorem lines_free {L : List Nat} {t : List (List Nat)} {a : List Nat} (o : TxtOk L t a) : ∀ p ∈ linesOf L t a, 10 ∉ p := fun p hp z => by
  unfold linesOf at hp
  rcases List.mem_cons.mp hp with e | hp
  · rw [e] at z
    rcases List.mem_append.mp z with z | z
    · unfold hLet at z; simp at z
    · have := o.ltr.2.1 10 z; omega
  · rcases List.mem_append.mp hp with e | e
    · obtain ⟨r, _, rfl⟩ := List.mem_map.mp e
      exact line_free (by unfold hSt; simp) z
    · rw [List.mem_singleton.mp e] at z
      exact line_free (by unfold hAc; simp) z
theorem lines_len {L : List Nat} {t : List (List Nat)} {a : List Nat} (o : TxtOk L t a) : (textOf L t a).length ≤ 400000 ∧ ∀ p ∈ linesOf L t a, p.length ≤ 3000 := by
  have hL4 := o.ltr.2.2.2
  have hb : ∀ p ∈ linesOf L t a, p.length ≤ 3000 := fun p hp => by
    unfold linesOf at hp
    rcases List.mem_cons.mp hp with e | hp
    · rw [e, List.length_append]; show 8 + L.length ≤ _; omega
    · rcases List.mem_append.mp hp with e | e
      · obtain ⟨r, hr, rfl⟩ := List.mem_map.mp e
        obtain ⟨h1, h2⟩ := o.tab.row r hr
        have := line_len (h := hSt) (row := r) (by decide) fun x hx => by have := h2 x hx; have := o.hi; omega
        omega
      · rw [List.mem_singleton.mp e]
        have := line_len (h := hAc) (row := a) (by decide) fun x hx => by have := o.al x hx; have := o.hi; omega
        have := o.few
        omega
  refine ⟨?_, hb⟩
  unfold textOf
  have := joined_len (s := [10]) (B := 3000) (ps := linesOf L t a) hb
  have e : (linesOf L t a).length = t.length + 2 := by unfold linesOf; rw [List.length_cons, List.length_append, List.length_map]; rfl
  rw [e] at this
  have h3 := o.hi
  have h4 : (t.length + 2) * (3000 + [10].length) ≤ 102 * 3001 := Nat.mul_le_mul (by omega) (by decide)
  omega
theorem cut_mid (x z : V) (ys : List V) : cutV ((x :: ys) ++ [z]) (some 1) (some (-1)) = ys := by
  have hl : ((x :: ys) ++ [z]).length = ys.length + 2 := by simp
  have e : HT.sIx ((x :: ys) ++ [z]).length ((x :: ys) ++ [z]).length (some (-1)) = ys.length + 1 := by
    rw [hl]
    unfold HT.sIx
    simp only []
    rw [if_pos (by omega)]
    omega
  have e1 : HT.sIx ((x :: ys) ++ [z]).length 0 (some 1) = 1 := by
    rw [hl, show (some (1 : Int)) = some ((1 : Nat) : Int) from rfl, HT.sIx_nat]
    omega
  unfold cutV
  rw [e, e1]
  simp
def spReadM (K : PySem.W.Frag) (C : Addr) : Sp := fun vs H Q _ => ∃ (L : List Nat) (t : List (List Nat)) (a : List Nat), vs = [.str (S (textOf L t a))] ∧ TxtOk L t a ∧ ∀ (m : Addr) H', H m = none → Same H H' → IsM K H' C m L t a → Q (.ref m) H'
section
variable {P : Program} {w : World} {K : PySem.W.Frag} {mg : Str → Option Value} {base : Heap}
end
end Y

namespace Y
open PySem PySem.Spec PyProof.Rows L2 Z
open C8 (tCut pss_cut Cal pe_c Met pe_mt pe_mt0 Mak pe_mk)
/-- the parts as one thing -/
def trioD (L : List Nat) (t : List (List Nat)) (a : List Nat) : PyData := .tuple [.str (S L), tabD t, rowD a]
/-- parts that may be shown -/
structure Fine (L : List Nat) (t : List (List Nat)) (a : List Nat) : Prop where
  l4 : L.length ≤ 4
  lc : ∀ c ∈ L, c < 1000
  hi : t.length ≤ 150
  row : ∀ r ∈ t, r.length ≤ 4 ∧ ∀ x ∈ r, x < 300
  al : a.length ≤ 150
  ac : ∀ x ∈ a, x < 300
theorem Parts.fine {L : List Nat} {t : List (List Nat)} {a : List Nat} (p : Parts L t a) : Fine L t a :=
  ⟨p.ltr.2.2.2, fun c hc => by have := (p.ltr.2.1 c hc).2; omega, by have := p.hi; omega, fun r hr => ⟨by rw [(p.row r hr).1]; exact p.ltr.2.2.2, fun x hx => by have := (p.row r hr).2 x hx; have := p.hi; omega⟩,
    by have := p.accLen; omega, fun x hx => by have := p.acs x hx; have := p.hi; omega⟩
theorem Fine.tame {L : List Nat} {t : List (List Nat)} {a : List Nat} (p : Fine L t a) : tame (trioD L t a) = true := by
  have h1 : PyData.leavesShort 64 (.str (S L)) = true := by
    show (S L).cps.toList.all _ = true
    rw [List.all_eq_true]
    intro c hc
    have := p.lc c (by simpa using hc)
    exact decide_eq_true (by omega)
  have hb := bulk_rows t 4 fun r hr => (p.row r hr).1
  refine tame_of ?_ ?_ ?_ ?_ ?_
  · show (PyData.leavesShort 64 (.str (S L)) && (PyData.leavesShortAll 64 (t.map rowD) && (PyData.leavesShortAll 64 (ids a) && true))) = true
    rw [h1, short_rows t fun r hr => (p.row r hr).2, short_ids a p.ac]; rfl
  · show (S L).cps.size + 1 + (PyData.bulkAll (t.map rowD) + 1 + (PyData.bulkAll (ids a) + 1 + 0)) ≤ 1000
    rw [bulk_ids]
    have e : (S L).cps.size = L.length := by simp
    have := p.l4
    have := p.hi
    have := p.al
    omega
  · show max 0 (max (tabD t).depth (max (rowD a).depth 0)) + 1 ≤ 40
    have := dep_tab t
    rw [dep_row]
    omega
  · show (true && (PyData.showableAll (t.map rowD) && (PyData.showableAll (ids a) && true))) = true
    rw [show_rows t fun r hr => (p.row r hr).2, show_ids a p.ac]; rfl
  · show (false || (PyData.hasDictAll (t.map rowD) || (PyData.hasDictAll (ids a) || false))) = false
    rw [nod_rows, nod_ids]; rfl
theorem noD_trio (L : List Nat) (t : List (List Nat)) (a : List Nat) : noD (trioD L t a) = true := by
  show (true && (noDs (t.map rowD) && (noDs (ids a) && true))) = true
  rw [noD_rows, noD_ids]; rfl
end Y

namespace Y
open PySem PySem.Spec PyProof.Rows L2 Z
open C8 (tCut pss_cut Cal pe_c Met pe_mt pe_mt0 Mak pe_mk pe_gc)
theorem row_off {h : Addr} {H : Hp} {v : V} {l : List Nat} {L0 : List V} (eh : H h = some (.lst L0)) (r : Rp N0 H v (rowD l)) : Rp (· = h) H v (rowD l) := by
  obtain ⟨p, rfl, e, _⟩ := rowD_rp r
  exact .tup e (fun z => by subst z; rw [eh] at e; cases e) (ids_of _)
theorem rows_off {h : Addr} {H : Hp} {L0 : List V} (eh : H h = some (.lst L0)) : ∀ {vs : List V} {t : List (List Nat)}, RpAll N0 H vs (t.map rowD) → RpAll (· = h) H vs (t.map rowD)
  | _, [], r => by rw [RpAll.nilS r]; exact .nil
  | _, x :: t, r => by
    obtain ⟨v, ws, rfl, a, b⟩ := RpAll.consS (d := rowD x) (ds := t.map rowD) r
    exact .cons (row_off eh a) (rows_off eh b)
theorem tab_off {h : Addr} {H : Hp} {v : V} {t : List (List Nat)} {L0 : List V} (eh : H h = some (.lst L0)) (r : Rp N0 H v (tabD t)) : Rp (· = h) H v (tabD t) := by
  obtain ⟨p, xs, rfl, e, _, ra⟩ := Rp.tupS r
  exact .tup e (fun z => by subst z; rw [eh] at e; cases e) (rows_off eh ra)
/-- a machine stays when the hand draws -/
theorem IsM.gd {K : PySem.W.Frag} {h : Addr} {H H' : Hp} {C m : Addr} {L : List Nat} {t : List (List Nat)} {a : List Nat} (im : IsM K H C m L t a) (g : Gd h H H') : IsM K H' C m L t a := by
  obtain ⟨c, cells, a1, a2, a3, a4, eh, _⟩ := g.ok0.ex
  obtain ⟨dx, vt, va, em, rt, ra⟩ := im.ex
  have nm : m ≠ h := fun z => by subst z; rw [eh] at em; cases em
  exact ⟨dx, vt, va, g.kp _ _ em nm, ((tab_off eh rt).mono g.toKp).free, ((row_off eh ra).mono g.toKp).free⟩
theorem isWord_of {L u : List Nat} (h : ∀ c ∈ u, c ∈ L) : isWord L (.str (S u)) = true := List.all_eq_true.mpr fun c hc => decide_eq_true (h c hc)
theorem i_neBl {b c : Bool} {H : Hp} {Q : VK} (q : Q (.bl (!decide (b = c))) H) : rNe (.bl b) (.bl c) H Q := ⟨rfl, by
  have e : decide (V.bl b = V.bl c) = decide (b = c) := by simp
  rw [e]; exact q⟩
theorem says_lang {L : List Nat} {t : List (List Nat)} {a w : List Nat} : decide (led L t 0 w ∈ a) = lang t a 0 (ix L w) := by rw [led_rn]; rfl
theorem rep_in {u L : List Nat} {n : Nat} (h : ∀ c ∈ u, c ∈ L) : ∀ c ∈ (List.replicate n u).flatten, c ∈ L := fun c hc => by
  obtain ⟨l, hl, hc⟩ := List.mem_flatten.mp hc
  rw [(List.mem_replicate.mp hl).2] at hc
  exact h c hc
theorem rep_len {u : List Nat} {n : Nat} : (List.replicate n u).flatten.length = n * u.length := by
  induction n with
  | zero => simp
  | succ n ih => rw [List.replicate_succ, List.flatten_cons, List.length_append, ih, Nat.succ_mul]; omega
end Y

namespace Y
open PySem PySem.Spec PyProof.Rows L2 Z
open C8 (tCut pss_cut Cal pe_c Met pe_mt pe_mt0 Mak pe_mk pe_gc)
/-- the states of which the machine says no -/
def cpl (t : List (List Nat)) (a : List Nat) : List Nat := (List.range t.length).filter fun s => decide (s ∉ a)
theorem cpl_mem {t : List (List Nat)} {a : List Nat} {s : Nat} : s ∈ cpl t a ↔ s < t.length ∧ s ∉ a := by
  unfold cpl
  rw [List.mem_filter, List.mem_range, decide_eq_true_eq]
theorem cpl_nd (t : List (List Nat)) (a : List Nat) : (cpl t a).Nodup := (List.nodup_range).filter _
theorem cpl_asc (t : List (List Nat)) (a : List Nat) : (cpl t a).Pairwise (· < ·) := List.Pairwise.filter _ List.pairwise_lt_range
theorem cpl_len (t : List (List Nat)) (a : List Nat) : (cpl t a).length ≤ t.length := by
  have := List.length_filter_le (fun s => decide (s ∉ a)) (List.range t.length)
  rwa [List.length_range] at this
theorem cpl_lang {t : List (List Nat)} {n : Nat} {a w : List Nat} {s : Nat} (TB : Tab t n) (hs : s < t.length) : lang t (cpl t a) s w = !lang t a s w := by
  unfold lang
  have h := rn_lt TB w s hs
  by_cases q : rn t s w ∈ a
  · rw [decide_eq_true q, decide_eq_false fun z => (cpl_mem.mp z).2 q]; rfl
  · rw [decide_eq_false q, decide_eq_true (cpl_mem.mpr ⟨h, q⟩)]; rfl
/-- a machine of any size that says of words -/
structure Wide (L : List Nat) (t : List (List Nat)) (a : List Nat) : Prop where
  tab : Tab t L.length
  hi : t.length ≤ 150
  wide : L.length ≤ 4
  lc : ∀ c ∈ L, c < 1000
  asc : a.Pairwise (· < ·)
  al : ∀ x ∈ a, x < t.length
section
variable {L : List Nat} {t : List (List Nat)} {a : List Nat}
theorem Wide.few (w : Wide L t a) : a.length ≤ 150 := by
  have := nodup_le (l := a) (w.asc.imp fun h => by omega) (fun c hc => List.mem_range.mpr (w.al c hc))
  rw [List.length_range] at this
  have := w.hi
  omega
theorem Wide.nd (w : Wide L t a) : a.Nodup := w.asc.imp fun h => by omega
theorem Wide.big (w : Wide L t a) : Big L t a := ⟨w.tab, by have := w.hi; omega, by have := w.wide; omega, w.nd, by have := w.few; omega⟩
theorem Wide.fine (w : Wide L t a) : Fine L t a := ⟨w.wide, w.lc, w.hi, fun r hr => ⟨by rw [(w.tab.row r hr).1]; exact w.wide, fun x hx => by have := (w.tab.row r hr).2 x hx; have := w.hi; omega⟩, w.few, fun x hx => by have := w.al x hx; have := w.hi; omega⟩
theorem Parts.wideM (p : Parts L t a) : Wide L t a := ⟨⟨p.lo, p.row⟩, by have := p.hi; omega, p.ltr.2.2.2, fun c hc => by have := (p.ltr.2.1 c hc).2; omega, p.acc, p.acs⟩
theorem TxtOk.wideM (o : TxtOk L t a) : Wide L t a := ⟨o.tab, by have := o.hi; omega, o.ltr.2.2.2, fun c hc => by have := (o.ltr.2.1 c hc).2; omega, o.asc, o.al⟩
theorem Wide.cpl (w : Wide L t a) : Wide L t (cpl t a) := ⟨w.tab, w.hi, w.wide, w.lc, cpl_asc t a, fun x hx => (cpl_mem.mp hx).1⟩
theorem Wide.can {o b : List Nat} (w : Wide L t b) (h : Order t 0 o) : Wide L (canT t a o) (canA t a o) := by
  have TB := w.tab
  have TB2 := can_tab (a := a) TB h TB.pos
  obtain ⟨hnd, hlt, _⟩ := h.ok TB TB.pos
  have hol : o.length ≤ t.length := by
    have := nodup_le hnd (fun c hc => List.mem_range.mpr (hlt c hc))
    rwa [List.length_range] at this
  have hr : (reps t a o).length ≤ o.length := by
    refine nodup_le (l := reps t a o) (m := o) ?_ (fun c hc => fsts_sub _ _ c hc)
    exact (List.pairwise_map.mp (fsts_nd (lang t a) o)).imp fun hab e => hab (congrArg _ e)
  have hl : (canT t a o).length = (reps t a o).length := by unfold canT; rw [List.length_map]
  have := w.hi
  refine ⟨TB2, by omega, w.wide, w.lc, ?_, fun x hx => ?_⟩
  · unfold canA
    exact List.Pairwise.filter _ List.pairwise_lt_range
  · unfold canA at hx
    rw [hl]
    exact List.mem_range.mp (List.mem_filter.mp hx).1
end
def spSaysB (K : PySem.W.Frag) (C C2 : Addr) : Sp := fun vs H Q E => ∃ (m : Addr) (L : List Nat) (t : List (List Nat)) (a u : List Nat), vs = [.ref m, .str (S u)] ∧ IsM K H C m L t a ∧ Wide L t a ∧ (∀ c ∈ u, c ∈ L) ∧ u.length ≤ 90000 ∧ ∀ H', Same H H' → Q (.bl (lang t a 0 (ix L u))) H'
section
variable {P : Program} {w : World} {K : PySem.W.Frag} {mg : Str → Option Value} {base : Heap}
theorem c_saysB {C C2 : Addr} (d : DF K mg "says" s_says) (B : Bi mg) (T_NoWord : OwnX K mg "NoWord" C2) (c_Machine_letters : Met P w K mg base 1 C "letters" (spLettersOf K C) []) (c_Machine_table : Met P w K mg base 1 C "table" (spTableOf K C) []) (c_Machine_accepts : Met P w K mg base 1 C "accepts" (spAcceptsOf K C) [])
    (c_is_word : Cal P w K mg base 1 "is_word" spIsWord []) (c_end_of : Cal P w K mg base 1 "end_of" spEndOf []) : CalX P w K mg base 2 "says" (spSaysB K C C2) := by
  refine calX d (N := n_says) sc_says (fun _ _ _ _ _ _ us hl => match us, hl with | [_, _], _ => rfl) (fun vs H Q E h => ?_) (fun f cdv A outer s H vs Q E hr h => ?_)
  · obtain ⟨m, L, t, a, u, rfl, _⟩ := h
    rfl
  · obtain ⟨m, L, t, a, u, rfl, hm, wd, hu, hul, k⟩ := h
    refine ⟨_, (pss_cons (ps_set (i := 2) sc_says.nd rfl (by first | exact Or.inl rfl | exact Or.inr rfl) (pe_mt0 c_Machine_letters hr (by first | decide | omega) (pv 0)))
  (pss_cons (ps_if (pt_not (pt_val (pe_c c_is_word hr (by first | decide | omega) rfl (pa_cons (pv 2) (pa_cons (pv 1) pa_nil))))) (pss_one (ps_raise0 rfl T_NoWord (takes_of rfl rfl rfl rfl) rfl)) pss_nil)
  (PSs.nox (pss_one (ps_ret (pe_cmpR (r := rIn K false) op_in_seq (pe_c c_end_of hr (by first | decide | omega) rfl (pa_cons (pv 2) (pa_cons (pe_mt0 c_Machine_table hr (by first | decide | omega) (pv 0)) (pa_cons pe_int (pa_cons (pv 1) pa_nil))))) (pe_mt0 c_Machine_accepts hr (by first | decide | omega) (pv 0)) (by rfl))))))), ?_⟩
    refine zstart [some (.ref m), some (.str (S u)), none] rfl ?_; try dsimp only [zK, zK2]
    have hL4 := wd.wide
    obtain ⟨dx, vt, va, em, rt, ra⟩ := hm.ex
    walk_at "zz"
    refine i_meth ?_
    walk_at "zz"
    refine ⟨m, dx, _, rfl, em, rfl, m, L, t, a, rfl, hm, ?_⟩
    walk_at "zz"
    refine ⟨L, .str (S u), .str (S u), rfl, .str _, by show (codes (S u)).length ≤ 90000; rw [codes_S]; omega, fun H1 s1 => ?_⟩
    rw [isWord_of hu]
    walk_at "zz"
    refine i_meth ?_
    walk_at "zz"
    have hm1 := hm.same s1
    refine ⟨m, dx, _, rfl, s1 _ _ em, rfl, m, L, t, a, rfl, hm1, fun vt2 rt2 => ?_⟩
    walk_at "zz"
    refine ⟨L, vt2, t, 0, u, rfl, rt2, by omega, wd.tab.row, wd.tab.pos, hu, fun H2 s2 => ?_⟩
    walk_at "zz"
    refine i_meth ?_
    walk_at "zz"
    refine ⟨m, dx, _, rfl, s2 _ _ (s1 _ _ em), rfl, m, L, t, a, rfl, hm1.same s2, fun va2 ra2 => ?_⟩
    obtain ⟨pa, rfl, epa, _⟩ := rowD_rp ra2
    refine ⟨pa, _, rfl, .inr (SqT.of epa), rfl, by unfold ivs; rw [List.all_map]; exact List.all_eq_true.mpr fun _ _ => rfl, ?_⟩
    rw [inI, if_neg (by decide), led_rn]
    exact k _ (s1.trans s2)
end
end Y

namespace Y
open PySem PySem.Spec PyProof.Rows L2 Z
open C8 (tCut pss_cut Cal pe_c Met pe_mt pe_mt0 Mak pe_mk pe_gc)
abbrev s_first_words : Stmt := topS 17
abbrev n_first_words : List Str := ["letters", "table", "words", "order", "state", "letter", "to"]
theorem sc_first_words : FnScope n_first_words ["letters", "table"] (defScope s_first_words) := ⟨rfl, rfl, rfl, by decide +kernel, rfl, by decide +kernel, by decide +kernel⟩

/-- a word that leads to a state -/
structure HdW (L : List Nat) (t : List (List Nat)) (s : Nat) (w : List Nat) : Prop where
  wd : ∀ c ∈ w, c ∈ L
  led : led L t 0 w = s
/-- one letter more, by the row of s: places and their words -/
def fwStep (L row : List Nat) (s : Nat) (p : List Nat × (Nat → List Nat)) (i : Nat) : List Nat × (Nat → List Nat) :=
  if row.getD i 0 ∈ p.1 then p else (p.1 ++ [row.getD i 0], fun q => if q = row.getD i 0 then p.2 s ++ [L.getD i 0] else p.2 q)
def fwRow (L row : List Nat) (s : Nat) (p : List Nat × (Nat → List Nat)) : List Nat × (Nat → List Nat) := (List.range L.length).foldl (fwStep L row s) p
/-- the first words, as they are made in the order o -/
def fwHd (L : List Nat) (t : List (List Nat)) (o : List Nat) : Nat → List Nat := (o.foldl (fun p s => fwRow L (t.getD s []) s p) ([0], fun _ => [])).2
def spFW : Sp := fun vs H Q _ => ∃ (v : V) (L : List Nat) (t : List (List Nat)) (a : List Nat), vs = [.str (S L), v] ∧ Rp N0 H v (tabD t) ∧ Wide L t a ∧ L.Nodup ∧
  ∀ (p : Addr) (o : List Nat) (hd : Nat → List Nat) H', Order t 0 o → hd = fwHd L t o → (∀ s ∈ o, HdW L t s (hd s) ∧ (hd s).length ≤ t.length) → H p = none → Same H H' → H' p = some (.dK (kN o fun s => .str (S (hd s)))) → Q (.ref p) H'
theorem kN_dputW {H : Hp} {a : Addr} {o : List Nat} {f g : Nat → V} {s : Nat} (e : H a = some (.dK (kN o f))) (h : s ∉ o) (hl : o.length < 90000) (hg : ∀ x ∈ o, g x = f x) : DPut H a (.int (s : Int)) (g s) (upd H a (.dK (kN (o ++ [s]) g))) := by
  have e2 : kN o f = kN o g := List.map_congr_left fun x hx => by rw [hg x hx]
  rw [e2] at e
  exact kN_dput e h hl
theorem led_ixW {L : List Nat} {t : List (List Nat)} {w : List Nat} {i : Nat} (nd : L.Nodup) (hi : i < L.length) : led L t 0 (w ++ [L[i]]) = dl t (led L t 0 w) i := by
  unfold led
  rw [List.foldl_append]
  show dl t _ (L.idxOf L[i]) = _
  rw [List.Nodup.idxOf_getElem nd i hi]
section
variable {P : Program} {w : World} {K : PySem.W.Frag} {mg : Str → Option Value} {base : Heap}
theorem c_first_words (d : DF K mg "first_words" s_first_words) (B : Bi mg) (c_reached : Cal P w K mg base 1 "reached" spReached [.int 0]) : Cal P w K mg base 2 "first_words" spFW [] := by
  refine d.cal (N := n_first_words) sc_first_words (fun _ _ _ _ _ _ us hl => match us, hl with | [_, _], _ => rfl) (fun vs H Q E h => ?_) (fun f cdv A outer s H vs Q E hr h => ?_)
  · obtain ⟨v, L, t, a, rfl, _⟩ := h
    rfl
  · obtain ⟨v, L, t, a, rfl, rt, W0, nd, k⟩ := h
    refine ⟨_, (pss_cons (ps_set (i := 2) sc_first_words.nd rfl (by first | exact Or.inl rfl | exact Or.inr rfl) (pe_disp (pps_cons pe_int pe_str pps_nil) (by rfl) (by rfl) (fun z => by cases z) (by decide)))
  (pss_cons (ps_set (i := 3) sc_first_words.nd rfl (by first | exact Or.inl rfl | exact Or.inr rfl) (pe_c c_reached hr (by first | decide | omega) rfl (pa_cons (pv 1) pa_nil)))
  (pss_cons (ps_for PassesOwn.never rfl (pi_list (pv 3)) (pg_name (i := 4) sc_first_words.nd rfl (by first | exact Or.inl rfl | exact Or.inr rfl)) (pss_one (ps_for PassesOwn.never rfl (pi_zipZ rfl B.zip (pa_cons (pv 0) (pa_cons (pe_ix (r := rIxT K) ix_tup (pv 1) (pv 4) (fun _ _ => rfl)) pa_nil))) (pg_tup rfl (pgs_cons (pg_name (i := 5) sc_first_words.nd rfl (by first | exact Or.inl rfl | exact Or.inr rfl)) (pgs_cons (pg_name (i := 6) sc_first_words.nd rfl (by first | exact Or.inl rfl | exact Or.inr rfl)) pgs_nil))) (pss_one (ps_if (pt_cmp (pc_dnotin (hu_of hr) (pv 6) (pv 2)) rfl) (pss_one (ps_dput (hu_of hr) (pv 2) (pv 6) (pe_op z_adds (pe_dget (hu_of hr) (pv 2) (pv 4) (fun _ _ => rfl)) (pv 5)) rfl)) pss_nil)))))
  (pss_one (ps_ret (pv 2)))))), ?_⟩
    refine zstart [some (.str (S L)), some (v), none, none, none, none, none] rfl ?_; try dsimp only [zK, zK2]
    have TB := W0.tab
    have h150 := W0.hi
    have hL4 := W0.wide
    have hs0 : 0 < t.length := TB.pos
    walk_at "zz"
    refine fun kp hkp => ?_
    simp only [tPairs]
    walk_at "zz"
    rw [empty_codes]
    refine ⟨upd_same, [(.inl 0, .str (S []))], rfl, by show 1 ≤ 15; omega, ?_⟩
    obtain ⟨H0, hH0⟩ : ∃ H0, H0 = upd (upd H kp (HO.dK [])) kp (HO.dK (mergeK [] [(.inl 0, .str (S []))])) := ⟨_, rfl⟩
    have e2 : H0 kp = some (.dK (kN [0] fun _ => .str (S []))) := by rw [hH0, upd_same]; rfl
    have s1 : Same H H0 := by rw [hH0]; exact ((Same.refl H).mutz hkp).mutz hkp
    rw [← hH0]
    clear hH0
    walk_at "zz"
    refine ⟨v, t, L.length, 0, rfl, rt.same s1, TB, by omega, by omega, TB.pos, fun op o H1 hO hop s2 eo => ?_⟩
    have hok : ¬ kp = op := ne_of_none e2 hop
    have e2 := s2 _ _ e2
    have s1 := s1.trans s2
    clear s2 hop
    have hO2 := hO
    obtain ⟨KK, hoK, hoL, hoJ⟩ := hO2.ex
    have hKK : KK = o.length := by
      rcases Nat.lt_or_ge o.length KK with z | z
      · have h1 := hoJ o.length z
        have h2 := (bfs_pre t 0 o.length (KK - o.length)).length_le
        rw [show o.length + (KK - o.length) = KK by omega, ← hoK] at h2
        omega
      · omega
    have hol : o.length ≤ t.length := by
      obtain ⟨h1, h2, _⟩ := hO.ok TB TB.pos
      have := nodup_le h1 (fun c hc => List.mem_range.mpr (h2 c hc))
      rwa [List.length_range] at this
    walk_at "zz"
    refine i_KL (SqL.of eo) ?_
    refine l_for (walk_list (xs := ivs o)) (fun kk σ H' => Same H H' ∧ ∃ (hd : Nat → List Nat) (v4 v5 v6 : Option V), H' op = some (.lst (ivs o)) ∧ H' kp = some (.dK (kN (bfs t 0 kk) fun s => .str (S (hd s)))) ∧ (∀ j s, (bfs t 0 kk)[j]? = some s → HdW L t s (hd s) ∧ (hd s).length ≤ j) ∧ ((bfs t 0 kk, hd) = (o.take kk).foldl (fun p s => fwRow L (t.getD s []) s p) ([0], fun _ => [])) ∧ σ = [some (.str (S L)), some v, some (.ref kp), some (.ref op), v4, v5, v6])
      ⟨s1, fun _ => [], none, none, none, eo, e2, fun j s hs => ?_, rfl, rfl⟩ (fun j σ H' _ q => SqL.of (by obtain ⟨_, _, _, _, _, q, _⟩ := q; exact q)) ?_ ?_
    · have hj := (List.getElem?_eq_some_iff.mp hs).1
      have hj : j < 1 := hj
      obtain rfl : j = 0 := by omega
      have := (Option.some.inj hs).symm
      subst this
      exact ⟨⟨by simp, rfl⟩, Nat.le_refl _⟩
    · clear s1 e2 eo
      rintro kk x σ H3 H3' hk ⟨s3, hd, v4, v5, v6, eo, ek, hh, hpk, rfl⟩ ⟨rfl, hx⟩
      rw [ivs_len] at hk
      have hx : x = .int ((o[kk] : Nat) : Int) := by
        unfold ivs at hx
        rw [List.getElem?_map, List.getElem?_eq_getElem hk] at hx
        exact (Option.some.inj hx).symm
      subst hx
      have hkb : kk < (bfs t 0 kk).length := hoJ kk (by omega)
      have hbo : (bfs t 0 kk)[kk]? = some o[kk] := by
        have h1 : (bfs t 0 kk)[kk]? = some (bfs t 0 kk)[kk] := List.getElem?_eq_getElem hkb
        have h2 := pre_get (bfs_pre t 0 kk (KK - kk)) h1
        rw [show kk + (KK - kk) = KK by omega, ← hoK, List.getElem?_eq_getElem hk] at h2
        rw [h1, Option.some.inj h2]
      obtain ⟨hnd, hlt, h0⟩ := bfs_ok TB hs0 kk
      have hs : o[kk] < t.length := hlt _ (List.mem_of_getElem? hbo)
      obtain ⟨r0, r1, r2⟩ := TB.get hs
      have hnx : bfs t 0 (kk + 1) = addAll (bfs t 0 kk) t[o[kk]] := by
        show addAll (bfs t 0 kk) (t.getD ((bfs t 0 kk).getD kk 0) []) = _
        rw [List.getD_eq_getElem?_getD (l := bfs t 0 kk), hbo]
        show addAll (bfs t 0 kk) (t.getD o[kk] []) = _
        rw [r0]
      rw [hnx]
      clear hnx
      have hto : o.take (kk + 1) = o.take kk ++ [o[kk]] := by rw [List.take_add_one, List.getElem?_eq_getElem hk]; rfl
      rw [hto, List.foldl_append, ← hpk]
      clear hpk
      obtain ⟨hd0, hhd0⟩ : ∃ hd0, hd0 = hd := ⟨_, rfl⟩
      rw [← hhd0]
      have hrow0 : ([o[kk]].foldl (fun p s => fwRow L (t.getD s []) s p) (bfs t 0 kk, hd0)) = (List.range L.length).foldl (fwStep L t[o[kk]] o[kk]) (bfs t 0 kk, hd0) := by
        show fwRow L (t.getD o[kk] []) o[kk] (bfs t 0 kk, hd0) = _
        rw [r0]; rfl
      rw [hrow0]
      walk_at "zz"
      refine i_ixRp (rt.same s3) (rowget hs) fun x rx => ?_
      obtain ⟨pr, rfl, epr, _⟩ := rowD_rp rx
      clear rx
      walk_at "zz"
      refine i_KZ (.str (S L)) (.tup pr) rfl rfl (xs := L.map fun c => V.str (S [c])) (by show _ = (codes (S L)).map _; rw [codes_S]) (SqT.of epr) ?_
      refine l_for (walk_zipZ (K := K) (n := L.length) (xs := L.map fun c => V.str (S [c])) (ys := ivs t[o[kk]]) (by rw [List.length_map, ivs_len]; omega)) (fun i σ H' => Same H H' ∧ ∃ (hd : Nat → List Nat) (v5 v6 : Option V), H' op = some (.lst (ivs o)) ∧ H' pr = some (.tup (ivs t[o[kk]])) ∧ H' kp = some (.dK (kN (addAll (bfs t 0 kk) (t[o[kk]].take i)) fun s => .str (S (hd s)))) ∧ (∀ j s, (addAll (bfs t 0 kk) (t[o[kk]].take i))[j]? = some s → HdW L t s (hd s) ∧ (hd s).length ≤ j) ∧ ((addAll (bfs t 0 kk) (t[o[kk]].take i), hd) = (List.range i).foldl (fwStep L t[o[kk]] o[kk]) (bfs t 0 kk, hd0)) ∧
        σ = [some (.str (S L)), some v, some (.ref kp), some (.ref op), some (.int ((o[kk] : Nat) : Int)), v5, v6]) ⟨s3, hd, _, _, eo, epr, by rw [List.take_zero]; exact ek, by rw [List.take_zero]; exact hh, by rw [List.take_zero, hhd0]; rfl, rfl⟩ (fun i σ H' _ q => by
          obtain ⟨_, _, _, _, _, q, _⟩ := q
          exact ⟨by show _ = (codes (S L)).map _; rw [codes_S], SqT.of q⟩) ?_ ?_
      · clear eo ek hh s3 hhd0 v4 v5 v6 epr
        clear hd
        rintro i vv σ H8 H9 hi ⟨s8, hd, v5, v6, eo, epr, ek, hh, hpi, rfl⟩ ⟨T', x, y, rfl, hT', rfl, hx, hy⟩
        have hx : (L.map fun c => V.str (S [c]))[i]? = some x := hx
        have hy : (ivs t[o[kk]])[i]? = some y := hy
        rw [List.getElem?_map, List.getElem?_eq_getElem hi] at hx
        have hx := (Option.some.inj hx).symm
        subst hx
        have hir : i < t[o[kk]].length := by omega
        unfold ivs at hy
        rw [List.getElem?_map, List.getElem?_eq_getElem hir] at hy
        have hy := (Option.some.inj hy).symm
        subst hy
        have htk : t[o[kk]].take (i + 1) = t[o[kk]].take i ++ [t[o[kk]][i]] := by rw [List.take_add_one, List.getElem?_eq_getElem hir]; rfl
        have hdl : t[o[kk]][i] = dl t o[kk] i := by unfold dl; rw [r0, List.getD_eq_getElem?_getD, List.getElem?_eq_getElem hir]; rfl
        have hadd := addAll_snoc (bfs t 0 kk) (t[o[kk]].take i) t[o[kk]][i]
        rw [← htk] at hadd
        have hxl : t[o[kk]][i] < t.length := r2 _ (List.getElem_mem hir)
        have hlt2 : (addAll (bfs t 0 kk) (t[o[kk]].take i)).length ≤ t.length := by
          have := nodup_le (addAll_nd (t[o[kk]].take i) _ hnd) (fun c hc => List.mem_range.mpr (show c < t.length by
            rcases (addAll_mem _ _ _).mp hc with z | z
            · exact hlt c z
            · exact r2 c (List.mem_of_mem_take z)))
          rwa [List.length_range] at this
        have hko2 := pre_get (addAll_pre (t[o[kk]].take i) (bfs t 0 kk)) hbo
        have s9 : Same H8 (upd H8 T' (.tup [V.str (S [L[i]]), V.int ((t[o[kk]][i] : Nat) : Int)])) := (Same.refl H8).newz hT'
        have eT : upd H8 T' (.tup [V.str (S [L[i]]), V.int ((t[o[kk]][i] : Nat) : Int)]) T' = some (.tup [V.str (S [L[i]]), V.int ((t[o[kk]][i] : Nat) : Int)]) := upd_same
        rw [List.range_succ, List.foldl_append, ← hpi]
        clear hpi
        have hfs : ∀ o2, ([i].foldl (fwStep L t[o[kk]] o[kk]) (o2, hd)) = if t[o[kk]][i] ∈ o2 then (o2, hd) else (o2 ++ [t[o[kk]][i]], fun q => if q = t[o[kk]][i] then hd o[kk] ++ [L[i]] else hd q) := fun o2 => by
          show fwStep L t[o[kk]] o[kk] (o2, hd) i = _
          unfold fwStep
          rw [show t[o[kk]].getD i 0 = t[o[kk]][i] by rw [List.getD_eq_getElem?_getD, List.getElem?_eq_getElem hir]; rfl, show L.getD i 0 = L[i] by rw [List.getD_eq_getElem?_getD, List.getElem?_eq_getElem hi]; rfl]
        have hfs := hfs (addAll (bfs t 0 kk) (t[o[kk]].take i))
        rw [hfs]
        clear hfs
        generalize addAll (bfs t 0 kk) (t[o[kk]].take i) = o2 at eo ek hadd hlt2 hko2 hh
        generalize addAll (bfs t 0 kk) (t[o[kk]].take (i + 1)) = o3 at hadd ⊢
        obtain ⟨hs1, hs2⟩ := hh kk _ hko2
        have hks : kk < o2.length := (List.getElem?_eq_some_iff.mp hko2).1
        have hnew : HdW L t t[o[kk]][i] (hd o[kk] ++ [L[i]]) := by
          refine ⟨fun c hc => ?_, ?_⟩
          · rcases List.mem_append.mp hc with z | z
            · exact hs1.wd c z
            · rw [List.mem_singleton.mp z]; exact List.getElem_mem hi
          · rw [led_ixW nd hi, hs1.led, hdl]
        clear hdl htk
        generalize t[o[kk]][i] = z at hadd hxl hnew s9 eT ⊢
        generalize upd H8 T' (.tup [V.str (S [L[i]]), V.int ((z : Nat) : Int)]) = H9 at s9 eT
        have eo := s9 _ _ eo
        have ek := s9 _ _ ek
        have epr := s9 _ _ epr
        have s89 := s8.trans s9
        have nkp : ¬ kp = pr := fun e => by rw [e, epr] at ek; cases ek
        clear s8 s9 hT'
        walk_at "zz"
        refine i_dnot ?_
        walk_at "zz"
        by_cases hz : z ∈ o2
        · rw [if_pos hz] at hadd
          subst hadd
          refine ⟨kp, _, rfl, kN_dget ek hz, ?_⟩
          refine ⟨false, rfl, ?_⟩
          walk_at "zz"
          exact ⟨s89, hd, _, _, eo, epr, ek, hh, by rw [if_pos hz], rfl⟩
        · rw [if_neg hz] at hadd
          subst hadd
          refine ⟨kp, _, rfl, kN_dno ek hz, ?_⟩
          refine ⟨true, rfl, ?_⟩
          walk_at "zz"
          refine i_dput ?_
          walk_at "zz"
          refine i_dget ?_
          walk_at "zz"
          refine ⟨kp, _, rfl, kN_dget ek (List.mem_of_getElem? hko2), ?_⟩
          walk_at "zz"
          obtain ⟨hd', hhd'⟩ : ∃ hd' : Nat → List Nat, hd' = fun q => if q = z then hd o[kk] ++ [L[i]] else hd q := ⟨_, rfl⟩
          have hn2 : hd' z = hd o[kk] ++ [L[i]] := by rw [hhd']; exact if_pos rfl
          have hold : ∀ p ∈ o2, hd' p = hd p := fun p hp => by rw [hhd']; exact if_neg fun (e : p = z) => hz (e ▸ hp)
          have hput := kN_dputW (g := fun s => V.str (S (hd' s))) ek hz (by omega) (fun x hx => by rw [hold x hx])
          rw [hn2] at hput
          refine ⟨kp, _, rfl, hput, ?_⟩
          walk_at "zz"
          refine ⟨s89.mutz hkp, hd', _, _, by rw [upd_ne (Ne.symm hok)]; exact eo, by rw [upd_ne (Ne.symm nkp)]; exact epr, by rw [upd_same], fun j q hq => ?_, by rw [if_neg hz, hhd'], rfl⟩
          by_cases hjl : j < o2.length
          · rw [List.getElem?_append_left hjl] at hq
            rw [hold q (List.mem_of_getElem? hq)]
            exact hh j q hq
          · have hj2 := (List.getElem?_eq_some_iff.mp hq).1
            rw [List.length_append, List.length_cons, List.length_nil] at hj2
            rw [List.getElem?_append_right (by omega), show j - o2.length = 0 by omega] at hq
            have hq := (Option.some.inj hq).symm
            subst hq
            rw [hn2]
            refine ⟨hnew, ?_⟩
            rw [List.length_append, List.length_cons, List.length_nil]; omega
      · rintro σ H8 ⟨s8, hd, v5, v6, eo, epr, ek, hh, hpi, rfl⟩
        rw [List.take_of_length_le (by omega)] at ek hh hpi
        walk_at "zz"
        exact ⟨s8, hd, _, _, _, eo, ek, hh, hpi, rfl⟩
    · rintro σ H3 ⟨s3, hd, v4, v5, v6, eo, ek, hh, hpk, rfl⟩
      rw [ivs_len, List.take_length] at hpk
      rw [ivs_len, ← hKK, ← hoK] at ek hh
      walk_at "zz"
      refine k kp o hd H3 hO (by unfold fwHd; rw [← hpk]) (fun s hs => ?_) hkp s3 ek
      obtain ⟨j, hj⟩ := List.mem_iff_getElem?.mp hs
      obtain ⟨h1, h2⟩ := hh j s hj
      have := (List.getElem?_eq_some_iff.mp hj).1
      exact ⟨h1, by omega⟩
end
end Y

namespace Y
open PySem PySem.Spec PyProof.Rows L2 Z
/-! ### [.. for x in .. if .. for y in .. if ..] -/
section
variable {σ σ2 : L2.St} {H : Hp} {Q : VK}
/-- the second walk, from which Nx is reached -/
def IN2 (J1 : It) (g1 : TG) (tt1 : TT) (te : TE) (vs1 : List Nat) (σ2 : L2.St) (D : Addr) (Nx : Hp → Prop) (H4 : Hp) : Prop := ∃ W1 : Nat → Nat → Hp → Prop, (∃ m, W1 0 m H4) ∧ ∀ j k H, W1 j k H →
  (J1.stop j H ∧ Nx H) ∨ (J1.go j H ∧ ∃ Nx1 : Hp → Prop, (∀ H', Nx1 H' → ∃ k', k' < k ∧ W1 (j + 1) k' H') ∧ ∀ x H', J1.yld j H x H' → g1 x (wipe σ2 vs1) H' fun σ3 H5 => wipe σ3 vs1 = wipe σ2 vs1 ∧ tt1 σ3 H5 fun b H6 =>
    if b = true then te σ3 H6 fun y H7 => ∃ acc, H7 D = some (.lst acc) ∧ acc.length < sizeLine ∧ Nx1 (upd H7 D (.lst (acc ++ [y]))) else Nx1 H6)
def LC2 (J : It) (g : TG) (tt : TT) (wi1 : TI) (g1 : TG) (tt1 : TT) (te : TE) (vs vs1 : List Nat) (σ : L2.St) (H1 : Hp) (Q : VK) (D : Addr) : Prop := ∃ W : Nat → Nat → Hp → Prop, (∃ m, W 0 m (upd H1 D (.lst []))) ∧ ∀ i m H, W i m H →
  (J.stop i H ∧ Q (.ref D) H) ∨ (J.go i H ∧ ∃ Nx : Hp → Prop, (∀ H', Nx H' → ∃ m', m' < m ∧ W (i + 1) m' H') ∧ ∀ x H', J.yld i H x H' → g x (wipe σ vs) H' fun σ2 H2 => wipe σ2 vs = wipe σ vs ∧ tt σ2 H2 fun b H3 =>
    if b = true then wi1 σ2 H3 fun J1 H4 => IN2 J1 g1 tt1 te vs1 σ2 D Nx H4 else Nx H3)
theorem i_lc2 {wi wi1 : TI} {g g1 : TG} {tt tt1 : TT} {te : TE} {vs vs1 : List Nat} (q : wi σ H fun J H1 => ∀ D, H1 D = none → LC2 J g tt wi1 g1 tt1 te vs vs1 σ H1 Q D) : tLc2 wi g tt wi1 g1 tt1 te vs vs1 σ H Q := q
theorem l_lc2 {J : It} {n : Nat} {G : Hp → Prop} {Y : Nat → Hp → V → Hp → Prop} (w : Walk J n G Y) {g g1 : TG} {tt tt1 : TT} {wi1 : TI} {te : TE} {vs vs1 : List Nat} {Dl : Addr} (W : L2.St) (hw : wipe σ vs = W) (Pv : Nat → Hp → Prop) (h0 : Pv 0 (upd H Dl (.lst []))) (hG : ∀ i H, i ≤ n → Pv i H → G H)
    (hs : ∀ i x H H', i < n → Pv i H → Y i H x H' → g x W H' fun σ2 H2 => wipe σ2 vs = W ∧ tt σ2 H2 fun b H3 => if b = true then wi1 σ2 H3 fun J1 H4 => IN2 J1 g1 tt1 te vs1 σ2 Dl (Pv (i + 1)) H4 else Pv (i + 1) H3)
    (hd : ∀ H, Pv n H → Q (.ref Dl) H) : LC2 J g tt wi1 g1 tt1 te vs vs1 σ H Q Dl := by
  subst hw
  refine ⟨fun i m H1 => m = n - i ∧ i ≤ n ∧ Pv i H1, ⟨n, rfl, Nat.zero_le _, h0⟩, ?_⟩
  rintro i m H1 ⟨rfl, hi, p⟩
  by_cases hlt : i < n
  · exact .inr ⟨w.goes i H1 hlt (hG _ _ hi p), Pv (i + 1), fun H' p' => ⟨n - (i + 1), by omega, rfl, hlt, p'⟩, fun x H2 y => hs i x H1 H2 hlt p (w.yields i _ x _ hlt (hG _ _ hi p) y)⟩
  · have e : i = n := by omega
    subst e
    exact .inl ⟨w.stops _ (hG _ _ hi p), hd _ p⟩
theorem l_in2 {J : It} {n : Nat} {G : Hp → Prop} {Y : Nat → Hp → V → Hp → Prop} (w : Walk J n G Y) {g1 : TG} {tt1 : TT} {te : TE} {vs1 : List Nat} {Dl : Addr} {Nx : Hp → Prop} (W : L2.St) (hw : wipe σ2 vs1 = W) (Pv : Nat → Hp → Prop) (h0 : Pv 0 H) (hG : ∀ i H, i ≤ n → Pv i H → G H)
    (hs : ∀ i x H H', i < n → Pv i H → Y i H x H' → g1 x W H' fun σ3 H5 => wipe σ3 vs1 = W ∧ tt1 σ3 H5 fun b H6 => if b = true then te σ3 H6 (CEnd Dl (Pv (i + 1))) else Pv (i + 1) H6)
    (hd : ∀ H, Pv n H → Nx H) : IN2 J g1 tt1 te vs1 σ2 Dl Nx H := by
  subst hw
  refine ⟨fun i m H1 => m = n - i ∧ i ≤ n ∧ Pv i H1, ⟨n, rfl, Nat.zero_le _, h0⟩, ?_⟩
  rintro i m H1 ⟨rfl, hi, p⟩
  by_cases hlt : i < n
  · exact .inr ⟨w.goes i H1 hlt (hG _ _ hi p), Pv (i + 1), fun H' p' => ⟨n - (i + 1), by omega, rfl, hlt, p'⟩, fun x H2 y => hs i x H1 H2 hlt p (w.yields i _ x _ hlt (hG _ _ hi p) y)⟩
  · have e : i = n := by omega
    subst e
    exact .inl ⟨w.stops _ (hG _ _ hi p), hd _ p⟩
theorem cend2 {Dl : Addr} {P : Hp → Prop} {y : V} {acc : List V} (h : H Dl = some (.lst acc)) (hl : acc.length < 100000) (p : P (upd H Dl (.lst (acc ++ [y])))) : CEnd Dl P y H := ⟨acc, h, lt_line hl, p⟩
end
end Y

namespace Y
open PySem PySem.Spec PyProof.Rows L2 Z
open C8 (tCut pss_cut Cal pe_c Met pe_mt pe_mt0 Mak pe_mk pe_gc)
/-! ### deeds of machines of any size -/
def spEndsW : Sp := fun vs H Q _ => ∃ (L : List Nat) (vt : V) (t : List (List Nat)) (a u : List Nat), vs = [.str (S L), vt, .str (S u)] ∧ Rp N0 H vt (tabD t) ∧ Wide L t a ∧ (∀ c ∈ u, c ∈ L) ∧ ∀ (p : Addr) H', Same H H' → H' p = some (.tup (ivs (endsL L t u))) → Q (.ref p) H'
def spThenW : Sp := fun vs H Q _ => ∃ (p q : Addr) (g k : List Nat), vs = [.ref p, .ref q] ∧ H p = some (.tup (ivs g)) ∧ H q = some (.tup (ivs k)) ∧ g.length ≤ 200 ∧ (∀ x ∈ g, x < k.length) ∧ ∀ (r : Addr) H', Same H H' → H' r = some (.tup (ivs (g.map (ap k)))) → Q (.ref r) H'
def spDoneW (K : PySem.W.Frag) (C C2 : Addr) : Sp := fun vs H Q E => ∃ (m : Addr) (L : List Nat) (t : List (List Nat)) (a : List Nat) (x y : V) (d e : PyData), vs = [.ref m, x, y] ∧ IsM K H C m L t a ∧ Wide L t a ∧ Rp N0 H x d ∧ Rp N0 H y e ∧ ∀ o, Order t 0 o →
  ((isDeed (reps t a o).length d && isDeed (reps t a o).length e) = false → ∀ H', Same H H' → E (.ref C2) none H') ∧
  (∀ g k, d = rowD g → e = rowD k → g.length = (reps t a o).length → k.length = (reps t a o).length → (∀ x ∈ g, x < (reps t a o).length) → (∀ x ∈ k, x < (reps t a o).length) → ∀ (p : Addr) H', Same H H' → H' p = some (.tup (ivs (g.map (ap k)))) → Q (.ref p) H')
def spDeedW (K : PySem.W.Frag) (C C2 : Addr) : Sp := fun vs H Q E => ∃ (m : Addr) (L : List Nat) (t : List (List Nat)) (a : List Nat) (v : V) (d : PyData), vs = [.ref m, v] ∧ IsM K H C m L t a ∧ Wide L t a ∧ Rp N0 H v d ∧ Sml d ∧
  (isWord L d = false → ∀ H', Same H H' → E (.ref C2) none H') ∧ (∀ u o, d = .str (S u) → isWord L d = true → Order t 0 o → ∀ (p : Addr) H', Same H H' → H' p = some (.tup (ivs (endsL L (canT t a o) u))) → Q (.ref p) H')
section
variable {P : Program} {w : World} {K : PySem.W.Frag} {mg : Str → Option Value} {base : Heap}
theorem c_ends_ofW (d : DF K mg "ends_of" s_ends_of) (B : Bi mg) (c_end_of : Cal P w K mg base 1 "end_of" spEndOf []) : Cal P w K mg base 2 "ends_of" spEndsW [] := by
  refine d.cal (N := n_ends_of) sc_ends_of (fun _ _ _ _ _ _ us hl => match us, hl with | [_, _, _], _ => rfl) (fun vs H Q E h => ?_) (fun f cdv A outer s H vs Q E hr h => ?_)
  · obtain ⟨L, vt, t, a, u, rfl, _⟩ := h
    rfl
  · obtain ⟨L, vt, t, a, u, rfl, rt, pt, hu, k⟩ := h
    refine ⟨_, (pss_one (ps_ret (pe_callTy (r := zTuple K) zc_tuple (by rfl) B.tuple (by decide +kernel) (pa_cons (pe_lc (own := [("state", 3)]) (g := gName 3) (tt := tYes) (by rfl) sc_ends_of.nd (pi_range1 rfl B.range (pa_cons (pe_callB (r := zLen K) zc_len (by rfl) B.len (by decide +kernel) (pa_cons (pv 1) pa_nil)) pa_nil)) (blkOk_by (N := n_ends_of) (sc := defScope s_ends_of) (by decide +kernel)) (fun _ _ _ _ _ => (pg_name (i := 3) sc_ends_of.nd rfl (by first | exact Or.inl rfl | exact Or.inr rfl))) (fun _ _ _ _ _ => pts_nil) (fun _ _ _ _ _ => (pe_c c_end_of hr (by first | decide | omega) rfl (pa_cons (pv 0) (pa_cons (pv 1) (pa_cons (pv 3) (pa_cons (pv 2) pa_nil))))))) pa_nil)))), ?_⟩
    refine zstart [some (.str (S L)), some (vt), some (.str (S u)), none] rfl ?_; try dsimp only [zK, zK2]
    obtain ⟨p, xs, rfl, ep, _, ra⟩ := Rp.tupS rt
    have hxl : xs.length = t.length := by rw [ra.length, List.length_map]
    have hL4 := pt.wide
    have h6 := pt.hi
    walk_at "zz"
    refine i_lenT (SqT.of ep) ?_
    rw [hxl]
    refine i_KR1 (by omega) ?_
    rw [Int.toNat_natCast]
    refine fun Dl hD => ?_
    refine l_mapR hD [some (.str (S L)), some (.ref p), some (.str (S u)), none] rfl (fun _ => rfl) (by omega) (fun i => .int (led L t i u : Int)) (fun i H1 P1 hi s1 hP => ?_) fun H1 s1 e => ?_
    · refine zte [some (.str (S L)), some (.ref p), some (.str (S u)), some (.int (i : Int))] rfl ?_
      walk_at "zz"
      exact ⟨L, .ref p, t, i, u, rfl, rt.same s1, by omega, pt.tab.row, hi, hu, fun H2 s2 => hP _ s2⟩
    · walk_at "zz"
      refine i_tupleL (SqL.of e) fun q hq => ?_
      refine k q _ (s1.newz hq) ?_
      rw [upd_same]
      unfold ivs endsL
      rw [List.map_map]; rfl
theorem c_thenW (d : DF K mg "then" s_then) (B : Bi mg) : Cal P w K mg base 1 "then" spThenW [] := by
  refine d.cal (N := n_then) sc_then (fun _ _ _ _ _ _ us hl => match us, hl with | [_, _], _ => rfl) (fun vs H Q E h => ?_) (fun f cdv A outer s H vs Q E hr h => ?_)
  · obtain ⟨p, q, g, k, rfl, _⟩ := h
    rfl
  · obtain ⟨p, q, g, k, rfl, ep, eq, hg, hlt, kk⟩ := h
    refine ⟨_, (pss_one (ps_ret (pe_callTy (r := zTuple K) zc_tuple (by rfl) B.tuple (by decide +kernel) (pa_cons (pe_lc (own := [("state", 2)]) (g := gName 2) (tt := tYes) (by rfl) sc_then.nd (pi_tup (pv 0)) (blkOk_by (N := n_then) (sc := defScope s_then) (by decide +kernel)) (fun _ _ _ _ _ => (pg_name (i := 2) sc_then.nd rfl (by first | exact Or.inl rfl | exact Or.inr rfl))) (fun _ _ _ _ _ => pts_nil) (fun _ _ _ _ _ => (pe_ix (r := rIxT K) ix_tup (pv 1) (pv 2) (fun _ _ => rfl)))) pa_nil)))), ?_⟩
    refine zstart [some (.ref p), some (.ref q), none] rfl ?_; try dsimp only [zK, zK2]
    walk_at "zz"
    refine i_KT (SqT.of ep) ?_
    refine fun Dl hD => ?_
    refine l_map (walk_tup (xs := ivs g)) hD [some (.ref p), some (.ref q), none] rfl (fun _ => rfl) (ivs g) rfl (by unfold ivs; rw [List.length_map]; omega) (fun i H1 x H2 _ _ y => ⟨y.1, y.2⟩) (fun H1 s1 => SqT.of (s1 _ _ ep)) (fun v => match v with | .int i => .int (ap k i.toNat : Int) | _ => .non) (fun x H1 P1 hx1 s1 hP => ?_) fun H1 s1 e => ?_
    · obtain ⟨z, hz, rfl⟩ := List.mem_map.mp hx1
      have hzk := hlt z hz
      refine zte [some (.ref p), some (.ref q), some (.int (z : Int))] rfl ?_
      walk_at "zz"
      refine i_ixT (SqT.of (s1 _ _ eq)) (atI_nat (v := .int (ap k z : Int)) (by
        unfold ivs ap
        rw [List.getElem?_map, List.getD_eq_getElem?_getD, List.getElem?_eq_getElem hzk]; rfl)) ?_
      exact hP _ (Same.refl _)
    · walk_at "zz"
      refine i_tupleL (SqL.of e) fun r hr2 => ?_
      refine kk r _ (s1.newz hr2) ?_
      rw [upd_same]
      unfold ivs
      rw [List.map_map, List.map_map]; rfl
theorem c_deedW {C C2 : Addr} (d : DF K mg "deed" s_deed) (B : Bi mg) (T_NoWord : OwnX K mg "NoWord" C2) (c_Machine_letters : Met P w K mg base 1 C "letters" (spLettersOf K C) []) (c_is_word : Cal P w K mg base 1 "is_word" spIsWord []) (c_least : Cal P w K mg base 8 "least" (spLeast K C) []) (c_Machine_table : Met P w K mg base 1 C "table" (spTableOf K C) []) (c_ends_of : Cal P w K mg base 2 "ends_of" spEndsW []) : CalX P w K mg base 9 "deed" (spDeedW K C C2) := by
  refine calX d (N := n_deed) sc_deed (fun _ _ _ _ _ _ us hl => match us, hl with | [_, _], _ => rfl) (fun vs H Q E h => ?_) (fun f cdv A outer s H vs Q E hr h => ?_)
  · obtain ⟨m, L, t, a, v, d, rfl, _⟩ := h
    rfl
  · obtain ⟨m, L, t, a, v, d, rfl, hm, pt, r, sm, k1, k2⟩ := h
    refine ⟨_, (pss_cons (ps_if (pt_not (pt_val (pe_c c_is_word hr (by first | decide | omega) rfl (pa_cons (pe_mt0 c_Machine_letters hr (by first | decide | omega) (pv 0)) (pa_cons (pv 1) pa_nil))))) (pss_one (ps_raise0 rfl T_NoWord (takes_of rfl rfl rfl rfl) rfl)) pss_nil)
  (PSs.nox (pss_one (ps_ret (pe_c c_ends_of hr (by first | decide | omega) rfl (pa_cons (pe_mt0 c_Machine_letters hr (by first | decide | omega) (pv 0)) (pa_cons (pe_mt0 c_Machine_table hr (by first | decide | omega) (pe_c c_least hr (by first | decide | omega) rfl (pa_cons (pv 0) pa_nil))) (pa_cons (pv 1) pa_nil)))))))), ?_⟩
    refine zstart [some (.ref m), some (v)] rfl ?_; try dsimp only [zK, zK2]
    obtain ⟨dx, vt, va, em, rt, ra⟩ := hm.ex
    walk_at "zz"
    refine i_meth ?_
    walk_at "zz"
    refine ⟨m, dx, _, rfl, em, rfl, m, L, t, a, rfl, hm, ?_⟩
    walk_at "zz"
    refine ⟨L, v, d, rfl, r, sm, fun H1 s1 => ?_⟩
    walk_at "zz"
    refine brnb (fun hb => ?_) fun hb => ?_
    · walk_at "zz"
      exact k1 hb _ s1
    obtain ⟨u, rfl, rfl⟩ := r.isStr (isWord_str hb)
    have hu : ∀ c ∈ u, c ∈ L := fun c hc => of_decide_eq_true (List.all_eq_true.mp hb c hc)
    walk_at "zz"
    refine i_meth ?_
    walk_at "zz"
    refine ⟨m, dx, _, rfl, s1 _ _ em, rfl, m, L, t, a, rfl, hm.same s1, ?_⟩
    walk_at "zz"
    refine i_meth ?_
    walk_at "zz"
    refine ⟨m, L, t, a, rfl, hm.same s1, pt.big, fun m' o H2 hO hm' s2 im' => ?_⟩
    obtain ⟨dx', vt', va', em', rt', ra'⟩ := im'.ex
    walk_at "zz"
    refine ⟨m', dx', _, rfl, em', rfl, m', L, _, _, rfl, im', fun vt2 rt2 => ?_⟩
    walk_at "zz"
    refine ⟨L, vt2, _, _, u, rfl, rt2, pt.can hO, hu, fun p H3 s3 ep => ?_⟩
    exact k2 u o rfl hb hO p H3 ((s1.trans s2).trans s3) ep
end
end Y

namespace Y
open PySem PySem.Spec PyProof.Rows L2 Z
open C8 (tCut pss_cut Cal pe_c Met pe_mt pe_mt0 Mak pe_mk pe_gc)
abbrev s_strict_pairs : Stmt := topS 36
abbrev n_strict_pairs : List Str := ["machine", "letters", "table", "steps", "letter", "one", "other"]
theorem sc_strict_pairs : FnScope n_strict_pairs ["machine"] (defScope s_strict_pairs) := ⟨rfl, rfl, rfl, by decide +kernel, rfl, by decide +kernel, by decide +kernel⟩

/-- whether two letters may not change places -/
def strictB (L : List Nat) (T : List (List Nat)) (c : Nat × Nat) : Bool := decide (c.1 < c.2) && !decide (endsL L T ([c.1] ++ [c.2]) = endsL L T ([c.2] ++ [c.1]))
def strictL (L : List Nat) (T : List (List Nat)) : List (Nat × Nat) := (L.flatMap fun x => L.map fun y => (x, y)).filter (strictB L T)
/-- pairs of letters, as tuples -/
abbrev PrsAt (H : Hp) : List Addr → List (Nat × Nat) → Prop := Paired fun q c => H q = some (.tup [.str (S [c.1]), .str (S [c.2])])
def spStrict (K : PySem.W.Frag) (C : Addr) : Sp := fun vs H Q _ => ∃ (m : Addr) (L : List Nat) (t : List (List Nat)) (a : List Nat), vs = [.ref m] ∧ IsM K H C m L t a ∧ Wide L t a ∧ L.Nodup ∧
  ∀ (p : Addr) (ps : List Addr) (o : List Nat) H', Same H H' → Order t 0 o → H' p = some (.lst (ps.map V.ref)) → PrsAt H' ps (strictL L (canT t a o)) → Q (.ref p) H'
theorem ends_inW {L : List Nat} {T : List (List Nat)} (TB : Tab T L.length) {v w : List Nat} : ∀ s ∈ endsL L T v, s < (endsL L T w).length := fun s hs => by
  rw [ends_len]
  obtain ⟨q, hq, rfl⟩ := List.mem_map.mp hs
  rw [led_rn]
  exact rn_lt TB _ _ (List.mem_range.mp hq)
theorem ends_apW {L : List Nat} {T : List (List Nat)} (TB : Tab T L.length) {v w : List Nat} : (endsL L T v).map (ap (endsL L T w)) = endsL L T (v ++ w) := by
  unfold endsL
  rw [List.map_map]
  refine List.map_congr_left fun s hs => ?_
  have hs := List.mem_range.mp hs
  have hq : led L T s v < T.length := by rw [led_rn]; exact rn_lt TB _ _ hs
  show ((List.range T.length).map fun s => led L T s w).getD (led L T s v) 0 = led L T s (v ++ w)
  rw [List.getD_eq_getElem?_getD, List.getElem?_map, List.getElem?_range hq]
  unfold led
  rw [List.foldl_append]; rfl
theorem i_neRow5 {K : PySem.W.Frag} {H : Hp} {Q : VK} {p q : Addr} {g k : List Nat} (ep : H p = some (.tup (ivs g))) (eq : H q = some (.tup (ivs k))) (z : Q (.bl (!decide (g = k))) H) : rNeD K (.ref p) (.ref q) H Q :=
  ⟨rowD g, rowD k, Rp.dp (N := N0) (d := rowD g) (noD_ids g) (.tup ep id (ids_of _)), Rp.dp (N := N0) (d := rowD k) (noD_ids k) (.tup eq id (ids_of _)), shaped_row g, shaped_row k, by rw [eqv_row]; exact z⟩
theorem pairI30 {α β : Type} {R R' : α → β → Prop} (h : ∀ a b, R a b → R' a b) : ∀ {as : List α} {bs : List β}, Paired R as bs → Paired R' as bs
  | _, _, .nil => .nil
  | _, _, .cons e r => .cons (h _ _ e) (pairI30 h r)
section
variable {P : Program} {w : World} {K : PySem.W.Frag} {mg : Str → Option Value} {base : Heap}
theorem c_strict_pairs {C : Addr} (d : DF K mg "strict_pairs" s_strict_pairs) (B : Bi mg) (c_Machine_letters : Met P w K mg base 1 C "letters" (spLettersOf K C) []) (c_Machine_table : Met P w K mg base 1 C "table" (spTableOf K C) []) (c_least : Cal P w K mg base 8 "least" (spLeast K C) []) (c_ends_of : Cal P w K mg base 2 "ends_of" spEndsW []) (c_then : Cal P w K mg base 1 "then" spThenW []) : Cal P w K mg base 9 "strict_pairs" (spStrict K C) [] := by
  refine d.cal (N := n_strict_pairs) sc_strict_pairs (fun _ _ _ _ _ _ us hl => match us, hl with | [_], _ => rfl) (fun vs H Q E h => ?_) (fun f cdv A outer s H vs Q E hr h => ?_)
  · obtain ⟨m, L, t, a, rfl, _⟩ := h
    rfl
  · obtain ⟨m, L, t, a, rfl, im, W0, nd, k⟩ := h
    refine ⟨_, (pss_cons (ps_set (i := 1) sc_strict_pairs.nd rfl (by first | exact Or.inl rfl | exact Or.inr rfl) (pe_mt0 c_Machine_letters hr (by first | decide | omega) (pv 0)))
  (pss_cons (ps_set (i := 2) sc_strict_pairs.nd rfl (by first | exact Or.inl rfl | exact Or.inr rfl) (pe_mt0 c_Machine_table hr (by first | decide | omega) (pe_c c_least hr (by first | decide | omega) rfl (pa_cons (pv 0) pa_nil))))
  (pss_cons (ps_set (i := 3) sc_strict_pairs.nd rfl (by first | exact Or.inl rfl | exact Or.inr rfl) (pe_dc (own := [("letter", 4)]) (g := gName 4) (tt := tYes) (by rfl) sc_strict_pairs.nd (pi_str (pv 1)) (blkOk_by (N := n_strict_pairs) (sc := defScope s_strict_pairs) (by decide +kernel)) (fun _ _ _ _ _ => (pg_name (i := 4) sc_strict_pairs.nd rfl (by first | exact Or.inl rfl | exact Or.inr rfl))) (fun _ _ _ _ _ => pts_nil) (fun _ _ _ _ _ => (pv 4)) (fun _ _ _ _ _ => (pe_c c_ends_of hr (by first | decide | omega) rfl (pa_cons (pv 1) (pa_cons (pv 2) (pa_cons (pv 4) pa_nil)))))))
  (pss_one (ps_ret (pe_lc2 (own := [("one", 5), ("other", 6)]) (vs1 := [6]) (g := gName 5) (g1 := gName 6) (tt := tYes) (wi1 := iStr (tVar 1)) (by rfl) sc_strict_pairs.nd (pi_str (pv 1)) (blkOk_by (N := n_strict_pairs) (sc := defScope s_strict_pairs) (by decide +kernel)) (by decide) (fun _ _ _ _ _ => (pg_name (i := 5) sc_strict_pairs.nd rfl (by first | exact Or.inl rfl | exact Or.inr rfl))) (fun _ _ _ _ _ => pts_nil) (fun _ _ _ _ _ => (by refine pi_str ?_; exact pv 1)) (fun _ _ _ _ _ => (pg_name (i := 6) sc_strict_pairs.nd rfl (by first | exact Or.inl rfl | exact Or.inr rfl))) (fun _ _ _ _ _ => (pts_one (PW.pt (pw_and (pt_cmpR z_lts (pv 5) (pv 6) (nomark _)) (pw_and1 (pt_cmpR (r := rNeD K) (op_neD hr.units) (pe_c c_then hr (by first | decide | omega) rfl (pa_cons (pe_dget (hu_of hr) (pv 3) (pv 5) (fun _ _ => rfl)) (pa_cons (pe_dget (hu_of hr) (pv 3) (pv 6) (fun _ _ => rfl)) pa_nil))) (pe_c c_then hr (by first | decide | omega) rfl (pa_cons (pe_dget (hu_of hr) (pv 3) (pv 6) (fun _ _ => rfl)) (pa_cons (pe_dget (hu_of hr) (pv 3) (pv 5) (fun _ _ => rfl)) pa_nil))) (nomark _))))))) (fun _ _ _ _ _ => (pe_tup (pa_cons (pv 5) (pa_cons (pv 6) pa_nil)))))))))), ?_⟩
    refine zstart [some (.ref m), none, none, none, none, none, none] rfl ?_; try dsimp only [zK, zK2]
    obtain ⟨dx, vt, va, em, _, _⟩ := im.ex
    have hL4 := W0.wide
    walk_at "zz"
    refine i_meth ?_
    walk_at "zz"
    refine ⟨m, dx, _, rfl, em, rfl, m, L, t, a, rfl, im, ?_⟩
    walk_at "zz"
    refine i_meth ?_
    walk_at "zz"
    refine ⟨m, L, t, a, rfl, im, W0.big, fun m2 o H2 hO hm2 s2 im2 => ?_⟩
    obtain ⟨dx2, vt2, va2, em2, _, _⟩ := im2.ex
    refine ⟨m2, dx2, _, rfl, em2, rfl, m2, L, _, _, rfl, im2, fun vT rT => ?_⟩
    have W2 := W0.can (a := a) hO
    obtain ⟨T, hT⟩ : ∃ T, T = canT t a o := ⟨_, rfl⟩
    rw [← hT] at rT W2
    walk_at "zz"
    refine i_dc ?_
    walk_at "zz"
    intro D hD
    have hSl : (S L).cps.size = L.length := S_len L
    refine l_dcK (walk_str (z := S L)) [some (.ref m), some (.str (S L)), some vT, none, none, none, none] rfl (fun j H' => Same H2 H' ∧ ∃ g : Nat → Addr, H' D = some (.dK (kS (L.take j) fun c => .ref (g c))) ∧ ∀ c ∈ L.take j, H' (g c) = some (.tup (ivs (endsL L T [c])))) ⟨(Same.refl H2).newz hD, fun _ => 0, upd_same, fun c hc => by cases hc⟩ (fun _ _ _ _ => trivial) ?_ ?_
    · rintro j x H3 H4 hj ⟨s3, g, eD, hg⟩ ⟨rfl, c, hc, rfl⟩
      have hj : j < L.length := by rw [← hSl]; exact hj
      have hc : L[j] = c := by
        rw [← Array.getElem?_toList] at hc
        have hc : L[j]? = some c := by simpa using hc
        rw [List.getElem?_eq_getElem hj] at hc
        exact Option.some.inj hc
      subst hc
      have htL : L.take (j + 1) = L.take j ++ [L[j]] := by rw [List.take_add_one, List.getElem?_eq_getElem hj]; rfl
      have hnL : L[j] ∉ L.take j := fun z => by
        have h3 : (L.take (j + 1)).Nodup := List.Sublist.nodup (List.take_sublist _ _) nd
        rw [htL] at h3
        exact (List.nodup_append.mp h3).2.2 _ z _ (List.mem_singleton.mpr rfl) rfl
      have hm : ∀ c ∈ [L[j]], c ∈ L := fun c hc => by rw [List.mem_singleton.mp hc]; exact List.getElem_mem hj
      generalize L[j] = c at htL hnL hm
      show gName 4 (V.str (S [c])) _ _ _
      refine i_gname ?_
      dsimp only [List.set]
      refine ⟨rfl, ?_⟩
      refine i_yes ?_
      refine iteT ?_
      walk_at "zz"
      refine ⟨L, vT, T, _, [c], rfl, rT.same s3, W2, hm, fun q H5 s5 e5 => ?_⟩
      have eD5 := s5 _ _ eD
      obtain ⟨g', hg'⟩ : ∃ g' : Nat → Addr, g' = fun x => if x = c then q else g x := ⟨_, rfl⟩
      have hgc : g' c = q := by rw [hg']; exact if_pos rfl
      have hgo : ∀ x ∈ L.take j, g' x = g x := fun x hx => by rw [hg']; exact if_neg fun (e : x = c) => hnL (e ▸ hx)
      refine ⟨_, .inr (S [c]), rfl, eD5, lt_line (by rw [kS_len, List.length_take]; omega), (s3.trans s5).mutz hD, g', ?_, fun x hx => ?_⟩
      · have hput := kS_put (f := fun x => V.ref (g' x)) hnL
        have e1 : kS (L.take j) (fun x => V.ref (g' x)) = kS (L.take j) fun x => .ref (g x) := List.map_congr_left fun x hx => congrArg (fun z => ((Sum.inr (S [x]) : Key), V.ref z)) (hgo x hx)
        rw [e1, hgc] at hput
        rw [upd_same, htL, ← hput]
      · rw [htL] at hx
        have nD : ∀ {b : Addr} {ys : List V}, H5 b = some (.tup ys) → ¬ b = D := fun e z => by rw [z, eD5] at e; cases e
        rcases List.mem_append.mp hx with z | z
        · have := s5 _ _ (hg x z)
          rw [hgo x z, upd_ne (nD this)]; exact this
        · rw [List.mem_singleton.mp z, hgc, upd_ne (nD e5)]; exact e5
    rintro H3 ⟨s3, g, eD, hg⟩
    rw [hSl, List.take_length] at eD hg
    have s03 := s2.trans s3
    clear s2 s3 rT im2 em2 hm2 hD
    walk_at "zz"
    refine i_lc2 ?_
    walk_at "zz"
    intro D2 hD2
    have nDD : ¬ D = D2 := ne_of_none eD hD2
    obtain ⟨prs, hprs⟩ : ∃ prs : Nat → List (Nat × Nat), prs = fun i => (L.take i).flatMap fun x => L.map fun y => (x, y) := ⟨_, rfl⟩
    refine l_lc2 (walk_str (z := S L)) [some (.ref m), some (.str (S L)), some vT, some (.ref D), none, none, none] rfl (fun i H' => Same H3 H' ∧ ∃ ps : List Addr, ps.length ≤ i * 4 ∧ H' D2 = some (.lst (ps.map V.ref)) ∧ PrsAt H' ps ((prs i).filter (strictB L T))) ⟨(Same.refl H3).newz hD2, [], Nat.le_refl _, upd_same, by rw [hprs]; exact .nil⟩ (fun _ _ _ _ => trivial) ?_ ?_
    · rintro i x H4 H4' hi ⟨s4, ps, hpl, eL4, hps⟩ ⟨rfl, c, hc, rfl⟩
      have hi : i < L.length := by rw [← hSl]; exact hi
      have hc : L[i] = c := by
        rw [← Array.getElem?_toList] at hc
        have hc : L[i]? = some c := by simpa using hc
        rw [List.getElem?_eq_getElem hi] at hc
        exact Option.some.inj hc
      subst hc
      have hpi : prs (i + 1) = prs i ++ L.map fun y => (L[i], y) := by
        rw [hprs]
        show (L.take (i + 1)).flatMap _ = _
        rw [List.take_add_one, List.getElem?_eq_getElem hi, List.flatMap_append]
        show _ ++ List.flatMap _ [L[i]] = _
        rw [List.flatMap_singleton]
      have hciL : L[i] ∈ L := List.getElem_mem hi
      rw [hpi]
      generalize L[i] = c at hciL
      generalize prs i = pr0 at hps
      show gName 5 (V.str (S [c])) _ _ _
      refine i_gname ?_
      dsimp only [List.set]
      refine ⟨rfl, ?_⟩
      refine i_yes ?_
      refine iteT ?_
      walk_at "zz"
      refine l_in2 (walk_str (z := S L)) [some (.ref m), some (.str (S L)), some vT, some (.ref D), none, some (.str (S [c])), none] rfl (fun j H' => Same H3 H' ∧ ∃ ps : List Addr, ps.length ≤ i * 4 + j ∧ H' D2 = some (.lst (ps.map V.ref)) ∧ PrsAt H' ps ((pr0 ++ (L.take j).map fun y => (c, y)).filter (strictB L T))) ⟨s4, ps, hpl, eL4, by rw [List.take_zero, List.map_nil, List.append_nil]; exact hps⟩ (fun _ _ _ _ => trivial) ?_ ?_
      · clear hps s4 eL4 hpl ps
        rintro j x H5 H5' hj ⟨s5, ps, hpl, eL5, hps⟩ ⟨rfl, c2, hc2, rfl⟩
        have hj : j < L.length := by rw [← hSl]; exact hj
        have hc : L[j] = c2 := by
          rw [← Array.getElem?_toList] at hc2
          have hc2 : L[j]? = some c2 := by simpa using hc2
          rw [List.getElem?_eq_getElem hj] at hc2
          exact Option.some.inj hc2
        subst hc
        have hpj : (L.take (j + 1)).map (fun y => (c, y)) = (L.take j).map (fun y => (c, y)) ++ [(c, L[j])] := by
          rw [List.take_add_one, List.getElem?_eq_getElem hj, List.map_append]; rfl
        rw [hpj, ← List.append_assoc, List.filter_append]
        have hc2L : L[j] ∈ L := List.getElem_mem hj
        generalize L[j] = c2 at hc2L
        generalize (pr0 ++ (L.take j).map fun y => (c, y)).filter (strictB L T) = pr1 at hps
        have eD5 := s5 _ _ eD
        have ec := s5 _ _ (hg c hciL)
        have ec2 := s5 _ _ (hg c2 hc2L)
        show gName 6 (V.str (S [c2])) _ _ _
        refine i_gname ?_
        dsimp only [List.set]
        refine ⟨rfl, ?_⟩
        walk_at "zz"
        refine brd (fun hlt => ?_) fun hnlt => ?_
        · have hlt : c < c2 := by
            rcases List.cons_lt_cons_iff.mp hlt with h | ⟨_, h⟩
            · exact h
            · exact absurd h (List.not_lt_nil _)
          have TB := W2.tab
          have hT150 := W2.hi
          walk_at "zz"
          refine i_dget ?_
          walk_at "zz"
          refine ⟨D, _, rfl, kS_dget eD5 hciL, ?_⟩
          walk_at "zz"
          refine i_dget ?_
          walk_at "zz"
          refine ⟨D, _, rfl, kS_dget eD5 hc2L, ?_⟩
          walk_at "zz"
          have h1 : ∀ x ∈ endsL L T [c], x < (endsL L T [c2]).length := ends_inW TB
          have h2 : ∀ x ∈ endsL L T [c2], x < (endsL L T [c]).length := ends_inW TB
          refine ⟨_, _, _, _, rfl, ec, ec2, by rw [ends_len]; omega, h1, fun r1 H6 s6 e6 => ?_⟩
          rw [ends_apW TB] at e6
          walk_at "zz"
          refine i_dget ?_
          walk_at "zz"
          refine ⟨D, _, rfl, kS_dget (s6 _ _ eD5) hc2L, ?_⟩
          walk_at "zz"
          refine i_dget ?_
          walk_at "zz"
          refine ⟨D, _, rfl, kS_dget (s6 _ _ eD5) hciL, ?_⟩
          walk_at "zz"
          refine ⟨_, _, _, _, rfl, s6 _ _ ec2, s6 _ _ ec, by rw [ends_len]; omega, h2, fun r2 H7 s7 e7 => ?_⟩
          rw [ends_apW TB] at e7
          refine i_neRow5 (s7 _ _ e6) e7 ?_
          have s57 := s6.trans s7
          walk_at "zz"
          refine brb (fun hne => ?_) fun hne => ?_
          · walk_at "zz"
            refine ⟨by show 2 ≤ sizeLine; decide, fun T2 hT2 => ?_⟩
            have s8 : Same H5' (upd H7 T2 (.tup [.str (S [c]), .str (S [c2])])) := s57.newz hT2
            have e8 : upd H7 T2 (.tup [.str (S [c]), .str (S [c2])]) T2 = some (.tup [.str (S [c]), .str (S [c2])]) := upd_same
            generalize upd H7 T2 (.tup [.str (S [c]), .str (S [c2])]) = H8 at s8 e8
            have hst : strictB L T (c, c2) = true := by
              unfold strictB
              rw [decide_eq_true hlt, Bool.true_and]
              exact hne
            have eL8 := s8 _ _ eL5
            refine cend2 eL8 (by rw [List.length_map]; omega) ⟨(s5.trans s8).mutz hD2, ps ++ [T2], by rw [List.length_append, List.length_singleton]; omega, by rw [upd_same, List.map_append]; rfl, ?_⟩
            rw [List.filter_cons_of_pos hst, List.filter_nil]
            have nl : ∀ {b : Addr} {ys : List V}, H8 b = some (.tup ys) → ¬ b = D2 := fun e z => by rw [z, eL8] at e; cases e
            refine Paired.snoc (pairI30 (fun q g e => ?_) hps) (by rw [upd_ne (nl e8)]; exact e8)
            have e := s8 _ _ e
            rw [upd_ne (nl e)]; exact e
          · walk_at "zz"
            have hst : strictB L T (c, c2) = false := by
              unfold strictB
              rw [decide_eq_true hlt, Bool.true_and]
              exact hne
            refine ⟨s5.trans s57, ps, by omega, s57 _ _ eL5, ?_⟩
            rw [List.filter_cons_of_neg (by rw [hst]; decide), List.filter_nil, List.append_nil]
            exact pairI30 (fun q g e => s57 _ _ e) hps
        · have hnlt : ¬ c < c2 := fun h => hnlt (List.cons_lt_cons_iff.mpr (.inl h))
          walk_at "zz"
          have hst : strictB L T (c, c2) = false := by
            unfold strictB
            rw [decide_eq_false hnlt, Bool.false_and]
          refine ⟨s5, ps, by omega, eL5, ?_⟩
          rw [List.filter_cons_of_neg (by rw [hst]; decide), List.filter_nil, List.append_nil]
          exact hps
      · rintro H5 ⟨s5, ps, hpl, eL5, hps⟩
        rw [hSl, List.take_length] at hps
        exact ⟨s5, ps, by rw [hSl] at hpl; omega, eL5, hps⟩
    rintro H4 ⟨s4, ps, hpl, eL4, hps⟩
    rw [hSl, hprs] at hps
    refine k D2 ps o H4 (s03.trans s4) hO eL4 ?_
    rw [← hT]
    have := hps
    rw [show (fun i => List.flatMap (fun x => L.map fun y => (x, y)) (L.take i)) L.length = L.flatMap fun x => L.map fun y => (x, y) by show List.flatMap _ (L.take L.length) = _; rw [List.take_length]] at this
    exact this
end
end Y

namespace Y
open PySem
/-! ### what all deeds are like (pure) -/
structure FsOk (L : List Nat) (t : List (List Nat)) (fs : List (List Nat × List Nat)) : Prop where
  hd : fs[0]? = some ([], List.range t.length)
  ok : ∀ p ∈ fs, p.2.length = t.length ∧ (∀ s ∈ p.2, s < t.length) ∧ ∀ c ∈ p.1, c ∈ L
  nd : (fs.map (·.2)).Nodup
  cl : ∀ p ∈ fs, ∀ i, i < L.length → nxtD t p.2 i ∈ fs.map (·.2)
  bk : ∀ j, 1 ≤ j → j < fs.length → ∃ p q i, p < j ∧ fs[p]? = some q ∧ i < L.length ∧ fs[j]? = some (q.1 ++ [L.getD i 0], nxtD t q.2 i)
section
variable {L : List Nat} {t : List (List Nat)}
theorem putD_inv {u g : List Nat} {fs : List (List Nat × List Nat)} : ∀ m, fs <+: putD L t u g fs m ∧ (∀ j, fs.length ≤ j → j < (putD L t u g fs m).length → ∃ i, i < m ∧ (putD L t u g fs m)[j]? = some (u ++ [L.getD i 0], nxtD t g i)) ∧ ∀ i, i < m → nxtD t g i ∈ (putD L t u g fs m).map (·.2)
  | 0 => ⟨List.prefix_refl _, fun j h1 h2 => by
      have h2 : j < fs.length := h2
      omega, fun i hi => by omega⟩
  | m + 1 => by
    obtain ⟨h1, h2, h3⟩ := putD_inv (u := u) (g := g) (fs := fs) m
    rw [putD_succ]
    unfold putD1
    split
    · rename_i hin
      refine ⟨h1, fun j a b => ?_, fun i hi => ?_⟩
      · obtain ⟨i, hi, e⟩ := h2 j a b
        exact ⟨i, by omega, e⟩
      · by_cases e : i = m
        · rw [e]; exact hin
        · exact h3 i (by omega)
    · refine ⟨h1.trans (List.prefix_append _ _), fun j a b => ?_, fun i hi => ?_⟩
      · rw [List.length_append, List.length_cons, List.length_nil] at b
        by_cases e : j < (putD L t u g fs m).length
        · obtain ⟨i, hi, e'⟩ := h2 j a e
          exact ⟨i, by omega, by rw [List.getElem?_append_left e]; exact e'⟩
        · refine ⟨m, by omega, ?_⟩
          rw [List.getElem?_append_right (by omega), show j - (putD L t u g fs m).length = 0 by omega]; rfl
      · rw [List.map_append, List.mem_append]
        by_cases e : i = m
        · rw [e]; exact .inr (List.mem_singleton.mpr rfl)
        · exact .inl (h3 i (by omega))
theorem bfsD_inv : ∀ k, (∀ j, j < k → j < (bfsD L t j).length) → (bfsD L t k)[0]? = some ([], List.range t.length) ∧ k ≤ (bfsD L t k).length ∧
    (∀ j p, j < k → (bfsD L t k)[j]? = some p → ∀ i, i < L.length → nxtD t p.2 i ∈ (bfsD L t k).map (·.2)) ∧
    ∀ j, 1 ≤ j → j < (bfsD L t k).length → ∃ p q i, p < j ∧ (bfsD L t k)[p]? = some q ∧ i < L.length ∧ (bfsD L t k)[j]? = some (q.1 ++ [L.getD i 0], nxtD t q.2 i)
  | 0, _ => ⟨rfl, Nat.zero_le _, fun j p h => by omega, fun j h1 h2 => by
      have h2 : j < 1 := h2
      omega⟩
  | k + 1, hk => by
    obtain ⟨h1, _, h3, h4⟩ := bfsD_inv k fun j hj => hk j (by omega)
    have hlt := hk k (by omega)
    have hkk : (bfsD L t k)[k]? = some ((bfsD L t k).getD k ([], [])) := by rw [List.getD_eq_getElem?_getD, List.getElem?_eq_getElem hlt]; rfl
    show (putD L t _ _ _ _)[0]? = _ ∧ k + 1 ≤ (putD L t _ _ _ _).length ∧ (∀ j p, j < k + 1 → (putD L t _ _ _ _)[j]? = some p → ∀ i, i < L.length → nxtD t p.2 i ∈ (putD L t _ _ _ _).map (·.2)) ∧ ∀ j, 1 ≤ j → j < (putD L t _ _ _ _).length → ∃ p q i, p < j ∧ (putD L t _ _ _ _)[p]? = some q ∧ i < L.length ∧ (putD L t _ _ _ _)[j]? = some (q.1 ++ [L.getD i 0], nxtD t q.2 i)
    generalize (bfsD L t k).getD k ([], []) = ug at hkk ⊢
    generalize bfsD L t k = fs at h1 h3 h4 hlt hkk ⊢
    obtain ⟨p1, p2, p3⟩ := putD_inv (L := L) (t := t) (u := ug.1) (g := ug.2) (fs := fs) L.length
    have hle := p1.length_le
    refine ⟨pre_get p1 h1, by omega, fun j p hj e i hi => ?_, fun j a b => ?_⟩
    · by_cases ej : j = k
      · subst ej
        have e := (pre_get p1 hkk).symm.trans e
        rw [← Option.some.inj e]
        exact p3 i hi
      · have hjf : j < fs.length := by omega
        have e' : fs[j]? = some p := by rw [List.getElem?_eq_getElem hjf, ← e]; exact (pre_get p1 (List.getElem?_eq_getElem hjf)).symm
        obtain ⟨q, hq, hq2⟩ := List.mem_map.mp (h3 j p (by omega) e' i hi)
        exact List.mem_map.mpr ⟨q, p1.subset hq, hq2⟩
    · by_cases hjf : j < fs.length
      · obtain ⟨p, q, i, x1, x2, x3, x4⟩ := h4 j a hjf
        exact ⟨p, q, i, x1, pre_get p1 x2, x3, pre_get p1 x4⟩
      · obtain ⟨i, hi, e⟩ := p2 j (by omega) b
        exact ⟨k, ug, i, by omega, pre_get p1 hkk, hi, e⟩
theorem dout_fs {most n : Nat} {fs : List (List Nat × List Nat)} (TB : Tab t n) (h : DOut L t most (some fs)) : FsOk L t fs := by
  obtain ⟨K, h1, h2⟩ := h
  rcases h2 with ⟨hl, e⟩ | ⟨_, _, e⟩
  · have e := Option.some.inj e
    subst e
    have hj := fun j hj => (h1 j hj).1
    obtain ⟨a1, a2, a3, a4⟩ := bfsD_inv (L := L) (t := t) K hj
    obtain ⟨b1, b2⟩ := bfsD_ok TB K hj
    refine ⟨a1, fun p hp => ⟨(b1 p hp).len, (b1 p hp).lt, (b1 p hp).wd⟩, b2, fun p hp i hi => ?_, a4⟩
    obtain ⟨j, hj, e⟩ := List.mem_iff_getElem.mp hp
    exact a3 j p (by omega) (by rw [List.getElem?_eq_getElem hj, e]) i hi
  · cases e
/-- the deed g, then the deed k -/
def comp (g k : List Nat) : List Nat := g.map (ap k)
theorem ap_nxt {k : List Nat} {i s : Nat} (h : s < k.length) : ap (nxtD t k i) s = dl t (ap k s) i := by
  unfold ap nxtD
  rw [List.getD_eq_getElem?_getD, List.getElem?_map, List.getElem?_eq_getElem h, List.getD_eq_getElem?_getD, List.getElem?_eq_getElem h]; rfl
theorem comp_nxt {g k : List Nat} {i : Nat} (h : ∀ s ∈ g, s < k.length) : comp g (nxtD t k i) = nxtD t (comp g k) i := by
  unfold comp
  conv => rhs; unfold nxtD
  rw [List.map_map]
  exact List.map_congr_left fun s hs => ap_nxt (h s hs)
theorem comp_one {g : List Nat} {n : Nat} (h : ∀ s ∈ g, s < n) : comp g (List.range n) = g := by
  unfold comp
  conv => rhs; rw [← List.map_id g]
  refine List.map_congr_left fun s hs => ?_
  unfold ap
  rw [List.getD_eq_getElem?_getD, List.getElem?_range (h s hs)]; rfl
theorem FsOk.comp {fs : List (List Nat × List Nat)} (f : FsOk L t fs) {g : List Nat} (hg : g ∈ fs.map (·.2)) : ∀ (j : Nat) (p : List Nat × List Nat), fs[j]? = some p → Y.comp g p.2 ∈ fs.map (·.2) := by
  obtain ⟨g', hg', rfl⟩ := List.mem_map.mp hg
  intro j
  induction j using Nat.strongRecOn with
  | ind j ih =>
    intro p e
    by_cases h0 : j = 0
    · subst h0
      have := Option.some.inj (f.hd.symm.trans e)
      subst this
      rw [comp_one (f.ok _ hg').2.1]; exact hg
    · obtain ⟨hj, _⟩ := List.getElem?_eq_some_iff.mp e
      obtain ⟨p0, q, i, h1, h2, h3, h4⟩ := f.bk j (by omega) hj
      have := Option.some.inj (h4.symm.trans e)
      subst this
      have hq := List.mem_of_getElem? h2
      rw [comp_nxt (k := q.2) fun s hs => by rw [(f.ok _ hq).1]; exact (f.ok _ hg').2.1 s hs]
      obtain ⟨r, hr, hr2⟩ := List.mem_map.mp (ih p0 h1 q h2)
      rw [← hr2]
      exact f.cl r hr i h3
theorem FsOk.wlen {fs : List (List Nat × List Nat)} (f : FsOk L t fs) : ∀ (j : Nat) (p : List Nat × List Nat), fs[j]? = some p → p.1.length ≤ j := by
  intro j
  induction j using Nat.strongRecOn with
  | ind j ih =>
    intro p e
    by_cases h0 : j = 0
    · subst h0
      have := Option.some.inj (f.hd.symm.trans e)
      subst this
      exact Nat.le_refl _
    · obtain ⟨hj, _⟩ := List.getElem?_eq_some_iff.mp e
      obtain ⟨p0, q, i, h1, h2, h3, h4⟩ := f.bk j (by omega) hj
      have := Option.some.inj (h4.symm.trans e)
      subst this
      have := ih p0 h1 q h2
      show (q.1 ++ [_]).length ≤ j
      rw [List.length_append, List.length_cons, List.length_nil]; omega
theorem ends_snoc (u : List Nat) (c : Nat) : endsL L t (u ++ [c]) = nxtD t (endsL L t u) (L.idxOf c) := by
  unfold nxtD endsL
  rw [List.map_map]
  refine List.map_congr_left fun s _ => ?_
  show led L t s (u ++ [c]) = dl t (led L t s u) (L.idxOf c)
  unfold led
  rw [List.foldl_append]; rfl
theorem ends_nil : endsL L t [] = List.range t.length := by
  unfold endsL
  conv => rhs; rw [← List.map_id (List.range t.length)]
  exact List.map_congr_left fun s _ => rfl
theorem FsOk.word {fs : List (List Nat × List Nat)} (f : FsOk L t fs) (nd : L.Nodup) : ∀ (j : Nat) (p : List Nat × List Nat), fs[j]? = some p → p.2 = endsL L t p.1 := by
  intro j
  induction j using Nat.strongRecOn with
  | ind j ih =>
    intro p e
    by_cases h0 : j = 0
    · subst h0
      have := Option.some.inj (f.hd.symm.trans e)
      subst this
      exact ends_nil.symm
    · obtain ⟨hj, _⟩ := List.getElem?_eq_some_iff.mp e
      obtain ⟨p0, q, i, h1, h2, h3, h4⟩ := f.bk j (by omega) hj
      have := Option.some.inj (h4.symm.trans e)
      subst this
      show nxtD t q.2 i = endsL L t (q.1 ++ [L.getD i 0])
      rw [ends_snoc, ← ih p0 h1 q h2, List.getD_eq_getElem?_getD, List.getElem?_eq_getElem h3, Option.getD_some, List.Nodup.idxOf_getElem nd i h3]
theorem FsOk.wnd {fs : List (List Nat × List Nat)} (f : FsOk L t fs) (nd : L.Nodup) : (fs.map (·.1)).Nodup := by
  refine List.pairwise_map.mpr ((List.pairwise_map.mp f.nd).imp_of_mem fun {a b} ha hb hab e => hab ?_)
  obtain ⟨i, hi⟩ := List.mem_iff_getElem?.mp ha
  obtain ⟨j, hj⟩ := List.mem_iff_getElem?.mp hb
  rw [f.word nd i a hi, f.word nd j b hj, e]
theorem dout_few {most : Nat} {fs : List (List Nat × List Nat)} (hm : 1 ≤ most := by decide) (h : DOut L t most (some fs)) : fs.length ≤ most := by
  obtain ⟨K, x1, x2⟩ := h
  rcases x2 with ⟨x2, e⟩ | ⟨_, _, e⟩
  · have e := Option.some.inj e
    subst e
    by_cases h0 : K = 0
    · subst h0
      exact hm
    · have := (x1 (K - 1) (by omega)).2
      rwa [show K - 1 + 1 = K by omega] at this
  · cases e
end
end Y

namespace Y
open PySem
/-! ### the first word of a deed is the first one by length, then by letters (pure) -/
def slt (u v : List Nat) : Prop := u.length < v.length ∨ (u.length = v.length ∧ u < v)
def sle (u v : List Nat) : Prop := u.length < v.length ∨ (u.length = v.length ∧ (u < v ∨ u = v))
theorem lexA : ∀ (u v : List Nat) (a b : Nat), u.length = v.length → (u ++ [a] < v ++ [b] ↔ u < v ∨ (u = v ∧ a < b))
  | [], [], a, b, _ => by simp [List.cons_lt_cons_iff]
  | [], _ :: _, _, _, h => by cases h
  | _ :: _, [], _, _, h => by cases h
  | x :: u, y :: v, a, b, h => by
    have ih := lexA u v a b (by simpa using h)
    show x :: (u ++ [a]) < y :: (v ++ [b]) ↔ _
    rw [List.cons_lt_cons_iff, List.cons_lt_cons_iff, ih, List.cons.injEq]
    constructor
    · rintro (z | ⟨z, q | ⟨q, r⟩⟩)
      · exact .inl (.inl z)
      · exact .inl (.inr ⟨z, q⟩)
      · exact .inr ⟨⟨z, q⟩, r⟩
    · rintro ((z | ⟨z, q⟩) | ⟨⟨z, q⟩, r⟩)
      · exact .inl z
      · exact .inr ⟨z, .inl q⟩
      · exact .inr ⟨z, .inr ⟨q, r⟩⟩
theorem slt_app {u v : List Nat} (h : slt u v) (a b : Nat) : slt (u ++ [a]) (v ++ [b]) := by
  unfold slt
  rw [List.length_append, List.length_append, List.length_cons, List.length_nil, List.length_cons, List.length_nil]
  rcases h with h | ⟨h1, h2⟩
  · exact .inl (by omega)
  · exact .inr ⟨by omega, (lexA u v a b h1).mpr (.inl h2)⟩
theorem slt_same (u : List Nat) {a b : Nat} (h : a < b) : slt (u ++ [a]) (u ++ [b]) := by
  refine .inr ⟨by rw [List.length_append, List.length_append]; rfl, (lexA u u a b rfl).mpr (.inr ⟨rfl, h⟩)⟩
theorem sle_of {u v : List Nat} (h : slt u v) : sle u v := h.imp id fun ⟨a, b⟩ => ⟨a, .inl b⟩
theorem sle_refl (u : List Nat) : sle u u := .inr ⟨rfl, .inr rfl⟩
theorem sle_app {u v : List Nat} (h : sle u v) (a : Nat) : sle (u ++ [a]) (v ++ [a]) := by
  unfold sle
  rw [List.length_append, List.length_append, List.length_cons, List.length_nil]
  rcases h with h | ⟨h1, h2 | h2⟩
  · exact .inl (by omega)
  · exact .inr ⟨by omega, .inl ((lexA u v a a h1).mpr (.inl h2))⟩
  · exact .inr ⟨by omega, .inr (by rw [h2])⟩
theorem sle_trans {u v w : List Nat} (h : sle u v) (k : sle v w) : sle u w := by
  unfold sle at *
  rcases h with h | ⟨h1, h2⟩
  · rcases k with k | ⟨k1, _⟩ <;> exact .inl (by omega)
  · rcases k with k | ⟨k1, k2⟩
    · exact .inl (by omega)
    · refine .inr ⟨by omega, ?_⟩
      rcases h2 with h2 | h2
      · rcases k2 with k2 | k2
        · exact .inl (List.lt_trans h2 k2)
        · exact .inl (k2 ▸ h2)
      · rw [h2]; exact k2
theorem sle_not {u w : List Nat} (h : sle u w) : ¬ w.length < u.length ∧ ¬ (u.length = w.length ∧ w < u) := by
  rcases h with h | ⟨h1, h2⟩
  · exact ⟨by omega, fun z => by omega⟩
  · refine ⟨by omega, fun z => ?_⟩
    rcases h2 with h2 | h2
    · exact List.lt_irrefl _ (List.lt_trans h2 z.2)
    · rw [h2] at z; exact List.lt_irrefl _ z.2
section
variable {L : List Nat} {t : List (List Nat)}
/-- the list of deeds while the letters of the k-th are put behind it, m of them done -/
structure SInv (L : List Nat) (t : List (List Nat)) (X : List (List Nat × List Nat)) (k m : Nat) : Prop where
  srt : ∀ (i j : Nat) (p q : List Nat × List Nat), i < j → X[i]? = some p → X[j]? = some q → slt p.1 q.1
  frm : ∀ q ∈ X, q.1 = [] ∨ ∃ (p i : Nat) (w : List Nat × List Nat), (p < k ∨ (p = k ∧ i < m)) ∧ X[p]? = some w ∧ i < L.length ∧ q.1 = w.1 ++ [L.getD i 0]
  cls : ∀ (p i : Nat) (w : List Nat × List Nat), (p < k ∨ (p = k ∧ i < m)) → X[p]? = some w → i < L.length → ∃ q ∈ X, q.2 = nxtD t w.2 i ∧ sle q.1 (w.1 ++ [L.getD i 0])
theorem asc_get (hL : L.Pairwise (· < ·)) {i j : Nat} (hij : i < j) (hj : j < L.length) : L.getD i 0 < L.getD j 0 := by
  have hi : i < L.length := by omega
  rw [List.getD_eq_getElem?_getD, List.getElem?_eq_getElem hi, List.getD_eq_getElem?_getD, List.getElem?_eq_getElem hj]
  exact List.pairwise_iff_getElem.mp hL i j hi hj hij
theorem SInv.next (hL : L.Pairwise (· < ·)) {X : List (List Nat × List Nat)} {k m : Nat} {ug : List Nat × List Nat} (s : SInv L t X k m) (hk : X[k]? = some ug) (hm : m < L.length) : SInv L t (putD1 L t ug.1 ug.2 X m) k (m + 1) := by
  have less : ∀ q ∈ X, slt q.1 (ug.1 ++ [L.getD m 0]) := fun q hq => by
    rcases s.frm q hq with e | ⟨p, i, w, hpi, hw, hi, e⟩
    · rw [e]; left; rw [List.length_append]; simp
    · rw [e]
      rcases hpi with h | ⟨h1, h2⟩
      · exact slt_app (s.srt p k w ug h hw hk) _ _
      · subst h1
        have := (hw.symm.trans hk)
        have := Option.some.inj this
        subst this
        exact slt_same _ (asc_get hL h2 hm)
  unfold putD1
  split
  · rename_i hin
    refine ⟨s.srt, fun q hq => ?_, fun p i w hpi hw hi => ?_⟩
    · rcases s.frm q hq with e | ⟨p, i, w, hpi, r⟩
      · exact .inl e
      · exact .inr ⟨p, i, w, by omega, r⟩
    · by_cases h : p < k ∨ (p = k ∧ i < m)
      · exact s.cls p i w h hw hi
      · obtain rfl : p = k := by omega
        obtain rfl : i = m := by omega
        have := Option.some.inj (hw.symm.trans hk)
        subst this
        obtain ⟨q, hq, e⟩ := List.mem_map.mp hin
        exact ⟨q, hq, e, sle_of (less q hq)⟩
  · have up : ∀ {p : Nat} {w : List Nat × List Nat}, p ≤ k → (X ++ [(ug.1 ++ [L.getD m 0], nxtD t ug.2 m)])[p]? = some w → X[p]? = some w := fun {p w} hp hw => by
      have hl := (List.getElem?_eq_some_iff.mp hk).1
      rwa [List.getElem?_append_left (by omega)] at hw
    refine ⟨fun i j p q hij hp hq => ?_, fun q hq => ?_, fun p i w hpi hw hi => ?_⟩
    · by_cases hj : j < X.length
      · rw [List.getElem?_append_left hj] at hq
        rw [List.getElem?_append_left (by omega)] at hp
        exact s.srt i j p q hij hp hq
      · have hj2 := (List.getElem?_eq_some_iff.mp hq).1
        rw [List.length_append, List.length_cons, List.length_nil] at hj2
        rw [List.getElem?_append_right (by omega), show j - X.length = 0 by omega] at hq
        have hq := (Option.some.inj hq).symm
        subst hq
        rw [List.getElem?_append_left (by omega)] at hp
        exact less p (List.mem_of_getElem? hp)
    · rcases List.mem_append.mp hq with z | z
      · rcases s.frm q z with e | ⟨p, i, w, hpi, hw, r⟩
        · exact .inl e
        · refine .inr ⟨p, i, w, by omega, ?_, r⟩
          rw [List.getElem?_append_left (List.getElem?_eq_some_iff.mp hw).1]; exact hw
      · rw [List.mem_singleton.mp z]
        refine .inr ⟨k, m, ug, by omega, ?_, hm, rfl⟩
        rw [List.getElem?_append_left (List.getElem?_eq_some_iff.mp hk).1]; exact hk
    · have hw' := up (by omega) hw
      clear hw
      by_cases h : p < k ∨ (p = k ∧ i < m)
      · obtain ⟨q, hq, r⟩ := s.cls p i w h hw' hi
        exact ⟨q, List.mem_append_left _ hq, r⟩
      · obtain rfl : p = k := by omega
        obtain rfl : i = m := by omega
        have := Option.some.inj (hw'.symm.trans hk)
        subst this
        exact ⟨_, List.mem_append_right _ (List.mem_singleton.mpr rfl), rfl, sle_refl _⟩
theorem SInv.all (hL : L.Pairwise (· < ·)) {X : List (List Nat × List Nat)} {k : Nat} {ug : List Nat × List Nat} (s : SInv L t X k 0) (hk : X[k]? = some ug) : ∀ m, m ≤ L.length → SInv L t (putD L t ug.1 ug.2 X m) k m
  | 0, _ => s
  | m + 1, hm => by
    have ih := SInv.all hL s hk m (by omega)
    rw [putD_succ]
    exact ih.next hL (pre_get (putD_inv m).1 hk) (by omega)
theorem bfsD_srt (hL : L.Pairwise (· < ·)) : ∀ k, (∀ j, j < k → j < (bfsD L t j).length) → SInv L t (bfsD L t k) k 0
  | 0, _ => by
    refine ⟨fun i j p q hij hp hq => ?_, fun q hq => ?_, fun p i w hpi => by omega⟩
    · have := (List.getElem?_eq_some_iff.mp hq).1
      have : j < 1 := this
      omega
    · rw [List.mem_singleton.mp hq]; exact .inl rfl
  | k + 1, hj => by
    have ih := bfsD_srt hL k fun j h => hj j (by omega)
    have hk := hj k (by omega)
    have e : (bfsD L t k)[k]? = some ((bfsD L t k).getD k ([], [])) := by rw [List.getD_eq_getElem?_getD, List.getElem?_eq_getElem hk]; rfl
    have a := ih.all hL e L.length (Nat.le_refl _)
    refine ⟨a.srt, fun q hq => ?_, fun p i w hpi hw hi => a.cls p i w (by omega) hw hi⟩
    rcases a.frm q hq with z | ⟨p, i, w, hpi, r⟩
    · exact .inl z
    · exact .inr ⟨p, i, w, by omega, r⟩
/-- the first word of a deed -/
theorem first_word {n most : Nat} {fs : List (List Nat × List Nat)} (hL : L.Pairwise (· < ·)) (TB : Tab t n) (h : DOut L t most (some fs)) (w : List Nat) : (∀ c ∈ w, c ∈ L) → ∃ q ∈ fs, q.2 = endsL L t w ∧ sle q.1 w := by
  have fo := dout_fs TB h
  obtain ⟨K, h1, h2⟩ := h
  rcases h2 with ⟨hl, e⟩ | ⟨_, _, e⟩
  · have e := Option.some.inj e
    have s := bfsD_srt (t := t) hL K fun j hj => (h1 j hj).1
    rw [← e] at s hl
    refine snoc_ind (p := fun w => (∀ c ∈ w, c ∈ L) → ∃ q ∈ fs, q.2 = endsL L t w ∧ sle q.1 w) (fun _ => ?_) (fun w c ih hw => ?_) w
    · exact ⟨_, List.mem_of_getElem? fo.hd, by rw [ends_nil], sle_refl _⟩
    · obtain ⟨q, hq, e1, e2⟩ := ih fun d hd => hw d (List.mem_append_left _ hd)
      have hc := List.idxOf_lt_length_of_mem (hw c (by simp))
      obtain ⟨j, hj⟩ := List.mem_iff_getElem?.mp hq
      have hjl := (List.getElem?_eq_some_iff.mp hj).1
      obtain ⟨q2, hq2, f1, f2⟩ := s.cls j (L.idxOf c) q (by omega) hj hc
      refine ⟨q2, hq2, by rw [f1, e1, ends_snoc], ?_⟩
      rw [List.getD_eq_getElem?_getD, List.getElem?_eq_getElem hc, Option.getD_some, List.getElem_idxOf hc] at f2
      exact sle_trans f2 (sle_app e2 c)
  · cases e
end
end Y

namespace Y
open PySem
/-! ### the first word that leads to a bad place: breadth first (pure) -/
section
variable {α : Type} {n : Nat} {f : α → Nat → α} {s0 : α}
/-- the places found with their words, while the letters of the k-th are put behind it, m of them done -/
structure FPI (n : Nat) (f : α → Nat → α) (s0 : α) (X : List (List Nat × α)) (k m : Nat) : Prop where
  hd : X[0]? = some ([], s0)
  ok : ∀ p ∈ X, p.2 = p.1.foldl f s0 ∧ ∀ i ∈ p.1, i < n
  nd : (X.map (·.2)).Nodup
  srt : ∀ (i j : Nat) (p q : List Nat × α), i < j → X[i]? = some p → X[j]? = some q → slt p.1 q.1
  frm : ∀ q ∈ X, q.1 = [] ∨ ∃ (p i : Nat) (w : List Nat × α), (p < k ∨ (p = k ∧ i < m)) ∧ X[p]? = some w ∧ i < n ∧ q.1 = w.1 ++ [i]
  cls : ∀ (p i : Nat) (w : List Nat × α), (p < k ∨ (p = k ∧ i < m)) → X[p]? = some w → i < n → ∃ q ∈ X, q.2 = f w.2 i ∧ sle q.1 (w.1 ++ [i])
theorem FPI.start : FPI n f s0 [([], s0)] 0 0 := by
  refine ⟨rfl, fun p hp => ?_, by simp, fun i j p q hij hp hq => ?_, fun q hq => ?_, fun p i w hpi => by omega⟩
  · rw [List.mem_singleton.mp hp]
    exact ⟨rfl, fun i hi => by cases hi⟩
  · have := (List.getElem?_eq_some_iff.mp hq).1
    have : j < 1 := this
    omega
  · rw [List.mem_singleton.mp hq]; exact .inl rfl
theorem FPI.less {X : List (List Nat × α)} {k m : Nat} {ug : List Nat × α} (s : FPI n f s0 X k m) (hk : X[k]? = some ug) : ∀ q ∈ X, slt q.1 (ug.1 ++ [m]) := fun q hq => by
  rcases s.frm q hq with e | ⟨p, i, w, hpi, hw, hi, e⟩
  · rw [e]; left; rw [List.length_append]; simp
  · rw [e]
    rcases hpi with h | ⟨h1, h2⟩
    · exact slt_app (s.srt p k w ug h hw hk) _ _
    · subst h1
      have := Option.some.inj (hw.symm.trans hk)
      subst this
      exact slt_same _ h2
theorem FPI.old {X : List (List Nat × α)} {k m : Nat} {ug : List Nat × α} (s : FPI n f s0 X k m) (hk : X[k]? = some ug) (hin : f ug.2 m ∈ X.map (·.2)) : FPI n f s0 X k (m + 1) := by
  refine ⟨s.hd, s.ok, s.nd, s.srt, fun q hq => ?_, fun p i w hpi hw hi => ?_⟩
  · rcases s.frm q hq with e | ⟨p, i, w, hpi, r⟩
    · exact .inl e
    · exact .inr ⟨p, i, w, by omega, r⟩
  · by_cases h : p < k ∨ (p = k ∧ i < m)
    · exact s.cls p i w h hw hi
    · obtain rfl : p = k := by omega
      obtain rfl : i = m := by omega
      have := Option.some.inj (hw.symm.trans hk)
      subst this
      obtain ⟨q, hq, e⟩ := List.mem_map.mp hin
      exact ⟨q, hq, e, sle_of (s.less hk q hq)⟩
theorem FPI.new {X : List (List Nat × α)} {k m : Nat} {ug : List Nat × α} (s : FPI n f s0 X k m) (hk : X[k]? = some ug) (hm : m < n) (hin : f ug.2 m ∉ X.map (·.2)) : FPI n f s0 (X ++ [(ug.1 ++ [m], f ug.2 m)]) k (m + 1) := by
  have less := s.less hk
  have hkl := (List.getElem?_eq_some_iff.mp hk).1
  have up : ∀ {p : Nat} {w : List Nat × α}, p ≤ k → (X ++ [(ug.1 ++ [m], f ug.2 m)])[p]? = some w → X[p]? = some w := fun {p w} hp hw => by
    rwa [List.getElem?_append_left (by omega)] at hw
  refine ⟨?_, fun p hp => ?_, ?_, fun i j p q hij hp hq => ?_, fun q hq => ?_, fun p i w hpi hw hi => ?_⟩
  · rw [List.getElem?_append_left (by omega)]; exact s.hd
  · rcases List.mem_append.mp hp with z | z
    · exact s.ok p z
    · obtain rfl := List.mem_singleton.mp z
      obtain ⟨h1, h2⟩ := s.ok ug (List.mem_of_getElem? hk)
      refine ⟨by rw [List.foldl_append, ← h1]; rfl, fun i hi => ?_⟩
      rcases List.mem_append.mp hi with z | z
      · exact h2 i z
      · rw [List.mem_singleton.mp z]; exact hm
  · rw [List.map_append]
    exact List.nodup_append.mpr ⟨s.nd, by simp, fun x hx y hy e => by
      have hy := List.mem_singleton.mp hy
      rw [e, hy] at hx
      exact hin hx⟩
  · by_cases hj : j < X.length
    · rw [List.getElem?_append_left hj] at hq
      rw [List.getElem?_append_left (by omega)] at hp
      exact s.srt i j p q hij hp hq
    · have hj2 := (List.getElem?_eq_some_iff.mp hq).1
      rw [List.length_append, List.length_cons, List.length_nil] at hj2
      rw [List.getElem?_append_right (by omega), show j - X.length = 0 by omega] at hq
      have hq := (Option.some.inj hq).symm
      subst hq
      rw [List.getElem?_append_left (by omega)] at hp
      exact less p (List.mem_of_getElem? hp)
  · rcases List.mem_append.mp hq with z | z
    · rcases s.frm q z with e | ⟨p, i, w, hpi, hw, r⟩
      · exact .inl e
      · refine .inr ⟨p, i, w, by omega, ?_, r⟩
        rw [List.getElem?_append_left (List.getElem?_eq_some_iff.mp hw).1]; exact hw
    · rw [List.mem_singleton.mp z]
      refine .inr ⟨k, m, ug, by omega, ?_, hm, rfl⟩
      rw [List.getElem?_append_left hkl]; exact hk
  · have hw' := up (by omega) hw
    clear hw
    by_cases h : p < k ∨ (p = k ∧ i < m)
    · obtain ⟨q, hq, r⟩ := s.cls p i w h hw' hi
      exact ⟨q, List.mem_append_left _ hq, r⟩
    · obtain rfl : p = k := by omega
      obtain rfl : i = m := by omega
      have := Option.some.inj (hw'.symm.trans hk)
      subst this
      exact ⟨_, List.mem_append_right _ (List.mem_singleton.mpr rfl), rfl, sle_refl _⟩
theorem FPI.turn {X : List (List Nat × α)} {k : Nat} (s : FPI n f s0 X k n) : FPI n f s0 X (k + 1) 0 := by
  refine ⟨s.hd, s.ok, s.nd, s.srt, fun q hq => ?_, fun p i w hpi hw hi => s.cls p i w (by omega) hw hi⟩
  rcases s.frm q hq with z | ⟨p, i, w, hpi, r⟩
  · exact .inl z
  · exact .inr ⟨p, i, w, by omega, r⟩
/-- what is told of a search: no word is bad, or the first bad one by length, then by letters -/
def Fst (n : Nat) (B : List Nat → Bool) : Option (List Nat) → Prop
  | none => ∀ w : List Nat, (∀ i ∈ w, i < n) → B w = false
  | some u => (∀ i ∈ u, i < n) ∧ B u = true ∧ ∀ w : List Nat, (∀ i ∈ w, i < n) → B w = true → sle u w
theorem Fst.one {B : List Nat → Bool} {r r' : Option (List Nat)} (a : Fst n B r) (b : Fst n B r') : r = r' := by
  cases r with
  | none => cases r' with
    | none => rfl
    | some u => have := a u b.1; rw [b.2.1] at this; cases this
  | some v => cases r' with
    | none => have := b v a.1; rw [a.2.1] at this; cases this
    | some u =>
      have h1 := a.2.2 u b.1 b.2.1
      have h2 := b.2.2 v a.1 a.2.1
      rcases h1 with h1 | ⟨h1, h1' | h1'⟩
      · rcases h2 with h2 | ⟨h2, _⟩ <;> omega
      · rcases h2 with h2 | ⟨h2, h2' | h2'⟩
        · omega
        · exact absurd (List.lt_trans h1' h2') (List.lt_irrefl _)
        · rw [h2']
      · rw [h1']
theorem FPI.found {bad : α → Bool} {X : List (List Nat × α)} {k : Nat} {ug : List Nat × α} (s : FPI n f s0 X k 0) (hk : X[k]? = some ug) (hb : bad ug.2 = true) (hg : ∀ j p, j < k → X[j]? = some p → bad p.2 = false) : Fst n (fun w => bad (w.foldl f s0)) (some ug.1) := by
  obtain ⟨o1, o2⟩ := s.ok ug (List.mem_of_getElem? hk)
  refine ⟨o2, by show bad (ug.1.foldl f s0) = true; rw [← o1]; exact hb, fun w hw hbw => ?_⟩
  have key : ∀ w : List Nat, (∀ i ∈ w, i < n) → (∃ j q, j < k ∧ X[j]? = some q ∧ q.2 = w.foldl f s0 ∧ sle q.1 w) ∨ sle ug.1 w := fun w => by
    refine snoc_ind (p := fun w => (∀ i ∈ w, i < n) → (∃ j q, j < k ∧ X[j]? = some q ∧ q.2 = w.foldl f s0 ∧ sle q.1 w) ∨ sle ug.1 w) (fun _ => ?_) (fun v c ih hv => ?_) w
    · by_cases h0 : k = 0
      · subst h0
        have := Option.some.inj (s.hd.symm.trans hk)
        subst this
        exact .inr (sle_refl _)
      · exact .inl ⟨0, _, by omega, s.hd, rfl, sle_refl _⟩
    · rcases ih fun i hi => hv i (List.mem_append_left _ hi) with ⟨j, q, hj, hq, e1, e2⟩ | h
      · have hc : c < n := hv c (by simp)
        obtain ⟨q2, hq2, f1, f2⟩ := s.cls j c q (.inl hj) hq hc
        have f3 := sle_trans f2 (sle_app e2 c)
        obtain ⟨j2, hj2⟩ := List.mem_iff_getElem?.mp hq2
        rcases Nat.lt_trichotomy j2 k with z | z | z
        · exact .inl ⟨j2, q2, z, hj2, by rw [f1, e1, List.foldl_append]; rfl, f3⟩
        · subst z
          have := Option.some.inj (hj2.symm.trans hk)
          subst this
          exact .inr f3
        · exact .inr (sle_trans (sle_of (s.srt k j2 ug q2 z hk hj2)) f3)
      · right
        left
        rw [List.length_append, List.length_cons, List.length_nil]
        rcases h with h | ⟨h, _⟩ <;> omega
  rcases key w hw with ⟨j, q, hj, hq, e1, _⟩ | h
  · have := hg j q hj hq
    rw [e1] at this
    have hbw : bad (w.foldl f s0) = true := hbw
    rw [this] at hbw; cases hbw
  · exact h
theorem FPI.out {bad : α → Bool} {X : List (List Nat × α)} {k : Nat} (s : FPI n f s0 X k 0) (hk : X.length ≤ k) (hg : ∀ p ∈ X, bad p.2 = false) : Fst n (fun w => bad (w.foldl f s0)) none := by
  intro w hw
  have key : ∃ q ∈ X, q.2 = w.foldl f s0 := by
    refine snoc_ind (p := fun w => (∀ i ∈ w, i < n) → ∃ q ∈ X, q.2 = w.foldl f s0) (fun _ => ?_) (fun v c ih hv => ?_) w hw
    · exact ⟨_, List.mem_of_getElem? s.hd, rfl⟩
    · obtain ⟨q, hq, e⟩ := ih fun i hi => hv i (List.mem_append_left _ hi)
      obtain ⟨j, hj⟩ := List.mem_iff_getElem?.mp hq
      have hjl := (List.getElem?_eq_some_iff.mp hj).1
      obtain ⟨q2, hq2, f1, _⟩ := s.cls j c q (by omega) hj (hv c (by simp))
      exact ⟨q2, hq2, by rw [f1, e, List.foldl_append]; rfl⟩
  obtain ⟨q, hq, e⟩ := key
  show bad (w.foldl f s0) = false
  rw [← e]; exact hg q hq
end
/-! ### two machines side by side -/
def stp2 (t t' : List (List Nat)) (p : Nat × Nat) (i : Nat) : Nat × Nat := (dl t p.1 i, dl t' p.2 i)
theorem stp2_run (t t' : List (List Nat)) : ∀ (w : List Nat) (s u : Nat), w.foldl (stp2 t t') (s, u) = (rn t s w, rn t' u w)
  | [], _, _ => rfl
  | i :: w, s, u => stp2_run t t' w _ _
/-- unlike there -/
def bad2 (a a' : List Nat) (p : Nat × Nat) : Bool := decide (p.1 ∈ a) != decide (p.2 ∈ a')
theorem bad2_lang (t t' : List (List Nat)) (a a' : List Nat) (s u : Nat) (w : List Nat) : bad2 a a' (w.foldl (stp2 t t') (s, u)) = (lang t a s w != lang t' a' u w) := by
  rw [stp2_run]; rfl
end Y

namespace Y
open PySem PySem.Spec PyProof.Rows L2 Z
open PySem.Sem (wp)
/-! ### what is collected of a reversed list; ''.join(reversed(..)) -/
theorem lri_no_len : typeLookup (.type "list_reverseiterator") "__len__" = pure none := by rw [typeLookup_type, builtinLookup_eq_fast]; kernel_rfl
theorem lri_hint : typeLookup (.type "list_reverseiterator") "__length_hint__" = pure (some (.builtin "list_reverseiterator.__length_hint__")) := by rw [typeLookup_type, builtinLookup_eq_fast]; kernel_rfl
theorem items_rev {items acc : Array Value} (h : ItemsOf (fun i v => items[items.size - 1 - i]? = some v) acc items.size) : acc.toList = items.toList.reverse := by
  apply List.ext_getElem?
  intro i
  obtain ⟨h1, h2⟩ := h
  by_cases hi : i < items.size
  · rw [Array.getElem?_toList, List.getElem?_reverse (by simpa using hi), Array.getElem?_toList, Array.length_toList]
    have e : acc[i]? = some (acc[i]'(by omega)) := Array.getElem?_eq_getElem (by omega)
    rw [e, h2 i _ e]
  · rw [List.getElem?_eq_none (by simp; omega), List.getElem?_eq_none (by simp; omega)]
section
variable {prog : Program} {w : World} {A : Around} {E : Value → Shared → Prop} {s : Shared}
theorem wpAny_collect_rev {Q : List Value → Shared → Prop} {l I : Addr} {items : Array Value} (hh : A.handled = none) (hne : l ≠ I) (hit : s.heap.IsRevIter I l ((items.size : Int) - 1)) (hl : s.heap.IsList l items)
    (hQ : ∀ h' tk, (∀ b o, b ≠ I → s.heap.get? b = some o → h'.get? b = some o) → Q items.toList.reverse { s with heap := h', toks := tk }) (hn : items.size ≤ sizeLine) :
    wpAny (model prog w) A (collect (.ref I)) Q E s := by
  have hIl : I < s.heap.objs.size := by
    obtain ⟨o, ho, _⟩ := hit
    exact Heap.lt_size ho
  have hll : l < s.heap.objs.size := by
    obtain ⟨o, ho, _⟩ := id hl
    exact Heap.lt_size ho
  unfold collect
  refine wpAny_bind (wpAny_runValue (codeAny_builtin F.entry_proto_collect ?_))
  rw [Around.under_plainId F.plain_proto_collect _]
  show wpAny _ A.in1 (newList [] >>= fun l => PySem.again (.builtin "list.__iadd__" ⟨[l, .ref I], []⟩)) _ _ s
  refine wpAny_bind (wpAny_newObj_type ?_)
  refine wpAny_pure ⟨plainId_quiet F.plain_list_iadd _, codeAny_builtin F.entry_list_iadd ?_⟩
  rw [Around.under_plainId F.plain_list_iadd _]
  have hit₁ : (s.heap.push { cls := .type "list", data := .seq ([] : List Value).toArray }).IsRevIter I l ((items.size : Int) - 1) := hit.at fun o e => Heap.get?_push_of_some _ e
  have hl₁ : (s.heap.push { cls := .type "list", data := .seq ([] : List Value).toArray }).IsList l items := hl.at fun o e => Heap.get?_push_of_some _ e
  show wpAny _ A.in1 (Builtin.List.listExtendWith (.ref s.heap.objs.size) (.ref I) (.ref s.heap.objs.size)) _ _ _
  unfold Builtin.List.listExtendWith
  refine wpAny_bind (wpAny_typeOf (T := "list_reverseiterator") hit₁.typeIs ?_)
  have h1 : Builtin.List.listSameRef (.ref s.heap.objs.size) (.ref I) = false := by
    have : s.heap.objs.size ≠ I := Nat.ne_of_gt hIl
    simp [Builtin.List.listSameRef, this]
  have h2 : (Value.type "list_reverseiterator" == Value.type "list") = false := by decide
  have h3 : (Value.type "list_reverseiterator" == Value.type "tuple") = false := by decide
  simp only [h1, h2, h3, Bool.or_false, Bool.false_eq_true, if_false]
  refine wpAny_bind (wpAny_pyIter_revIter hit₁ ?_)
  refine wpAny_bind (wpAny_holding ?_)
  unfold Builtin.List.listLengthHint
  refine wpAny_bind (wpAny_specialOf hit₁.typeIs lri_no_len ?_)
  show wpAny _ A.in1 (specialOf (Value.ref I) (Str.ofString "__length_hint__") >>= _) _ _ _
  refine wpAny_bind (wpAny_specialOf hit₁.typeIs lri_hint ?_)
  wp_delta
  refine wpAny_bind (wpAny_isInstance (T := "list_reverseiterator") (b := true) hit₁.typeIs (by rw [isSubtype_type]; kernel_rfl) ?_)
  refine wpAny_pure ?_
  rw [if_neg (by decide)]
  have hS : (s.heap.push { cls := .type "list", data := .seq ([] : List Value).toArray }).get? s.heap.objs.size = some { cls := .type "list", data := .seq ([] : List Value).toArray } := Heap.get?_push_size _ rfl
  have hSf : s.heap.objs.size ∉ [I, l] := fun hm => by
    rcases List.mem_cons.mp hm with e | e
    · exact absurd hIl (by rw [e]; exact Nat.lt_irrefl _)
    · rw [List.mem_singleton.mp e] at hll; exact Nat.lt_irrefl _ hll
  have hst : (fun (i : Nat) (h : Heap) => i ≤ items.size ∧ h.IsRevIter I l ((items.size : Int) - 1 - (i : Int)) ∧ h.IsList l items) 0 (s.heap.push { cls := .type "list", data := .seq ([] : List Value).toArray }) := ⟨Nat.zero_le _, by simpa using hit₁, hl₁⟩
  refine wpAny_pure ⟨plainId_quiet F.plain_extend_loop _, codeAny_extend_loopS (Walks.listRev (A := A.in1) hh I l hne items).toS hn _ hSf _ items.size 0 _ _ _ rfl (Nat.zero_le _) hst hS (ItemsOf.nil _) fun s' acc' c' hm hS' hacc => ?_⟩
  show wpAny _ A (load s.heap.objs.size >>= _) _ _ s'
  refine wpAny_bind (wpAny_load hS' ?_)
  have e := items_rev hacc
  obtain ⟨hp', g', d', tk', os'⟩ := s'
  have e1 : g' = s.gens := hm.gens
  have e2 : d' = s.drawn := hm.drawn
  have e3 : os' = s.os := hm.os
  subst e1 e2 e3
  refine wpAny_pure ?_
  show Q acc'.toList _
  rw [e]
  exact hQ hp' tk' fun b ob hb eo => hm.heap b ob (fun z => by
    rcases List.mem_cons.mp z with z | z
    · have := Heap.lt_size eo
      rw [z] at this; exact Nat.lt_irrefl _ this
    · exact hb (List.mem_singleton.mp z)) (Heap.get?_push_of_some _ eo)
theorem strs_app : ∀ {us vs : List Value} {ys zs : List Str}, StrsAre us ys → StrsAre vs zs → StrsAre (us ++ vs) (ys ++ zs)
  | _, _, _, _, .nil, h => h
  | _, _, _, _, .cons y k r, h => .cons y k (strs_app r h)
theorem strs_rev : ∀ {us : List Value} {ys : List Str}, StrsAre us ys → StrsAre us.reverse ys.reverse
  | _, _, .nil => .nil
  | _, _, .cons y k r => by
    rw [List.reverse_cons, List.reverse_cons]
    exact strs_app (strs_rev r) (.cons y k .nil)
theorem join_rev {x : Str} {t : Tok} {Q : Value → Shared → Prop} {l I : Addr} {items : Array Value} {ys : List Str} (hh : A.handled = none) (hne : l ≠ I) (hit : s.heap.IsRevIter I l ((items.size : Int) - 1)) (hl : s.heap.IsList l items) (hi : StrsAre items.toList ys)
    (hn : items.size ≤ sizeLine) (hok : (ys.map (·.length)).sum + ys.length * x.length ≤ 16777216)
    (h : ∀ h' t' k, (∀ b o, b ≠ I → s.heap.get? b = some o → h'.get? b = some o) → Q (.str (Txt.join x ys.reverse) t') { s with heap := h', toks := k }) :
    wpAny (model prog w) A (call (.builtin "str.join") [.str x t, .ref I]) Q E s := by
  refine wpAny_call (codeAny_call_builtin F.slot_str_join.plain F.entry_str_join (F.slot_str_join.check _ _ _ _ _ _ _ _ (typeIs_str _ _ _) (F.args_str_join_2 _ _) ?_))
  rw [join_tree_other]
  refine wpAny_bind (wpAny_typeOf (T := "list_reverseiterator") hit.typeIs ?_)
  show wpAny _ A.in1 ((pyIter (.ref I)).tryCatch _ >>= fun it => collect it >>= fun items => joinTail x items) _ _ s
  refine wpAny_bind (wpAny_tryCatch (wpAny_pyIter_revIter hit ?_))
  refine wpAny_bind (wpAny_collect_rev (A := A.in1) hh hne hit hl (fun h' tk hk => ?_) hn)
  obtain ⟨lv, hv, ht⟩ := strsAre_values (strs_rev hi)
  rw [hv]
  have hok2 : (ys.reverse.map (·.length)).sum + ys.reverse.length * x.length ≤ 16777216 := by
    rw [List.map_reverse, List.sum_reverse, List.length_reverse]; exact hok
  have hok' := joinOk_of hok2
  rw [← ht] at hok'
  unfold JoinOk at hok'
  rw [Bool.not_eq_true'] at hok'
  have g : Gives (joinTail x (strValues lv)) (joinMade x lv) := by
    have g0 := gives_joinTail x lv hok'
    cases lv with
    | nil => exact g0
    | cons p r => cases r with
      | nil => exact g0
      | cons q r' => exact g0
  exact g prog w A (wants Q E) _ (post_join lv ⟨joinFit_length hok', fun t' k => by rw [ht]; exact h h' t' k hk⟩)
end
/-- o.join(reversed(e)) -/
def tJoinRev (K : PySem.W.Frag) (to : TE) (te : TA) : TE := fun σ H Q => to σ H fun x H1 => (∃ a, x = .str a) ∧ te σ H1 fun vs H2 => ∃ a p, ∃ ys : List Str, x = .str a ∧ vs = [.ref p] ∧ SqL K H2 p (ys.map V.str) ∧ ys.length ≤ 100000 ∧
  (ys.map (·.length)).sum + ys.length * a.length ≤ 16777216 ∧ Q (.str (Txt.join a ys.reverse)) H2
theorem pe_joinRev {X : Cx} {K : PySem.W.Frag} {o e : Expr} {to : TE} {te : TA} {rp rpos apos pos : Pos} (hK : X.K = K) (hc : X.calm = true) (hg : Gl X "reversed") (hm : X.mg "reversed" = none) (ho : PE X o to) (ha : PA X [e] te)
    (hs : starEach [e] X.env = [(false, eval e X.env)] := by rfl) (hs2 : starEach [.Call (.Name "reversed" rp) [e] [] rpos] X.env = [(false, eval (.Call (.Name "reversed" rp) [e] [] rpos) X.env)] := by rfl)
    (hbase : attributeBase o "join" X.env (eval o X.env) = eval o X.env := by rfl) (hline : (apos.endLine == pos.line) = true := by rfl) :
    PE X (.Call (.Attribute o "join" apos) [.Call (.Name "reversed" rp) [e] [] rpos] [] pos) (tJoinRev K to te) := by
  subst hK
  refine ⟨fun pins s σ H Q I h => ?_⟩
  refine PySem.Call_method1 hbase hs2 hline (thn (ho.run pins s σ H _ I h) fun v s1 ⟨x, H1, I1, r1, q1⟩ => ?_)
  obtain ⟨⟨a, rfl⟩, q1⟩ := q1
  obtain ⟨t, rfl⟩ := _root_.id r1
  refine ⟨"str", _, F.plainAttrs_str, F.slot_str_join, F.type_str_join, typeIs_str _ _ _, (fun _ e => nomatch e), Calls.callWith_builtin rfl (Calls.evalArgs_plain (Calls.spliced_cons ?_))⟩
  refine Call_ (ld_blt I1 hg hm PyProof.Rows.boot_reversed (PyProof.Rows.callWith_type1 (thn (ha.run rpos pins s1 σ H1 _ I1 q1) fun us s2 ⟨vs, H2, I2, r2, q2⟩ => ?_) hs rfl))
  obtain ⟨a', p, ys, e1, e2, hq, hlen, hok, q⟩ := q2
  cases e1
  subst e2
  cases r2 with
  | cons r rr =>
    cases rr
    cases r
    obtain ⟨its, rv, p', hz⟩ := I2.list hq
    have hll : p < s2.heap.objs.size := by
      obtain ⟨ob, hob, _⟩ := _root_.id p'.isList
      exact Heap.lt_size hob
    have hi := strs_of_vals rv
    have hl := rv.length
    rw [List.length_map] at hl
    refine call_reversed_list p'.isList ?_
    refine Calls.spliced_nil ?_
    have nI : H2 s2.heap.objs.size = none := I2.hok.fresh (Nat.le_refl _)
    obtain ⟨f0, f1, f2, f3, f4, f5⟩ := I2.fpOk (Nat.le_refl _) nI
    refine join_rev (l := p) (items := its.toArray) (I2.ok.hd hc) (Nat.ne_of_lt hll) ⟨_, Heap.get?_push_size _ rfl, rfl, rfl⟩ (p'.isList.at fun ob e => Heap.get?_push_of_some _ e) (by rw [List.toList_toArray]; exact hi) (le_line (by simp; omega)) hok fun h' t' k hk => ?_
    exact ⟨.str _, H2, I2.turned (t' := k) (fun b ob hb e => hk b ob hb (Heap.get?_push_of_some _ e)) f0 f1 f3 f4 f5, ⟨t', rfl⟩, q⟩
end Y

namespace Y
open PySem PySem.Spec PyProof.Rows L2 Z
open C8 (tCut pss_cut Cal pe_c Met pe_mt pe_mt0 Mak pe_mk)
/-! ### letters in any order -/
def sv (l : List Nat) : List V := l.map fun c => V.str (S [c])
theorem sv_len (l : List Nat) : (sv l).length = l.length := by unfold sv; rw [List.length_map]
theorem sv_get {l : List Nat} {k : Nat} (h : k < l.length) : (sv l)[k]? = some (.str (S [l.getD k 0])) := by
  unfold sv; rw [List.getElem?_map, List.getElem?_eq_getElem h, List.getD_eq_getElem?_getD, List.getElem?_eq_getElem h]; rfl
theorem sv_erase : ∀ (l : List Nat) (k : Nat), (sv l).eraseIdx k = sv (l.eraseIdx k)
  | [], _ => rfl
  | _ :: _, 0 => rfl
  | x :: l, k + 1 => by show _ :: (sv l).eraseIdx k = _ :: sv (l.eraseIdx k); rw [sv_erase l k]
theorem sv_snoc (l : List Nat) (x : Nat) : sv l ++ [V.str (S [x])] = sv (l ++ [x]) := by unfold sv; rw [List.map_append]; rfl
theorem erase_perm : ∀ (l : List Nat) (k : Nat), k < l.length → (l.getD k 0 :: l.eraseIdx k).Perm l
  | [], _, h => by cases h
  | x :: l, 0, _ => List.Perm.refl _
  | x :: l, k + 1, h => by
    have ih := erase_perm l k (by simpa using h)
    have e : (x :: l).getD (k + 1) 0 = l.getD k 0 := rfl
    rw [e]
    show (l.getD k 0 :: x :: l.eraseIdx k).Perm (x :: l)
    exact (List.Perm.swap _ _ _).trans (ih.cons x)
def spShufS : Sp := fun vs H Q _ => ∃ (h a : Addr) (xs : List Nat), vs = [.ref h, .ref a] ∧ HandOk H h ∧ H a = some (.lst (sv xs)) ∧ ¬ a = h ∧ xs.length ≤ 100 ∧
  ∀ (t : Addr) (ys : List Nat) H', H t = none → H' t = some (.lst (sv ys)) → ys.Perm xs → Gd h H H' → Q (.ref t) H'
section
variable {P : Program} {w : World} {K : PySem.W.Frag} {mg : Str → Option Value} {base : Heap}
theorem c__law_shufS (d : DF K mg "_law_shuffled" s__law_shuffled) (B : Bi mg) (c__law_draw : Cal P w K mg base 1 "_law_draw" spDraw []) : Cal P w K mg base 2 "_law_shuffled" spShufS [] := by
  refine d.cal (N := n__law_shuffled) sc__law_shuffled (fun _ _ _ _ _ _ us hl => match us, hl with | [_, _], _ => rfl) (fun vs H Q E h => ?_) (fun f cdv A outer s H vs Q E hr h => ?_)
  · obtain ⟨h, a, xs, rfl, _⟩ := h
    rfl
  · obtain ⟨h, a, xs, rfl, hh, ea, nah, hl, k⟩ := h
    refine ⟨_, (pss_cons (ps_set (i := 2) sc__law_shuffled.nd rfl (by first | exact Or.inl rfl | exact Or.inr rfl) (pe_callTy (r := zList K) zc_list (by rfl) B.list (by decide +kernel) (pa_cons (pv 1) pa_nil)))
  (pss_cons (ps_set (i := 3) sc__law_shuffled.nd rfl (by first | exact Or.inl rfl | exact Or.inr rfl) (pe_lst pa_nil))
  (pss_cons (ps_for PassesOwn.never rfl (pi_range1 rfl B.range (pa_cons (pe_callB (r := zLen K) zc_len (by rfl) B.len (by decide +kernel) (pa_cons (pv 1) pa_nil)) pa_nil)) (pg_name (i := 4) sc__law_shuffled.nd rfl (by first | exact Or.inl rfl | exact Or.inr rfl)) (pss_one (ps_expr (pe_bmZ (K := K) rfl PySem.F.plainAttrs_list PySem.F.slot_list_append PySem.F.type_list_append zm_append (pv 3) (pa_cons (pe_bmZ (K := K) rfl PySem.F.plainAttrs_list PySem.F.slot_list_pop PySem.F.type_list_pop zm_popAt (pv 2) (pa_cons (pe_c c__law_draw hr (by first | decide | omega) rfl (pa_cons (pv 0) (pa_cons (pe_callB (r := zLen K) zc_len (by rfl) B.len (by decide +kernel) (pa_cons (pv 2) pa_nil)) pa_nil))) pa_nil)) pa_nil)))))
  (pss_one (ps_ret (pv 3)))))), ?_⟩
    refine zstart [some (.ref h), some (.ref a), none, none, none] rfl ?_; try dsimp only [zK, zK2]
    walk_at "zz"
    refine i_listL (SqL.of ea) fun rs0 hrs0 => ?_
    have nrh := hh.ne hrs0
    have g1 := (Gd.refl hh).new (o := .lst (sv xs)) hrs0
    have ea1 := nw (o := .lst (sv xs)) hrs0 ea
    have er1 : (upd H rs0 (.lst (sv xs))) rs0 = some (.lst (sv xs)) := upd_same
    generalize upd H rs0 (.lst (sv xs)) = H1 at g1 ea1 er1 ⊢
    walk_at "zz"
    refine ⟨by show 0 ≤ sizeLine; exact Nat.zero_le _, fun fs0 hfs0 => ?_⟩
    have nfh := g1.ok.ne hfs0
    have nfr : ¬ fs0 = rs0 := fun e => by subst e; rw [er1] at hfs0; cases hfs0
    have hf0 : H fs0 = none := by
      cases e : H fs0 with
      | none => rfl
      | some o => rw [g1.kp' e nfh] at hfs0; cases hfs0
    have g2 := g1.new (o := .lst []) hfs0
    have ea2 := nw (o := .lst []) hfs0 ea1
    have er2 := nw (o := .lst []) hfs0 er1
    have ef2 : (upd H1 fs0 (.lst [])) fs0 = some (.lst []) := upd_same
    generalize upd H1 fs0 (.lst []) = H2 at g2 ea2 er2 ef2 ⊢
    walk_at "zz"
    rw [sv_len]
    refine i_KR1 (by omega) ?_
    rw [Int.toNat_natCast]
    refine l_range (fun i σ H3 => Gd h H H3 ∧ ∃ (rs fs : List Nat) (v4 : Option V), H3 rs0 = some (.lst (sv rs)) ∧ H3 fs0 = some (.lst (sv fs)) ∧ rs.length + i = xs.length ∧ fs.length = i ∧ (rs ++ fs).Perm xs ∧ σ = [some (.ref h), some (.ref a), some (.ref rs0), some (.ref fs0), v4])
      ⟨g2, xs, [], none, er2, ef2, by omega, rfl, by rw [List.append_nil], rfl⟩ ?_ ?_
    · rintro i σ H3 hi ⟨g3, rs, fs, v4, er3, ef3, hrl, hfl, hpm, rfl⟩
      walk_at "zz"
      refine i_tyL (SqL.of ef3) ?_
      walk_at "zz"
      refine i_tyL (SqL.of er3) ?_
      walk_at "zz"
      rw [sv_len]
      refine use_draw g3.ok (by omega) (by omega) fun r H4 hr4 g4 => ?_
      have hr' : r < rs.length := by omega
      have er4 := g4.kp' er3 nrh
      have ef4 := g4.kp' ef3 nfh
      walk_at "zz"
      refine i_pop er4 (sv_get hr') (by rw [sv_len]; omega) ?_
      rw [sv_erase]
      walk_at "zz"
      have ef5 : (upd H4 rs0 (.lst (sv (rs.eraseIdx r)))) fs0 = some (.lst (sv fs)) := by rw [upd_ne nfr]; exact ef4
      refine i_append ef5 (by rw [sv_len]; omega) ?_
      rw [sv_snoc]
      walk_at "zz"
      refine ⟨((g3.trans g4).mutz hrs0).mutz hf0, rs.eraseIdx r, fs ++ [rs.getD r 0], _, by rw [upd_ne (fun e => nfr e.symm)]; exact upd_same, upd_same, by rw [List.length_eraseIdx_of_lt hr']; omega, by rw [List.length_append, hfl]; rfl, ?_, rfl⟩
      refine List.Perm.trans ?_ hpm
      have p1 := erase_perm rs r hr'
      have p2 : (rs.eraseIdx r ++ (fs ++ [rs.getD r 0])).Perm ((rs.getD r 0 :: rs.eraseIdx r) ++ fs) := by
        rw [← List.append_assoc]
        exact (List.perm_append_comm (l₁ := rs.eraseIdx r ++ fs) (l₂ := [rs.getD r 0]))
      exact p2.trans (p1.append_right fs)
    · rintro σ H3 ⟨g3, rs, fs, v4, er3, ef3, hrl, hfl, hpm, rfl⟩
      walk_at "zz"
      have hrs : rs = [] := List.eq_nil_of_length_eq_zero (by omega)
      subst hrs
      exact k fs0 fs _ hf0 ef3 hpm g3
end
end Y

namespace Y
open PySem PySem.Spec PyProof.Rows L2 Z
open C8 (tCut pss_cut Cal pe_c Met pe_mt pe_mt0 Mak pe_mk)

theorem RowsAt.rph {H : Hp} {ps : List Addr} {rs : List (List Nat)} {h : Addr} (hh : ∀ p xs, H p = some (.tup xs) → ¬ p = h) (q : RowsAt H ps rs) : RpAll (· = h) H (ps.map V.ref) (rs.map rowD) := by
  unfold RowsAt at q
  induction q with
  | nil => exact .nil
  | cons e _ ih => exact .cons (.tup e (hh _ _ e) (ivs_rp _)) ih
theorem kp_newh {h p : Addr} {H : Hp} {o : HO} (hp : H p = none) : Kp (· = h) H (upd H p o) := Kp.refl.newz hp
theorem tab_tk {N : Addr → Prop} {H H' : Hp} (a : TK H H') {v : V} {tab : List (List Nat)} (r : Rp N H v (tabD tab)) : Rp N H' v (tabD tab) := by
  obtain ⟨p, xs, rfl, e, n, ra⟩ := Rp.tupS r
  exact .tup (a _ _ e) n (tk_rows a ra)
def spWoven : Sp := fun vs H Q _ => ∃ (h : Addr) (many : Nat), vs = [.ref h, .int (many : Int)] ∧ HandOk H h ∧ 1 ≤ many ∧ many ≤ 4 ∧
  ∀ (v : V) (tab : List (List Nat)) H', 1 ≤ tab.length → tab.length ≤ 6 → (∀ r ∈ tab, r.length = many ∧ ∀ x ∈ r, x < tab.length) → Rp (· = h) H' v (tabD tab) → Gd h H H' → Q v H'
section
variable {P : Program} {w : World} {K : PySem.W.Frag} {mg : Str → Option Value} {base : Heap}
end
end Y

namespace Y
open PySem PySem.Spec PyProof.Rows L2 Z
open C8 (tCut pss_cut Cal pe_c Met pe_mt pe_mt0 Mak pe_mk pe_gc)
abbrev s__word_back : Stmt := topS 19
abbrev n__word_back : List Str := ["back", "pair", "signs", "step", "here", "there", "letter"]
theorem sc__word_back : FnScope n__word_back ["back", "pair"] (defScope s__word_back) := ⟨rfl, rfl, rfl, by decide +kernel, rfl, by decide +kernel, by decide +kernel⟩

/-- pairs of places as keys -/
def kp (p : Nat × Nat) : List Key := kg [p.1, p.2]
theorem kp_inj (a b : Nat × Nat) (h : kp a = kp b) : a = b := by
  have := kg_inj h
  obtain ⟨a1, a2⟩ := a
  obtain ⟨b1, b2⟩ := b
  simp only [List.cons.injEq, and_true] at this
  obtain ⟨h1, h2⟩ := this
  subst h1 h2; rfl
theorem kpF {H : Hp} {a : Addr} {p : Nat × Nat} (e : H a = some (.tup [.int (p.1 : Int), .int (p.2 : Int)])) : H a = some (.tup ((kp p).map kV)) := by
  show H a = some (.tup ((kg [p.1, p.2]).map kV))
  rw [kg_ivs]; exact e
/-- the signs of places in the letters -/
def sg (L : List Nat) (u : List Nat) : List V := u.map fun i => V.str (S [L.getD i 0])
/-- from where each place was found -/
def Back (L : List Nat) (H : Hp) (val : Nat × Nat → V) (X : List (List Nat × (Nat × Nat))) : Prop :=
  ∀ p ∈ X, (p.1 = [] ∧ val p.2 = .non) ∨ ∃ (w : List Nat × (Nat × Nat)) (i : Nat) (T : Addr), w ∈ X ∧ p.1 = w.1 ++ [i] ∧ val p.2 = .ref T ∧ H T = some (.tup [.int (w.2.1 : Int), .int (w.2.2 : Int), .str (S [L.getD i 0])])
def spWB : Sp := fun vs H Q _ => ∃ (d q : Addr) (L : List Nat) (val : Nat × Nat → V) (X : List (List Nat × (Nat × Nat))) (p : List Nat × (Nat × Nat)), vs = [.ref d, .ref q] ∧ H d = some (.dT (gT kp val (X.map (·.2)))) ∧ Back L H val X ∧ p ∈ X ∧
  H q = some (.tup [.int (p.2.1 : Int), .int (p.2.2 : Int)]) ∧ p.1.length ≤ 90000 ∧ ∀ H', Same H H' → Q (.str (S (p.1.map fun i => L.getD i 0))) H'
theorem i_joinRev {K : PySem.W.Frag} {H : Hp} {Q : VK} {p : Addr} {L ws : List Nat} (h : H p = some (.lst (sg L ws))) (hl : ws.length ≤ 90000) (q : Q (.str (S (ws.reverse.map fun i => L.getD i 0))) H) :
    ∃ a p', ∃ ys : List Str, V.str (S []) = V.str a ∧ [V.ref p] = [V.ref p'] ∧ SqL K H p' (ys.map V.str) ∧ ys.length ≤ 100000 ∧ (ys.map (·.length)).sum + ys.length * a.length ≤ 16777216 ∧ Q (.str (Txt.join a ys.reverse)) H := by
  refine ⟨S [], p, ws.map fun i => S [L.getD i 0], rfl, rfl, SqL.of ?_, by rw [List.length_map]; omega, ?_, ?_⟩
  · rw [List.map_map]; exact h
  · rw [List.map_map, List.length_map]
    have e0 : (S []).length = 0 := rfl
    have e1 : ∀ l : List Nat, (l.map ((fun x : Str => x.length) ∘ fun i => S [L.getD i 0])).sum = l.length := fun l => by
      induction l with
      | nil => rfl
      | cons x l ih => rw [List.map_cons, List.sum_cons, ih, List.length_cons]; show (S [L.getD x 0]).length + _ = _; rw [S_len]; simp; omega
    rw [e1, e0]; omega
  · have e : (ws.map fun i => S [L.getD i 0]).reverse = ((ws.reverse.map fun i => L.getD i 0).map fun c => [c]).map S := by
      rw [List.map_map, List.map_map, ← List.map_reverse]; rfl
    rw [e, Z.join_nil, flat_one]; exact q
theorem i_jr {K : PySem.W.Frag} {to : TE} {te : TA} {σ : L2.St} {H : Hp} {Q : VK} (q : to σ H fun x H1 => (∃ a, x = .str a) ∧ te σ H1 fun vs H2 => ∃ a p, ∃ ys : List Str, x = .str a ∧ vs = [.ref p] ∧ SqL K H2 p (ys.map V.str) ∧ ys.length ≤ 100000 ∧
  (ys.map (·.length)).sum + ys.length * a.length ≤ 16777216 ∧ Q (.str (Txt.join a ys.reverse)) H2) : tJoinRev K to te σ H Q := q
section
variable {P : Program} {w : World} {K : PySem.W.Frag} {mg : Str → Option Value} {base : Heap}
theorem c__word_back (d : DF K mg "_word_back" s__word_back) (B : Bi mg) : Cal P w K mg base 1 "_word_back" spWB [] := by
  refine d.cal (N := n__word_back) sc__word_back (fun _ _ _ _ _ _ us hl => match us, hl with | [_, _], _ => rfl) (fun vs H Q E h => ?_) (fun f cdv A outer s H vs Q E hr h => ?_)
  · obtain ⟨d, q, L, val, X, p, rfl, _⟩ := h
    rfl
  · obtain ⟨d, q, L, val, X, p, rfl, ed, bk, hp, eq, hpl, k⟩ := h
    refine ⟨_, (pss_cons (ps_set (i := 2) sc__word_back.nd rfl (by first | exact Or.inl rfl | exact Or.inr rfl) (pe_lst pa_nil))
  (pss_cons (ps_set (i := 3) sc__word_back.nd rfl (by first | exact Or.inl rfl | exact Or.inr rfl) (pe_dget (hu_of hr) (pv 0) (pv 1) (fun _ _ => rfl)))
  (pss_cons (ps_while PassesOwn.never (pt_cmpR op_notN (pv 3) pe_non (nomark _)) (pss_cons (ps_asg (pv 3) (pg_tup rfl (pgs_cons (pg_name (i := 4) sc__word_back.nd rfl (by first | exact Or.inl rfl | exact Or.inr rfl)) (pgs_cons (pg_name (i := 5) sc__word_back.nd rfl (by first | exact Or.inl rfl | exact Or.inr rfl)) (pgs_cons (pg_name (i := 6) sc__word_back.nd rfl (by first | exact Or.inl rfl | exact Or.inr rfl)) pgs_nil)))))
  (pss_cons (ps_expr (pe_bmZ (K := K) rfl PySem.F.plainAttrs_list PySem.F.slot_list_append PySem.F.type_list_append zm_append (pv 2) (pa_cons (pv 6) pa_nil)))
  (pss_one (ps_set (i := 3) sc__word_back.nd rfl (by first | exact Or.inl rfl | exact Or.inr rfl) (pe_dget (hu_of hr) (pv 0) (pe_tup (pa_cons (pv 4) (pa_cons (pv 5) pa_nil))) (fun _ _ => rfl)))))))
  (pss_one (ps_ret (pe_joinRev (K := K) rfl rfl (by rfl) B.reversed pe_str (pa_cons (pv 2) pa_nil))))))), ?_⟩
    refine zstart [some (.ref d), some (.ref q), none, none, none, none, none] rfl ?_; try dsimp only [zK, zK2]
    walk_at "zz"
    refine ⟨by show 0 ≤ sizeLine; decide, fun sl hsl => ?_⟩
    have s1 : Same H (upd H sl (.lst [])) := (Same.refl H).newz hsl
    have esl : upd H sl (.lst []) sl = some (.lst (sg L [])) := upd_same
    generalize upd H sl (.lst []) = H1 at s1 esl
    walk_at "zz"
    refine i_dget ?_
    walk_at "zz"
    refine ⟨d, _, rfl, gT_dget kp_inj (s1 _ _ ed) (kpF (s1 _ _ eq)) (List.mem_map.mpr ⟨p, hp, rfl⟩), ?_⟩
    walk_at "zz"
    obtain ⟨W, hW⟩ : ∃ W : Nat → L2.St → Hp → Prop, W = fun m σ H' => ∃ (p' : List Nat × (Nat × Nat)) (ws : List Nat) (v4 v5 v6 : Option V), p' ∈ X ∧ p'.1 ++ ws.reverse = p.1 ∧ m = p'.1.length ∧ Same H H' ∧ H' sl = some (.lst (sg L ws)) ∧ σ = [some (.ref d), some (.ref q), some (.ref sl), some (val p'.2), v4, v5, v6] := ⟨_, rfl⟩
    refine ⟨W, ⟨_, by rw [hW]; exact ⟨p, [], none, none, none, hp, by simp, rfl, s1, esl, rfl⟩⟩, fun m σ H5 wm => ?_⟩
    clear esl s1
    rw [hW] at wm
    obtain ⟨p', ws, v4, v5, v6, hp', hws, rfl, s5, esl, rfl⟩ := wm
    have hwl : p'.1.length + ws.length = p.1.length := by rw [← hws, List.length_append, List.length_reverse]
    rcases bk p' hp' with ⟨e0, ev⟩ | ⟨wq, i, T, hwq, e1, ev, eT⟩
    · rw [ev]
      walk_at "zz"
      refine ⟨rfl, ?_⟩
      rw [decide_eq_true rfl]
      refine ⟨false, rfl, ?_⟩
      walk_at "zz"
      refine i_jr ?_
      walk_at "zz"
      refine ⟨⟨_, rfl⟩, ?_⟩
      walk_at "zz"
      rw [empty_codes]
      refine i_joinRev (L := L) esl (by omega) ?_
      rw [e0, List.nil_append] at hws
      rw [hws]
      exact k _ s5
    · rw [ev]
      have eT5 := s5 _ _ eT
      walk_at "zz"
      refine ⟨rfl, ?_⟩
      rw [decide_eq_false (fun z => by cases z)]
      refine ⟨true, rfl, ?_⟩
      refine ⟨fun σ' H' => ∃ m', m' < p'.1.length ∧ W m' σ' H', fun σ' H' h => h, ?_⟩
      walk_at "zz"
      refine i_tyL (SqL.of esl) ?_
      walk_at "zz"
      refine i_append esl (by unfold sg; rw [List.length_map]; omega) ?_
      have s6 : Same H (upd H5 sl (.lst (sg L ws ++ [.str (S [L.getD i 0])]))) := s5.mutz hsl
      have esl6 : upd H5 sl (.lst (sg L ws ++ [.str (S [L.getD i 0])])) sl = some (.lst (sg L (ws ++ [i]))) := by rw [upd_same]; unfold sg; rw [List.map_append]; rfl
      generalize upd H5 sl (.lst (sg L ws ++ [.str (S [L.getD i 0])])) = H6 at s6 esl6
      walk_at "zz"
      refine i_dget ?_
      walk_at "zz"
      refine ⟨by show 2 ≤ sizeLine; decide, fun T2 hT2 => ?_⟩
      have s7 : Same H6 (upd H6 T2 (.tup [.int (wq.2.1 : Int), .int (wq.2.2 : Int)])) := (Same.refl H6).newz hT2
      have e7 : upd H6 T2 (.tup [.int (wq.2.1 : Int), .int (wq.2.2 : Int)]) T2 = some (.tup [.int (wq.2.1 : Int), .int (wq.2.2 : Int)]) := upd_same
      generalize upd H6 T2 (.tup [.int (wq.2.1 : Int), .int (wq.2.2 : Int)]) = H7 at s7 e7
      walk_at "zz"
      refine ⟨d, _, rfl, gT_dget kp_inj (s7 _ _ (s6 _ _ ed)) (kpF e7) (List.mem_map.mpr ⟨wq, hwq, rfl⟩), ?_⟩
      walk_at "zz"
      refine ⟨wq.1.length, by rw [e1, List.length_append]; simp, ?_⟩
      rw [hW]
      refine ⟨wq, ws ++ [i], _, _, _, hwq, by rw [List.reverse_append, List.reverse_singleton, ← List.append_assoc, ← e1]; exact hws, rfl, s6.trans s7, s7 _ _ esl6, rfl⟩
end
end Y

namespace Y
open PySem PySem.Spec PyProof.Rows L2 Z
open PySem.Sem (wp)
/-! ### zip whose tuple goes to a name: the owned tuple is given out anew, or found free again -/
abbrev ZN (h : Heap) (z TI TO : Addr) (f0 : Value) (f : Bool) : Prop :=
  h.get? z = some { cls := .type "zip", dict := none, data := .fields #[f0, .bool f, .bool false, .ref TI, .ref TO], slots := #[] }
def F0 (v : Value) : Prop := v = .none ∨ ∃ T : Addr, v = rawInt T
section
variable {prog : Program} {w : World} {A : Around} {E : Value → Shared → Prop} {s : Shared} {z TI TO i1 i2 : Addr} {fp1 fp2 : List Addr} {n1 n2 i : Nat} {P1 P2 : Nat → Value → Prop} {St1 St2 : Nat → Heap → Prop} {a1 a2 f0 : Value} {f : Bool}
theorem alive_any {a : Addr} {Q : Option Obj → Shared → Prop} (h : Q (s.heap.get? a) s) : wpAny (model prog w) A (loadIfAlive a) Q E s := fun _ _ _ => h
/-- is the owned tuple free: either way the zip stands as before, but for its flag -/
theorem zn_free {Q : Bool → Shared → Prop} (hz : ZN s.heap z TI TO f0 f) (hf : F0 f0)
    (h1 : Q true s) (h2 : ∀ h' : Heap, ZN h' z TI TO f0 true → Heap.SameBut z s.heap h' → Q false { s with heap := h' }) :
    wpAny (model prog w) A (Builtin.SmallTypes.ownedTupleIsFree (.ref z)) Q E s := by
  unfold Builtin.SmallTypes.ownedTupleIsFree
  refine wpAny_bind (wpAny_field hz rfl (x := f0) rfl ?_)
  rcases hf with e | ⟨T, e⟩ <;> subst e
  · exact wpAny_pure h1
  · show wpAny _ _ (loadIfAlive ((T : Int).toNat) >>= _) _ _ _
    rw [Int.toNat_natCast]
    refine wpAny_bind (alive_any ?_)
    cases s.heap.get? T with
    | none => exact wpAny_pure h1
    | some o =>
      simp only [Option.isNone_some, Bool.false_eq_true, if_false]
      refine wpAny_bind (wpAny_field hz rfl (x := .bool f) rfl ?_)
      cases f with
      | true =>
        rw [if_neg (show ¬ ((Value.bool true != Value.bool true) = true) from Bool.false_ne_true)]
        exact wpAny_pure (h2 s.heap hz (Heap.SameBut.refl _ _))
      | false =>
        rw [if_pos (show (Value.bool false != Value.bool true) = true from rfl)]
        exact wpAny_bind (wpAny_setField_rec hz (by simp) fun h₁ hz₁ hs₁ => wpAny_pure (h2 h₁ hz₁ hs₁))
theorem zn_item {Q : Value → Shared → Prop} (S : ZipSep2 z TI TO i1 i2 fp1 fp2) (D1 : Draws prog w A i1 fp1 n1 P1 St1) (D2 : Draws prog w A i2 fp2 n2 P2 St2)
    (hz : ZN s.heap z TI TO f0 f) (hf : F0 f0) (hTI : IsTupOf2 s.heap TI (.ref i1) (.ref i2)) (hTO : IsTupOf2 s.heap TO a1 a2) (st1 : St1 i s.heap) (st2 : St2 i s.heap) (hlt1 : i < n1) (hlt2 : i < n2)
    (hQ : ∀ x1 x2 h' tk, P1 i x1 → P2 i x2 → (∃ g0 g, F0 g0 ∧ ZN h' z TI TO g0 g) → (∃ b1 b2, IsTupOf2 h' TO b1 b2) → St1 (i + 1) h' → St2 (i + 1) h' → IsTupOf2 h' s.heap.objs.size x1 x2 → h'.objs.size = s.heap.objs.size + 1 →
      (∀ c o, c ≠ z → c ≠ TO → c ≠ i1 → c ≠ i2 → s.heap.get? c = some o → h'.get? c = some o) → Q (.ref s.heap.objs.size) { s with heap := h', toks := tk }) :
    wpAny (model prog w) A (Builtin.«zip.__next__» ⟨[.ref z], []⟩) (fun fin s' => ∃ v, fin = .done (.ret v) ∧ Q v s') E s := by
  obtain ⟨hp, g, d, tk0, os⟩ := s
  show wpAny _ _ (field (.ref z) 2 >>= _) _ _ _
  refine wpAny_bind (wpAny_field hz rfl (x := .bool false) rfl ?_)
  show wpAny _ _ (field (.ref z) 3 >>= _) _ _ _
  refine wpAny_bind (wpAny_field hz rfl (x := .ref TI) rfl ?_)
  refine wpAny_bind (wpAny_seqItems hTI rfl ?_)
  show wpAny _ _ (Builtin.SmallTypes.ownedTupleIsFree (.ref z) >>= _) _ _ _
  refine wpAny_bind (zn_free hz hf ?_ fun g0 hz0 hs0 => ?_)
  · simp only [if_true]
    refine wpAny_bind (wpAny_rule ?_)
    refine wpAny_bind (wpAny_field hz rfl (x := .ref TO) rfl ?_)
    refine wpAny_bind (wpAny_setField_rec hz (by simp) fun g0 hz0 hs0 => ?_)
    replace hz0 : ZN g0 z TI TO .ellipsis f := hz0
    replace hs0 : Heap.SameBut z hp g0 := hs0
    refine wpAny_bind ?_
    simp only [List.zipIdx_cons, List.zipIdx_nil, List.forIn_cons, List.forIn_nil]
    refine wpAny_bind (wpAny_bind (wpAny_onRaise ?_))
    show wpAny _ _ (Builtin.SmallTypes.nextOf (.ref i1) >>= _) _ _ ⟨g0, g, d, tk0, os⟩
    refine wpAny_bind (D1.item i _ _ _ hlt1 (D1.over st1 hs0 S.zf1) fun x1 p1 tk1 hx1 sn1 hp1 => wpAny_pure ?_)
    replace hp1 : Heap.SameBut i1 g0 p1 := hp1
    have hU1 : IsTupOf2 p1 TO a1 a2 := hp1.extBut _ _ S.Ti1 (hs0.extBut _ _ S.TOz hTO)
    refine wpAny_bind (wpAny_seqItems (s := ⟨p1, g, d, tk1, os⟩) hU1 rfl ?_)
    refine wpAny_bind (updateSeq_IsTupOf2 (s := ⟨p1, g, d, tk1, os⟩) hU1 fun g1 hT1 hs1 => ?_)
    replace hT1 : IsTupOf2 g1 TO x1 a2 := hT1
    replace hs1 : Heap.SameBut TO p1 g1 := hs1
    refine wpAny_bind (wpAny_letGo (wpAny_pure ?_))
    refine wpAny_bind (wpAny_bind (wpAny_onRaise ?_))
    show wpAny _ _ (Builtin.SmallTypes.nextOf (.ref i2) >>= _) _ _ ⟨g1, g, d, tk1, os⟩
    refine wpAny_bind (D2.item i _ _ _ hlt2 (D2.over (D2.over (D2.over st2 hs0 S.zf2) hp1 S.sep1_2) hs1 S.Tf2) fun x2 p2 tk2 hx2 sn2 hp2 => wpAny_pure ?_)
    replace hp2 : Heap.SameBut i2 g1 p2 := hp2
    have hU2 : IsTupOf2 p2 TO x1 a2 := hp2.extBut _ _ S.Ti2 hT1
    refine wpAny_bind (wpAny_seqItems (s := ⟨p2, g, d, tk2, os⟩) hU2 rfl ?_)
    refine wpAny_bind (updateSeq_IsTupOf2 (s := ⟨p2, g, d, tk2, os⟩) hU2 fun g2 hT2 hs2 => ?_)
    replace hT2 : IsTupOf2 g2 TO x1 x2 := hT2
    replace hs2 : Heap.SameBut TO p2 g2 := hs2
    refine wpAny_bind (wpAny_letGo (wpAny_pure (wpAny_pure ?_)))
    refine wpAny_bind (wpAny_seqItems (s := ⟨g2, g, d, tk2, os⟩) hT2 rfl ?_)
    refine wpAny_bind (wpAny_newTuple ?_)
    have hsz : g2.objs.size = hp.objs.size := by rw [hs2.1, hp2.1, hs1.1, hp1.1, hs0.1]
    have hzz : ZN g2 z TI TO .ellipsis f := hs2.extBut _ _ S.TOz.symm (hp2.extBut _ _ S.zi2 (hs1.extBut _ _ S.TOz.symm (hp1.extBut _ _ S.zi1 hz0)))
    have hkk : ∀ c o, c ≠ z → c ≠ TO → c ≠ i1 → c ≠ i2 → hp.get? c = some o → g2.get? c = some o := fun c o cz cT c1 c2 e =>
      (hs2.extBut _ _ cT (hp2.extBut _ _ c2 (hs1.extBut _ _ cT (hp1.extBut _ _ c1 (hs0.extBut _ _ cz e)))))
    have hj1 : St1 (i + 1) g2 := D1.over (D1.over (D1.over sn1 hs1 S.Tf1) hp2 S.sep2_1) hs2 S.Tf1
    have hj2 : St2 (i + 1) g2 := D2.over sn2 hs2 S.Tf2
    have hzlt : z < g2.objs.size := Heap.lt_size hzz
    show wpAny _ _ (Builtin.SmallTypes.ownedTupleHandOut (.ref z) (.ref g2.objs.size) >>= _) _ _ ⟨g2.push { cls := .type "tuple", data := .seq #[x1, x2] }, g, d, tk2, os⟩
    refine wpAny_bind ?_
    unfold Builtin.SmallTypes.ownedTupleHandOut
    have hz6 : ZN (g2.push { cls := .type "tuple", data := .seq #[x1, x2] }) z TI TO .ellipsis f := Heap.get?_push_of_some _ hzz
    refine wpAny_bind (wpAny_setField_rec hz6 (by simp) fun h7 hz7 hs7 => ?_)
    replace hz7 : ZN h7 z TI TO (rawInt g2.objs.size) f := hz7
    refine wpAny_setField_rec hz7 (by simp) fun h8 hz8 hs8 => ?_
    replace hz8 : ZN h8 z TI TO (rawInt g2.objs.size) false := hz8
    replace hs7 : Heap.SameBut z (g2.push { cls := .type "tuple", data := .seq #[x1, x2] }) h7 := hs7
    replace hs8 : Heap.SameBut z h7 h8 := hs8
    have up : ∀ c o, c ≠ z → g2.get? c = some o → h8.get? c = some o := fun c o c1 e => hs8.extBut _ _ c1 (hs7.extBut _ _ c1 (Heap.get?_push_of_some _ e))
    have hT8 : IsTupOf2 h8 g2.objs.size x1 x2 := hs8.extBut _ _ (Nat.ne_of_gt hzlt) (hs7.extBut _ _ (Nat.ne_of_gt hzlt) (Heap.get?_push_size _ rfl))
    have hn8 : h8.objs.size = g2.objs.size + 1 := by rw [hs8.1, hs7.1, Heap.size_push]
    rw [hsz] at hz8 hT8 hn8
    refine wpAny_pure ⟨_, rfl, ?_⟩
    show Q (.ref g2.objs.size) ⟨h8, g, d, tk2, os⟩
    rw [hsz]
    exact hQ x1 x2 h8 tk2 hx1 hx2 ⟨_, _, .inr ⟨_, rfl⟩, hz8⟩ ⟨_, _, up _ _ S.TOz hT2⟩ (D1.frame _ _ _ hj1 fun b hb o e => up b o (fun q => S.zf1 (q ▸ hb)) e) (D2.frame _ _ _ hj2 fun b hb o e => up b o (fun q => S.zf2 (q ▸ hb)) e) hT8 hn8 fun c o cz cT c1 c2 e => up c o cz (hkk c o cz cT c1 c2 e)
  · replace hs0 : Heap.SameBut z hp g0 := hs0
    simp only [Bool.false_eq_true, if_false]
    refine wpAny_bind ?_
    rw [← Array.forIn_toList]
    simp only [List.forIn_cons, List.forIn_nil]
    refine wpAny_bind (wpAny_bind (wpAny_holding ?_))
    show wpAny _ _ (Builtin.SmallTypes.nextOf (.ref i1) >>= _) _ _ ⟨g0, g, d, tk0, os⟩
    refine wpAny_bind (D1.item i _ _ _ hlt1 (D1.over st1 hs0 S.zf1) fun x1 p1 tk1 hx1 sn1 hp1 => wpAny_pure ?_)
    replace hp1 : Heap.SameBut i1 g0 p1 := hp1
    refine wpAny_pure ?_
    refine wpAny_bind (wpAny_bind (wpAny_holding ?_))
    show wpAny _ _ (Builtin.SmallTypes.nextOf (.ref i2) >>= _) _ _ ⟨p1, g, d, tk1, os⟩
    refine wpAny_bind (D2.item i _ _ _ hlt2 (D2.over (D2.over st2 hs0 S.zf2) hp1 S.sep1_2) fun x2 p2 tk2 hx2 sn2 hp2 => wpAny_pure ?_)
    replace hp2 : Heap.SameBut i2 p1 p2 := hp2
    refine wpAny_pure (wpAny_pure ?_)
    show wpAny _ _ (newTuple [x1, x2] >>= _) _ _ ⟨p2, g, d, tk2, os⟩
    refine wpAny_bind (wpAny_newTuple ?_)
    have hsz : p2.objs.size = hp.objs.size := by rw [hp2.1, hp1.1, hs0.1]
    have up : ∀ c o, p2.get? c = some o → (p2.push { cls := .type "tuple", data := .seq #[x1, x2] }).get? c = some o := fun c o e => Heap.get?_push_of_some _ e
    have hzz : ZN p2 z TI TO f0 true := hp2.extBut _ _ S.zi2 (hp1.extBut _ _ S.zi1 hz0)
    have hT2 : IsTupOf2 p2 TO a1 a2 := hp2.extBut _ _ S.Ti2 (hp1.extBut _ _ S.Ti1 (hs0.extBut _ _ S.TOz hTO))
    have hj1 : St1 (i + 1) p2 := D1.over sn1 hp2 S.sep2_1
    have hT8 : IsTupOf2 (p2.push { cls := .type "tuple", data := .seq #[x1, x2] }) p2.objs.size x1 x2 := Heap.get?_push_size _ rfl
    have hn8 : (p2.push { cls := .type "tuple", data := .seq #[x1, x2] }).objs.size = p2.objs.size + 1 := Heap.size_push ..
    rw [hsz] at hT8 hn8
    refine wpAny_pure ⟨_, rfl, ?_⟩
    show Q (.ref p2.objs.size) ⟨p2.push { cls := .type "tuple", data := .seq #[x1, x2] }, g, d, tk2, os⟩
    rw [hsz]
    exact hQ x1 x2 _ tk2 hx1 hx2 ⟨_, _, hf, up _ _ hzz⟩ ⟨_, _, up _ _ hT2⟩ (D1.frame _ _ _ hj1 fun b _ o e => up b o e) (D2.frame _ _ _ sn2 fun b _ o e => up b o e) hT8 hn8 fun c o cz cT c1 c2 e =>
      up c o (hp2.extBut _ _ c2 (hp1.extBut _ _ c1 (hs0.extBut _ _ cz e)))
theorem zn_end {Q : Fin → Shared → Prop} (S : ZipSep2 z TI TO i1 i2 fp1 fp2) (D1 : Draws prog w A i1 fp1 n1 P1 St1) (D2 : Draws prog w A i2 fp2 n2 P2 St2)
    (hz : ZN s.heap z TI TO f0 f) (hf : F0 f0) (hTI : IsTupOf2 s.heap TI (.ref i1) (.ref i2)) (hTO : IsTupOf2 s.heap TO a1 a2) (st1 : St1 i s.heap) (st2 : St2 i s.heap) (hle1 : i ≤ n1) (hle2 : i ≤ n2) (hend : i = n1 ∨ i = n2)
    (hE : ∀ h' tk e, (∀ c o, c ≠ z → c ≠ TO → c ≠ i1 → c ≠ i2 → s.heap.get? c = some o → h'.get? c = some o) → (∃ o, h'.get? e = some o ∧ o.cls = .type "StopIteration") → E (.ref e) { s with heap := h', toks := tk }) :
    wpAny (model prog w) A (Builtin.«zip.__next__» ⟨[.ref z], []⟩) Q E s := by
  obtain ⟨hp, g, d, tk0, os⟩ := s
  show wpAny _ _ (field (.ref z) 2 >>= _) _ _ _
  refine wpAny_bind (wpAny_field hz rfl (x := .bool false) rfl ?_)
  show wpAny _ _ (field (.ref z) 3 >>= _) _ _ _
  refine wpAny_bind (wpAny_field hz rfl (x := .ref TI) rfl ?_)
  refine wpAny_bind (wpAny_seqItems hTI rfl ?_)
  show wpAny _ _ (Builtin.SmallTypes.ownedTupleIsFree (.ref z) >>= _) _ _ _
  refine wpAny_bind (zn_free hz hf ?_ fun g0 hz0 hs0 => ?_)
  · simp only [if_true]
    refine wpAny_bind (wpAny_rule ?_)
    refine wpAny_bind (wpAny_field hz rfl (x := .ref TO) rfl ?_)
    refine wpAny_bind (wpAny_setField_rec hz (by simp) fun g0 hz0 hs0 => ?_)
    replace hz0 : ZN g0 z TI TO .ellipsis f := hz0
    replace hs0 : Heap.SameBut z hp g0 := hs0
    refine wpAny_bind ?_
    simp only [List.zipIdx_cons, List.zipIdx_nil, List.forIn_cons, List.forIn_nil]
    refine wpAny_bind (wpAny_bind (wpAny_onRaise ?_))
    show wpAny _ _ (Builtin.SmallTypes.nextOf (.ref i1) >>= _) _ _ ⟨g0, g, d, tk0, os⟩
    by_cases hlt1 : i < n1
    · refine wpAny_bind (D1.item i _ _ _ hlt1 (D1.over st1 hs0 S.zf1) fun x1 p1 tk1 hx1 sn1 hp1 => wpAny_pure ?_)
      replace hp1 : Heap.SameBut i1 g0 p1 := hp1
      have hU1 : IsTupOf2 p1 TO a1 a2 := hp1.extBut _ _ S.Ti1 (hs0.extBut _ _ S.TOz hTO)
      refine wpAny_bind (wpAny_seqItems (s := ⟨p1, g, d, tk1, os⟩) hU1 rfl ?_)
      refine wpAny_bind (updateSeq_IsTupOf2 (s := ⟨p1, g, d, tk1, os⟩) hU1 fun g1 hT1 hs1 => ?_)
      replace hT1 : IsTupOf2 g1 TO x1 a2 := hT1
      replace hs1 : Heap.SameBut TO p1 g1 := hs1
      refine wpAny_bind (wpAny_letGo (wpAny_pure ?_))
      have hi2 : i = n2 := by omega
      refine wpAny_bind (wpAny_bind (wpAny_onRaise ?_))
      show wpAny _ _ (Builtin.SmallTypes.nextOf (.ref i2) >>= _) _ _ ⟨g1, g, d, tk1, os⟩
      refine wpAny_bind (D2.done ⟨g1, g, d, tk1, os⟩ _ _ (by rw [← hi2]; exact D2.over (D2.over (D2.over st2 hs0 S.zf2) hp1 S.sep1_2) hs1 S.Tf2) fun q e hq he => ?_)
      replace hq : Heap.ExtBut i2 g1 q := hq
      obtain ⟨oe, hoe, hce⟩ := he
      replace hoe : q.get? e = some oe := hoe
      have hzq : ZN q z TI TO .ellipsis f := hq _ _ S.zi2 (hs1.extBut _ _ S.TOz.symm (hp1.extBut _ _ S.zi1 hz0))
      have hez : e ≠ z := fun x => by subst x; rw [hzq] at hoe; cases hoe; simp at hce
      refine wpAny_setField_rec (s := ⟨q, g, d, tk1, os⟩) hzq (by simp) fun q' _ hq' => ?_
      replace hq' : Heap.SameBut z q q' := hq'
      exact hE q' tk1 e (fun c o cz cT c1 c2 x => hq'.extBut _ _ cz (hq _ _ c2 (hs1.extBut _ _ cT (hp1.extBut _ _ c1 (hs0.extBut _ _ cz x))))) ⟨oe, hq'.extBut _ _ hez hoe, hce⟩
    · have hi1 : i = n1 := by omega
      refine wpAny_bind (D1.done ⟨g0, g, d, tk0, os⟩ _ _ (by rw [← hi1]; exact D1.over st1 hs0 S.zf1) fun q e hq he => ?_)
      replace hq : Heap.ExtBut i1 g0 q := hq
      obtain ⟨oe, hoe, hce⟩ := he
      replace hoe : q.get? e = some oe := hoe
      have hzq : ZN q z TI TO .ellipsis f := hq _ _ S.zi1 hz0
      have hez : e ≠ z := fun x => by subst x; rw [hzq] at hoe; cases hoe; simp at hce
      refine wpAny_setField_rec (s := ⟨q, g, d, tk0, os⟩) hzq (by simp) fun q' _ hq' => ?_
      replace hq' : Heap.SameBut z q q' := hq'
      exact hE q' tk0 e (fun c o cz cT c1 c2 x => hq'.extBut _ _ cz (hq _ _ c1 (hs0.extBut _ _ cz x))) ⟨oe, hq'.extBut _ _ hez hoe, hce⟩
  · replace hs0 : Heap.SameBut z hp g0 := hs0
    simp only [Bool.false_eq_true, if_false]
    refine wpAny_bind ?_
    rw [← Array.forIn_toList]
    simp only [List.forIn_cons, List.forIn_nil]
    refine wpAny_bind (wpAny_bind (wpAny_holding ?_))
    show wpAny _ _ (Builtin.SmallTypes.nextOf (.ref i1) >>= _) _ _ ⟨g0, g, d, tk0, os⟩
    by_cases hlt1 : i < n1
    · refine wpAny_bind (D1.item i _ _ _ hlt1 (D1.over st1 hs0 S.zf1) fun x1 p1 tk1 hx1 sn1 hp1 => wpAny_pure ?_)
      replace hp1 : Heap.SameBut i1 g0 p1 := hp1
      refine wpAny_pure ?_
      have hi2 : i = n2 := by omega
      refine wpAny_bind (wpAny_bind (wpAny_holding ?_))
      show wpAny _ _ (Builtin.SmallTypes.nextOf (.ref i2) >>= _) _ _ ⟨p1, g, d, tk1, os⟩
      refine wpAny_bind (D2.done ⟨p1, g, d, tk1, os⟩ _ _ (by rw [← hi2]; exact D2.over (D2.over st2 hs0 S.zf2) hp1 S.sep1_2) fun q e hq he => ?_)
      replace hq : Heap.ExtBut i2 p1 q := hq
      exact hE q tk1 e (fun c o cz cT c1 c2 x => hq _ _ c2 (hp1.extBut _ _ c1 (hs0.extBut _ _ cz x))) he
    · have hi1 : i = n1 := by omega
      refine wpAny_bind (D1.done ⟨g0, g, d, tk0, os⟩ _ _ (by rw [← hi1]; exact D1.over st1 hs0 S.zf1) fun q e hq he => ?_)
      replace hq : Heap.ExtBut i1 g0 q := hq
      exact hE q tk0 e (fun c o cz cT c1 c2 x => hq _ _ c1 (hs0.extBut _ _ cz x)) he
theorem zn_next {Q : Option Value → Shared → Prop} (S : ZipSep2 z TI TO i1 i2 fp1 fp2) (D1 : Draws prog w A.in1 i1 fp1 n1 P1 St1) (D2 : Draws prog w A.in1 i2 fp2 n2 P2 St2)
    (hz : ZN s.heap z TI TO f0 f) (hf : F0 f0) (hTI : IsTupOf2 s.heap TI (.ref i1) (.ref i2)) (hTO : IsTupOf2 s.heap TO a1 a2) (st1 : St1 i s.heap) (st2 : St2 i s.heap) (hlt1 : i < n1) (hlt2 : i < n2)
    (hQ : ∀ x1 x2 h' tk, P1 i x1 → P2 i x2 → (∃ g0 g, F0 g0 ∧ ZN h' z TI TO g0 g) → (∃ b1 b2, IsTupOf2 h' TO b1 b2) → St1 (i + 1) h' → St2 (i + 1) h' → IsTupOf2 h' s.heap.objs.size x1 x2 → h'.objs.size = s.heap.objs.size + 1 →
      (∀ c o, c ≠ z → c ≠ TO → c ≠ i1 → c ≠ i2 → s.heap.get? c = some o → h'.get? c = some o) → Q (some (.ref s.heap.objs.size)) { s with heap := h', toks := tk }) :
    wpAny (model prog w) A (pyNext (.ref z)) Q E s := by
  have hT : s.TypeIs (.ref z) "zip" := ⟨_, hz, rfl⟩
  unfold pyNext
  exact wpAny_bind (wpAny_attempt (wpAny_callSpecial?_slot (name := Str.ofString "__next__") hT F.slot_zip_next
    (wpAny_call_entry F.slot_zip_next hT F.entry_zip_next
      (zn_item S D1 D2 hz hf hTI hTO st1 st2 hlt1 hlt2 fun x1 x2 h' tk y1 y2 b1 b2 d1 d2 b5 b6 b7 => wpAny_pure (hQ x1 x2 h' tk y1 y2 b1 b2 d1 d2 b5 b6 b7)) (F.args_zip_next_1 _))))
theorem zn_stop {Q : Option Value → Shared → Prop} (S : ZipSep2 z TI TO i1 i2 fp1 fp2) (D1 : Draws prog w A.in1 i1 fp1 n1 P1 St1) (D2 : Draws prog w A.in1 i2 fp2 n2 P2 St2)
    (hz : ZN s.heap z TI TO f0 f) (hf : F0 f0) (hTI : IsTupOf2 s.heap TI (.ref i1) (.ref i2)) (hTO : IsTupOf2 s.heap TO a1 a2) (st1 : St1 i s.heap) (st2 : St2 i s.heap) (hle1 : i ≤ n1) (hle2 : i ≤ n2) (hend : i = n1 ∨ i = n2)
    (hQ : ∀ h' tk, (∀ c o, c ≠ z → c ≠ TO → c ≠ i1 → c ≠ i2 → s.heap.get? c = some o → h'.get? c = some o) → Q none { s with heap := h', toks := tk }) : wpAny (model prog w) A (pyNext (.ref z)) Q E s := by
  have hT : s.TypeIs (.ref z) "zip" := ⟨_, hz, rfl⟩
  unfold pyNext
  refine wpAny_bind (wpAny_attempt (wpAny_callSpecial?_slot (name := Str.ofString "__next__") hT F.slot_zip_next
    (wpAny_call_entry F.slot_zip_next hT F.entry_zip_next (zn_end S D1 D2 hz hf hTI hTO st1 st2 hle1 hle2 hend fun h' tk e hk he => ?_) (F.args_zip_next_1 _))))
  obtain ⟨o, ho, hc⟩ := he
  refine wpAny_bind (wpAny_isInstance (T := "StopIteration") (b := true) ⟨o, ho, hc⟩ isSubtype_stop ?_)
  exact wpAny_pure (hQ _ _ hk)
end
theorem turn_zipN {P : Program} {w : World} {K : PySem.W.Frag} {tg : Expr} (hgo : ∀ it v, letOwnedTupleGo tg it v = pure ()) {c d : Sd} {z TI TO i1 i2 : Addr} (D : ZApart z TI TO i1 i2 c d) :
    Turn P w K tg (ItZ K c d) [z, TI, TO, i1, i2] z (fun i h => (∃ g0 g, F0 g0 ∧ ZN h z TI TO g0 g) ∧ IsTupOf2 h TI (.ref i1) (.ref i2) ∧ (∃ x y, IsTupOf2 h TO x y) ∧ c.cell i1 i h ∧ d.cell i2 i h) where
  mem := by simp
  obj := fun i h st b hb => by
    obtain ⟨⟨_, _, _, hz⟩, hTI, ⟨x, y, hTO⟩, h1, h2⟩ := st
    have e' : b = z ∨ b = TI ∨ b = TO ∨ b = i1 ∨ b = i2 := by simpa using hb
    rcases e' with q | q | q | q | q
    · rw [q]; exact ⟨_, hz, fun v q => nomatch q⟩
    · rw [q]; exact ⟨_, hTI, fun v q => nomatch q⟩
    · rw [q]; exact ⟨_, hTO, fun v q => nomatch q⟩
    · rw [q]; exact Sd.cell_obj h1
    · rw [q]; exact Sd.cell_obj h2
  keep := fun i h h' st k => by
    obtain ⟨⟨g0, g, hf, hz⟩, hTI, ⟨x, y, hTO⟩, h1, h2⟩ := st
    exact ⟨⟨g0, g, hf, k z (by simp) _ hz⟩, k TI (by simp) _ hTI, ⟨x, y, k TO (by simp) _ hTO⟩, Sd.cell_keep h1 fun o q => k i1 (by simp) o q, Sd.cell_keep h2 fun o q => k i2 (by simp) o q⟩
  item := by
    intro X hP hw hK hc i pins s σ H E I hf st hg
    subst hP hw hK
    obtain ⟨⟨g0, g, hf0, hz⟩, hTI, ⟨x0, y0, hTO⟩, h1, h2⟩ := st
    obtain ⟨xs, ys, hx, hy, li, lj⟩ := hg
    have hh : X.A.in1.handled = none := I.ok.hd hc
    obtain ⟨fp1, P1, St1, D1, s1, m1, f1, r1, b1⟩ := Sd.draws hh I h1 hx (D.cf i1 (by simp))
    obtain ⟨fp2, P2, St2, D2, s2, m2, f2, r2, b2⟩ := Sd.draws hh I h2 hy (D.df i2 (by simp))
    have nin : ∀ b, b ∈ [z, TI, TO, i1, i2] → b ≠ i1 → b ∉ fp1 := fun b hb n hm => by
      rcases f1 b hm with q | q
      · exact n q
      · exact q (D.cf b hb)
    have nin2 : ∀ b, b ∈ [z, TI, TO, i1, i2] → b ≠ i2 → b ∉ fp2 := fun b hb n hm => by
      rcases f2 b hm with q | q
      · exact n q
      · exact q (D.df b hb)
    have Zs : ZipSep2 z TI TO i1 i2 fp1 fp2 := ⟨D.TIz, D.TOz, D.TITO, D.TIi1, m1, nin z (by simp) D.i1z.symm, nin TO (by simp) D.i1T.symm, D.TIi2, m2, nin2 z (by simp) D.i2z.symm, nin2 TO (by simp) D.i2T.symm, nin2 i1 (by simp) D.i12, nin i2 (by simp) D.i12.symm⟩
    have hzl : z < s.heap.objs.size := Heap.lt_size hz
    refine zn_next Zs D1 D2 hz hf0 hTI hTO s1 s2 li lj fun u u2 h' tk p1 p2 z' TO' t1 t2 hT hsz hk => ?_
    obtain ⟨x, hxi, ru⟩ := r1 i u p1
    obtain ⟨y, hyi, ru2⟩ := r2 i u2 p2
    refine ⟨_, rfl, ?_⟩
    rw [hgo]
    refine wpAny_pure ?_
    have new : ObjOk X.prog X.w (upd H s.heap.objs.size (.tup [x, y])) h' s.heap.objs.size (.tup [x, y]) :=
      ⟨by show 2 ≤ sizeLine; decide, [u, u2], .cons ru (.cons ru2 .nil), ⟨_, hT, rfl, _, rfl⟩⟩
    have I1 : Inv X pins σ (upd H s.heap.objs.size (.tup [x, y])) { s with heap := h', toks := tk } :=
      I.turnedNew (t' := tk) (ch := [z, TI, TO, i1, i2]) (fun c o hb q => hk c o (fun q' => hb (by simp [q'])) (fun q' => hb (by simp [q'])) (fun q' => hb (by simp [q'])) (fun q' => hb (by simp [q'])) q) hf (Nat.le_refl _) new
    refine ⟨.ref s.heap.objs.size, _, I1, rfl, ⟨_, x, y, rfl, I.hok.fresh (Nat.le_refl _), rfl, fun l hl => by rw [Sd.is_inj I hl hx]; exact hxi, fun l hl => by rw [Sd.is_inj I hl hy]; exact hyi⟩, ⟨z', ?_, TO', b1 _ _ t1, b2 _ _ t2⟩, fun c hcm => ?_⟩
    · exact hk _ _ D.TIz D.TITO D.TIi1 D.TIi2 hTI
    · have hlt : c < s.heap.objs.size := by
        have e' : c = z ∨ c = TI ∨ c = TO ∨ c = i1 ∨ c = i2 := by simpa using hcm
        rcases e' with q | q | q | q | q
        · rw [q]; exact hzl
        · rw [q]; exact Heap.lt_size hTI
        · rw [q]; exact Heap.lt_size hTO
        · rw [q]; obtain ⟨_, e1, _⟩ := Sd.cell_obj h1; exact Heap.lt_size e1
        · rw [q]; obtain ⟨_, e1, _⟩ := Sd.cell_obj h2; exact Heap.lt_size e1
      rw [upd_ne (Nat.ne_of_lt hlt)]
      exact (hf c hcm).1
  done := by
    intro X hP hw hK hc i pins s σ H E I hf st hg
    subst hP hw hK
    obtain ⟨⟨g0, g, hf0, hz⟩, hTI, ⟨x0, y0, hTO⟩, h1, h2⟩ := st
    obtain ⟨xs, ys, hx, hy, li, lj, hend⟩ := hg
    have hh : X.A.in1.handled = none := I.ok.hd hc
    obtain ⟨fp1, P1, St1, D1, s1, m1, f1, r1, b1⟩ := Sd.draws hh I h1 hx (D.cf i1 (by simp))
    obtain ⟨fp2, P2, St2, D2, s2, m2, f2, r2, b2⟩ := Sd.draws hh I h2 hy (D.df i2 (by simp))
    have nin : ∀ b, b ∈ [z, TI, TO, i1, i2] → b ≠ i1 → b ∉ fp1 := fun b hb n hm => by
      rcases f1 b hm with q | q
      · exact n q
      · exact q (D.cf b hb)
    have nin2 : ∀ b, b ∈ [z, TI, TO, i1, i2] → b ≠ i2 → b ∉ fp2 := fun b hb n hm => by
      rcases f2 b hm with q | q
      · exact n q
      · exact q (D.df b hb)
    have Zs : ZipSep2 z TI TO i1 i2 fp1 fp2 := ⟨D.TIz, D.TOz, D.TITO, D.TIi1, m1, nin z (by simp) D.i1z.symm, nin TO (by simp) D.i1T.symm, D.TIi2, m2, nin2 z (by simp) D.i2z.symm, nin2 TO (by simp) D.i2T.symm, nin2 i1 (by simp) D.i12, nin i2 (by simp) D.i12.symm⟩
    exact zn_stop Zs D1 D2 hz hf0 hTI hTO s1 s2 li lj hend fun h' tk hk => ⟨rfl, I.turnedL (t' := tk) (ch := [z, TI, TO, i1, i2]) (fun c o hb q =>
      hk c o (fun q' => hb (by simp [q'])) (fun q' => hb (by simp [q'])) (fun q' => hb (by simp [q'])) (fun q' => hb (by simp [q'])) q) hf⟩
  self := fun A i s Q E st h => by
    obtain ⟨⟨g0, g, hf0, hz⟩, _⟩ := st
    have hT : s.TypeIs (.ref z) "zip" := ⟨_, hz, rfl⟩
    refine wpAny_pyIter_slot hT F.slot_zip_iter (wpAny_call_entry F.slot_zip_iter hT F.entry_zip_iter ?_ (F.args_zip_iter_1 _))
    show wpAny _ _ (ret (.ref z)) _ _ s
    exact wpAny_pure ⟨_, rfl, "zip", _, hT, F.slot_zip_next.lookup, h⟩
theorem pi_zipN {X : Cx} {e e2 : Expr} {ta : TA} {p pos : Pos} {tg : Expr} (hgo : ∀ it v, letOwnedTupleGo tg it v = pure ()) (hg : Gl X "zip") (hm : X.mg "zip" = none) (ha : PA X [e, e2] ta)
    (hs : starEach [e, e2] X.env = (false, eval e X.env) :: starEach [e2] X.env := by rfl) (hpl : (backTo pos (starEach [e2] X.env)).any (·.1) = false := by rfl) :
    PI X tg (.Call (.Name "zip" p) [e, e2] [] pos) (iZipZ X.K ta) := by
  refine ⟨fun pins s σ H R I h => ?_⟩
  refine PyProof.Rows.Call_ (ld_blt I hg hm PyProof.Rows.boot_zip (PyProof.Rows.callWith_type1 (thn (ha.run pos pins s σ H _ I h) fun us s1 ⟨vs, H1, I1, r1, q1⟩ => ?_) hs hpl))
  obtain ⟨x, y, c, d, xs, ys, ex, vc, vd, hx, hy, q⟩ := q1
  subst ex
  cases r1 with
  | cons r rr =>
    cases rr with
    | cons r' rr =>
      cases rr
      obtain ⟨o1, its1, B1, g1, off1, cell1⟩ := Sd.begins I1 vc r hx
      obtain ⟨o2, its2, B2, g2, off2, cell2⟩ := Sd.begins I1 vd r' hy
      have fresh5 : ∀ c, c ∈ [s1.heap.objs.size + 4, s1.heap.objs.size + 2, s1.heap.objs.size + 3, s1.heap.objs.size, s1.heap.objs.size + 1] → s1.heap.objs.size ≤ c := fun c hcm => by
        have e' : c = s1.heap.objs.size + 4 ∨ c = s1.heap.objs.size + 2 ∨ c = s1.heap.objs.size + 3 ∨ c = s1.heap.objs.size ∨ c = s1.heap.objs.size + 1 := by simpa using hcm
        rcases e' with z | z | z | z | z
        · rw [z]; exact Nat.le_add_right _ _
        · rw [z]; exact Nat.le_add_right _ _
        · rw [z]; exact Nat.le_add_right _ _
        · rw [z]; exact Nat.le_refl _
        · rw [z]; exact Nat.le_add_right _ _
      refine zip_begins2 B1 B2 g1 g2 fun h' hz hTI hTO h1 h2 hsz hk => wpAny_pyIter_zip hz ?_
      have I2 : Inv X pins σ H1 { s1 with heap := h' } := I1.kept (t' := s1.toks) hk
      have ap : ZApart (s1.heap.objs.size + 4) (s1.heap.objs.size + 2) (s1.heap.objs.size + 3) s1.heap.objs.size (s1.heap.objs.size + 1) c d :=
        zap s1.heap.objs.size c d (fun b hb => off1 b (fresh5 b hb)) (fun b hb => off2 b (fresh5 b hb))
      exact ⟨s1.heap.objs.size + 4, [s1.heap.objs.size + 4, s1.heap.objs.size + 2, s1.heap.objs.size + 3, s1.heap.objs.size, s1.heap.objs.size + 1], _, _, H1, rfl, I2, turn_zipN hgo ap, ⟨⟨_, _, .inl rfl, hz⟩, hTI, ⟨_, _, hTO⟩, cell1 _ _ h1, cell2 _ _ h2⟩, fun c hc => I1.fpOk (fresh5 c hc) (I1.hok.fresh (fresh5 c hc)), q⟩
end Y

namespace Y
open PySem PySem.Spec PyProof.Rows L2 Z
open PySem.Sem (wp)
/-! ### zip of three whose last tuple is still held (list(zip(..)) holds each) -/
section
variable {prog : Program} {w : World} {A : Around} {E : Value → Shared → Prop} {s : Shared} {z TI TO i1 i2 i3 T : Addr} {fp1 fp2 fp3 : List Addr} {n1 n2 n3 i : Nat} {P1 P2 P3 : Nat → Value → Prop} {St1 St2 St3 : Nat → Heap → Prop} {f : Bool}
/-- the tuple last handed out lives: it is not free, and the zip is marked so -/
theorem zh_free {Q : Bool → Shared → Prop} (hz : ZN s.heap z TI TO (rawInt T) f) (hT : ∃ o, s.heap.get? T = some o)
    (h2 : ∀ h' : Heap, ZN h' z TI TO (rawInt T) true → Heap.SameBut z s.heap h' → Q false { s with heap := h' }) :
    wpAny (model prog w) A (Builtin.SmallTypes.ownedTupleIsFree (.ref z)) Q E s := by
  obtain ⟨o, ho⟩ := hT
  unfold Builtin.SmallTypes.ownedTupleIsFree
  refine wpAny_bind (wpAny_field hz rfl (x := rawInt T) rfl ?_)
  show wpAny _ _ (loadIfAlive ((T : Int).toNat) >>= _) _ _ _
  rw [Int.toNat_natCast]
  refine wpAny_bind (alive_any ?_)
  rw [ho]
  simp only [Option.isNone_some, Bool.false_eq_true, if_false]
  refine wpAny_bind (wpAny_field hz rfl (x := .bool f) rfl ?_)
  cases f with
  | true =>
    rw [if_neg (show ¬ ((Value.bool true != Value.bool true) = true) from Bool.false_ne_true)]
    exact wpAny_pure (h2 s.heap hz (Heap.SameBut.refl _ _))
  | false =>
    rw [if_pos (show (Value.bool false != Value.bool true) = true from rfl)]
    exact wpAny_bind (wpAny_setField_rec hz (by simp) fun h₁ hz₁ hs₁ => wpAny_pure (h2 h₁ hz₁ hs₁))
theorem zh_item {Q : Value → Shared → Prop} (S : ZipSep3 z TI TO i1 i2 i3 fp1 fp2 fp3) (D1 : Draws prog w A i1 fp1 n1 P1 St1) (D2 : Draws prog w A i2 fp2 n2 P2 St2) (D3 : Draws prog w A i3 fp3 n3 P3 St3)
    (hz : ZN s.heap z TI TO (rawInt T) f) (hT : ∃ o, s.heap.get? T = some o) (hTI : IsTupOf3 s.heap TI (.ref i1) (.ref i2) (.ref i3)) (st1 : St1 i s.heap) (st2 : St2 i s.heap) (st3 : St3 i s.heap) (hlt1 : i < n1) (hlt2 : i < n2) (hlt3 : i < n3)
    (hQ : ∀ x1 x2 x3 h' tk, P1 i x1 → P2 i x2 → P3 i x3 → ZN h' z TI TO (rawInt T) true → St1 (i + 1) h' → St2 (i + 1) h' → St3 (i + 1) h' → IsTupOf3 h' s.heap.objs.size x1 x2 x3 → h'.objs.size = s.heap.objs.size + 1 →
      (∀ c o, c ≠ z → c ≠ i1 → c ≠ i2 → c ≠ i3 → s.heap.get? c = some o → h'.get? c = some o) → Q (.ref s.heap.objs.size) { s with heap := h', toks := tk }) :
    wpAny (model prog w) A (Builtin.«zip.__next__» ⟨[.ref z], []⟩) (fun fin s' => ∃ v, fin = .done (.ret v) ∧ Q v s') E s := by
  obtain ⟨hp, g, d, tk0, os⟩ := s
  show wpAny _ _ (field (.ref z) 2 >>= _) _ _ _
  refine wpAny_bind (wpAny_field hz rfl (x := .bool false) rfl ?_)
  show wpAny _ _ (field (.ref z) 3 >>= _) _ _ _
  refine wpAny_bind (wpAny_field hz rfl (x := .ref TI) rfl ?_)
  refine wpAny_bind (wpAny_seqItems hTI rfl ?_)
  show wpAny _ _ (Builtin.SmallTypes.ownedTupleIsFree (.ref z) >>= _) _ _ _
  refine wpAny_bind (zh_free hz hT fun g0 hz0 hs0 => ?_)
  replace hs0 : Heap.SameBut z hp g0 := hs0
  simp only [Bool.false_eq_true, if_false]
  refine wpAny_bind ?_
  rw [← Array.forIn_toList]
  simp only [List.forIn_cons, List.forIn_nil]
  refine wpAny_bind (wpAny_bind (wpAny_holding ?_))
  show wpAny _ _ (Builtin.SmallTypes.nextOf (.ref i1) >>= _) _ _ ⟨g0, g, d, tk0, os⟩
  refine wpAny_bind (D1.item i _ _ _ hlt1 (D1.over st1 hs0 S.zf1) fun x1 p1 tk1 hx1 sn1 hp1 => wpAny_pure ?_)
  replace hp1 : Heap.SameBut i1 g0 p1 := hp1
  refine wpAny_pure ?_
  refine wpAny_bind (wpAny_bind (wpAny_holding ?_))
  show wpAny _ _ (Builtin.SmallTypes.nextOf (.ref i2) >>= _) _ _ ⟨p1, g, d, tk1, os⟩
  refine wpAny_bind (D2.item i _ _ _ hlt2 (D2.over (D2.over st2 hs0 S.zf2) hp1 S.sep1_2) fun x2 p2 tk2 hx2 sn2 hp2 => wpAny_pure ?_)
  replace hp2 : Heap.SameBut i2 p1 p2 := hp2
  refine wpAny_pure ?_
  refine wpAny_bind (wpAny_bind (wpAny_holding ?_))
  show wpAny _ _ (Builtin.SmallTypes.nextOf (.ref i3) >>= _) _ _ ⟨p2, g, d, tk2, os⟩
  refine wpAny_bind (D3.item i _ _ _ hlt3 (D3.over (D3.over (D3.over st3 hs0 S.zf3) hp1 S.sep1_3) hp2 S.sep2_3) fun x3 p3 tk3 hx3 sn3 hp3 => wpAny_pure ?_)
  replace hp3 : Heap.SameBut i3 p2 p3 := hp3
  refine wpAny_pure (wpAny_pure ?_)
  show wpAny _ _ (newTuple [x1, x2, x3] >>= _) _ _ ⟨p3, g, d, tk3, os⟩
  refine wpAny_bind (wpAny_newTuple ?_)
  have hsz : p3.objs.size = hp.objs.size := by rw [hp3.1, hp2.1, hp1.1, hs0.1]
  have up : ∀ c o, p3.get? c = some o → (p3.push { cls := .type "tuple", data := .seq #[x1, x2, x3] }).get? c = some o := fun c o e => Heap.get?_push_of_some _ e
  have hzz : ZN p3 z TI TO (rawInt T) true := hp3.extBut _ _ S.zi3 (hp2.extBut _ _ S.zi2 (hp1.extBut _ _ S.zi1 hz0))
  have hj1 : St1 (i + 1) p3 := D1.over (D1.over sn1 hp2 S.sep2_1) hp3 S.sep3_1
  have hj2 : St2 (i + 1) p3 := D2.over sn2 hp3 S.sep3_2
  have hT8 : IsTupOf3 (p3.push { cls := .type "tuple", data := .seq #[x1, x2, x3] }) p3.objs.size x1 x2 x3 := Heap.get?_push_size _ rfl
  have hn8 : (p3.push { cls := .type "tuple", data := .seq #[x1, x2, x3] }).objs.size = p3.objs.size + 1 := Heap.size_push ..
  rw [hsz] at hT8 hn8
  refine wpAny_pure ⟨_, rfl, ?_⟩
  show Q (.ref p3.objs.size) ⟨p3.push { cls := .type "tuple", data := .seq #[x1, x2, x3] }, g, d, tk3, os⟩
  rw [hsz]
  exact hQ x1 x2 x3 _ tk3 hx1 hx2 hx3 (up _ _ hzz) (D1.frame _ _ _ hj1 fun b _ o e => up b o e) (D2.frame _ _ _ hj2 fun b _ o e => up b o e) (D3.frame _ _ _ sn3 fun b _ o e => up b o e) hT8 hn8 fun c o cz c1 c2 c3 e =>
    up c o (hp3.extBut _ _ c3 (hp2.extBut _ _ c2 (hp1.extBut _ _ c1 (hs0.extBut _ _ cz e))))
theorem zh_end {Q : Fin → Shared → Prop} (S : ZipSep3 z TI TO i1 i2 i3 fp1 fp2 fp3) (D1 : Draws prog w A i1 fp1 n1 P1 St1)
    (hz : ZN s.heap z TI TO (rawInt T) f) (hT : ∃ o, s.heap.get? T = some o) (hTI : IsTupOf3 s.heap TI (.ref i1) (.ref i2) (.ref i3)) (st1 : St1 n1 s.heap)
    (hE : ∀ h' tk e, (∀ c o, c ≠ z → c ≠ i1 → s.heap.get? c = some o → h'.get? c = some o) → (∃ o, h'.get? e = some o ∧ o.cls = .type "StopIteration") → E (.ref e) { s with heap := h', toks := tk }) :
    wpAny (model prog w) A (Builtin.«zip.__next__» ⟨[.ref z], []⟩) Q E s := by
  obtain ⟨hp, g, d, tk0, os⟩ := s
  show wpAny _ _ (field (.ref z) 2 >>= _) _ _ _
  refine wpAny_bind (wpAny_field hz rfl (x := .bool false) rfl ?_)
  show wpAny _ _ (field (.ref z) 3 >>= _) _ _ _
  refine wpAny_bind (wpAny_field hz rfl (x := .ref TI) rfl ?_)
  refine wpAny_bind (wpAny_seqItems hTI rfl ?_)
  show wpAny _ _ (Builtin.SmallTypes.ownedTupleIsFree (.ref z) >>= _) _ _ _
  refine wpAny_bind (zh_free hz hT fun g0 hz0 hs0 => ?_)
  replace hs0 : Heap.SameBut z hp g0 := hs0
  simp only [Bool.false_eq_true, if_false]
  refine wpAny_bind ?_
  rw [← Array.forIn_toList]
  simp only [List.forIn_cons, List.forIn_nil]
  refine wpAny_bind (wpAny_bind (wpAny_holding ?_))
  show wpAny _ _ (Builtin.SmallTypes.nextOf (.ref i1) >>= _) _ _ ⟨g0, g, d, tk0, os⟩
  refine wpAny_bind (D1.done ⟨g0, g, d, tk0, os⟩ _ _ (D1.over st1 hs0 S.zf1) fun q e hq he => ?_)
  replace hq : Heap.ExtBut i1 g0 q := hq
  exact hE q tk0 e (fun c o cz c1 x => hq _ _ c1 (hs0.extBut _ _ cz x)) he
theorem zh_next {Q : Option Value → Shared → Prop} (S : ZipSep3 z TI TO i1 i2 i3 fp1 fp2 fp3) (D1 : Draws prog w A.in1 i1 fp1 n1 P1 St1) (D2 : Draws prog w A.in1 i2 fp2 n2 P2 St2) (D3 : Draws prog w A.in1 i3 fp3 n3 P3 St3)
    (hz : ZN s.heap z TI TO (rawInt T) f) (hT : ∃ o, s.heap.get? T = some o) (hTI : IsTupOf3 s.heap TI (.ref i1) (.ref i2) (.ref i3)) (st1 : St1 i s.heap) (st2 : St2 i s.heap) (st3 : St3 i s.heap) (hlt1 : i < n1) (hlt2 : i < n2) (hlt3 : i < n3)
    (hQ : ∀ x1 x2 x3 h' tk, P1 i x1 → P2 i x2 → P3 i x3 → ZN h' z TI TO (rawInt T) true → St1 (i + 1) h' → St2 (i + 1) h' → St3 (i + 1) h' → IsTupOf3 h' s.heap.objs.size x1 x2 x3 → h'.objs.size = s.heap.objs.size + 1 →
      (∀ c o, c ≠ z → c ≠ i1 → c ≠ i2 → c ≠ i3 → s.heap.get? c = some o → h'.get? c = some o) → Q (some (.ref s.heap.objs.size)) { s with heap := h', toks := tk }) :
    wpAny (model prog w) A (pyNext (.ref z)) Q E s := by
  have hT2 : s.TypeIs (.ref z) "zip" := ⟨_, hz, rfl⟩
  unfold pyNext
  exact wpAny_bind (wpAny_attempt (wpAny_callSpecial?_slot (name := Str.ofString "__next__") hT2 F.slot_zip_next
    (wpAny_call_entry F.slot_zip_next hT2 F.entry_zip_next
      (zh_item S D1 D2 D3 hz hT hTI st1 st2 st3 hlt1 hlt2 hlt3 fun x1 x2 x3 h' tk y1 y2 y3 b1 d1 d2 d3 b5 b6 b7 => wpAny_pure (hQ x1 x2 x3 h' tk y1 y2 y3 b1 d1 d2 d3 b5 b6 b7)) (F.args_zip_next_1 _))))
theorem zh_stop {Q : Option Value → Shared → Prop} (S : ZipSep3 z TI TO i1 i2 i3 fp1 fp2 fp3) (D1 : Draws prog w A.in1 i1 fp1 n1 P1 St1)
    (hz : ZN s.heap z TI TO (rawInt T) f) (hT : ∃ o, s.heap.get? T = some o) (hTI : IsTupOf3 s.heap TI (.ref i1) (.ref i2) (.ref i3)) (st1 : St1 n1 s.heap)
    (hQ : ∀ h' tk, (∀ c o, c ≠ z → c ≠ i1 → s.heap.get? c = some o → h'.get? c = some o) → Q none { s with heap := h', toks := tk }) : wpAny (model prog w) A (pyNext (.ref z)) Q E s := by
  have hT2 : s.TypeIs (.ref z) "zip" := ⟨_, hz, rfl⟩
  unfold pyNext
  refine wpAny_bind (wpAny_attempt (wpAny_callSpecial?_slot (name := Str.ofString "__next__") hT2 F.slot_zip_next
    (wpAny_call_entry F.slot_zip_next hT2 F.entry_zip_next (zh_end S D1 hz hT hTI st1 fun h' tk e hk he => ?_) (F.args_zip_next_1 _))))
  obtain ⟨o, ho, hc⟩ := he
  refine wpAny_bind (wpAny_isInstance (T := "StopIteration") (b := true) ⟨o, ho, hc⟩ isSubtype_stop ?_)
  exact wpAny_pure (hQ _ _ hk)
end
end Y

namespace Y
open PySem PySem.Spec PyProof.Rows L2 Z
open PySem.Sem (wp)
/-! ### list(zip(text, tuple, tuple)) -/
/-- the zip's cells stand from N on; i of its items are taken -/
structure Z3 (h : Heap) (N : Nat) (lz : Str) (a b : Addr) (i : Nat) : Prop where
  ti : IsTupOf3 h (N + 3) (.ref N) (.ref (N + 1)) (.ref (N + 2))
  c1 : (Sd.str lz).cell N i h
  c2 : (Sd.tup a).cell (N + 1) i h
  c3 : (Sd.tup b).cell (N + 2) i h
  zz : (i = 0 ∧ IsZip h (N + 5) (N + 3) (N + 4) .none ∧ ∃ x y u, IsTupOf3 h (N + 4) x y u) ∨ ∃ (T : Addr) (f : Bool), ZN h (N + 5) (N + 3) (N + 4) (rawInt T) f ∧ (∃ o, h.get? T = some o) ∧ T ≠ N + 5 ∧ T ≠ N ∧ T ≠ N + 1 ∧ T ≠ N + 2
def six (N : Nat) : List Addr := [N + 5, N + 3, N + 4, N, N + 1, N + 2]
theorem nf3 {c : Sd} {it b : Addr} {fp : List Addr} (f : ∀ b, b ∈ fp → b = it ∨ ¬ c.off b) (n : b ≠ it) (o : c.off b) : b ∉ fp := fun hm => by
  rcases f b hm with e | e
  · exact n e
  · exact e o
theorem sep3 {N : Nat} {a b : Addr} {fp1 fp2 fp3 : List Addr} {lz : Str} (ha : a < N) (hb : b < N) (m1 : N ∈ fp1) (m2 : N + 1 ∈ fp2) (m3 : N + 2 ∈ fp3) (f1 : ∀ x, x ∈ fp1 → x = N ∨ ¬ (Sd.str lz).off x) (f2 : ∀ x, x ∈ fp2 → x = N + 1 ∨ ¬ (Sd.tup a).off x) (f3 : ∀ x, x ∈ fp3 → x = N + 2 ∨ ¬ (Sd.tup b).off x) :
    ZipSep3 (N + 5) (N + 3) (N + 4) N (N + 1) (N + 2) fp1 fp2 fp3 := by
  have oa : ∀ j : Nat, (Sd.tup a).off (N + j) := fun j => show a ≠ (N + j : Nat) from Nat.ne_of_lt (Nat.lt_of_lt_of_le ha (Nat.le_add_right _ _))
  have ob : ∀ j : Nat, (Sd.tup b).off (N + j) := fun j => show b ≠ (N + j : Nat) from Nat.ne_of_lt (Nat.lt_of_lt_of_le hb (Nat.le_add_right _ _))
  have ne : ∀ i j : Nat, i ≠ j → (N + i : Nat) ≠ N + j := fun i j h => by omega
  have ne0 : ∀ i : Nat, i ≠ 0 → (N + i : Nat) ≠ N := fun i h => by omega
  exact ⟨ne 3 5 (by decide), ne 4 5 (by decide), ne 3 4 (by decide), ne0 3 (by decide), m1, nf3 f1 (ne0 5 (by decide)) trivial, nf3 f1 (ne0 4 (by decide)) trivial,
    ne 3 1 (by decide), m2, nf3 f2 (ne 5 1 (by decide)) (oa 5), nf3 f2 (ne 4 1 (by decide)) (oa 4), ne 3 2 (by decide), m3, nf3 f3 (ne 5 2 (by decide)) (ob 5), nf3 f3 (ne 4 2 (by decide)) (ob 4),
    nf3 f2 ((ne0 1 (by decide)).symm) (oa 0), nf3 f3 ((ne0 2 (by decide)).symm) (ob 0), nf3 f1 (ne0 1 (by decide)) trivial, nf3 f3 (ne 1 2 (by decide)) (ob 1), nf3 f1 (ne0 2 (by decide)) trivial, nf3 f2 (ne 2 1 (by decide)) (oa 2)⟩
section
variable {X : Cx} {pins : List (Addr × Obj)} {σ : L2.St} {H : Hp} {s : Shared} {A : Around} {E : Value → Shared → Prop} {N : Nat} {lz : Str} {a b : Addr} {i n : Nat} {xs ys us : List V}
theorem z3_next {Q : Option Value → Shared → Prop} (hh : A.handled = none) (ha : a < N) (hb : b < N) (I : Inv X pins σ H s) (hx : (Sd.str lz).is X.K H xs) (hy : (Sd.tup a).is X.K H ys) (hu : (Sd.tup b).is X.K H us) (Zs : Z3 s.heap N lz a b i) (lx : i < xs.length) (ly : i < ys.length) (lu : i < us.length)
    (hQ : ∀ x y u v1 v2 v3 h' tk, xs[i]? = some x → ys[i]? = some y → us[i]? = some u → RelV x v1 → RelV y v2 → RelV u v3 → IsTupOf3 h' s.heap.objs.size v1 v2 v3 → Z3 h' N lz a b (i + 1) → h'.objs.size = s.heap.objs.size + 1 →
      (∀ c o, c ∉ six N → s.heap.get? c = some o → h'.get? c = some o) → Q (some (.ref s.heap.objs.size)) { s with heap := h', toks := tk }) :
    wpAny (model X.prog X.w) A (pyNext (.ref (N + 5))) Q E s := by
  obtain ⟨fp1, P1, St1, D1, s1, m1, f1, r1, b1⟩ := Sd.draws (A := A.in1) hh I Zs.c1 hx trivial
  obtain ⟨fp2, P2, St2, D2, s2, m2, f2, r2, b2⟩ := Sd.draws (A := A.in1) hh I Zs.c2 hy (show a ≠ (N + 1 : Nat) from Nat.ne_of_lt (Nat.lt_of_lt_of_le ha (Nat.le_add_right _ _)))
  obtain ⟨fp3, P3, St3, D3, s3, m3, f3, r3, b3⟩ := Sd.draws (A := A.in1) hh I Zs.c3 hu (show b ≠ (N + 2 : Nat) from Nat.ne_of_lt (Nat.lt_of_lt_of_le hb (Nat.le_add_right _ _)))
  have S := sep3 (lz := lz) ha hb m1 m2 m3 f1 f2 f3
  have l1 : N < s.heap.objs.size := by obtain ⟨_, e1, _⟩ := Sd.cell_obj Zs.c1; exact Heap.lt_size e1
  have l2 : N + 1 < s.heap.objs.size := by obtain ⟨_, e1, _⟩ := Sd.cell_obj Zs.c2; exact Heap.lt_size e1
  have l3 : N + 2 < s.heap.objs.size := by obtain ⟨_, e1, _⟩ := Sd.cell_obj Zs.c3; exact Heap.lt_size e1
  have n6 : ∀ c, c ∉ six N → c ≠ N + 5 ∧ c ≠ N + 4 ∧ c ≠ N ∧ c ≠ N + 1 ∧ c ≠ N + 2 := fun c hc => ⟨fun q => hc (by simp [six, q]), fun q => hc (by simp [six, q]), fun q => hc (by simp [six, q]), fun q => hc (by simp [six, q]), fun q => hc (by simp [six, q])⟩
  rcases Zs.zz with ⟨e0, hz, x0, y0, u0, hTO⟩ | ⟨T, f, hz, hT, t1, t2, t3, t4⟩
  · have l5 : N + 5 < s.heap.objs.size := Heap.lt_size hz
    refine wpAny_pyNext_zipD3_item S D1 D2 D3 hz Zs.ti hTO s1 s2 s3 lx ly lu fun v1 v2 v3 h' tk p1 p2 p3 z' TO' q1 q2 q3 hN hsz hk => ?_
    obtain ⟨x, hxi, rx⟩ := r1 i v1 p1
    obtain ⟨y, hyi, ry⟩ := r2 i v2 p2
    obtain ⟨u, hui, ru⟩ := r3 i v3 p3
    exact hQ x y u v1 v2 v3 h' tk hxi hyi hui rx ry ru hN ⟨hk _ _ S.TIz S.TITO S.TIi1 S.TIi2 S.TIi3 Zs.ti, b1 _ _ q1, b2 _ _ q2, b3 _ _ q3, .inr ⟨_, false, z', ⟨_, hN⟩, Nat.ne_of_gt l5, Nat.ne_of_gt l1, Nat.ne_of_gt l2, Nat.ne_of_gt l3⟩⟩ hsz
      fun c o hc e => by
        obtain ⟨n1, n2, n3, n4, n5⟩ := n6 c hc
        exact hk c o n1 n2 n3 n4 n5 e
  · refine zh_next S D1 D2 D3 hz hT Zs.ti s1 s2 s3 lx ly lu fun v1 v2 v3 h' tk p1 p2 p3 z' q1 q2 q3 hN hsz hk => ?_
    obtain ⟨x, hxi, rx⟩ := r1 i v1 p1
    obtain ⟨y, hyi, ry⟩ := r2 i v2 p2
    obtain ⟨u, hui, ru⟩ := r3 i v3 p3
    obtain ⟨oT, eT⟩ := hT
    exact hQ x y u v1 v2 v3 h' tk hxi hyi hui rx ry ru hN ⟨hk _ _ S.TIz S.TIi1 S.TIi2 S.TIi3 Zs.ti, b1 _ _ q1, b2 _ _ q2, b3 _ _ q3, .inr ⟨T, true, z', ⟨oT, hk _ _ t1 t2 t3 t4 eT⟩, t1, t2, t3, t4⟩⟩ hsz
      fun c o hc e => by
        obtain ⟨n1, n2, n3, n4, n5⟩ := n6 c hc
        exact hk c o n1 n3 n4 n5 e
theorem z3_stop {Q : Option Value → Shared → Prop} (hh : A.handled = none) (ha : a < N) (hb : b < N) (I : Inv X pins σ H s) (hx : (Sd.str lz).is X.K H xs) (hy : (Sd.tup a).is X.K H ys) (hu : (Sd.tup b).is X.K H us) (Zs : Z3 s.heap N lz a b xs.length) (hn : 1 ≤ xs.length)
    (hQ : ∀ h' tk, (∀ c o, c ∉ six N → s.heap.get? c = some o → h'.get? c = some o) → Q none { s with heap := h', toks := tk }) : wpAny (model X.prog X.w) A (pyNext (.ref (N + 5))) Q E s := by
  obtain ⟨fp1, P1, St1, D1, s1, m1, f1, r1, b1⟩ := Sd.draws (A := A.in1) hh I Zs.c1 hx trivial
  obtain ⟨fp2, P2, St2, D2, s2, m2, f2, r2, b2⟩ := Sd.draws (A := A.in1) hh I Zs.c2 hy (show a ≠ (N + 1 : Nat) from Nat.ne_of_lt (Nat.lt_of_lt_of_le ha (Nat.le_add_right _ _)))
  obtain ⟨fp3, P3, St3, D3, s3, m3, f3, r3, b3⟩ := Sd.draws (A := A.in1) hh I Zs.c3 hu (show b ≠ (N + 2 : Nat) from Nat.ne_of_lt (Nat.lt_of_lt_of_le hb (Nat.le_add_right _ _)))
  have S := sep3 (lz := lz) ha hb m1 m2 m3 f1 f2 f3
  rcases Zs.zz with ⟨e0, _⟩ | ⟨T, f, hz, hT, _⟩
  · omega
  · exact zh_stop S D1 hz hT Zs.ti s1 fun h' tk hk => hQ h' tk fun c o hc e => hk c o (fun q => hc (by simp [six, q])) (fun q => hc (by simp [six, q])) e
end
end Y

namespace Y
open PySem PySem.Spec PyProof.Rows L2 Z
open PySem.Sem (wp)
/-! ### list(zip(text, tuple, tuple)), the loop and the call -/
theorem zip_no_len : typeLookup (.type "zip") "__len__" = pure none := by rw [typeLookup_type, builtinLookup_eq_fast]; kernel_rfl
theorem zip_no_hint : typeLookup (.type "zip") "__length_hint__" = pure none := by rw [typeLookup_type, builtinLookup_eq_fast]; kernel_rfl
/-- the tuples Ts of the first items -/
def Tri (H : Hp) (Ts : List Addr) (xs ys us : List V) : Prop := ∀ (j : Nat) (T : Addr), Ts[j]? = some T → ∃ x y u, xs[j]? = some x ∧ ys[j]? = some y ∧ us[j]? = some u ∧ H T = some (.tup [x, y, u])
section
variable {X : Cx} {pins : List (Addr × Obj)} {σ : L2.St} {A : Around} {N : Nat} {lz : Str} {a b D : Addr} {n : Nat} {xs ys us : List V} {H0 : Hp}
theorem six_ne {N : Nat} {D : Addr} (h : N + 5 < D) : D ∉ six N := fun q => by
  have : @Eq Nat D (N + 5) ∨ @Eq Nat D (N + 3) ∨ @Eq Nat D (N + 4) ∨ @Eq Nat D N ∨ @Eq Nat D (N + 1) ∨ @Eq Nat D (N + 2) := by simpa [six] using q
  have h' : (N + 5 : Nat) < D := h
  omega
theorem Z3.keep {h h' : Heap} {i : Nat} (Zs : Z3 h N lz a b i) (hD : N + 5 < D) (k : ∀ c o, c ≠ D → h.get? c = some o → h'.get? c = some o) (kD : ∃ o, h'.get? D = some o) : Z3 h' N lz a b i := by
  have n6 : ∀ c, c ∈ six N → c ≠ D := fun c hc e => six_ne hD (by rw [← e]; exact hc)
  refine ⟨k _ _ (n6 _ (by simp [six])) Zs.ti, Sd.cell_keep Zs.c1 fun o q => k _ _ (n6 _ (by simp [six])) q, Sd.cell_keep Zs.c2 fun o q => k _ _ (n6 _ (by simp [six])) q, Sd.cell_keep Zs.c3 fun o q => k _ _ (n6 _ (by simp [six])) q, ?_⟩
  rcases Zs.zz with ⟨e0, hz, x, y, u, hTO⟩ | ⟨T, f, hz, ⟨o, eT⟩, t⟩
  · exact .inl ⟨e0, k _ _ (n6 _ (by simp [six])) hz, x, y, u, k _ _ (n6 _ (by simp [six])) hTO⟩
  · refine .inr ⟨T, f, k _ _ (n6 _ (by simp [six])) hz, ?_, t⟩
    by_cases e : T = D
    · rw [e]; exact kD
    · exact ⟨o, k _ _ e eT⟩
theorem z3_loop {res : Value} {R : Result → Shared → Prop} (hh : A.handled = none) (ha : a < N) (hb : b < N) (hD : N + 5 < D) (hx : xs = (codes lz).map fun c => V.str (S [c])) (lx : xs.length = n) (ly : ys.length = n) (lu : us.length = n) (hn : 1 ≤ n) (hn2 : n ≤ 90000) (hD0 : H0 D = none) (eaH : H0 a = some (.tup ys)) (ebH : H0 b = some (.tup us)) :
    ∀ (k i : Nat) (s : Shared) (H : Hp) (Ts : List Addr), n - i = k → i ≤ n → Inv X pins σ H s → (∀ c ∈ six N, FpOk X pins H c) → H D = some (.lst (Ts.map V.ref)) → Ts.length = i → Tri H Ts xs ys us → Same H0 H → Z3 s.heap N lz a b i →
      (∀ s' H' Ts', Inv X pins σ H' s' → Same H0 H' → H' D = some (.lst (Ts'.map V.ref)) → Ts'.length = n → Tri H' Ts' xs ys us → R (.ok (.ret res)) s') →
      codeAny (model X.prog X.w) A (.builtin "list.extend.loop" ⟨[.ref D, .ref (N + 5), res], []⟩) R s := by
  intro k
  induction k with
  | zero =>
    intro i s H Ts hk hi I hf eD hl ht s0 Zs hR
    have ea := s0 _ _ eaH
    have eb := s0 _ _ ebH
    obtain rfl : i = xs.length := by omega
    refine codeAny_builtin F.entry_extend_loop ?_
    rw [Around.under_plainId F.plain_extend_loop _]
    show wpAny _ A.in1 (pyNext (.ref (N + 5)) >>= _) _ _ s
    refine wpAny_bind (z3_stop (A := A.in1) hh ha hb I hx (SqT.of ea) (SqT.of eb) Zs (by omega) fun h' tk hk => ?_)
    exact wpAny_pure (hR _ H Ts (I.turnedL (t' := tk) (ch := six N) (fun c o hc q => hk c o hc q) hf) s0 eD (by omega) ht)
  | succ k ih =>
    intro i s H Ts hk hi I hf eD hl ht s0 Zs hR
    have ea := s0 _ _ eaH
    have eb := s0 _ _ ebH
    refine codeAny_builtin F.entry_extend_loop ?_
    rw [Around.under_plainId F.plain_extend_loop _]
    show wpAny _ A.in1 (pyNext (.ref (N + 5)) >>= _) _ _ s
    refine wpAny_bind (z3_next (A := A.in1) hh ha hb I hx (SqT.of ea) (SqT.of eb) Zs (by omega) (by omega) (by omega) fun x y u v1 v2 v3 h' tk hxi hyi hui rx ry ru hT Zs' hsz hk' => ?_)
    have nT : H s.heap.objs.size = none := I.hok.fresh (Nat.le_refl _)
    have nDT : D ≠ s.heap.objs.size := ne_of_none eD nT
    have naT : a ≠ s.heap.objs.size := ne_of_none ea nT
    have nbT : b ≠ s.heap.objs.size := ne_of_none eb nT
    have new : ObjOk X.prog X.w (upd H s.heap.objs.size (.tup [x, y, u])) h' s.heap.objs.size (.tup [x, y, u]) :=
      ⟨by show 3 ≤ sizeLine; decide, [v1, v2, v3], .cons rx (.cons ry (.cons ru .nil)), ⟨_, hT, rfl, _, rfl⟩⟩
    have I1 : Inv X pins σ (upd H s.heap.objs.size (.tup [x, y, u])) { s with heap := h', toks := tk } :=
      I.turnedNew (t' := tk) (ch := six N) (fun c o hc q => hk' c o hc q) hf (Nat.le_refl _) new
    have sT : Same H (upd H s.heap.objs.size (.tup [x, y, u])) := (Same.refl H).newz nT
    have eT : upd H s.heap.objs.size (.tup [x, y, u]) s.heap.objs.size = some (.tup [x, y, u]) := upd_same
    have hf1 : ∀ c ∈ six N, FpOk X pins (upd H s.heap.objs.size (.tup [x, y, u])) c := fun c hc => by
      obtain ⟨q0, q1⟩ := hf c hc
      have hlt : c < s.heap.objs.size := by
        show @LT.lt Nat _ c s.heap.objs.size
        have e' : @Eq Nat c (N + 5) ∨ @Eq Nat c (N + 3) ∨ @Eq Nat c (N + 4) ∨ @Eq Nat c N ∨ @Eq Nat c (N + 1) ∨ @Eq Nat c (N + 2) := by simpa [six] using hc
        have h5 : N + 5 < s.heap.objs.size := by
          rcases Zs.zz with ⟨_, hz, _⟩ | ⟨_, _, hz, _⟩ <;> exact Heap.lt_size hz
        have h5' : (N + 5 : Nat) < s.heap.objs.size := h5
        omega
      exact ⟨by rw [upd_ne (Nat.ne_of_lt hlt)]; exact q0, q1⟩
    have eD1 : upd H s.heap.objs.size (.tup [x, y, u]) D = some (.lst (Ts.map V.ref)) := sT _ _ eD
    generalize upd H s.heap.objs.size (.tup [x, y, u]) = H1 at I1 sT eT hf1 eD1
    obtain ⟨_, its, c', rv, hl', eo⟩ := I1.lstM eD1
    show wpAny _ A.in1 (updateSeq D (·.push (.ref s.heap.objs.size)) >>= _) _ _ _
    refine wpAny_bind ?_
    have hTl : Ts.length = its.length := by rw [← hl', List.length_map]
    refine wpAny_updateSeq eo rfl (wpAny_pure ⟨plainId_quiet F.plain_extend_loop _, ?_⟩) (by rw [List.size_toArray]; exact le_line (by omega)) (by
      show (its.toArray.push _).size ≤ sizeLine + 1
      rw [Array.size_push, List.size_toArray]; exact Nat.succ_le_succ (le_line (by omega)))
    have I2 := I1.lset (t' := tk) (f := fun v => v.push (.ref s.heap.objs.size)) (ys := (Ts ++ [s.heap.objs.size]).map V.ref) (its' := its ++ [.ref s.heap.objs.size]) eD1 eo (by simp) (by rw [List.map_append]; exact rv.append (.cons rfl .nil)) (by rw [List.length_map, List.length_append]; exact le_line (by simp; omega))
    refine ih (i + 1) _ _ (Ts ++ [s.heap.objs.size]) (by omega) (by omega) I2 (fun c hc => ?_) upd_same (by rw [List.length_append, hl]; rfl) (fun j T hj => ?_) ?_ ?_ hR
    · obtain ⟨q0, q1⟩ := hf1 c hc
      exact ⟨by rw [upd_ne (fun e => six_ne hD (by rw [← e]; exact hc))]; exact q0, q1⟩
    · by_cases hjl : j < Ts.length
      · rw [List.getElem?_append_left hjl] at hj
        obtain ⟨x', y', u', h1, h2, h3, h4⟩ := ht j T hj
        refine ⟨x', y', u', h1, h2, h3, ?_⟩
        rw [upd_ne (fun e => by rw [e, eD] at h4; cases h4)]
        exact sT _ _ h4
      · have hj2 := (List.getElem?_eq_some_iff.mp hj).1
        rw [List.length_append, List.length_cons, List.length_nil] at hj2
        have ej : j = i := by omega
        subst ej
        rw [List.getElem?_append_right (by omega), show j - Ts.length = 0 by omega] at hj
        have hj := (Option.some.inj hj).symm
        subst hj
        exact ⟨x, y, u, hxi, hyi, hui, by rw [upd_ne nDT.symm]; exact eT⟩
    · exact (s0.trans sT).mutz hD0
    · exact Zs'.keep hD (fun c o n e => (Heap.get?_update_other _ _ n.symm).trans e) ⟨_, Heap.get?_update_self _ eo rfl⟩
theorem z3_list {E : Value → Shared → Prop} {H : Hp} {s : Shared} {Q : Value → Shared → Prop} (hh : A.handled = none) (I : Inv X pins σ H s) (Zs : Z3 s.heap N lz a b 0) (hN : s.heap.objs.size = N + 6) (ha : a < N) (hb : b < N) (ea : H a = some (.tup ys)) (eb : H b = some (.tup us))
    (hx : xs = (codes lz).map fun c => V.str (S [c])) (lx : xs.length = n) (ly : ys.length = n) (lu : us.length = n) (hn : 1 ≤ n) (hn2 : n ≤ 90000) (hf : ∀ c ∈ six N, FpOk X pins H c)
    (hQ : ∀ s' H' D Ts, Inv X pins σ H' s' → H D = none → Same H H' → H' D = some (.lst (Ts.map V.ref)) → Ts.length = n → Tri H' Ts xs ys us → Q (.ref D) s') :
    wpAny (model X.prog X.w) A (call (.type "list") [.ref (N + 5)]) Q E s := by
  have hTz : ∀ h, (Z3 h N lz a b 0) → ∃ o, h.get? (N + 5) = some o ∧ o.cls = .type "zip" := fun h Zh => by
    rcases Zh.zz with ⟨_, hz, _⟩ | ⟨_, _, hz, _⟩ <;> exact ⟨_, hz, rfl⟩
  obtain ⟨D, hDe⟩ : ∃ D, D = s.heap.objs.size := ⟨_, rfl⟩
  have hD : N + 5 < D := by
    show @LT.lt Nat _ (N + 5) D
    have : @Eq Nat D (N + 6) := hDe.trans hN
    omega
  have nD : H D = none := by rw [hDe]; exact I.fresh
  have key : ∀ (h3 : Heap) (c3 : Nat) (tk : Nat) (res : Value) (R : Result → Shared → Prop) (A' : Around), A'.handled = none → (∀ c o, s.heap.get? c = some o → h3.get? c = some o) → h3.get? D = some { cls := .type "list", data := .seq #[] c3 } →
      (∀ s' H' Ts, Inv X pins σ H' s' → Same H H' → H' D = some (.lst (Ts.map V.ref)) → Ts.length = n → Tri H' Ts xs ys us → R (.ok (.ret res)) s') →
      codeAny (model X.prog X.w) A' (.builtin "list.extend.loop" ⟨[.ref D, .ref (N + 5), res], []⟩) R { s with heap := h3, toks := tk } := fun h3 c3 tk res R A' hh' k3 eD hR => by
    have I3 : Inv X pins σ (upd H D (.lst [])) { s with heap := h3, toks := tk } := I.laid (t' := tk) k3 (by rw [hDe]; exact Nat.le_refl _) ⟨by show 0 ≤ sizeLine; decide, [], c3, .nil, eD⟩
    refine z3_loop (D := D) (H0 := H) (n := n) hh' ha hb hD hx lx ly lu hn hn2 nD ea eb n 0 _ _ [] (by omega) (by omega) I3 (fun c hc => ?_) upd_same rfl (fun j T hj => by cases hj) ((Same.refl H).newz nD) (Zs.keep hD (fun c o _ e => k3 c o e) ⟨_, eD⟩) hR
    obtain ⟨q0, q1⟩ := hf c hc
    exact ⟨by rw [upd_ne (fun e => six_ne hD (by rw [← e]; exact hc))]; exact q0, q1⟩
  refine callType_codes (Q₁ := fun obj s₁ => obj = .ref s.heap.objs.size ∧ s₁ = { s with heap := s.heap.push { cls := .type "list", data := .seq #[] } }) F.called_list (F.typeCall_list_1 _) F.entry_list_init
    (code_list_new _ ⟨rfl, rfl⟩) fun obj s₁ h₁ => ?_
  obtain ⟨rfl, rfl⟩ := h₁
  rw [← hDe]
  have e0 : (s.heap.push { cls := .type "list", data := .seq #[] }).get? D = some { cls := .type "list", data := .seq #[] } := by rw [hDe]; exact Heap.get?_push_size _ rfl
  have k0 : ∀ c o, s.heap.get? c = some o → (s.heap.push { cls := .type "list", data := .seq #[] }).get? c = some o := fun c o e => Heap.get?_push_of_some _ e
  refine ⟨⟨_, e0, rfl⟩, F.args_list_init_2 _ _, ?_⟩
  generalize s.heap.push { cls := .type "list", data := .seq #[] } = h1 at e0 k0
  show wpAny _ _ (do let old ← Builtin.List.listItems (.ref D); Builtin.List.listUpdate (.ref D) (fun _ => #[]); letGo old.toList.reverse; Builtin.List.listExtendWith (.ref D) (.ref (N + 5)) .none) _ _ _
  refine wpAny_bind ?_
  unfold Builtin.List.listItems
  refine wpAny_bind (wpAny_seqItems e0 rfl (wpAny_pure ?_))
  show wpAny _ _ (updateSeq D (fun _ => #[]) >>= fun _ => letGo (#[] : Array Value).toList.reverse >>= fun _ => Builtin.List.listExtendWith (.ref D) (.ref (N + 5)) .none) _ _ _
  refine wpAny_bind (wpAny_updateSeq e0 rfl ?_)
  have nDc : ∀ c o, s.heap.get? c = some o → D ≠ c := fun c o e z => by
    have := Heap.lt_size e
    rw [← z, hDe] at this
    exact Nat.lt_irrefl _ this
  have e1 := Heap.get?_update_self (Obj.mapSeq (fun _ => (#[] : Array Value))) e0 rfl
  have k1 : ∀ c o, s.heap.get? c = some o → (h1.update D (Obj.mapSeq fun _ => #[])).get? c = some o := fun c o e => (Heap.get?_update_other _ _ (nDc c o e)).trans (k0 c o e)
  show wpAny _ _ _ _ _ { s with heap := h1.update D (Obj.mapSeq fun _ => #[]) }
  generalize h1.update D (Obj.mapSeq fun _ => #[]) = h2 at e1 k1
  refine wpAny_bind (wpAny_letGo ?_)
  obtain ⟨oz, hoz, hcz⟩ := hTz _ (Zs.keep hD (fun c o _ e => k1 c o e) ⟨_, e1⟩)
  have hT : ({ s with heap := h2 } : Shared).TypeIs (.ref (N + 5)) "zip" := ⟨oz, hoz, hcz⟩
  unfold Builtin.List.listExtendWith
  refine wpAny_bind (wpAny_typeOf (T := "zip") hT ?_)
  have q1 : Builtin.List.listSameRef (.ref D) (.ref (N + 5)) = false := by
    have : D ≠ N + 5 := Nat.ne_of_gt hD
    simp [Builtin.List.listSameRef, this]
  have q2 : (Value.type "zip" == Value.type "list") = false := by decide
  have q3 : (Value.type "zip" == Value.type "tuple") = false := by decide
  simp only [q1, q2, q3, Bool.or_false, Bool.false_eq_true, if_false]
  refine wpAny_bind (wpAny_pyIter_slot hT F.slot_zip_iter (wpAny_call_entry F.slot_zip_iter hT F.entry_zip_iter ?_ (F.args_zip_iter_1 _)))
  show wpAny _ _ (ret (.ref (N + 5))) _ _ _
  refine wpAny_pure ⟨_, rfl, "zip", _, hT, F.slot_zip_next.lookup, ?_⟩
  refine wpAny_bind (wpAny_holding ?_)
  unfold Builtin.List.listLengthHint
  refine wpAny_bind (wpAny_specialOf hT zip_no_len ?_)
  show wpAny _ _ (specialOf (Value.ref (N + 5)) (Str.ofString "__length_hint__") >>= _) _ _ _
  refine wpAny_bind (wpAny_specialOf hT zip_no_hint ?_)
  refine wpAny_pure ?_
  show wpAny _ _ (rule "list.extend.makes-room" >>= fun _ => Builtin.List.listTouch (.ref D) >>= fun _ => PySem.again (.builtin "list.extend.loop" ⟨[.ref D, .ref (N + 5), .none], []⟩)) _ _ _
  refine wpAny_bind (wpAny_rule ?_)
  refine wpAny_bind ?_
  show wpAny _ _ (updateSeq D (·.push .none) >>= fun _ => updateSeq D (·.pop)) _ _ _
  refine wpAny_bind (wpAny_updateSeq e1 rfl ?_)
  have e2 := Heap.get?_update_self (Obj.mapSeq (·.push Value.none)) e1 rfl
  refine wpAny_updateSeq (hz := by seq_fits) e2 rfl ?_
  have e3 := Heap.get?_update_self (Obj.mapSeq (·.pop)) e2 rfl
  exact wpAny_pure ⟨plainId_quiet F.plain_extend_loop _, key _ _ _ _ _ _ hh (fun c o e => (Heap.get?_update_other _ _ (nDc c o e)).trans ((Heap.get?_update_other _ _ (nDc c o e)).trans (k1 c o e))) e3 fun s' H' Ts I' sm eD hl ht => ⟨rfl, hQ s' H' D Ts I' nD sm eD hl ht⟩⟩
end
end Y

namespace Y
open PySem PySem.Spec PyProof.Rows L2 Z
open PySem.Sem (wp)
/-- list(zip(text, tuple, tuple)): a new list of new tuples -/
def KLZ (vs : List V) (H1 : Hp) (Q : VK) : Prop := ∃ (lz : Str) (a b : Addr) (ys us : List V), vs = [.str lz, .ref a, .ref b] ∧ H1 a = some (.tup ys) ∧ H1 b = some (.tup us) ∧ ys.length = (codes lz).length ∧ us.length = (codes lz).length ∧ 1 ≤ (codes lz).length ∧ (codes lz).length ≤ 90000 ∧
  ∀ D Ts H', H1 D = none → Same H1 H' → H' D = some (.lst (Ts.map V.ref)) → Ts.length = (codes lz).length → Tri H' Ts ((codes lz).map fun c => V.str (S [c])) ys us → Q (.ref D) H'
def tLZ (ta : TA) : TE := fun σ H Q => ta σ H fun vs H1 => KLZ vs H1 Q
theorem i_LZ {ta : TA} {σ : L2.St} {H : Hp} {Q : VK} (q : ta σ H fun vs H1 => KLZ vs H1 Q) : tLZ ta σ H Q := q
theorem pe_listZip3 {X : Cx} {e1 e2 e3 : Expr} {ta : TA} {lp lpos p pos : Pos} (hc : X.calm = true) (hgl : Gl X "list") (hml : X.mg "list" = none) (hg : Gl X "zip") (hm : X.mg "zip" = none) (ha : PA X [e1, e2, e3] ta)
    (na : starEach [.Call (.Name "zip" p) [e1, e2, e3] [] pos] X.env = (false, eval (.Call (.Name "zip" p) [e1, e2, e3] [] pos) X.env) :: starEach [] X.env := by rfl)
    (hs : starEach [e1, e2, e3] X.env = (false, eval e1 X.env) :: starEach [e2, e3] X.env := by rfl) (hpl : (backTo pos (starEach [e2, e3] X.env)).any (·.1) = false := by rfl) :
    PE X (.Call (.Name "list" lp) [.Call (.Name "zip" p) [e1, e2, e3] [] pos] [] lpos) (tLZ ta) := by
  refine ⟨fun pins s σ H Q I h => ?_⟩
  refine PyProof.Rows.Call_ (ld_blt I hgl hml PyProof.Rows.boot_list (PyProof.Rows.callWith_type1 (args_cons ?_ na) na))
  refine PyProof.Rows.Call_ (ld_blt I hg hm PyProof.Rows.boot_zip (PyProof.Rows.callWith_type1 (thn (ha.run pos pins s σ H _ I h) fun us s1 ⟨vs, H1, I1, r1, q1⟩ => ?_) hs hpl))
  obtain ⟨lz, a, b, ys, ws, ex, ea, eb, ly, lw, l1, l2, q⟩ := q1
  subst ex
  cases r1 with
  | cons ra rr =>
    cases rr with
    | cons rb rr =>
      cases rr with
      | cons rc rr =>
        cases rr
        obtain ⟨o1, its1, B1, g1, off1, cell1⟩ := Sd.begins (c := .str lz) (xs := (codes lz).map fun c => V.str (S [c])) I1 rfl ra rfl
        obtain ⟨o2, its2, B2, g2, off2, cell2⟩ := Sd.begins (c := .tup a) I1 rfl rb (SqT.of ea)
        obtain ⟨o3, its3, B3, g3, off3, cell3⟩ := Sd.begins (c := .tup b) I1 rfl rc (SqT.of eb)
        obtain ⟨_, _, ha', _⟩ := I1.tuple (SqT.of ea)
        obtain ⟨_, _, hb', _⟩ := I1.tuple (SqT.of eb)
        have la : a < s1.heap.objs.size := ha'.lt
        have lb : b < s1.heap.objs.size := hb'.lt
        refine zip_begins3 B1 B2 B3 g1 g2 g3 fun h' hz hTI hTO h1 h2 h3 hsz hk => ?_
        refine args_nil ?_
        have I2 : Inv X pins σ H1 { s1 with heap := h' } := I1.kept (t' := s1.toks) hk
        have hf : ∀ c ∈ six s1.heap.objs.size, FpOk X pins H1 c := fun c hc' => by
          have hle : s1.heap.objs.size ≤ c := by
            show @LE.le Nat _ s1.heap.objs.size c
            have e' : @Eq Nat c (s1.heap.objs.size + 5) ∨ @Eq Nat c (s1.heap.objs.size + 3) ∨ @Eq Nat c (s1.heap.objs.size + 4) ∨ @Eq Nat c s1.heap.objs.size ∨ @Eq Nat c (s1.heap.objs.size + 1) ∨ @Eq Nat c (s1.heap.objs.size + 2) := by simpa [six] using hc'
            omega
          exact I1.fpOk hle (I1.hok.fresh hle)
        refine z3_list (N := s1.heap.objs.size) (n := (codes lz).length) (I2.ok.hd hc) I2 ⟨hTI, cell1 _ _ h1, cell2 _ _ h2, cell3 _ _ h3, .inl ⟨rfl, hz, _, _, _, hTO⟩⟩ hsz la lb ea eb rfl (List.length_map _) ly lw l1 l2 hf fun s' H' D Ts I' nD sm eD hl ht => ?_
        exact ⟨.ref D, H', I', rfl, q D Ts H' nD sm eD hl ht⟩
end Y

namespace Y
open PySem PySem.Spec PyProof.Rows L2 Z
open C8 (tCut pss_cut Cal pe_c Met pe_mt pe_mt0 Mak pe_mk pe_gc)
abbrev s_first_parting : Stmt := topS 18
abbrev n_first_parting : List Str := ["one", "other", "start", "letters", "back", "queue", "at", "here", "there", "steps", "letter", "to", "too"]
theorem sc_first_parting : FnScope n_first_parting ["one", "other", "start"] (defScope s_first_parting) := ⟨rfl, rfl, rfl, by decide +kernel, rfl, by decide +kernel, by decide +kernel⟩

theorem FPI.len {α : Type} {n : Nat} {f : α → Nat → α} {s0 : α} {X : List (List Nat × α)} {k m : Nat} (h : FPI n f s0 X k m) : ∀ (N j : Nat) (p : List Nat × α), j < N → X[j]? = some p → p.1.length ≤ j
  | 0, j, p, hj, _ => by omega
  | N + 1, j, p, hj, hp => by
    rcases h.frm p (List.mem_of_getElem? hp) with e | ⟨q, i, w, _, hw, _, e⟩
    · rw [e]; exact Nat.zero_le _
    · have hl : p.1.length = w.1.length + 1 := by rw [e, List.length_append]; rfl
      rcases Nat.lt_trichotomy q j with z | z | z
      · have := FPI.len h N q w (by omega) hw
        omega
      · subst z
        have := Option.some.inj (hw.symm.trans hp)
        subst this
        omega
      · rcases h.srt j q p w z hp hw with c | ⟨c, _⟩ <;> omega
theorem pairs_len {N M : Nat} {l : List (Nat × Nat)} (hn : l.Nodup) (h : ∀ p ∈ l, p.1 < N ∧ p.2 < M) : l.length ≤ N * M := by
  have h1 : (l.map fun p => p.1 * M + p.2).Nodup := by
    refine List.pairwise_map.mpr (hn.imp_of_mem fun {a b} ha hb hab e => hab ?_)
    have a2 := (h a ha).2
    have b2 := (h b hb).2
    have d1 : (a.1 * M + a.2) / M = a.1 := by rw [Nat.mul_comm, Nat.mul_add_div (by omega), Nat.div_eq_of_lt a2]; omega
    have d2 : (b.1 * M + b.2) / M = b.1 := by rw [Nat.mul_comm, Nat.mul_add_div (by omega), Nat.div_eq_of_lt b2]; omega
    have e1 : a.1 = b.1 := by rw [← d1, ← d2]; exact congrArg (· / M) e
    have e2 : a.2 = b.2 := by
      have e : a.1 * M + a.2 = b.1 * M + b.2 := e
      rw [e1] at e; omega
    exact Prod.ext e1 e2
  have h2 := nodup_le (m := List.range (N * M)) h1 fun c hc => by
    obtain ⟨p, hp, rfl⟩ := List.mem_map.mp hc
    obtain ⟨p1, p2⟩ := h p hp
    refine List.mem_range.mpr ?_
    have : (p.1 + 1) * M ≤ N * M := Nat.mul_le_mul_right M p1
    rw [Nat.succ_mul] at this
    show p.1 * M + p.2 < N * M
    omega
  rwa [List.length_map, List.length_range] at h2
theorem i_disp1P {tk tv : TE} {σ : L2.St} {H : Hp} {Q : VK} (q : ∀ p, H p = none → tk σ (upd H p (.dT [])) fun x H1 => tv σ H1 fun y H2 => H2 p = some (.dT []) ∧ ∃ (a : Addr) (k : List Key), x = .ref a ∧ H2 a = some (.tup (k.map kV)) ∧ Q (.ref p) (upd H2 p (.dT [(k, y)]))) : tDisp1T tk tv σ H Q := q
/-- the queue's pairs -/
def Qu (H : Hp) (qs : List Addr) (X : List (List Nat × (Nat × Nat))) : Prop := qs.length = X.length ∧ ∀ (j : Nat) p, X[j]? = some p → ∃ T : Addr, qs[j]? = some T ∧ H T = some (.tup [.int (p.2.1 : Int), .int (p.2.2 : Int)])
theorem Back.same {L : List Nat} {H H' : Hp} {val : Nat × Nat → V} {X : List (List Nat × (Nat × Nat))} (b : Back L H val X) (s : Same H H') : Back L H' val X := fun p hp => by
  rcases b p hp with h | ⟨w, i, T, h1, h2, h3, h4⟩
  · exact .inl h
  · exact .inr ⟨w, i, T, h1, h2, h3, s _ _ h4⟩
def spFP (K : PySem.W.Frag) (C : Addr) : Sp := fun vs H Q _ => ∃ (m1 m2 p : Addr) (L : List Nat) (t t2 : List (List Nat)) (a a2 : List Nat) (s u : Nat), vs = [.ref m1, .ref m2, .ref p] ∧ IsM K H C m1 L t a ∧ IsM K H C m2 L t2 a2 ∧ Wide L t a ∧ Wide L t2 a2 ∧ H p = some (.tup [.int (s : Int), .int (u : Int)]) ∧ s < t.length ∧ u < t2.length ∧ 1 ≤ L.length ∧
  (∀ H', Same H H' → Fst L.length (fun w => lang t a s w != lang t2 a2 u w) none → Q .non H') ∧ ∀ w H', Same H H' → Fst L.length (fun w => lang t a s w != lang t2 a2 u w) (some w) → Q (.str (S (w.map fun i => L.getD i 0))) H'
section
variable {P : Program} {w : World} {K : PySem.W.Frag} {mg : Str → Option Value} {base : Heap}
theorem c_first_parting {C : Addr} (d : DF K mg "first_parting" s_first_parting) (B : Bi mg) (c_Machine_letters : Met P w K mg base 1 C "letters" (spLettersOf K C) []) (c_Machine_table : Met P w K mg base 1 C "table" (spTableOf K C) []) (c_Machine_accepts : Met P w K mg base 1 C "accepts" (spAcceptsOf K C) []) (c__word_back : Cal P w K mg base 1 "_word_back" spWB []) : Cal P w K mg base 2 "first_parting" (spFP K C) [] := by
  refine d.cal (N := n_first_parting) sc_first_parting (fun _ _ _ _ _ _ us hl => match us, hl with | [_, _, _], _ => rfl) (fun vs H Q E h => ?_) (fun f cdv A outer s H vs Q E hr h => ?_)
  · obtain ⟨m1, m2, p, L, t, t2, a, a2, s, u, rfl, _⟩ := h
    rfl
  · obtain ⟨m1, m2, p, L, t, t2, a, a2, s, u, rfl, im1, im2, W1, W2, ep, hs, hu, hL, k0, k1⟩ := h
    refine ⟨_, (pss_cons (ps_set (i := 3) sc_first_parting.nd rfl (by first | exact Or.inl rfl | exact Or.inr rfl) (pe_mt0 c_Machine_letters hr (by first | decide | omega) (pv 0)))
  (pss_cons (ps_set (i := 4) sc_first_parting.nd rfl (by first | exact Or.inl rfl | exact Or.inr rfl) (pe_disp1T hr.units (pv 2) pe_non))
  (pss_cons (ps_set (i := 5) sc_first_parting.nd rfl (by first | exact Or.inl rfl | exact Or.inr rfl) (pe_lst (pa_cons (pv 2) pa_nil)))
  (pss_cons (ps_set (i := 6) sc_first_parting.nd rfl (by first | exact Or.inl rfl | exact Or.inr rfl) pe_int)
  (pss_cons (ps_while PassesOwn.never (pt_cmpR z_lt (pv 6) (pe_callB (r := zLen K) zc_len (by rfl) B.len (by decide +kernel) (pa_cons (pv 5) pa_nil)) (nomark _)) (pss_cons (ps_asg (pe_ix (r := rIxL K) ix_list (pv 5) (pv 6) (fun _ _ => rfl)) (pg_tup rfl (pgs_cons (pg_name (i := 7) sc_first_parting.nd rfl (by first | exact Or.inl rfl | exact Or.inr rfl)) (pgs_cons (pg_name (i := 8) sc_first_parting.nd rfl (by first | exact Or.inl rfl | exact Or.inr rfl)) pgs_nil))))
  (pss_cons (ps_if (pt_cmpR op_ne (pe_cmpR (r := rIn K false) op_in_seq (pv 7) (pe_mt0 c_Machine_accepts hr (by first | decide | omega) (pv 0)) (by rfl)) (pe_cmpR (r := rIn K false) op_in_seq (pv 8) (pe_mt0 c_Machine_accepts hr (by first | decide | omega) (pv 1)) (by rfl)) (nomark _)) (pss_one (ps_ret (pe_c c__word_back hr (by first | decide | omega) rfl (pa_cons (pv 4) (pa_cons (pe_tup (pa_cons (pv 7) (pa_cons (pv 8) pa_nil))) pa_nil))))) pss_nil)
  (pss_cons (ps_set (i := 9) sc_first_parting.nd rfl (by first | exact Or.inl rfl | exact Or.inr rfl) (pe_listZip3 rfl (by rfl) B.list (by rfl) B.zip (pa_cons (pv 3) (pa_cons (pe_ix (r := rIxT K) ix_tup (pe_mt0 c_Machine_table hr (by first | decide | omega) (pv 0)) (pv 7) (fun _ _ => rfl)) (pa_cons (pe_ix (r := rIxT K) ix_tup (pe_mt0 c_Machine_table hr (by first | decide | omega) (pv 1)) (pv 8) (fun _ _ => rfl)) pa_nil)))))
  (pss_cons (ps_for PassesOwn.never rfl (pi_list (pv 9)) (pg_tup rfl (pgs_cons (pg_name (i := 10) sc_first_parting.nd rfl (by first | exact Or.inl rfl | exact Or.inr rfl)) (pgs_cons (pg_name (i := 11) sc_first_parting.nd rfl (by first | exact Or.inl rfl | exact Or.inr rfl)) (pgs_cons (pg_name (i := 12) sc_first_parting.nd rfl (by first | exact Or.inl rfl | exact Or.inr rfl)) pgs_nil)))) (pss_one (ps_if (pt_cmp (pc_dnotin (hu_of hr) (pe_tup (pa_cons (pv 11) (pa_cons (pv 12) pa_nil))) (pv 4)) rfl) (pss_cons (ps_dput (hu_of hr) (pv 4) (pe_tup (pa_cons (pv 11) (pa_cons (pv 12) pa_nil))) (pe_tup (pa_cons (pv 7) (pa_cons (pv 8) (pa_cons (pv 10) pa_nil)))) rfl)
  (pss_one (ps_expr (pe_bmZ (K := K) rfl PySem.F.plainAttrs_list PySem.F.slot_list_append PySem.F.type_list_append zm_append (pv 5) (pa_cons (pe_tup (pa_cons (pv 11) (pa_cons (pv 12) pa_nil))) pa_nil))))) pss_nil)))
  (pss_one (ps_aug (i := 6) sc_first_parting.nd rfl (by first | exact Or.inl rfl | exact Or.inr rfl) pe_int ip_add)))))))
  (pss_one (ps_ret pe_non))))))), ?_⟩
    refine zstart [some (.ref m1), some (.ref m2), some (.ref p), none, none, none, none, none, none, none, none, none, none] rfl ?_; try dsimp only [zK, zK2]
    have h1 := W1.hi
    have h2 := W2.hi
    have TB1 := W1.tab
    have TB2 := W2.tab
    have hL4 := W1.wide
    obtain ⟨d1, vt1, va1, em1, rt1, ra1⟩ := im1.ex
    obtain ⟨d2, vt2, va2, em2, rt2, ra2⟩ := im2.ex
    walk_at "zz"
    refine i_meth ?_
    walk_at "zz"
    refine ⟨m1, d1, _, rfl, em1, rfl, m1, L, t, a, rfl, im1, ?_⟩
    walk_at "zz"
    refine i_disp1P fun bd hbd => ?_
    have n0 : bd ≠ p := fun e => by rw [e, ep] at hbd; cases hbd
    walk_at "zz"
    refine ⟨upd_same, p, kp (s, u), rfl, kpF (by rw [upd_ne n0.symm]; exact ep), ?_⟩
    have s0 : Same H (upd (upd H bd (.dT [])) bd (.dT [(kp (s, u), .non)])) := ((Same.refl H).newz hbd).mutz hbd
    have eb0 : upd (upd H bd (.dT [])) bd (.dT [(kp (s, u), .non)]) bd = some (.dT (gT kp (fun _ => .non) ([([], (s, u))].map (Prod.snd : List Nat × (Nat × Nat) → Nat × Nat)))) := upd_same
    generalize upd (upd H bd (.dT [])) bd (.dT [(kp (s, u), .non)]) = H0 at s0 eb0
    walk_at "zz"
    refine ⟨by show 1 ≤ sizeLine; decide, fun qd hqd => ?_⟩
    have nbq : bd ≠ qd := ne_of_none eb0 hqd
    have hqdH : H qd = none := by
      cases e : H qd with
      | none => rfl
      | some o => rw [s0 _ _ e] at hqd; cases hqd
    have s1 : Same H (upd H0 qd (.lst [.ref p])) := s0.newz hqd
    have eb1 : upd H0 qd (.lst [.ref p]) bd = some (.dT (gT kp (fun _ => .non) ([([], (s, u))].map (Prod.snd : List Nat × (Nat × Nat) → Nat × Nat)))) := by rw [upd_ne nbq]; exact eb0
    have eq1 : upd H0 qd (.lst [.ref p]) qd = some (.lst ([p].map V.ref)) := upd_same
    generalize upd H0 qd (.lst [.ref p]) = H1 at s1 eb1 eq1
    clear s0 eb0 hqd
    walk_at "zz"
    obtain ⟨W, hW⟩ : ∃ W : Nat → L2.St → Hp → Prop, W = fun m σ H' => ∃ (X : List (List Nat × (Nat × Nat))) (k : Nat) (qs : List Addr) (val : Nat × Nat → V) (v7 v8 v9 v10 v11 v12 : Option V), FPI L.length (stp2 t t2) (s, u) X k 0 ∧ (∀ j p, j < k → X[j]? = some p → bad2 a a2 p.2 = false) ∧ (∀ p ∈ X, p.2.1 < t.length ∧ p.2.2 < t2.length) ∧
      Qu H' qs X ∧ H' qd = some (.lst (qs.map V.ref)) ∧ H' bd = some (.dT (gT kp val (X.map (·.2)))) ∧ Back L H' val X ∧ Same H H' ∧ m = 30000 - k ∧ k ≤ X.length ∧
      σ = [some (.ref m1), some (.ref m2), some (.ref p), some (.str (S L)), some (.ref bd), some (.ref qd), some (.int (k : Int)), v7, v8, v9, v10, v11, v12] := ⟨_, rfl⟩
    refine ⟨W, ⟨_, by
      rw [hW]
      refine ⟨[([], (s, u))], 0, [p], fun _ => .non, none, none, none, none, none, none, FPI.start, fun j p hj => by omega, fun p hp => by rw [List.mem_singleton.mp hp]; exact ⟨hs, hu⟩, ⟨rfl, fun j p' hp' => ?_⟩, eq1, eb1, fun p' hp' => .inl (by rw [List.mem_singleton.mp hp']; exact ⟨rfl, rfl⟩), s1, rfl, by simp, rfl⟩
      have hj := (List.getElem?_eq_some_iff.mp hp').1
      obtain rfl : j = 0 := by simpa using hj
      have := (Option.some.inj hp').symm
      subst this
      exact ⟨p, rfl, s1 _ _ ep⟩⟩, fun m σ H5 wm => ?_⟩
    clear eq1 eb1 s1
    rw [hW] at wm
    obtain ⟨X, k, qs, val, v7, v8, v9, v10, v11, v12, fp, hg, hin, ⟨hql, hqu⟩, eq5, eb5, bk, s5, rfl, hk, rfl⟩ := wm
    have hXl : X.length ≤ t.length * t2.length := by
      have := pairs_len fp.nd (N := t.length) (M := t2.length) fun q hq => by
        obtain ⟨p', hp', rfl⟩ := List.mem_map.mp hq
        exact hin p' hp'
      rwa [List.length_map] at this
    have hX2 : X.length ≤ 22500 := Nat.le_trans hXl (Nat.mul_le_mul h1 h2)
    have im1' := im1.same s5
    have im2' := im2.same s5
    have em1' := s5 _ _ em1
    have em2' := s5 _ _ em2
    walk_at "zz"
    rw [List.length_map, hql]
    refine brd (fun hk => ?_) fun hk => ?_
    · have hk : k < X.length := by omega
      obtain ⟨ug, hug⟩ : ∃ ug, X[k]? = some ug := ⟨_, List.getElem?_eq_getElem hk⟩
      obtain ⟨⟨w, x, y⟩, rfl⟩ : ∃ z : List Nat × (Nat × Nat), ug = z := ⟨ug, rfl⟩
      obtain ⟨T, hT, eT⟩ := hqu k _ hug
      obtain ⟨hx, hy⟩ := hin _ (List.mem_of_getElem? hug)
      have hx : x < t.length := hx
      have hy : y < t2.length := hy
      have eT : H5 T = some (.tup [.int (x : Int), .int (y : Int)]) := eT
      refine ⟨fun σ' H' => ∃ m', m' < 30000 - k ∧ W m' σ' H', fun σ' H' h => h, ?_⟩
      walk_at "zz"
      refine i_ixL (v := .ref T) (SqL.of eq5) (atI_nat (by rw [List.getElem?_map, hT]; rfl)) ?_
      refine i_gtup (SqT.of eT) rfl ?_
      walk_at "zz"
      refine i_meth ?_
      walk_at "zz"
      refine ⟨m1, d1, _, rfl, em1', rfl, m1, L, t, a, rfl, im1', fun va ra => ?_⟩
      walk_at "zz"
      refine i_inRowA ra ?_
      walk_at "zz"
      refine i_meth ?_
      walk_at "zz"
      refine ⟨m2, d2, _, rfl, em2', rfl, m2, L, t2, a2, rfl, im2', fun vb rb => ?_⟩
      walk_at "zz"
      refine i_inRowA rb ?_
      refine i_neBA ?_
      have hbd : (!decide (decide (x ∈ a) = decide (y ∈ a2))) = bad2 a a2 (x, y) := by
        unfold bad2
        cases decide (x ∈ a) <;> cases decide (y ∈ a2) <;> rfl
      rw [hbd]
      clear hbd ra rb
      by_cases hbad : bad2 a a2 (x, y) = true
      · rw [hbad]
        walk_at "zz"
        refine ⟨by show 2 ≤ sizeLine; decide, fun T2 hT2 => ?_⟩
        have s6 : Same H5 (upd H5 T2 (.tup [.int (x : Int), .int (y : Int)])) := (Same.refl H5).newz hT2
        have e6 : upd H5 T2 (.tup [.int (x : Int), .int (y : Int)]) T2 = some (.tup [.int (x : Int), .int (y : Int)]) := upd_same
        generalize upd H5 T2 (.tup [.int (x : Int), .int (y : Int)]) = H6 at s6 e6
        walk_at "zz"
        refine ⟨bd, T2, L, val, X, (w, (x, y)), rfl, s6 _ _ eb5, bk.same s6, List.mem_of_getElem? hug, e6, ?_, fun H7 s7 => ?_⟩
        · have := fp.len (k + 1) k _ (by omega) hug
          omega
        · refine k1 w H7 ((s5.trans s6).trans s7) ?_
          have := fp.found (bad := bad2 a a2) hug hbad hg
          rw [show (fun w => bad2 a a2 (w.foldl (stp2 t t2) (s, u))) = fun w => lang t a s w != lang t2 a2 u w from funext fun w => bad2_lang t t2 a a2 s u w] at this
          exact this
      · have hbad : bad2 a a2 (x, y) = false := by cases e : bad2 a a2 (x, y) with
          | false => rfl
          | true => exact absurd e hbad
        rw [hbad]
        walk_at "zz"
        refine i_LZ ?_
        walk_at "zz"
        refine i_meth ?_
        walk_at "zz"
        refine ⟨m1, d1, _, rfl, em1', rfl, m1, L, t, a, rfl, im1', fun va ra => ?_⟩
        walk_at "zz"
        refine i_ixRp ra (rowget hx) fun z1 rz1 => ?_
        obtain ⟨px, rfl, epx, _⟩ := rowD_rp rz1
        walk_at "zz"
        refine i_meth ?_
        walk_at "zz"
        refine ⟨m2, d2, _, rfl, em2', rfl, m2, L, t2, a2, rfl, im2', fun vb rb => ?_⟩
        walk_at "zz"
        refine i_ixRp rb (rowget hy) fun z2 rz2 => ?_
        obtain ⟨py, rfl, epy, _⟩ := rowD_rp rz2
        obtain ⟨r0, r1, r2⟩ := TB1.get hx
        obtain ⟨c0, c1, c2⟩ := TB2.get hy
        walk_at "zz"
        refine ⟨S L, px, py, ivs t[x], ivs t2[y], rfl, epx, epy, by rw [ivs_len, codes_S, r1], by rw [ivs_len, codes_S, c1], by rw [codes_S]; exact hL, by rw [codes_S]; omega, fun D Ts H6 nD s6 eD hTl htri => ?_⟩
        rw [codes_S] at hTl htri
        have s56 := s5.trans s6
        have nDH : H D = none := by
          cases e : H D with
          | none => rfl
          | some o => rw [s5 _ _ e] at nD; cases nD
        have htri2 : ∀ j : Nat, j < L.length → ∃ Tj : Addr, Ts[j]? = some Tj ∧ H6 Tj = some (.tup [.str (S [L.getD j 0]), .int (dl t x j : Int), .int (dl t2 y j : Int)]) := fun j hj => by
          obtain ⟨Tj, hTj⟩ : ∃ Tj, Ts[j]? = some Tj := ⟨_, List.getElem?_eq_getElem (by omega)⟩
          obtain ⟨v1, v2, v3, q1, q2, q3, q4⟩ := htri j Tj hTj
          refine ⟨Tj, hTj, ?_⟩
          have hj1 : j < t[x].length := by omega
          have hj2 : j < t2[y].length := by omega
          rw [List.getElem?_map, List.getElem?_eq_getElem hj] at q1
          unfold ivs at q2 q3
          rw [List.getElem?_map, List.getElem?_eq_getElem hj1] at q2
          rw [List.getElem?_map, List.getElem?_eq_getElem hj2] at q3
          have q1 := (Option.some.inj q1).symm
          have q2 := (Option.some.inj q2).symm
          have q3 := (Option.some.inj q3).symm
          subst q1 q2 q3
          rw [q4]
          unfold dl
          rw [r0, c0, List.getD_eq_getElem?_getD, List.getElem?_eq_getElem hj, List.getD_eq_getElem?_getD, List.getElem?_eq_getElem hj1, List.getD_eq_getElem?_getD, List.getElem?_eq_getElem hj2]
          rfl
        walk_at "zz"
        refine i_KL (SqL.of eD) ?_
        have hqD : qd ≠ D := fun e => by rw [e, nD] at eq5; cases eq5
        have hbD : bd ≠ D := fun e => by rw [e, nD] at eb5; cases eb5
        refine l_for (walk_list (xs := Ts.map V.ref)) (fun j σ H' => ∃ (X' : List (List Nat × (Nat × Nat))) (qs' : List Addr) (val' : Nat × Nat → V) (v10 v11 v12 : Option V), FPI L.length (stp2 t t2) (s, u) X' k j ∧ X <+: X' ∧ (∀ p ∈ X', p.2.1 < t.length ∧ p.2.2 < t2.length) ∧
          Qu H' qs' X' ∧ H' qd = some (.lst (qs'.map V.ref)) ∧ H' bd = some (.dT (gT kp val' (X'.map (·.2)))) ∧ Back L H' val' X' ∧ Same H H' ∧ (∀ c o, c ≠ qd → c ≠ bd → H6 c = some o → H' c = some o) ∧
          σ = [some (.ref m1), some (.ref m2), some (.ref p), some (.str (S L)), some (.ref bd), some (.ref qd), some (.int (k : Int)), some (.int (x : Int)), some (.int (y : Int)), some (.ref D), v10, v11, v12])
          ⟨X, qs, val, _, _, _, fp, List.prefix_refl _, hin, ⟨hql, fun j p hp => by obtain ⟨T', q1, q2⟩ := hqu j p hp; exact ⟨T', q1, s6 _ _ q2⟩⟩, s6 _ _ eq5, s6 _ _ eb5, bk.same s6, s56, fun c o _ _ e => e, rfl⟩ (fun j σ H' _ q => by
            obtain ⟨_, _, _, _, _, _, _, _, _, _, _, _, _, _, kx, _⟩ := q
            exact SqL.of (kx _ _ hqD.symm hbD.symm eD)) ?_ ?_
        · clear eD htri
          rintro j xv σ H7o H7 hj ⟨X', qs', val', v10, v11, v12, fp', pre, hin', ⟨hql', hqu'⟩, eq7, eb7, bk', s7, kx, rfl⟩ ⟨rfl, hxv⟩
          have hj : j < L.length := by rw [List.length_map, hTl] at hj; exact hj
          obtain ⟨Tj, hTj, eTj⟩ := htri2 j hj
          have hxv : xv = .ref Tj := by rw [List.getElem?_map, hTj] at hxv; exact (Option.some.inj hxv).symm
          subst hxv
          have eTj7 := kx Tj _ (fun e => by rw [e, s6 _ _ eq5] at eTj; cases eTj) (fun e => by rw [e, s6 _ _ eb5] at eTj; cases eTj) eTj
          have hug' : X'[k]? = some (w, (x, y)) := by
            obtain ⟨ys, rfl⟩ := pre
            rw [List.getElem?_append_left hk]; exact hug
          have hXl' : X'.length ≤ 22500 := by
            have h0 := pairs_len fp'.nd (N := t.length) (M := t2.length) fun q hq => by
              obtain ⟨p', hp', rfl⟩ := List.mem_map.mp hq
              exact hin' p' hp'
            rw [List.length_map] at h0
            exact Nat.le_trans h0 (Nat.mul_le_mul h1 h2)
          obtain ⟨z, hz0⟩ : ∃ z, z = stp2 t t2 (x, y) j := ⟨_, rfl⟩
          have hz1 : dl t x j = z.1 := by rw [hz0]; rfl
          have hz2 : dl t2 y j = z.2 := by rw [hz0]; rfl
          have hzr : z.1 < t.length ∧ z.2 < t2.length := by rw [← hz1, ← hz2]; exact ⟨TB1.dl_lt, TB2.dl_lt⟩
          rw [hz1, hz2] at eTj7
          refine i_gtup (SqT.of eTj7) rfl ?_
          walk_at "zz"
          refine i_dnot ?_
          walk_at "zz"
          refine ⟨by show 2 ≤ sizeLine; decide, fun T7 hT7 => ?_⟩
          have t7 : Same H7 (upd H7 T7 (.tup [.int (z.1 : Int), .int (z.2 : Int)])) := (Same.refl H7).newz hT7
          have e7 : upd H7 T7 (.tup [.int (z.1 : Int), .int (z.2 : Int)]) T7 = some (.tup [.int (z.1 : Int), .int (z.2 : Int)]) := upd_same
          generalize upd H7 T7 (.tup [.int (z.1 : Int), .int (z.2 : Int)]) = H8 at t7 e7
          walk_at "zz"
          by_cases hz : z ∈ X'.map (·.2)
          · refine ⟨bd, _, rfl, gT_dget kp_inj (t7 _ _ eb7) (kpF e7) hz, ?_⟩
            refine ⟨false, rfl, ?_⟩
            walk_at "zz"
            exact ⟨X', qs', val', _, _, _, fp'.old hug' (by rw [← hz0]; exact hz), pre, hin', ⟨hql', fun j p hp => by obtain ⟨T', q1, q2⟩ := hqu' j p hp; exact ⟨T', q1, t7 _ _ q2⟩⟩, t7 _ _ eq7, t7 _ _ eb7, bk'.same t7, s7.trans t7, fun c o h1 h2 e => t7 _ _ (kx c o h1 h2 e), rfl⟩
          · refine ⟨bd, _, rfl, gT_dno kp_inj (t7 _ _ eb7) (kpF e7) hz, ?_⟩
            refine ⟨true, rfl, ?_⟩
            walk_at "zz"
            refine i_dput ?_
            walk_at "zz"
            refine ⟨by show 3 ≤ sizeLine; decide, fun T8 hT8 => ?_⟩
            have t8 : Same H8 (upd H8 T8 (.tup [.int (x : Int), .int (y : Int), .str (S [L.getD j 0])])) := (Same.refl H8).newz hT8
            have e8 : upd H8 T8 (.tup [.int (x : Int), .int (y : Int), .str (S [L.getD j 0])]) T8 = some (.tup [.int (x : Int), .int (y : Int), .str (S [L.getD j 0])]) := upd_same
            generalize upd H8 T8 (.tup [.int (x : Int), .int (y : Int), .str (S [L.getD j 0])]) = H9 at t8 e8
            walk_at "zz"
            refine ⟨by show 2 ≤ sizeLine; decide, fun T9 hT9 => ?_⟩
            have t9 : Same H9 (upd H9 T9 (.tup [.int (z.1 : Int), .int (z.2 : Int)])) := (Same.refl H9).newz hT9
            have e9 : upd H9 T9 (.tup [.int (z.1 : Int), .int (z.2 : Int)]) T9 = some (.tup [.int (z.1 : Int), .int (z.2 : Int)]) := upd_same
            generalize upd H9 T9 (.tup [.int (z.1 : Int), .int (z.2 : Int)]) = H10 at t9 e9
            have t710 := (t7.trans t8).trans t9
            have eb10 := t710 _ _ eb7
            have eq10 := t710 _ _ eq7
            obtain ⟨val2, hval2⟩ : ∃ val2 : Nat × Nat → V, val2 = fun q => if q = z then .ref T8 else val' q := ⟨_, rfl⟩
            have hput : DPut H10 bd (.ref T9) (.ref T8) (upd H10 bd (.dT (gT kp val2 (X'.map (·.2) ++ [z])))) := by
              have := gT_dput (val' := val2) kp_inj eb10 (kpF e9) hz (by rw [List.length_map]; omega) (fun q hq => by rw [hval2]; exact if_neg fun e => hz (by rw [← e]; exact hq))
              rw [show val2 z = .ref T8 by rw [hval2]; exact if_pos rfl] at this
              exact this
            walk_at "zz"
            refine ⟨bd, _, rfl, hput, ?_⟩
            have nT : ∀ T o, H10 T = some (.tup o) → T ≠ bd := fun T o e e2 => by rw [e2, eb10] at e; cases e
            have nTq : ∀ T o, H10 T = some (.tup o) → T ≠ qd := fun T o e e2 => by rw [e2, eq10] at e; cases e
            obtain ⟨H11, hH11⟩ : ∃ H11, H11 = upd H10 bd (.dT (gT kp val2 (X'.map (·.2) ++ [z]))) := ⟨_, rfl⟩
            rw [← hH11]
            have eq11 : H11 qd = some (.lst (qs'.map V.ref)) := by rw [hH11, upd_ne nbq.symm]; exact eq10
            have eb11 : H11 bd = some (.dT (gT kp val2 (X'.map (·.2) ++ [z]))) := by rw [hH11]; exact upd_same
            have k11 : ∀ c o, c ≠ bd → H10 c = some o → H11 c = some o := fun c o n e => by rw [hH11, upd_ne n]; exact e
            have sH11 : Same H H11 := by rw [hH11]; exact (s7.trans t710).mutz hbd
            clear hH11
            walk_at "zz"
            refine i_tyL (SqL.of eq11) ?_
            walk_at "zz"
            refine ⟨by show 2 ≤ sizeLine; decide, fun T12 hT12 => ?_⟩
            have t12 : Same H11 (upd H11 T12 (.tup [.int (z.1 : Int), .int (z.2 : Int)])) := (Same.refl H11).newz hT12
            have e12 : upd H11 T12 (.tup [.int (z.1 : Int), .int (z.2 : Int)]) T12 = some (.tup [.int (z.1 : Int), .int (z.2 : Int)]) := upd_same
            generalize upd H11 T12 (.tup [.int (z.1 : Int), .int (z.2 : Int)]) = H12 at t12 e12
            have nT12 : T12 ≠ qd := fun e => by rw [e, t12 _ _ eq11] at e12; cases e12
            walk_at "zz"
            refine i_append (t12 _ _ eq11) (by rw [List.length_map, hql']; omega) ?_
            walk_at "zz"
            have kall : ∀ c o, c ≠ qd → c ≠ bd → H7 c = some o → upd H12 qd (.lst (qs'.map V.ref ++ [.ref T12])) c = some o := fun c o h1 h2 e => by
              rw [upd_ne h1]; exact t12 _ _ (k11 _ _ h2 (t710 _ _ e))
            have fpn := fp'.new hug' hj (by rw [← hz0]; exact hz)
            rw [← hz0] at fpn
            refine ⟨X' ++ [(w ++ [j], z)], qs' ++ [T12], val2, _, _, _, fpn, pre.trans (List.prefix_append _ _), fun p hp => ?_, ⟨by rw [List.length_append, List.length_append, hql']; rfl, fun i p hp => ?_⟩, by rw [upd_same, List.map_append]; rfl, ?_, fun p hp => ?_, (sH11.trans t12).mutz hqdH, fun c o h1 h2 e => kall c o h1 h2 (kx c o h1 h2 e), rfl⟩
            · rcases List.mem_append.mp hp with h | h
              · exact hin' p h
              · rw [List.mem_singleton.mp h]; exact hzr
            · by_cases hi : i < X'.length
              · rw [List.getElem?_append_left hi] at hp
                obtain ⟨T', q1, q2⟩ := hqu' i p hp
                exact ⟨T', by rw [List.getElem?_append_left (by omega)]; exact q1, kall _ _ (nTq _ _ (t710 _ _ q2)) (nT _ _ (t710 _ _ q2)) q2⟩
              · have hi2 := (List.getElem?_eq_some_iff.mp hp).1
                rw [List.length_append, List.length_cons, List.length_nil] at hi2
                rw [List.getElem?_append_right (by omega), show i - X'.length = 0 by omega] at hp
                have hp := (Option.some.inj hp).symm
                subst hp
                exact ⟨T12, by rw [List.getElem?_append_right (by omega), show i - qs'.length = 0 by omega]; rfl, by rw [upd_ne nT12]; exact e12⟩
            · rw [upd_ne nbq, List.map_append]
              exact t12 _ _ eb11
            · rcases List.mem_append.mp hp with h | h
              · have hne : p.2 ≠ z := fun e => hz (by rw [← e]; exact List.mem_map.mpr ⟨p, h, rfl⟩)
                have hv : val2 p.2 = val' p.2 := by rw [hval2]; exact if_neg hne
                rw [hv]
                rcases bk' p h with q | ⟨w', i', T', q1, q2, q3, q4⟩
                · exact .inl q
                · exact .inr ⟨w', i', T', List.mem_append_left _ q1, q2, q3, kall _ _ (nTq _ _ (t710 _ _ q4)) (nT _ _ (t710 _ _ q4)) q4⟩
              · rw [List.mem_singleton.mp h]
                refine .inr ⟨(w, (x, y)), j, T8, List.mem_append_left _ (List.mem_of_getElem? hug'), rfl, by rw [hval2]; exact if_pos rfl, ?_⟩
                have e8' := t9 _ _ e8
                rw [upd_ne (nTq _ _ e8')]
                exact t12 _ _ (k11 _ _ (nT _ _ e8') e8')
        · rintro σ H7 ⟨X', qs', val', v10, v11, v12, fp', pre, hin', qu', eq7, eb7, bk', s7, kx, rfl⟩
          walk_at "zz"
          have hXl' : k + 1 ≤ X'.length := Nat.le_trans hk pre.length_le
          refine ⟨.int (k : Int), rfl, (k : Int), 1, rfl, rfl, ?_⟩
          refine ⟨30000 - (k + 1), by omega, ?_⟩
          rw [hW]
          refine ⟨X', k + 1, qs', val', _, _, _, _, _, _, ?_, fun j p hj hp => ?_, hin', qu', eq7, eb7, bk', s7, rfl, hXl', rfl⟩
          · rw [List.length_map, hTl] at fp'
            exact fp'.turn
          · obtain ⟨ys, rfl⟩ := pre
            rw [List.getElem?_append_left (by omega)] at hp
            by_cases e : j = k
            · subst e
              have := Option.some.inj (hug.symm.trans hp)
              subst this
              exact hbad
            · exact hg j p (by omega) hp
    · have hk2 : X.length ≤ k := by omega
      walk_at "zz"
      refine k0 H5 s5 ?_
      have := fp.out (bad := bad2 a a2) hk2 fun q hq => by
        obtain ⟨j, hj⟩ := List.mem_iff_getElem?.mp hq
        have := (List.getElem?_eq_some_iff.mp hj).1
        exact hg j q (by omega) hj
      rw [show (fun w => bad2 a a2 (w.foldl (stp2 t t2) (s, u))) = fun w => lang t a s w != lang t2 a2 u w from funext fun w => bad2_lang t t2 a a2 s u w] at this
      exact this
end
end Y

namespace Y
open PySem
/-! ### what is told of a search depends on the languages alone (pure) -/
theorem Fst.congr {n : Nat} {B B' : List Nat → Bool} {r : Option (List Nat)} (h : Fst n B r) (e : ∀ w : List Nat, (∀ i ∈ w, i < n) → B w = B' w) : Fst n B' r := by
  cases r with
  | none => exact fun w hw => (e w hw).symm.trans (h w hw)
  | some u => exact ⟨h.1, (e u h.1).symm.trans h.2.1, fun w hw hb => h.2.2 w hw ((e w hw).trans hb)⟩
/-- the first word on which two languages part -/
abbrev FstL (n : Nat) (l l' : List Nat → Bool) (r : Option (List Nat)) : Prop := Fst n (fun w => l w != l' w) r
theorem FstL.symm {n : Nat} {l l' : List Nat → Bool} {r : Option (List Nat)} (h : FstL n l l' r) : FstL n l' l r :=
  Fst.congr h fun w _ => by show (l w != l' w) = (l' w != l w); cases l w <;> cases l' w <;> rfl
theorem FstL.congr {n : Nat} {l l' k k' : List Nat → Bool} {r : Option (List Nat)} (h : FstL n l l' r) (e : ∀ w : List Nat, (∀ i ∈ w, i < n) → l w = k w) (e' : ∀ w : List Nat, (∀ i ∈ w, i < n) → l' w = k' w) : FstL n k k' r :=
  Fst.congr h fun w hw => by show (l w != l' w) = (k w != k' w); rw [e w hw, e' w hw]
theorem FstL.self {n : Nat} {l : List Nat → Bool} {r : Option (List Nat)} (h : FstL n l l r) : r = none := by
  cases r with
  | none => rfl
  | some u => have := h.2.1; simp at this
section
variable {t t' : List (List Nat)} {n : Nat} {a a' o o' : List Nat}
/-- of the least machines the same is told -/
theorem FstL.least (TB : Tab t n) (TB' : Tab t' n) (h : Order t 0 o) (h' : Order t' 0 o') {r : Option (List Nat)} (f : FstL n (lang (canT t a o) (canA t a o) 0) (lang (canT t' a' o') (canA t' a' o') 0) r) : FstL n (lang t a 0) (lang t' a' 0) r :=
  f.congr (fun w hw => can_lang TB h TB.pos hw) (fun w hw => can_lang TB' h' TB'.pos hw)
theorem FstL.least1 (TB : Tab t n) (TB' : Tab t' n) (h' : Order t' 0 o') {r : Option (List Nat)} (f : FstL n (lang t a 0) (lang (canT t' a' o') (canA t' a' o') 0) r) : FstL n (lang t a 0) (lang t' a' 0) r :=
  f.congr (fun w hw => rfl) (fun w hw => can_lang TB' h' TB'.pos hw)
/-- none is told exactly when the least machines are one -/
theorem FstL.none_iff (TB : Tab t n) (TB' : Tab t' n) (h : Order t 0 o) (h' : Order t' 0 o') {r : Option (List Nat)} (f : FstL n (lang t a 0) (lang t' a' 0) r) : (r = none) ↔ canT t a o = canT t' a' o' ∧ canA t a o = canA t' a' o' := by
  constructor
  · intro e
    subst e
    exact can_oneS TB TB' h h' TB.pos TB'.pos fun w hw => by
      have : (lang t a 0 w != lang t' a' 0 w) = false := f w hw
      revert this
      cases lang t a 0 w <;> cases lang t' a' 0 w <;> simp
  · rintro ⟨e1, e2⟩
    refine FstL.self (n := n) (l := lang t a 0) (f.congr (fun w hw => rfl) fun w hw => ?_)
    rw [← can_lang (a := a') TB' h' TB'.pos hw, ← e1, ← e2, can_lang TB h TB.pos hw]
end
end Y

namespace Y
open PySem PySem.Spec PyProof.Rows L2 Z
open C8 (tCut pss_cut Cal pe_c Met pe_mt pe_mt0 Mak pe_mk pe_gc)
abbrev s_around_unlike : Stmt := topS 38
abbrev n_around_unlike : List Str := ["machine", "one", "other", "fewest", "heres", "theres", "state", "at", "ahead"]
theorem sc_around_unlike : FnScope n_around_unlike ["machine", "one", "other"] (defScope s_around_unlike) := ⟨rfl, rfl, rfl, by decide +kernel, rfl, by decide +kernel, by decide +kernel⟩

/-- the first word on which two places part is short -/
theorem FstL.short2 {t t2 : List (List Nat)} {n : Nat} {a a2 w : List Nat} {s u : Nat} (TB : Tab t n) (TB2 : Tab t2 n) (hs0 : s < t.length) (hu0 : u < t2.length) (f : FstL n (lang t a s) (lang t2 a2 u) (some w)) : w.length ≤ t.length * t2.length := by
  have key : ((List.range (w.length + 1)).map fun k => (rn t s (w.take k), rn t2 u (w.take k))).Nodup := by
    refine List.pairwise_map.mpr (List.Pairwise.imp_of_mem (fun {i j} hi hj hij e => ?_) List.pairwise_lt_range)
    have hj := List.mem_range.mp hj
    have e1 : rn t s (w.take i) = rn t s (w.take j) := congrArg Prod.fst e
    have e2 : rn t2 u (w.take i) = rn t2 u (w.take j) := congrArg Prod.snd e
    have h1 : ∀ (x : List (List Nat)) (q : Nat), rn x q (w.take i) = rn x q (w.take j) → rn x q (w.take i ++ w.drop j) = rn x q w := fun x q e => by
      rw [rn_app, e, ← rn_app, List.take_append_drop]
    have hb : (lang t a s (w.take i ++ w.drop j) != lang t2 a2 u (w.take i ++ w.drop j)) = true := by
      have h0 : (lang t a s w != lang t2 a2 u w) = true := f.2.1
      unfold lang at h0 ⊢
      rw [h1 t s e1, h1 t2 u e2]
      exact h0
    have hm : ∀ x ∈ w.take i ++ w.drop j, x < n := fun x hx => by
      rcases List.mem_append.mp hx with h | h
      · exact f.1 x (List.mem_of_mem_take h)
      · exact f.1 x (List.mem_of_mem_drop h)
    have hl : (w.take i ++ w.drop j).length < w.length := by rw [List.length_append, List.length_take, List.length_drop]; omega
    rcases f.2.2 _ hm hb with h | ⟨h, _⟩ <;> omega
  have := pairs_len key (N := t.length) (M := t2.length) fun p hp => by
    obtain ⟨k, _, rfl⟩ := List.mem_map.mp hp
    exact ⟨rn_lt TB _ _ hs0, rn_lt TB2 _ _ hu0⟩
  rw [List.length_map, List.length_range] at this
  omega
theorem ix_back2 {L : List Nat} (hn : L.Nodup) {w : List Nat} (h : ∀ i ∈ w, i < L.length) : ix L (w.map fun i => L.getD i 0) = w := by
  unfold ix
  rw [List.map_map]
  refine (List.map_congr_left (g := id) fun i hi => ?_).trans (List.map_id w)
  have hi := h i hi
  show L.idxOf (L.getD i 0) = i
  rw [List.getD_eq_getElem?_getD, List.getElem?_eq_getElem hi]
  exact List.Nodup.idxOf_getElem hn i hi
/-- what the machine says of a word, by its least machine -/
theorem led_can {L : List Nat} {t : List (List Nat)} {a o w : List Nat} (TB : Tab t L.length) (hO : Order t 0 o) (hw : ∀ c ∈ w, c ∈ L) : decide (led L t 0 w ∈ a) = decide (led L (canT t a o) 0 w ∈ canA t a o) := by
  have h1 := can_lang (a := a) TB hO TB.pos (ix_lt hw)
  unfold lang at h1
  rw [led_rn, led_rn]
  exact h1.symm
theorem can_le30 {t : List (List Nat)} {n : Nat} {a o : List Nat} (TB : Tab t n) (h : Order t 0 o) : (canT t a o).length ≤ t.length := by
  obtain ⟨hnd, hlt, _⟩ := h.ok TB TB.pos
  have hol : o.length ≤ t.length := by
    have := nodup_le hnd (fun c hc => List.mem_range.mpr (hlt c hc))
    rwa [List.length_range] at this
  have hr : (reps t a o).length ≤ o.length := by
    refine nodup_le (l := reps t a o) (m := o) ?_ (fun c hc => fsts_sub _ _ c hc)
    exact (List.pairwise_map.mp (fsts_nd (lang t a) o)).imp fun hab e => hab (congrArg _ e)
  have hl : (canT t a o).length = (reps t a o).length := by unfold canT; rw [List.length_map]
  omega
/-- which words are told for two words of unlike deeds -/
def ArIs (L : List Nat) (T : List (List Nat)) (A' x y u v : List Nat) : Prop := ∃ (st : Nat) (rest w : List Nat), ((List.range T.length).filter fun i => !decide (((((endsL L T x).getD i 0 : Nat) : Int)) = (((endsL L T y).getD i 0 : Nat) : Int))) = st :: rest ∧ u = fwHd L T (List.range T.length) st ∧ FstL L.length (lang T A' (led L T st x)) (lang T A' (led L T st y)) (some w) ∧ v = w.map fun i => L.getD i 0
theorem ArIs.one {L : List Nat} {T : List (List Nat)} {A' x y u v u' v' : List Nat} (a : ArIs L T A' x y u v) (b : ArIs L T A' x y u' v') : u = u' ∧ v = v' := by
  obtain ⟨st, rest, w, e1, e2, e3, e4⟩ := a
  obtain ⟨st', rest', w', f1, f2, f3, f4⟩ := b
  rw [e1] at f1
  obtain ⟨rfl, rfl⟩ := List.cons.inj f1
  have := Option.some.inj (Fst.one e3 f3)
  subst this
  exact ⟨e2.trans f2.symm, e4.trans f4.symm⟩
def spAround (K : PySem.W.Frag) (C : Addr) : Sp := fun vs H Q _ => ∃ (m : Addr) (L : List Nat) (t : List (List Nat)) (a x y : List Nat), vs = [.ref m, .str (S x), .str (S y)] ∧ IsM K H C m L t a ∧ Wide L t a ∧ L.Nodup ∧ 1 ≤ L.length ∧ (∀ c ∈ x, c ∈ L) ∧ (∀ c ∈ y, c ∈ L) ∧ x.length ≤ 1000 ∧ y.length ≤ 1000 ∧ (∀ o, Order t 0 o → endsL L (canT t a o) x ≠ endsL L (canT t a o) y) ∧
  ∀ (p : Addr) (u v : List Nat) H', Same H H' → H' p = some (.tup [.str (S u), .str (S v)]) → (∀ c ∈ u, c ∈ L) → (∀ c ∈ v, c ∈ L) → u.length ≤ t.length → v.length ≤ t.length * t.length → (∀ o, Order t 0 o → u.length ≤ (canT t a o).length ∧ v.length ≤ (canT t a o).length ∧ ArIs L (canT t a o) (canA t a o) x y u v) → decide (led L t 0 (u ++ x ++ v) ∈ a) ≠ decide (led L t 0 (u ++ y ++ v) ∈ a) → Q (.ref p) H'
section
variable {P : Program} {w : World} {K : PySem.W.Frag} {mg : Str → Option Value} {base : Heap}
theorem c_around_unlike {C C2 : Addr} (d : DF K mg "around_unlike" s_around_unlike) (B : Bi mg) (c_Machine_letters : Met P w K mg base 1 C "letters" (spLettersOf K C) []) (c_Machine_table : Met P w K mg base 1 C "table" (spTableOf K C) []) (c_least : Cal P w K mg base 8 "least" (spLeast K C) []) (c_deed : CalX P w K mg base 9 "deed" (spDeedW K C C2)) (c_first_words : Cal P w K mg base 2 "first_words" spFW []) (c_first_parting : Cal P w K mg base 2 "first_parting" (spFP K C) []) : Cal P w K mg base 10 "around_unlike" (spAround K C) [] := by
  refine d.cal (N := n_around_unlike) sc_around_unlike (fun _ _ _ _ _ _ us hl => match us, hl with | [_, _, _], _ => rfl) (fun vs H Q E h => ?_) (fun f cdv A outer s H vs Q E hr h => ?_)
  · obtain ⟨m, L, t, a, x, y, rfl, _⟩ := h
    rfl
  · obtain ⟨m, L, t, a, x, y, rfl, im, W0, nd, hL1, hx, hy, hxl, hyl, hne, k⟩ := h
    refine ⟨_, (pss_cons (ps_set (i := 3) sc_around_unlike.nd rfl (by first | exact Or.inl rfl | exact Or.inr rfl) (pe_c c_least hr (by first | decide | omega) rfl (pa_cons (pv 0) pa_nil)))
  (pss_cons (ps_set (i := 4) sc_around_unlike.nd rfl (by first | exact Or.inl rfl | exact Or.inr rfl) (pe_cX c_deed hr (by first | decide | omega) rfl takes0 (pa_cons (pv 0) (pa_cons (pv 1) pa_nil))))
  (pss_cons (ps_set (i := 5) sc_around_unlike.nd rfl (by first | exact Or.inl rfl | exact Or.inr rfl) (pe_cX c_deed hr (by first | decide | omega) rfl takes0 (pa_cons (pv 0) (pa_cons (pv 2) pa_nil))))
  (pss_cons (ps_set (i := 6) sc_around_unlike.nd rfl (by first | exact Or.inl rfl | exact Or.inr rfl) (pe_ix (r := rIxL K) ix_list (pe_lc (own := [("at", 7)]) (g := gName 7) (by rfl) sc_around_unlike.nd (pi_range1 rfl B.range (pa_cons (pe_callB (r := zLen K) zc_len (by rfl) B.len (by decide +kernel) (pa_cons (pv 4) pa_nil)) pa_nil)) (blkOk_by (N := n_around_unlike) (sc := defScope s_around_unlike) (by decide +kernel)) (fun _ _ _ _ _ => (pg_name (i := 7) sc_around_unlike.nd rfl (by first | exact Or.inl rfl | exact Or.inr rfl))) (fun _ _ _ _ _ => (pts_one (pt_cmpR op_ne (pe_ix (r := rIxT K) ix_tup (pv 4) (pv 7) (fun _ _ => rfl)) (pe_ix (r := rIxT K) ix_tup (pv 5) (pv 7) (fun _ _ => rfl)) (nomark _)))) (fun _ _ _ _ _ => (pv 7))) pe_int (fun _ _ => rfl)))
  (pss_cons (ps_set (i := 8) sc_around_unlike.nd rfl (by first | exact Or.inl rfl | exact Or.inr rfl) (pe_dget (hu_of hr) (pe_c c_first_words hr (by first | decide | omega) rfl (pa_cons (pe_mt0 c_Machine_letters hr (by first | decide | omega) (pv 3)) (pa_cons (pe_mt0 c_Machine_table hr (by first | decide | omega) (pv 3)) pa_nil))) (pv 6) (fun _ _ => rfl)))
  (pss_one (ps_ret (pe_tup (pa_cons (pv 8) (pa_cons (pe_c c_first_parting hr (by first | decide | omega) rfl (pa_cons (pv 3) (pa_cons (pv 3) (pa_cons (pe_tup (pa_cons (pe_ix (r := rIxT K) ix_tup (pv 4) (pv 6) (fun _ _ => rfl)) (pa_cons (pe_ix (r := rIxT K) ix_tup (pv 5) (pv 6) (fun _ _ => rfl)) pa_nil))) pa_nil)))) pa_nil)))))))))), ?_⟩
    refine zstart [some (.ref m), some (.str (S x)), some (.str (S y)), none, none, none, none, none, none] rfl ?_; try dsimp only [zK, zK2]
    walk_at "zz"
    refine ⟨m, L, t, a, rfl, im, W0.big, fun m2 o H2 hO hm2 s2 im2 => ?_⟩
    have hne := hne o hO
    have W2 := W0.can (a := a) hO
    have TB2 := W2.tab
    have hT150 := W2.hi
    have hL4 := W0.wide
    walk_at "zz"
    refine i_callS ?_
    walk_at "zz"
    refine ⟨m, L, t, a, _, .str (S x), rfl, im.same s2, W0, .str _, by show (codes (S x)).length ≤ 90000; rw [codes_S]; omega, fun z => absurd z (by rw [isWord_of hx]; decide), fun x' o' ex _ hO' pH H3 s3 e3 => ?_⟩
    have ex := S_inj (PyData.str.inj ex)
    subst ex
    obtain rfl := Order.one hO hO'
    walk_at "zz"
    refine i_callS ?_
    walk_at "zz"
    refine ⟨m, L, t, a, _, .str (S y), rfl, (im.same s2).same s3, W0, .str _, by show (codes (S y)).length ≤ 90000; rw [codes_S]; omega, fun z => absurd z (by rw [isWord_of hy]; decide), fun y' o' ey _ hO' pT H4 s4 e4 => ?_⟩
    have ey := S_inj (PyData.str.inj ey)
    subst ey
    obtain rfl := Order.one hO hO'
    have e3 := s4 _ _ e3
    have s24 := (s2.trans s3).trans s4
    have im2 := (im2.same s3).same s4
    have hcl : ∀ w : List Nat, (endsL L (canT t a o) w).length = (canT t a o).length := fun w => ends_len
    obtain ⟨T, hT⟩ : ∃ T, T = canT t a o := ⟨_, rfl⟩
    obtain ⟨A', hA'⟩ : ∃ A', A' = canA t a o := ⟨_, rfl⟩
    have hsep : ∀ c c', c < T.length → c' < T.length → c ≠ c' → Sep T A' L.length T.length c c' := fun c c' h1 h2 h3 => by
      rw [hT] at h1 h2 ⊢
      rw [hA']
      exact can_apart W0.tab hO h1 h2 h3
    have hord : Order T 0 (List.range T.length) := by rw [hT]; exact can_order (a := a) W0.tab hO
    have hsay : ∀ w : List Nat, (∀ c ∈ w, c ∈ L) → decide (led L t 0 w ∈ a) = decide (led L T 0 w ∈ A') := fun w hw => by
      rw [hT, hA']; exact led_can W0.tab hO hw
    have hTt := can_le30 (a := a) W0.tab hO
    rw [← hT] at hne W2 TB2 hT150 e3 e4 hcl im2 hTt
    rw [← hA'] at W2 im2
    have hend0 : ∀ u v : List Nat, u.length ≤ T.length → v.length ≤ T.length → ArIs L T A' x y u v → ∀ o', Order t 0 o' → u.length ≤ (canT t a o').length ∧ v.length ≤ (canT t a o').length ∧ ArIs L (canT t a o') (canA t a o') x y u v := fun u v h1 h2 h3 o' hO2 => by
      rw [← Order.one hO hO2, ← hT, ← hA']
      exact ⟨h1, h2, h3⟩
    clear s2 s3 s4 hm2 hO' hT hA' hO
    walk_at "zz"
    refine i_lenT (SqT.of e3) ?_
    rw [ivs_len, hcl]
    walk_at "zz"
    refine i_KR1 (by omega) ?_
    rw [Int.toNat_natCast]
    refine fun D hD => ?_
    refine l_filtR hD [some (.ref m), some (.str (S x)), some (.str (S y)), some (.ref m2), some (.ref pH), some (.ref pT), none, none, none] rfl (fun _ => rfl) (by omega) (fun i => !decide (((((endsL L T x).getD i 0 : Nat) : Int)) = (((endsL L T y).getD i 0 : Nat) : Int))) (fun i => V.int (i : Int)) (fun i H5 R hi s5 hP => ?_) (fun i H5 P1 hi _ s5 hP => ?_) fun H5 s5 e5 => ?_
    · refine ztt [some (.ref m), some (.str (S x)), some (.str (S y)), some (.ref m2), some (.ref pH), some (.ref pT), none, some (.int (i : Int)), none] rfl ?_
      walk_at "zz"
      refine i_ixT (SqT.of (s5 _ _ e3)) (atI_nat (ivs_get (by rw [hcl]; exact hi))) ?_
      walk_at "zz"
      refine i_ixT (SqT.of (s5 _ _ e4)) (atI_nat (ivs_get (by rw [hcl]; exact hi))) ?_
      have hP := hP _ (Same.refl _)
      walk_at "zz"
      exact hP
    · refine zte [some (.ref m), some (.str (S x)), some (.str (S y)), some (.ref m2), some (.ref pH), some (.ref pT), none, some (.int (i : Int)), none] rfl ?_
      walk_at "zz"
      exact hP _ (Same.refl _)
    obtain ⟨fl, hfl⟩ : ∃ fl, fl = (List.range T.length).filter fun i => !decide (((((endsL L T x).getD i 0 : Nat) : Int)) = (((endsL L T y).getD i 0 : Nat) : Int)) := ⟨_, rfl⟩
    rw [← hfl] at e5
    have e5 : H5 D = some (.lst (ivs fl)) := e5
    have hn0 : fl ≠ [] := fun e => by
      refine hne (List.ext_getElem (by rw [hcl, hcl]) fun i h1 h2 => ?_)
      have hi : i < T.length := by rw [hcl] at h1; exact h1
      have hni : i ∉ fl := by rw [e]; simp
      rw [hfl, List.mem_filter] at hni
      have : ¬ (!decide (((((endsL L T x).getD i 0 : Nat) : Int)) = (((endsL L T y).getD i 0 : Nat) : Int))) = true := fun z => hni ⟨List.mem_range.mpr hi, z⟩
      have : (((endsL L T x).getD i 0 : Nat) : Int) = (((endsL L T y).getD i 0 : Nat) : Int) := by simpa using this
      have : (endsL L T x).getD i 0 = (endsL L T y).getD i 0 := by omega
      rw [List.getD_eq_getElem?_getD, List.getElem?_eq_getElem h1, List.getD_eq_getElem?_getD, List.getElem?_eq_getElem h2] at this
      exact this
    obtain ⟨st, rest, hst⟩ := List.exists_cons_of_ne_nil hn0
    have hstm : st ∈ fl := by rw [hst]; exact List.mem_cons_self
    rw [hfl, List.mem_filter] at hstm
    have hstl : st < T.length := List.mem_range.mp hstm.1
    have hdif : (endsL L T x).getD st 0 ≠ (endsL L T y).getD st 0 := fun e => by
      have := hstm.2
      rw [e] at this
      simp at this
    have hgx : ∀ w : List Nat, (endsL L T w).getD st 0 = led L T st w := fun w => by
      unfold endsL
      rw [List.getD_eq_getElem?_getD, List.getElem?_map, List.getElem?_range hstl]; rfl
    have hlx : ∀ w : List Nat, led L T st w < T.length := fun w => by rw [led_rn]; exact rn_lt TB2 _ _ hstl
    clear hstm hn0
    have hfst : ((List.range T.length).filter fun i => !decide (((((endsL L T x).getD i 0 : Nat) : Int)) = (((endsL L T y).getD i 0 : Nat) : Int))) = st :: rest := by rw [← hfl, hst]
    have s25 := s24.trans s5
    have im2 := im2.same s5
    have e3 := s5 _ _ e3
    have e4 := s5 _ _ e4
    obtain ⟨d2, vt2, va2, em2, _, _⟩ := im2.ex
    walk_at "zz"
    refine i_ixL (v := .int (st : Int)) (SqL.of e5) (atI_nat (j := 0) (by rw [hst]; rfl)) ?_
    clear e5 hst hfl hD
    walk_at "zz"
    refine i_dget ?_
    walk_at "zz"
    refine i_meth ?_
    walk_at "zz"
    refine ⟨m2, d2, _, rfl, em2, rfl, m2, L, _, _, rfl, im2, ?_⟩
    walk_at "zz"
    refine i_meth ?_
    walk_at "zz"
    refine ⟨m2, d2, _, rfl, em2, rfl, m2, L, _, _, rfl, im2, fun vT rT => ?_⟩
    walk_at "zz"
    refine ⟨vT, L, T, A', rfl, rT, W2, nd, fun pw o' hd H6 hO' hfw hhd _ s6 e6 => ?_⟩
    have hmem : st ∈ o' := by rw [← Order.one hord hO']; exact List.mem_range.mpr hstl
    obtain ⟨hw, hwl⟩ := hhd st hmem
    walk_at "zz"
    refine ⟨pw, _, rfl, kN_dget e6 hmem, ?_⟩
    have s26 := s25.trans s6
    have im2 := im2.same s6
    have e3 := s6 _ _ e3
    have e4 := s6 _ _ e4
    clear e6 hhd rT em2
    walk_at "zz"
    refine i_ixT (SqT.of e3) (atI_nat (ivs_get (k := st) (by rw [hcl]; exact hstl))) ?_
    walk_at "zz"
    refine i_ixT (SqT.of e4) (atI_nat (ivs_get (k := st) (by rw [hcl]; exact hstl))) ?_
    walk_at "zz"
    refine ⟨by show 2 ≤ sizeLine; decide, fun q hq => ?_⟩
    rw [hgx, hgx]
    rw [hgx, hgx] at hdif
    have s7 : Same H6 (upd H6 q (.tup [.int ((led L T st x : Nat) : Int), .int ((led L T st y : Nat) : Int)])) := (Same.refl H6).newz hq
    have e7 : upd H6 q (.tup [.int ((led L T st x : Nat) : Int), .int ((led L T st y : Nat) : Int)]) q = some (.tup [.int ((led L T st x : Nat) : Int), .int ((led L T st y : Nat) : Int)]) := upd_same
    generalize upd H6 q (.tup [.int ((led L T st x : Nat) : Int), .int ((led L T st y : Nat) : Int)]) = H7 at s7 e7
    have im2 := im2.same s7
    have s27 := s26.trans s7
    walk_at "zz"
    refine ⟨m2, m2, q, L, T, T, A', A', led L T st x, led L T st y, rfl, im2, im2, W2, W2, e7, hlx x, hlx y, hL1, fun H8 s8 hf => ?_, fun w H8 s8 hf => ?_⟩
    · obtain ⟨w, _, hw2, hw3⟩ := hsep _ _ (hlx x) (hlx y) hdif
      have h0 : (lang T A' (led L T st x) w != lang T A' (led L T st y) w) = false := hf w hw2
      refine absurd ?_ hw3
      unfold lang at h0
      by_cases c1 : rn T (led L T st x) w ∈ A' <;> by_cases c2 : rn T (led L T st y) w ∈ A' <;> simp [c1, c2] at h0 ⊢
    · have hwl2 := FstL.short2 TB2 TB2 (hlx x) (hlx y) hf
      have hm : T.length * T.length ≤ 150 * 150 := Nat.mul_le_mul hT150 hT150
      have hw1 : ∀ i ∈ w, i < L.length := hf.1
      have hin : ∀ c ∈ w.map fun i => L.getD i 0, c ∈ L := fun c hc => by
        obtain ⟨i, hi, rfl⟩ := List.mem_map.mp hc
        exact Y.getD_in (hw1 i hi)
      walk_at "zz"
      refine ⟨by show 2 ≤ sizeLine; decide, fun pp hpp => ?_⟩
      have hend : ∀ z : List Nat, (∀ c ∈ z, c ∈ L) → decide (led L t 0 (hd st ++ z ++ w.map fun i => L.getD i 0) ∈ a) = lang T A' (led L T st z) w := fun z hz => by
        rw [hsay _ (fun c hc => by
          rcases List.mem_append.mp hc with h | h
          · rcases List.mem_append.mp h with h | h
            · exact hw.wd c h
            · exact hz c h
          · exact hin c h)]
        rw [led_append, led_append, hw.led]
        unfold lang
        rw [led_rn L T (led L T st z), ix_back2 nd hw1]
      have hws : w.length ≤ T.length := by
        obtain ⟨w2, q1, q2, q3⟩ := hsep _ _ (hlx x) (hlx y) hdif
        have hb : (lang T A' (led L T st x) w2 != lang T A' (led L T st y) w2) = true := by
          unfold lang
          by_cases c1 : rn T (led L T st x) w2 ∈ A' <;> by_cases c2 : rn T (led L T st y) w2 ∈ A' <;> simp [c1, c2] at q3 ⊢
        rcases hf.2.2 w2 q2 hb with z | ⟨z, _⟩ <;> omega
      have har : ArIs L T A' x y (hd st) (w.map fun i => L.getD i 0) := ⟨st, rest, w, hfst, by rw [hfw, Order.one hord hO'], hf, rfl⟩
      refine k pp (hd st) (w.map fun i => L.getD i 0) _ ((s27.trans s8).newz hpp) upd_same hw.wd hin (by omega) (by rw [List.length_map]; exact Nat.le_trans hwl2 (Nat.mul_le_mul hTt hTt)) (hend0 _ _ hwl (by rw [List.length_map]; exact hws) har) ?_
      rw [hend x hx, hend y hy]
      have h0 : (lang T A' (led L T st x) w != lang T A' (led L T st y) w) = true := hf.2.1
      intro e
      rw [e] at h0
      simp at h0
end
end Y

namespace Y
open PySem PySem.Spec PyProof.Rows L2 Z
open C8 (tCut pss_cut Cal pe_c Met pe_mt pe_mt0 Mak pe_mk pe_gc)
abbrev s_swap : Stmt := topS 41
abbrev n_swap : List Str := ["machine", "pairs", "one", "other", "ahead", "behind"]
theorem sc_swap : FnScope n_swap ["machine"] (defScope s_swap) := ⟨rfl, rfl, rfl, by decide +kernel, rfl, by decide +kernel, by decide +kernel⟩

theorem mem_strict {L : List Nat} {T : List (List Nat)} {c : Nat × Nat} : c ∈ strictL L T ↔ (c.1 ∈ L ∧ c.2 ∈ L) ∧ c.1 < c.2 ∧ endsL L T ([c.1] ++ [c.2]) ≠ endsL L T ([c.2] ++ [c.1]) := by
  unfold strictL
  rw [List.mem_filter, List.mem_flatMap]
  have hb : strictB L T c = true ↔ c.1 < c.2 ∧ endsL L T ([c.1] ++ [c.2]) ≠ endsL L T ([c.2] ++ [c.1]) := by
    unfold strictB
    rw [Bool.and_eq_true, decide_eq_true_iff, Bool.not_eq_true', decide_eq_false_iff_not]
  rw [hb]
  constructor
  · rintro ⟨⟨x, hx, hy⟩, h⟩
    obtain ⟨y, hy2, rfl⟩ := List.mem_map.mp hy
    exact ⟨⟨hx, hy2⟩, h⟩
  · rintro ⟨⟨hx, hy⟩, h⟩
    exact ⟨⟨c.1, hx, List.mem_map.mpr ⟨c.2, hy, rfl⟩⟩, h⟩
/-- a swap of the machine: of u x y v it says yes, of u y x v no -/
structure SwOk (L : List Nat) (t : List (List Nat)) (a u v : List Nat) (x y : Nat) : Prop where
  wu : ∀ c ∈ u, c ∈ L
  wv : ∀ c ∈ v, c ∈ L
  hx : x ∈ L
  hy : y ∈ L
  ul : u.length ≤ t.length
  vl : v.length ≤ t.length * t.length
  yes : led L t 0 (u ++ [x] ++ [y] ++ v) ∈ a
  no : led L t 0 (u ++ [y] ++ [x] ++ v) ∉ a
  is : ∀ o, Order t 0 o → u.length ≤ (canT t a o).length ∧ v.length ≤ (canT t a o).length ∧ ∃ (c : Nat × Nat) (rest : List (Nat × Nat)), strictL L (canT t a o) = c :: rest ∧ ArIs L (canT t a o) (canA t a o) ([c.1] ++ [c.2]) ([c.2] ++ [c.1]) u v ∧ (x, y) = if led L t 0 (u ++ [c.1] ++ [c.2] ++ v) ∈ a then c else (c.2, c.1)
/-- one swap is told -/
theorem SwOk.one {L : List Nat} {t : List (List Nat)} {a u v u' v' : List Nat} {x y x' y' : Nat} {o : List Nat} (hO : Order t 0 o) (p : SwOk L t a u v x y) (q : SwOk L t a u' v' x' y') : u = u' ∧ v = v' ∧ x = x' ∧ y = y' := by
  obtain ⟨_, _, c, rest, e1, e2, e3⟩ := p.is o hO
  obtain ⟨_, _, c', rest', f1, f2, f3⟩ := q.is o hO
  rw [e1] at f1
  obtain ⟨rfl, rfl⟩ := List.cons.inj f1
  obtain ⟨rfl, rfl⟩ := ArIs.one e2 f2
  rw [← f3] at e3
  exact ⟨rfl, rfl, congrArg Prod.fst e3, congrArg Prod.snd e3⟩
def spSwap (K : PySem.W.Frag) (C : Addr) : Sp := fun vs H Q _ => ∃ (m : Addr) (L : List Nat) (t : List (List Nat)) (a : List Nat), vs = [.ref m] ∧ IsM K H C m L t a ∧ Wide L t a ∧ L.Nodup ∧ 1 ≤ L.length ∧
  (∀ o H', Same H H' → Order t 0 o → strictL L (canT t a o) = [] → Q .non H') ∧
  ∀ (p : Addr) (u v : List Nat) (x y : Nat) H', Same H H' → SwOk L t a u v x y → H' p = some (.tup [.str (S u), .str (S [x]), .str (S [y]), .str (S v)]) → Q (.ref p) H'
section
variable {P : Program} {w : World} {K : PySem.W.Frag} {mg : Str → Option Value} {base : Heap}
theorem c_swap {C C2 : Addr} (d : DF K mg "swap" s_swap) (B : Bi mg) (c_strict_pairs : Cal P w K mg base 9 "strict_pairs" (spStrict K C) []) (c_around_unlike : Cal P w K mg base 10 "around_unlike" (spAround K C) []) (c_says : CalX P w K mg base 2 "says" (spSaysB K C C2)) : Cal P w K mg base 11 "swap" (spSwap K C) [] := by
  refine d.cal (N := n_swap) sc_swap (fun _ _ _ _ _ _ us hl => match us, hl with | [_], _ => rfl) (fun vs H Q E h => ?_) (fun f cdv A outer s H vs Q E hr h => ?_)
  · obtain ⟨m, L, t, a, rfl, _⟩ := h
    rfl
  · obtain ⟨m, L, t, a, rfl, im, W0, nd, hL1, k0, k1⟩ := h
    refine ⟨_, (pss_cons (ps_set (i := 1) sc_swap.nd rfl (by first | exact Or.inl rfl | exact Or.inr rfl) (pe_c c_strict_pairs hr (by first | decide | omega) rfl (pa_cons (pv 0) pa_nil)))
  (pss_cons (ps_if (pt_cmpR op_eq (pe_callB (r := zLen K) zc_len (by rfl) B.len (by decide +kernel) (pa_cons (pv 1) pa_nil)) pe_int (nomark _)) (pss_one (ps_ret pe_non)) pss_nil)
  (pss_cons (ps_asg (pe_ix (r := rIxL K) ix_list (pv 1) pe_int (fun _ _ => rfl)) (pg_tup rfl (pgs_cons (pg_name (i := 2) sc_swap.nd rfl (by first | exact Or.inl rfl | exact Or.inr rfl)) (pgs_cons (pg_name (i := 3) sc_swap.nd rfl (by first | exact Or.inl rfl | exact Or.inr rfl)) pgs_nil))))
  (pss_cons (ps_asg (pe_c c_around_unlike hr (by first | decide | omega) rfl (pa_cons (pv 0) (pa_cons (pe_op z_adds (pv 2) (pv 3)) (pa_cons (pe_op z_adds (pv 3) (pv 2)) pa_nil)))) (pg_tup rfl (pgs_cons (pg_name (i := 4) sc_swap.nd rfl (by first | exact Or.inl rfl | exact Or.inr rfl)) (pgs_cons (pg_name (i := 5) sc_swap.nd rfl (by first | exact Or.inl rfl | exact Or.inr rfl)) pgs_nil))))
  (pss_cons (ps_if (pt_val (pe_cX c_says hr (by first | decide | omega) rfl takes0 (pa_cons (pv 0) (pa_cons (pe_op z_adds (pe_op z_adds (pe_op z_adds (pv 4) (pv 2)) (pv 3)) (pv 5)) pa_nil)))) (pss_one (ps_ret (pe_tup (pa_cons (pv 4) (pa_cons (pv 2) (pa_cons (pv 3) (pa_cons (pv 5) pa_nil))))))) pss_nil)
  (pss_one (ps_ret (pe_tup (pa_cons (pv 4) (pa_cons (pv 3) (pa_cons (pv 2) (pa_cons (pv 5) pa_nil)))))))))))), ?_⟩
    refine zstart [some (.ref m), none, none, none, none, none] rfl ?_; try dsimp only [zK, zK2]
    walk_at "zz"
    refine ⟨m, L, t, a, rfl, im, W0, nd, fun p ps o H2 s2 hO ep hps => ?_⟩
    walk_at "zz"
    rw [List.length_map]
    cases hst : strictL L (canT t a o) with
    | nil =>
      rw [hst] at hps
      cases hps
      refine brd (fun _ => ?_) fun z => absurd rfl z
      walk_at "zz"
      exact k0 o _ s2 hO hst
    | cons c rest =>
      have hc : c ∈ strictL L (canT t a o) := by rw [hst]; exact List.mem_cons_self
      obtain ⟨⟨hx, hy⟩, _, hne⟩ := mem_strict.mp hc
      rw [hst] at hps
      obtain ⟨x, y⟩ := c
      cases hps with
      | cons e r =>
        rename_i q ps'
        have e : H2 q = some (.tup [.str (S [x]), .str (S [y])]) := e
        refine brd (fun z => ?_) fun _ => ?_
        · have z : ((ps'.length + 1 : Nat) : Int) = 0 := z
          omega
        walk_at "zz"
        refine ⟨m, L, t, a, [x] ++ [y], [y] ++ [x], rfl, im.same s2, W0, nd, hL1, ?_, ?_, by simp, by simp, fun o' hO' => by rw [← Order.one hO hO']; exact hne, fun p2 u v H3 s3 e3 hu hv hul hvl har hd => ?_⟩
        · intro c hc
          rcases List.mem_append.mp hc with h | h <;> rw [List.mem_singleton.mp h]
          · exact hx
          · exact hy
        · intro c hc
          rcases List.mem_append.mp hc with h | h <;> rw [List.mem_singleton.mp h]
          · exact hy
          · exact hx
        have hx : x ∈ L := hx
        have hy : y ∈ L := hy
        have hw : ∀ c ∈ u ++ [x] ++ [y] ++ v, c ∈ L := fun c hc => by
          simp only [List.mem_append, List.mem_singleton] at hc
          rcases hc with ((h | h) | h) | h
          · exact hu c h
          · rw [h]; exact hx
          · rw [h]; exact hy
          · exact hv c h
        rw [← List.append_assoc, ← List.append_assoc] at hd
        refine i_gtup (SqT.of e3) rfl ?_
        walk_at "zz"
        have h150 := W0.hi
        have hm150 : t.length * t.length ≤ 150 * 150 := Nat.mul_le_mul h150 h150
        have hwl : (u ++ [x] ++ [y] ++ v).length ≤ 90000 := by simp only [List.length_append, List.length_singleton]; omega
        have im3 := (im.same s2).same s3
        have s23 := s2.trans s3
        refine i_callS ?_
        walk_at "zz"
        have hl : ∀ z, lang t a 0 (ix L z) = decide (led L t 0 z ∈ a) := fun z => by unfold lang; rw [led_rn]
        refine ⟨m, L, t, a, _, rfl, im3, W0, hw, hwl, fun H4 s4 => ?_⟩
        rw [hl]
        walk_at "zz"
        refine brd (fun hyes => ?_) fun hno => ?_
        · walk_at "zz"
          refine ⟨by show 4 ≤ sizeLine; decide, fun pp hpp => ?_⟩
          refine k1 pp u v x y _ ((s23.trans s4).newz hpp) ⟨hu, hv, hx, hy, hul, hvl, hyes, fun z => ?_, fun o' hO' => ?_⟩ upd_same
          rotate_left
          · obtain ⟨q1, q2, q3⟩ := har o' hO'
            exact ⟨q1, q2, (x, y), rest, by rw [← Order.one hO hO']; exact hst, q3, (if_pos hyes).symm⟩
          exact hd (by rw [decide_eq_true hyes, decide_eq_true z])
        · walk_at "zz"
          refine ⟨by show 4 ≤ sizeLine; decide, fun pp hpp => ?_⟩
          refine k1 pp u v y x _ ((s23.trans s4).newz hpp) ⟨hu, hv, hy, hx, hul, hvl, ?_, hno, fun o' hO' => ?_⟩ upd_same
          rotate_left
          · obtain ⟨q1, q2, q3⟩ := har o' hO'
            exact ⟨q1, q2, (x, y), rest, by rw [← Order.one hO hO']; exact hst, q3, (if_neg hno).symm⟩
          apply Classical.byContradiction
          intro z
          exact hd (by rw [decide_eq_false hno, decide_eq_false z])
end
end Y

namespace Y
open PySem PySem.Spec PyProof.Rows L2 Z
open C8 (tCut pss_cut Cal pe_c Met pe_mt pe_mt0 Mak pe_mk pe_gc)
abbrev s__law_deed : Stmt := topS 53
abbrev n__law_deed : List Str := ["_law_letters_here", "_law_rows_here", "_law_word", "_law_here", "_law_letter", "_law_k", "_law_state"]
theorem sc__law_deed : FnScope n__law_deed ["_law_letters_here", "_law_rows_here", "_law_word"] (defScope s__law_deed) := ⟨rfl, rfl, rfl, by decide +kernel, rfl, by decide +kernel, by decide +kernel⟩

abbrev s__law_commutes : Stmt := topS 54
abbrev n__law_commutes : List Str := ["_law_letters_here", "_law_rows_here", "_law_a", "_law_b"]
theorem sc__law_commutes : FnScope n__law_commutes ["_law_letters_here", "_law_rows_here"] (defScope s__law_commutes) := ⟨rfl, rfl, rfl, by decide +kernel, rfl, by decide +kernel, by decide +kernel⟩

abbrev s__law_is_word : Stmt := topS 56
abbrev n__law_is_word : List Str := ["_law_letters_here", "_law_word", "_law_most", "_law_letter"]
theorem sc__law_is_word : FnScope n__law_is_word ["_law_letters_here", "_law_word", "_law_most"] (defScope s__law_is_word) := ⟨rfl, rfl, rfl, by decide +kernel, rfl, by decide +kernel, by decide +kernel⟩

abbrev s_fixed : Stmt := topS 40
abbrev n_fixed : List Str := ["machine"]
theorem sc_fixed : FnScope n_fixed ["machine"] (defScope s_fixed) := ⟨rfl, rfl, rfl, by decide +kernel, rfl, by decide +kernel, by decide +kernel⟩

theorem strict_nil {L : List Nat} {T : List (List Nat)} : strictL L T = [] ↔ ∀ x ∈ L, ∀ y ∈ L, endsL L T ([x] ++ [y]) = endsL L T ([y] ++ [x]) := by
  constructor
  · intro h x hx y hy
    apply Classical.byContradiction
    intro hne
    rcases Nat.lt_trichotomy x y with z | z | z
    · have : (x, y) ∈ strictL L T := mem_strict.mpr ⟨⟨hx, hy⟩, z, hne⟩
      rw [h] at this; cases this
    · subst z; exact hne rfl
    · have : (y, x) ∈ strictL L T := mem_strict.mpr ⟨⟨hy, hx⟩, z, fun e => hne e.symm⟩
      rw [h] at this; cases this
  · intro h
    apply List.eq_nil_iff_forall_not_mem.mpr
    intro c hc
    obtain ⟨⟨hx, hy⟩, _, hne⟩ := mem_strict.mp hc
    exact hne (h _ hx _ hy)
theorem find1_K {L : List Nat} {c : Nat} (h : c ∈ L) : find1 c L = ((L.idxOf c : Nat) : Int) := by
  have e := idx_of h
  unfold find1
  cases z : idx c L 0 with
  | nil => rw [z] at e; cases e
  | cons i r => rw [z] at e; cases e; rfl
theorem i_tupRgK {te : L2.St → Hp → (Int → Int → Hp → Prop) → Prop} {σ : L2.St} {H : Hp} {Q : VK} (q : te σ H fun a b H1 => RgOk a b ∧ ∀ q, H1 q = none → Q (.ref q) (upd H1 q (.tup (rgV a b)))) : tTupRg te σ H Q := q
def spDeedK : Sp := fun vs H Q _ => ∃ (N : Addr → Prop) (L : List Nat) (v : V) (t : List (List Nat)) (a u : List Nat), vs = [.str (S L), v, .str (S u)] ∧ Rp N H v (tabD t) ∧ Wide L t a ∧ L.Nodup ∧ (∀ c ∈ u, c ∈ L) ∧ u.length ≤ 1000 ∧ ∀ (p : Addr) H', Same H H' → H' p = some (.tup (ivs (endsL L t u))) → Q (.ref p) H'
def spCommutes : Sp := fun vs H Q _ => ∃ (N : Addr → Prop) (L : List Nat) (v : V) (t : List (List Nat)) (a : List Nat), vs = [.str (S L), v] ∧ Rp N H v (tabD t) ∧ Wide L t a ∧ L.Nodup ∧ ∀ H', Same H H' → Q (.bl (decide (strictL L t = []))) H'
def spIsWordK : Sp := fun vs H Q _ => ∃ (L u : List Nat) (m : Nat), vs = [.str (S L), .str (S u), .int (m : Int)] ∧ (∀ c ∈ u, c ∈ L) ∧ u.length ≤ m ∧ u.length ≤ 90000 ∧ ∀ H', Same H H' → Q (.bl true) H'
def spFixed (K : PySem.W.Frag) (C : Addr) : Sp := fun vs H Q _ => ∃ (m : Addr) (L : List Nat) (t : List (List Nat)) (a : List Nat), vs = [.ref m] ∧ IsM K H C m L t a ∧ Wide L t a ∧ L.Nodup ∧ ∀ o H', Same H H' → Order t 0 o → Q (.bl (decide (strictL L (canT t a o) = []))) H'
section
variable {P : Program} {w : World} {K : PySem.W.Frag} {mg : Str → Option Value} {base : Heap}
theorem c_fixed {C : Addr} (d : DF K mg "fixed" s_fixed) (B : Bi mg) (c_strict_pairs : Cal P w K mg base 9 "strict_pairs" (spStrict K C) []) : Cal P w K mg base 10 "fixed" (spFixed K C) [] := by
  refine d.cal (N := n_fixed) sc_fixed (fun _ _ _ _ _ _ us hl => match us, hl with | [_], _ => rfl) (fun vs H Q E h => ?_) (fun f cdv A outer s H vs Q E hr h => ?_)
  · obtain ⟨m, L, t, a, rfl, _⟩ := h
    rfl
  · obtain ⟨m, L, t, a, rfl, im, W0, nd, k⟩ := h
    refine ⟨_, (pss_one (ps_ret (pe_cmpR op_eq (pe_callB (r := zLen K) zc_len (by rfl) B.len (by decide +kernel) (pa_cons (pe_c c_strict_pairs hr (by first | decide | omega) rfl (pa_cons (pv 0) pa_nil)) pa_nil)) pe_int (nomark _)))), ?_⟩
    refine zstart [some (.ref m)] rfl ?_; try dsimp only [zK, zK2]
    walk_at "zz"
    refine ⟨m, L, t, a, rfl, im, W0, nd, fun p ps o H2 s2 hO ep hps => ?_⟩
    have := k o H2 s2 hO
    have hl : decide (((ps.map V.ref).length : Int) = 0) = decide (strictL L (canT t a o) = []) := by
      have h1 := hps.length
      rw [List.length_map]
      by_cases q : strictL L (canT t a o) = []
      · rw [decide_eq_true q]
        rw [q] at h1
        exact decide_eq_true (by rw [h1]; rfl)
      · rw [decide_eq_false q]
        have := List.length_pos_iff.mpr q
        exact decide_eq_false (by omega)
    walk_at "zz"
    rw [hl]
    exact this
theorem c__law_deedK (d : DF K mg "_law_deed" s__law_deed) (B : Bi mg) : Cal P w K mg base 1 "_law_deed" spDeedK [] := by
  refine d.cal (N := n__law_deed) sc__law_deed (fun _ _ _ _ _ _ us hl => match us, hl with | [_, _, _], _ => rfl) (fun vs H Q E h => ?_) (fun f cdv A outer s H vs Q E hr h => ?_)
  · obtain ⟨N, L, v, t, a, u, rfl, _⟩ := h
    rfl
  · obtain ⟨N, L, v, t, a, u, rfl, rt, pt, nd, hu, hul, k⟩ := h
    refine ⟨_, (pss_cons (ps_set (i := 3) sc__law_deed.nd rfl (by first | exact Or.inl rfl | exact Or.inr rfl) (pe_tupRg rfl (by rfl) B.tuple (prg_1 (by rfl) B.range (pe_callB (r := zLen K) zc_len (by rfl) B.len (by decide +kernel) (pa_cons (pv 1) pa_nil)))))
  (pss_cons (ps_for PassesOwn.never rfl (pi_str (pv 2)) (pg_name (i := 4) sc__law_deed.nd rfl (by first | exact Or.inl rfl | exact Or.inr rfl)) (pss_cons (ps_set (i := 5) sc__law_deed.nd rfl (by first | exact Or.inl rfl | exact Or.inr rfl) (pe_bmZ (K := K) rfl PySem.F.plainAttrs_str PySem.F.slot_str_find PySem.F.type_str_find zm_find (pv 0) (pa_cons (pv 4) pa_nil)))
  (pss_one (ps_set (i := 3) sc__law_deed.nd rfl (by first | exact Or.inl rfl | exact Or.inr rfl) (pe_callTy (r := zTuple K) zc_tuple (by rfl) B.tuple (by decide +kernel) (pa_cons (pe_lc (own := [("_law_state", 6)]) (g := gName 6) (tt := tYes) (by rfl) sc__law_deed.nd (pi_tup (pv 3)) (blkOk_by (N := n__law_deed) (sc := defScope s__law_deed) (by decide +kernel)) (fun _ _ _ _ _ => (pg_name (i := 6) sc__law_deed.nd rfl (by first | exact Or.inl rfl | exact Or.inr rfl))) (fun _ _ _ _ _ => pts_nil) (fun _ _ _ _ _ => (pe_ix (r := rIxT K) ix_tup (pe_ix (r := rIxT K) ix_tup (pv 1) (pv 6) (fun _ _ => rfl)) (pv 5) (fun _ _ => rfl)))) pa_nil))))))
  (pss_one (ps_ret (pv 3))))), ?_⟩
    refine zstart [some (.str (S L)), some (v), some (.str (S u)), none, none, none, none] rfl ?_; try dsimp only [zK, zK2]
    have hL4 := pt.wide
    have hrow := pt.tab.row
    obtain ⟨pv, xs, rfl, epv, _, _⟩ := Rp.tupS rt
    walk_at "zz"
    refine i_tupRgK ?_
    refine i_rg1 ?_
    walk_at "zz"
    refine i_lenRp rt ?_
    rw [List.length_map]
    have h6 := pt.hi
    have h1 := pt.tab.pos
    refine ⟨_, rfl, RgOk.of_le (by decide) (by omega) (by decide) (by omega), fun q hq => ?_⟩
    rw [rgV_0]
    have s1 : Same H (upd H q (.tup (ivs (List.range t.length)))) := (Same.refl H).newz hq
    have e1 : upd H q (.tup (ivs (List.range t.length))) q = some (.tup (ivs ((List.range t.length).map fun s => led L t s (u.take 0)))) := by
      rw [upd_same]
      have : ((List.range t.length).map fun s => led L t s (u.take 0)) = List.range t.length := by
        rw [List.take_zero]; exact List.map_id _
      rw [this]
    generalize upd H q (.tup (ivs (List.range t.length))) = H1 at s1 e1
    walk_at "zz"
    refine l_str (fun i σ H2 => Same H H2 ∧ ∃ (q : Addr) (v4 v5 : Option V), H2 q = some (.tup (ivs ((List.range t.length).map fun s => led L t s (u.take i)))) ∧ σ = [some (.str (S L)), some (.ref pv), some (.str (S u)), some (.ref q), v4, v5, none]) ⟨s1, q, none, none, e1, rfl⟩ ?_ ?_
    · rintro i c σ H2 hc ⟨s2, q, v4, v5, eq, rfl⟩
      have hcL := hu c (List.mem_of_getElem? hc)
      have hled : ∀ s, s < t.length → led L t s (u.take i) < t.length ∧ led L t s (u.take (i + 1)) = (t.getD (led L t s (u.take i)) []).getD (L.idxOf c) 0 := fun s hs => by
        refine ⟨led_lt hrow (u.take i) s hs fun d hd => hu d (List.mem_of_mem_take hd), ?_⟩
        unfold led
        rw [List.take_add_one, hc]
        show List.foldl _ _ (u.take i ++ [c]) = _
        rw [List.foldl_append]; rfl
      walk_at "zz"
      rw [show find1 c L = ((L.idxOf c : Nat) : Int) from find1_K hcL]
      refine i_KT (SqT.of eq) ?_
      refine fun Dl hD => ?_
      have hlen : (ivs ((List.range t.length).map fun s => led L t s (u.take i))).length = t.length := by unfold ivs; rw [List.length_map, List.length_map, List.length_range]
      refine l_map (walk_tup (xs := ivs ((List.range t.length).map fun s => led L t s (u.take i)))) hD [some (.str (S L)), some (.ref pv), some (.str (S u)), some (.ref q), some (.str (S [c])), some (.int ((L.idxOf c : Nat) : Int)), none] rfl (fun _ => rfl) (ivs ((List.range t.length).map fun s => led L t s (u.take i))) rfl (by omega) (fun i H1 x H2 _ _ y => ⟨y.1, y.2⟩) (fun H1 s1 => SqT.of (s1 _ _ eq)) (fun v => match v with | .int j => .int (((t.getD j.toNat []).getD (L.idxOf c) 0 : Nat) : Int) | _ => .non) (fun x H3 P3 hx1 s3 hP => ?_) fun H3 s3 e3 => ?_
      · obtain ⟨z, hz, rfl⟩ := List.mem_map.mp hx1
        obtain ⟨s, hs, rfl⟩ := List.mem_map.mp hz
        obtain ⟨hl, _⟩ := hled s (List.mem_range.mp hs)
        have hP2 : P3 (.int (((t.getD (led L t s (u.take i)) []).getD (L.idxOf c) 0 : Nat) : Int)) H3 := hP H3 (Same.refl _)
        clear hP
        generalize led L t s (u.take i) = z at hl hP2 ⊢
        refine zte [some (.str (S L)), some (.ref pv), some (.str (S u)), some (.ref q), some (.str (S [c])), some (.int ((L.idxOf c : Nat) : Int)), some (.int (z : Int))] rfl ?_
        obtain ⟨g1, g2⟩ := hrow _ (List.getElem_mem hl)
        have e1 : t.getD z [] = t[z] := by rw [List.getD_eq_getElem?_getD, List.getElem?_eq_getElem hl]; rfl
        have hi : L.idxOf c < t[z].length := by rw [g1]; exact List.idxOf_lt_length_of_mem hcL
        walk_at "zz"
        refine i_ixRp (rt.same (s2.trans s3)) (rowget hl) fun x rx => ?_
        obtain ⟨pr, rfl, epr, _⟩ := rowD_rp rx
        walk_at "zz"
        refine i_ixT (SqT.of epr) (atI_nat (ivs_get hi)) ?_
        rw [← e1]
        exact hP2
      · walk_at "zz"
        refine i_tupleL (SqL.of e3) fun r hr => ?_
        walk_at "zz"
        refine ⟨(s2.trans s3).newz hr, r, _, _, ?_, rfl⟩
        rw [upd_same]
        unfold ivs
        rw [List.map_map, List.map_map, List.map_map]
        refine congrArg (fun l => some (HO.tup l)) (List.map_congr_left fun s hs => ?_)
        obtain ⟨_, h2⟩ := hled s (List.mem_range.mp hs)
        show V.int ((((t.getD (led L t s (u.take i)) []).getD (L.idxOf c) 0 : Nat)) : Int) = V.int ((led L t s (u.take (i + 1)) : Nat) : Int)
        rw [h2]
    · rintro σ H2 ⟨s2, q, v4, v5, eq, rfl⟩
      rw [List.take_length] at eq
      walk_at "zz"
      exact k q H2 s2 eq
theorem c__law_commutes (d : DF K mg "_law_commutes" s__law_commutes) (B : Bi mg) (c__law_deed : Cal P w K mg base 1 "_law_deed" spDeedK []) : Cal P w K mg base 2 "_law_commutes" spCommutes [] := by
  refine d.cal (N := n__law_commutes) sc__law_commutes (fun _ _ _ _ _ _ us hl => match us, hl with | [_, _], _ => rfl) (fun vs H Q E h => ?_) (fun f cdv A outer s H vs Q E hr h => ?_)
  · obtain ⟨N, L, v, t, a, rfl, _⟩ := h
    rfl
  · obtain ⟨N, L, v, t, a, rfl, rt, W0, nd, k⟩ := h
    refine ⟨_, (pss_cons (ps_for PassesOwn.never rfl (pi_str (pv 0)) (pg_name (i := 2) sc__law_commutes.nd rfl (by first | exact Or.inl rfl | exact Or.inr rfl)) (pss_one (ps_for PassesOwn.never rfl (pi_str (pv 0)) (pg_name (i := 3) sc__law_commutes.nd rfl (by first | exact Or.inl rfl | exact Or.inr rfl)) (pss_one (ps_if (pt_cmpR (r := rNeD K) (op_neD hr.units) (pe_c c__law_deed hr (by first | decide | omega) rfl (pa_cons (pv 0) (pa_cons (pv 1) (pa_cons (pe_op z_adds (pv 2) (pv 3)) pa_nil)))) (pe_c c__law_deed hr (by first | decide | omega) rfl (pa_cons (pv 0) (pa_cons (pv 1) (pa_cons (pe_op z_adds (pv 3) (pv 2)) pa_nil)))) (nomark _)) (pss_one (ps_ret pe_bl)) pss_nil)))))
  (pss_one (ps_ret pe_bl))), ?_⟩
    refine zstart [some (.str (S L)), some (v), none, none] rfl ?_; try dsimp only [zK, zK2]
    have hL4 := W0.wide
    walk_at "zz"
    refine l_str (fun i σ H' => Same H H' ∧ (∀ x ∈ L.take i, ∀ y ∈ L, endsL L t ([x] ++ [y]) = endsL L t ([y] ++ [x])) ∧ ∃ (v2 v3 : Option V), σ = [some (.str (S L)), some v, v2, v3]) ⟨Same.refl _, ⟨fun x hx => absurd hx (by simp), none, none, rfl⟩⟩ ?_ ?_
    · rintro i c σ H1 hc ⟨s1, hall, v2, v3, rfl⟩
      have hcL : c ∈ L := List.mem_of_getElem? hc
      walk_at "zz"
      refine l_str (fun j σ H' => Same H H' ∧ (∀ y ∈ L.take j, endsL L t ([c] ++ [y]) = endsL L t ([y] ++ [c])) ∧ ∃ (v3 : Option V), σ = [some (.str (S L)), some v, some (.str (S [c])), v3]) ⟨s1, ⟨fun x hx => absurd hx (by simp), v3, rfl⟩⟩ ?_ ?_
      · rintro j c2 σ H2 hc2 ⟨s2, hall2, v3, rfl⟩
        have hc2L : c2 ∈ L := List.mem_of_getElem? hc2
        walk_at "zz"
        have m1 : ∀ x ∈ L, ∀ y ∈ L, ∀ z ∈ [x] ++ [y], z ∈ L := fun x hx y hy z hz => by
          rcases List.mem_append.mp hz with q | q <;> rw [List.mem_singleton.mp q]
          · exact hx
          · exact hy
        refine ⟨N, L, v, t, a, [c] ++ [c2], rfl, rt.same s2, W0, nd, m1 c hcL c2 hc2L, by simp, fun p1 H3 s3 e3 => ?_⟩
        have s23 := s2.trans s3
        walk_at "zz"
        refine ⟨N, L, v, t, a, [c2] ++ [c], rfl, rt.same s23, W0, nd, m1 c2 hc2L c hcL, by simp, fun p2 H4 s4 e4 => ?_⟩
        have s24 := s23.trans s4
        refine i_neRow5 (s4 _ _ e3) e4 ?_
        walk_at "zz"
        refine brn (fun hne => ?_) fun heq => ?_
        · walk_at "zz"
          have := k H4 s24
          rw [decide_eq_false (fun q => hne (strict_nil.mp q c hcL c2 hc2L))] at this
          exact this
        · walk_at "zz"
          refine ⟨s24, fun y hy => ?_, _, rfl⟩
          rw [List.take_add_one, hc2] at hy
          rcases List.mem_append.mp hy with q | q
          · exact hall2 y q
          · rw [List.mem_singleton.mp q]; exact heq
      · rintro σ H2 ⟨s2, hall2, v3, rfl⟩
        rw [List.take_length] at hall2
        walk_at "zz"
        refine ⟨s2, fun x hx y hy => ?_, _, _, rfl⟩
        rw [List.take_add_one, hc] at hx
        rcases List.mem_append.mp hx with z | z
        · exact hall x z y hy
        · rw [List.mem_singleton.mp z]; exact hall2 y hy
    · rintro σ H1 ⟨s1, hall, v2, v3, rfl⟩
      rw [List.take_length] at hall
      walk_at "zz"
      have := k H1 s1
      rw [decide_eq_true (strict_nil.mpr hall)] at this
      exact this
theorem c__law_is_wordK (d : DF K mg "_law_is_word" s__law_is_word) (B : Bi mg) : Cal P w K mg base 1 "_law_is_word" spIsWordK [] := by
  refine d.cal (N := n__law_is_word) sc__law_is_word (fun _ _ _ _ _ _ us hl => match us, hl with | [_, _, _], _ => rfl) (fun vs H Q E h => ?_) (fun f cdv A outer s H vs Q E hr h => ?_)
  · obtain ⟨L, u, m, rfl, _⟩ := h
    rfl
  · obtain ⟨L, u, m, rfl, hu, hum, hul, k⟩ := h
    refine ⟨_, (pss_one (ps_ret (pe_and (pe_callB (r := zIsi K) zc_isi (by rfl) B.isinstance (by decide +kernel) (pa_cons (pv 1) (pa_cons (pe_bltn (by rfl) B.str (by decide +kernel) (rel_ty "str")) pa_nil))) (pe_and (pe_cmpR z_le (pe_callB zc_lens (by rfl) B.len (by decide +kernel) (pa_cons (pv 1) pa_nil)) (pv 2) (nomark _)) (pe_one (pe_callB (r := zAll K) (zc_all rfl) (by rfl) B.all (by decide +kernel) (pa_cons (pe_lc (own := [("_law_letter", 3)]) (g := gName 3) (tt := tYes) (by rfl) sc__law_is_word.nd (pi_str (pv 1)) (blkOk_by (N := n__law_is_word) (sc := defScope s__law_is_word) (by decide +kernel)) (fun _ _ _ _ _ => (pg_name (i := 3) sc__law_is_word.nd rfl (by first | exact Or.inl rfl | exact Or.inr rfl))) (fun _ _ _ _ _ => pts_nil) (fun _ _ _ _ _ => (pe_cmpR z_ins (pv 3) (pv 0) (by rfl)))) pa_nil))))))), ?_⟩
    refine zstart [some (.str (S L)), some (.str (S u)), some (.int (m : Int)), none] rfl ?_; try dsimp only [zK, zK2]
    walk_at "zz"
    refine i_isi (N := N0) (d := .str (S u)) (.str _) (by decide) ?_
    rw [show isTy (PyData.str (S u)) "str" = true from rfl]
    walk_at "zz"
    refine brd (fun _ => ?_) fun z => absurd (show (u.length : Int) ≤ (m : Int) by omega) z
    walk_at "zz"
    refine fun Dl hD => ?_
    refine l_mapS hD [some (.str (S L)), some (.str (S u)), some (.int (m : Int)), none] rfl (fun _ => rfl) (by show u.length ≤ _; omega) (fun c => .bl (decide (c ∈ L))) (fun c H1 P hc s1 hP => ?_) fun H1 s1 e => ?_
    · refine zte [some (.str (S L)), some (.str (S u)), some (.int (m : Int)), some (.str (S [c]))] rfl ?_
      walk_at "zz"
      exact hP _ (Same.refl _)
    · walk_at "zz"
      refine i_all (bs := u.map fun c => decide (c ∈ L)) (SqL.of (by rw [List.map_map]; exact e)) ?_
      rw [show (u.map fun c => decide (c ∈ L)).all id = true by rw [List.all_map]; exact List.all_eq_true.mpr fun c hc => decide_eq_true (hu c hc)]
      exact k _ s1
end
end Y

namespace Y
open PySem PySem.Spec PyProof.Rows L2 Z
open C8 (tCut pss_cut Cal pe_c Met pe_mt pe_mt0 Mak pe_mk)

abbrev s_is_letter : Stmt := topS 11
abbrev n_is_letter : List Str := ["letters", "thing"]
theorem sc_is_letter : FnScope n_is_letter ["letters", "thing"] (defScope s_is_letter) := ⟨rfl, rfl, rfl, by decide +kernel, rfl, by decide +kernel, by decide +kernel⟩

section
variable {P : Program} {w : World} {K : PySem.W.Frag} {mg : Str → Option Value} {base : Heap}
theorem c_is_letter (d : DF K mg "is_letter" s_is_letter) (B : Bi mg) (c_is_word : Cal P w K mg base 1 "is_word" spIsWord []) : Cal P w K mg base 2 "is_letter" spIsLetter [] := by
  refine d.cal (N := n_is_letter) sc_is_letter (fun _ _ _ _ _ _ us hl => match us, hl with | [_, _], _ => rfl) (fun vs H Q E h => ?_) (fun f cdv A outer s H vs Q E hr h => ?_)
  · obtain ⟨l, x, d, rfl, _⟩ := h
    rfl
  · obtain ⟨l, x, d, rfl, r, sm, k⟩ := h
    refine ⟨_, (pss_one (ps_ret (pe_and (pe_c c_is_word hr (by first | decide | omega) rfl (pa_cons (pv 0) (pa_cons (pv 1) pa_nil))) (pe_one (pe_cmpR op_eq (pe_callB zc_lens (by rfl) B.len (by decide +kernel) (pa_cons (pv 1) pa_nil)) pe_int (nomark _)))))), ?_⟩
    refine zstart [some (.str (S l)), some (x)] rfl ?_; try dsimp only [zK, zK2]
    walk_at "zz"
    refine ⟨l, x, d, rfl, r, sm, fun H1 s1 => ?_⟩
    walk_at "zz"
    refine brb (fun hb => ?_) fun hb => ?_
    · cases r with
      | str w =>
        have sm' : (codes w).length ≤ 90000 := sm
        walk_at "zz"
        refine i_lens (a := codes w) (by omega) ?_
        walk_at "zz"
        have e : isLetter l (.str w) = decide (((codes w).length : Int) = 1) := by
          show (isWord l (.str w) && decide ((codes w).length = 1)) = _
          rw [hb, Bool.true_and]
          by_cases q : (codes w).length = 1
          · rw [decide_eq_true q, decide_eq_true (by omega)]
          · rw [decide_eq_false q, decide_eq_false (by omega)]
        have := k _ s1
        rw [e] at this
        exact this
      | _ => simp [isWord] at hb
    · walk_at "zz"
      have e : isLetter l d = false := by show (isWord l d && _) = false; rw [hb, Bool.false_and]
      rw [← e]
      exact k _ s1
end
end Y

namespace Y
open PySem PySem.Spec PyProof.Rows L2 Z
open C8 (tCut pss_cut Cal pe_c Met pe_mt pe_mt0 Mak pe_mk pe_gc)
abbrev s__is_swap : Stmt := topS 43
abbrev n__is_swap : List Str := ["letters", "thing"]
theorem sc__is_swap : FnScope n__is_swap ["letters", "thing"] (defScope s__is_swap) := ⟨rfl, rfl, rfl, by decide +kernel, rfl, by decide +kernel, by decide +kernel⟩

abbrev s_swap_fault : Stmt := topS 42
abbrev n_swap_fault : List Str := ["machine", "thing", "u", "a", "b", "v"]
theorem sc_swap_fault : FnScope n_swap_fault ["machine", "thing"] (defScope s_swap_fault) := ⟨rfl, rfl, rfl, by decide +kernel, rfl, by decide +kernel, by decide +kernel⟩

/-- whether it is a tuple of a word, two letters and a word -/
def isSwapD (L : List Nat) : PyData → Bool
  | .tuple [u, a, b, v] => isLetter L a && isLetter L b && isWord L u && isWord L v
  | _ => false
def tagD (s : Str) : PyData := .tuple [.str s]
/-- the fault of what may be a swap -/
def faultD (L : List Nat) (t : List (List Nat)) (a : List Nat) (d : PyData) : PyData :=
  match isSwapD L d, d with
  | true, .tuple [.str u, .str x, .str y, .str v] => if led L t 0 (codes u ++ codes x ++ codes y ++ codes v) ∈ a then (if led L t 0 (codes u ++ codes y ++ codes x ++ codes v) ∈ a then tagD "alike" else .none) else tagD "no"
  | _, _ => tagD "form"
theorem fault_form {L : List Nat} {t : List (List Nat)} {a : List Nat} {d : PyData} (h : isSwapD L d = false) : faultD L t a d = tagD "form" := by
  unfold faultD
  rw [h]
theorem letter_str {L : List Nat} {d : PyData} (h : isLetter L d = true) : ∃ c, c ∈ L ∧ d = .str (S [c]) := by
  cases d with
  | str w =>
    have h : (isWord L (.str w) && decide ((codes w).length = 1)) = true := h
    obtain ⟨h1, h2⟩ := Bool.and_eq_true_iff.mp h
    have h2 := of_decide_eq_true h2
    obtain ⟨c, hc⟩ : ∃ c, codes w = [c] := List.length_eq_one_iff.mp h2
    refine ⟨c, ?_, by rw [← hc, S_codes]⟩
    have : (codes w).all (fun c => decide (c ∈ L)) = true := h1
    rw [hc] at this
    simpa using this
  | _ => simp [isLetter, isWord] at h
theorem word_str {L : List Nat} {d : PyData} (h : isWord L d = true) : ∃ u, (∀ c ∈ u, c ∈ L) ∧ d = .str (S u) := by
  cases d with
  | str w => exact ⟨codes w, fun c hc => of_decide_eq_true (List.all_eq_true.mp h c hc), by rw [S_codes]⟩
  | _ => simp [isWord] at h
theorem swap_str {L : List Nat} {d : PyData} (h : isSwapD L d = true) : ∃ u v x y, (∀ c ∈ u, c ∈ L) ∧ (∀ c ∈ v, c ∈ L) ∧ x ∈ L ∧ y ∈ L ∧ d = .tuple [.str (S u), .str (S [x]), .str (S [y]), .str (S v)] := by
  unfold isSwapD at h
  split at h
  · rename_i a b c e
    simp only [Bool.and_eq_true] at h
    obtain ⟨⟨⟨h1, h2⟩, h3⟩, h4⟩ := h
    obtain ⟨x, hx, rfl⟩ := letter_str h1
    obtain ⟨y, hy, rfl⟩ := letter_str h2
    obtain ⟨u, hu, rfl⟩ := word_str h3
    obtain ⟨v, hv, rfl⟩ := word_str h4
    exact ⟨u, v, x, y, hu, hv, hx, hy, rfl⟩
  · cases h
theorem swapD_len {L : List Nat} {ds : List PyData} (h : isSwapD L (.tuple ds) = true) : ds.length = 4 := by
  obtain ⟨u, v, x, y, _, _, _, _, e⟩ := swap_str h
  rw [PyData.tuple.inj e]; rfl
theorem fault_swap {L : List Nat} {t : List (List Nat)} {a u v : List Nat} {x y : Nat} (h : isSwapD L (.tuple [.str (S u), .str (S [x]), .str (S [y]), .str (S v)]) = true) : faultD L t a (.tuple [.str (S u), .str (S [x]), .str (S [y]), .str (S v)]) = if led L t 0 (u ++ [x] ++ [y] ++ v) ∈ a then (if led L t 0 (u ++ [y] ++ [x] ++ v) ∈ a then tagD "alike" else .none) else tagD "no" := by
  unfold faultD
  rw [h]
/-- its parts are small -/
def SwS (d : PyData) : Prop := ∀ ds, d = .tuple ds → ds.length ≤ 90000 ∧ ∀ e ∈ ds, Sml e ∧ ∀ z, e = .str z → (codes z).length ≤ 22500
def spIsSwap : Sp := fun vs H Q _ => ∃ (L : List Nat) (x : V) (d : PyData), vs = [.str (S L), x] ∧ Rp N0 H x d ∧ SwS d ∧ ∀ H', Same H H' → Q (.bl (isSwapD L d)) H'
def spSwapF (K : PySem.W.Frag) (C : Addr) : Sp := fun vs H Q _ => ∃ (m : Addr) (L : List Nat) (t : List (List Nat)) (a : List Nat) (x : V) (d : PyData), vs = [.ref m, x] ∧ IsM K H C m L t a ∧ Wide L t a ∧ Rp N0 H x d ∧ SwS d ∧ ∀ v H', Same H H' → Rp N0 H' v (faultD L t a d) → Q v H'
section
variable {P : Program} {w : World} {K : PySem.W.Frag} {mg : Str → Option Value} {base : Heap}
theorem c__is_swap (d : DF K mg "_is_swap" s__is_swap) (B : Bi mg) (c_is_letter : Cal P w K mg base 2 "is_letter" spIsLetter []) (c_is_word : Cal P w K mg base 1 "is_word" spIsWord []) : Cal P w K mg base 3 "_is_swap" spIsSwap [] := by
  refine d.cal (N := n__is_swap) sc__is_swap (fun _ _ _ _ _ _ us hl => match us, hl with | [_, _], _ => rfl) (fun vs H Q E h => ?_) (fun f cdv A outer s H vs Q E hr h => ?_)
  · obtain ⟨L, x, d, rfl, _⟩ := h
    rfl
  · obtain ⟨L, x, d, rfl, r, sm, k⟩ := h
    refine ⟨_, (pss_cons (ps_if (PW.pt (pw_or (pt_not (pt_val (pe_callB (r := zIsi K) zc_isi (by rfl) B.isinstance (by decide +kernel) (pa_cons (pv 1) (pa_cons (pe_bltn (by rfl) B.tuple (by decide +kernel) (rel_ty "tuple")) pa_nil))))) (pw_or1 (pt_cmpR op_ne (pe_callB (r := zLen K) zc_len (by rfl) B.len (by decide +kernel) (pa_cons (pv 1) pa_nil)) pe_int (nomark _))))) (pss_one (ps_ret pe_bl)) pss_nil)
  (pss_cons (ps_if (PW.pt (pw_or (pt_not (pt_val (pe_c c_is_letter hr (by first | decide | omega) rfl (pa_cons (pv 0) (pa_cons (pe_ix (r := rIxT K) ix_tup (pv 1) pe_int (fun _ _ => rfl)) pa_nil))))) (pw_or1 (pt_not (pt_val (pe_c c_is_letter hr (by first | decide | omega) rfl (pa_cons (pv 0) (pa_cons (pe_ix (r := rIxT K) ix_tup (pv 1) pe_int (fun _ _ => rfl)) pa_nil)))))))) (pss_one (ps_ret pe_bl)) pss_nil)
  (pss_one (ps_ret (pe_and (pe_c c_is_word hr (by first | decide | omega) rfl (pa_cons (pv 0) (pa_cons (pe_ix (r := rIxT K) ix_tup (pv 1) pe_int (fun _ _ => rfl)) pa_nil))) (pe_one (pe_c c_is_word hr (by first | decide | omega) rfl (pa_cons (pv 0) (pa_cons (pe_ix (r := rIxT K) ix_tup (pv 1) pe_int (fun _ _ => rfl)) pa_nil))))))))), ?_⟩
    refine zstart [some (.str (S L)), some (x)] rfl ?_; try dsimp only [zK, zK2]
    walk_at "zz"
    refine i_isi r (by decide) ?_
    cases ht : isTy d "tuple" with
    | false =>
      have hf : isSwapD L d = false := by cases d <;> first | rfl | (simp [isTy, tyN] at ht)
      rw [hf] at k
      walk_at "zz"
      exact k _ (Same.refl _)
    | true =>
      obtain ⟨ds, rfl⟩ : ∃ ds, d = .tuple ds := by cases d <;> first | exact ⟨_, rfl⟩ | (simp [isTy, tyN] at ht)
      obtain ⟨sm1, sm2⟩ := sm ds rfl
      obtain ⟨p, xs, rfl, ep, _, rx⟩ := Rp.tupS r
      have hxl : xs.length = ds.length := rx.length
      walk_at "zz"
      refine i_lenT (SqT.of ep) ?_
      rw [hxl]
      walk_at "zz"
      refine brn (fun hl => ?_) fun hl => ?_
      · have hf : isSwapD L (.tuple ds) = false := by
          cases q : isSwapD L (.tuple ds) with
          | false => rfl
          | true => have := swapD_len q; omega
        rw [hf] at k
        walk_at "zz"
        exact k _ (Same.refl _)
      · have hl : ds.length = 4 := by omega
        obtain ⟨u, ds, rfl⟩ := List.exists_cons_of_length_pos (show 0 < ds.length by omega)
        obtain ⟨x1, ds, rfl⟩ := List.exists_cons_of_length_pos (show 0 < ds.length by simp only [List.length_cons] at hl; omega)
        obtain ⟨y1, ds, rfl⟩ := List.exists_cons_of_length_pos (show 0 < ds.length by simp only [List.length_cons] at hl; omega)
        obtain ⟨v, ds, rfl⟩ := List.exists_cons_of_length_pos (show 0 < ds.length by simp only [List.length_cons] at hl; omega)
        obtain rfl : ds = [] := List.eq_nil_of_length_eq_zero (by simp only [List.length_cons] at hl; omega)
        obtain ⟨vu, ws, rfl, ru, rx⟩ := RpAll.consS rx
        obtain ⟨vx, ws, rfl, rxx, rx⟩ := RpAll.consS rx
        obtain ⟨vy, ws, rfl, ry, rx⟩ := RpAll.consS rx
        obtain ⟨vv, ws, rfl, rv, rx⟩ := RpAll.consS rx
        obtain rfl := RpAll.nilS rx
        have hdef : isSwapD L (.tuple [u, x1, y1, v]) = (isLetter L x1 && isLetter L y1 && isWord L u && isWord L v) := rfl
        rw [hdef] at k
        walk_at "zz"
        refine ⟨L, vx, x1, rfl, rxx, (sm2 x1 (by simp)).1, fun H1 s1 => ?_⟩
        walk_at "zz"
        have ep1 := s1 _ _ ep
        cases h1 : isLetter L x1 with
        | false =>
          rw [h1] at k
          walk_at "zz"
          exact k _ s1
        | true =>
          walk_at "zz"
          refine ⟨L, vy, y1, rfl, ry.same s1, (sm2 y1 (by simp)).1, fun H2 s2 => ?_⟩
          have ep2 := s2 _ _ ep1
          have s12 := s1.trans s2
          walk_at "zz"
          cases h2 : isLetter L y1 with
          | false =>
            rw [h1, h2] at k
            walk_at "zz"
            exact k _ s12
          | true =>
            walk_at "zz"
            refine ⟨L, vu, u, rfl, ru.same s12, (sm2 u (by simp)).1, fun H3 s3 => ?_⟩
            have ep3 := s3 _ _ ep2
            have s13 := s12.trans s3
            walk_at "zz"
            cases h3 : isWord L u with
            | false =>
              rw [h1, h2, h3] at k
              walk_at "zz"
              exact k _ s13
            | true =>
              walk_at "zz"
              refine ⟨L, vv, v, rfl, rv.same s13, (sm2 v (by simp)).1, fun H4 s4 => ?_⟩
              rw [h1, h2, h3] at k
              exact k _ (s13.trans s4)
theorem c_swap_fault {C C2 : Addr} (d : DF K mg "swap_fault" s_swap_fault) (B : Bi mg) (c_Machine_letters : Met P w K mg base 1 C "letters" (spLettersOf K C) []) (c__is_swap : Cal P w K mg base 3 "_is_swap" spIsSwap []) (c_says : CalX P w K mg base 2 "says" (spSaysB K C C2)) : Cal P w K mg base 4 "swap_fault" (spSwapF K C) [] := by
  refine d.cal (N := n_swap_fault) sc_swap_fault (fun _ _ _ _ _ _ us hl => match us, hl with | [_, _], _ => rfl) (fun vs H Q E h => ?_) (fun f cdv A outer s H vs Q E hr h => ?_)
  · obtain ⟨m, L, t, a, x, d, rfl, _⟩ := h
    rfl
  · obtain ⟨m, L, t, a, x, d, rfl, im, W0, r, sm, k⟩ := h
    refine ⟨_, (pss_cons (ps_if (pt_not (pt_val (pe_c c__is_swap hr (by first | decide | omega) rfl (pa_cons (pe_mt0 c_Machine_letters hr (by first | decide | omega) (pv 0)) (pa_cons (pv 1) pa_nil))))) (pss_one (ps_ret (pe_tup (pa_cons pe_str pa_nil)))) pss_nil)
  (pss_cons (ps_asg (pv 1) (pg_tup rfl (pgs_cons (pg_name (i := 2) sc_swap_fault.nd rfl (by first | exact Or.inl rfl | exact Or.inr rfl)) (pgs_cons (pg_name (i := 3) sc_swap_fault.nd rfl (by first | exact Or.inl rfl | exact Or.inr rfl)) (pgs_cons (pg_name (i := 4) sc_swap_fault.nd rfl (by first | exact Or.inl rfl | exact Or.inr rfl)) (pgs_cons (pg_name (i := 5) sc_swap_fault.nd rfl (by first | exact Or.inl rfl | exact Or.inr rfl)) pgs_nil))))))
  (pss_cons (ps_if (pt_not (pt_val (pe_cX c_says hr (by first | decide | omega) rfl takes0 (pa_cons (pv 0) (pa_cons (pe_op z_adds (pe_op z_adds (pe_op z_adds (pv 2) (pv 3)) (pv 4)) (pv 5)) pa_nil))))) (pss_one (ps_ret (pe_tup (pa_cons pe_str pa_nil)))) pss_nil)
  (pss_cons (ps_if (pt_val (pe_cX c_says hr (by first | decide | omega) rfl takes0 (pa_cons (pv 0) (pa_cons (pe_op z_adds (pe_op z_adds (pe_op z_adds (pv 2) (pv 4)) (pv 3)) (pv 5)) pa_nil)))) (pss_one (ps_ret (pe_tup (pa_cons pe_str pa_nil)))) pss_nil)
  (pss_one (ps_ret pe_non)))))), ?_⟩
    refine zstart [some (.ref m), some (x), none, none, none, none] rfl ?_; try dsimp only [zK, zK2]
    obtain ⟨dx, vt, va, em, _, _⟩ := im.ex
    walk_at "zz"
    refine i_meth ?_
    walk_at "zz"
    refine ⟨m, dx, _, rfl, em, rfl, m, L, t, a, rfl, im, ?_⟩
    walk_at "zz"
    refine ⟨L, x, d, rfl, r, sm, fun H1 s1 => ?_⟩
    walk_at "zz"
    cases hsw : isSwapD L d with
    | false =>
      rw [fault_form hsw] at k
      walk_at "zz"
      refine ⟨by show 1 ≤ sizeLine; decide, fun p hp => ?_⟩
      exact k _ _ (s1.newz hp) (.tup upd_same id (.cons (.str _) .nil))
    | true =>
      obtain ⟨u, v, x1, y1, hu, hv, hx, hy, rfl⟩ := swap_str hsw
      rw [fault_swap hsw] at k
      walk_at "zz"
      obtain ⟨sm1, sm2⟩ := sm _ rfl
      have hul : u.length ≤ 22500 := by have := (sm2 (.str (S u)) (by simp)).2 _ rfl; rwa [codes_S] at this
      have hvl : v.length ≤ 22500 := by have := (sm2 (.str (S v)) (by simp)).2 _ rfl; rwa [codes_S] at this
      obtain ⟨p, xs, rfl, ep, _, rx⟩ := Rp.tupS r
      obtain ⟨vu, ws, rfl, ru, rx⟩ := RpAll.consS rx
      obtain ⟨vx, ws, rfl, rxx, rx⟩ := RpAll.consS rx
      obtain ⟨vy, ws, rfl, ry, rx⟩ := RpAll.consS rx
      obtain ⟨vv, ws, rfl, rv, rx⟩ := RpAll.consS rx
      obtain rfl := RpAll.nilS rx
      obtain rfl := Rp.strS ru
      obtain rfl := Rp.strS rxx
      obtain rfl := Rp.strS ry
      obtain rfl := Rp.strS rv
      have ep1 := s1 _ _ ep
      have im1 := im.same s1
      have hl : ∀ z, lang t a 0 (ix L z) = decide (led L t 0 z ∈ a) := fun z => by unfold lang; rw [led_rn]
      have hw : ∀ x ∈ L, ∀ y ∈ L, ∀ c ∈ u ++ [x] ++ [y] ++ v, c ∈ L := fun x hx y hy c hc => by
        simp only [List.mem_append, List.mem_singleton] at hc
        rcases hc with ((h | h) | h) | h
        · exact hu c h
        · rw [h]; exact hx
        · rw [h]; exact hy
        · exact hv c h
      have hwl : ∀ x y : Nat, (u ++ [x] ++ [y] ++ v).length ≤ 90000 := fun x y => by simp only [List.length_append, List.length_singleton]; omega
      refine i_gtup (SqT.of ep1) rfl ?_
      walk_at "zz"
      refine i_callS ?_
      walk_at "zz"
      refine ⟨m, L, t, a, _, rfl, im1, W0, hw _ hx _ hy, hwl _ _, fun H2 s2 => ?_⟩
      rw [hl]
      have s12 := s1.trans s2
      walk_at "zz"
      refine brn (fun hno => ?_) fun hyes => ?_
      · rw [if_neg hno] at k
        walk_at "zz"
        refine ⟨by show 1 ≤ sizeLine; decide, fun p hp => ?_⟩
        exact k _ _ (s12.newz hp) (.tup upd_same id (.cons (.str _) .nil))
      · rw [if_pos hyes] at k
        walk_at "zz"
        refine i_callS ?_
        walk_at "zz"
        refine ⟨m, L, t, a, _, rfl, im1.same s2, W0, hw _ hy _ hx, hwl _ _, fun H3 s3 => ?_⟩
        rw [hl]
        have s13 := s12.trans s3
        walk_at "zz"
        refine brd (fun hyes => ?_) fun hno => ?_
        · rw [if_pos hyes] at k
          walk_at "zz"
          refine ⟨by show 1 ≤ sizeLine; decide, fun p hp => ?_⟩
          exact k _ _ (s13.newz hp) (.tup upd_same id (.cons (.str _) .nil))
        · rw [if_neg hno] at k
          walk_at "zz"
          exact k _ _ s13 .non
end
end Y

namespace Y
open PySem PySem.Spec PyProof.Rows L2 Z
open C8 (tCut pss_cut Cal pe_c Met pe_mt pe_mt0 Mak pe_mk pe_gc)





theorem i_joinS2 {K : PySem.W.Frag} {H : Hp} {Q : VK} {p : Addr} {sp : List Nat} {ps : List (List Nat)} (h : H p = some (.lst (ps.map fun x => V.str (S x)))) (hl : ∀ x ∈ ps, x.length ≤ 3000) (hn : ps.length ≤ 1000) (hs : sp.length ≤ 3) (q : Q (.str (S (TL.joinL sp ps))) H) : zJoin0 K (.str (S sp)) [.ref p] H Q := by
  refine ⟨S sp, p, ps.map S, rfl, rfl, .inl (SqL.of (by rw [h, List.map_map]; rfl)), ?_, by rw [join_SS]; exact q⟩
  have key : ∀ l : List (List Nat), (∀ x ∈ l, x.length ≤ 3000) → ((l.map S).map (·.length)).sum ≤ l.length * 3000 := fun l => by
    induction l with
    | nil => intro _; exact Nat.le_refl _
    | cons x l ih =>
      intro h
      have h1 := h x (by simp)
      have h2 := ih fun y hy => h y (List.mem_cons_of_mem _ hy)
      rw [List.map_cons, List.map_cons, List.sum_cons, S_len, List.length_cons, Nat.succ_mul]
      omega
  have h1 := key ps hl
  have h2 : (ps.map S).length * (S sp).length ≤ 1000 * 3 := by rw [List.length_map, S_len]; exact Nat.mul_le_mul hn hs
  have h3 : ps.length * 3000 ≤ 1000 * 3000 := Nat.mul_le_mul hn (Nat.le_refl _)
  omega
theorem lstr_snoc2 (ps : List (List Nat)) (x : List Nat) : (ps.map fun x => V.str (S x)) ++ [V.str (S x)] = (ps ++ [x]).map fun x => V.str (S x) := by rw [List.map_append]; rfl
theorem line_flat : ∀ (row h : List Nat), lineOf h row = h ++ (row.map fun y => 32 :: nm y).flatten
  | [], h => by show h = h ++ []; rw [List.append_nil]
  | y :: row, h => by
    show h ++ ([32] ++ TL.joinL [32] (nm y :: row.map nm)) = _
    have := line_flat row (nm y)
    unfold lineOf at this
    rw [this]
    simp
theorem flat_len {f : Nat → List Nat} {B : Nat} : ∀ {row : List Nat}, (∀ y ∈ row, (f y).length ≤ B) → (row.map f).flatten.length ≤ row.length * B
  | [], _ => by simp
  | y :: row, h => by
    have h1 := h y (by simp)
    have ih := flat_len (f := f) (B := B) (row := row) fun z hz => h z (List.mem_cons_of_mem _ hz)
    rw [List.map_cons, List.flatten_cons, List.length_append, List.length_cons, Nat.succ_mul]
    omega
theorem rows_gd2 {h : Addr} {H H' : Hp} {ps : List Addr} {A : List (List Nat)} (g : Gd h H H') (ok : HandOk H h) (r : RowsAt H ps A) : RowsAt H' ps A := r.imp fun p xs e => g.kp' e fun z => by
  obtain ⟨_, _, _, _, _, _, e', _⟩ := ok.ex
  subst z; rw [e] at e'; cases e'
def spStatesT : Sp := fun vs H Q _ => ∃ (N : Addr → Prop) (v : V) (h row : List Nat), vs = [.str (S h), v] ∧ Rp N H v (rowD row) ∧ h.length ≤ 20 ∧ (∀ x ∈ row, x < 1000) ∧ row.length ≤ 100 ∧ ∀ H', Same H H' → Q (.str (S (lineOf h row))) H'
def spMText (K : PySem.W.Frag) (C : Addr) : Sp := fun vs H Q _ => ∃ (m : Addr) (L : List Nat) (t : List (List Nat)) (a : List Nat), vs = [.ref m] ∧ IsM K H C m L t a ∧ TxtOk L t a ∧ ∀ H', Same H H' → Q (.str (S (textOf L t a))) H'
def spWritten : Sp := fun vs H Q _ => ∃ (N : Addr → Prop) (v va : V) (L : List Nat) (t : List (List Nat)) (a : List Nat), vs = [.str (S L), v, va] ∧ Rp N H v (tabD t) ∧ Rp N H va (rowD a) ∧ TxtOk L t a ∧ ∀ H', Same H H' → Q (.str (S (textOf L t a))) H'
def spPartsOf (K : PySem.W.Frag) (C : Addr) : Sp := fun vs H Q _ => ∃ (m : Addr) (L : List Nat) (t : List (List Nat)) (a : List Nat), vs = [.ref m] ∧ IsM K H C m L t a ∧ ∀ (v : V) H', Same H H' → Rp N0 H' v (trioD L t a) → Q v H'
def spAnyT : Sp := fun vs H Q _ => ∃ (h : Addr) (m n : Nat), vs = [.ref h, .int (m : Int), .int (n : Int)] ∧ HandOk H h ∧ 1 ≤ m ∧ m ≤ 4 ∧ 1 ≤ n ∧ n ≤ 100 ∧ ∀ (v : V) (t : List (List Nat)) H', Tab t m → t.length = n → Rp (· = h) H' v (tabD t) → Gd h H H' → Q v H'
section
variable {P : Program} {w : World} {K : PySem.W.Frag} {mg : Str → Option Value} {base : Heap}
end
end Y

namespace Y
open PySem PySem.Spec PyProof.Rows L2 Z
open C8 (tCut pss_cut Cal pe_c Met pe_mt pe_mt0 Mak pe_mk)

abbrev s__law_says : Stmt := topS 55
abbrev n__law_says : List Str := ["_law_letters_here", "_law_table", "_law_accepts", "_law_word", "_law_state", "_law_letter"]
theorem sc__law_says : FnScope n__law_says ["_law_letters_here", "_law_table", "_law_accepts", "_law_word"] (defScope s__law_says) := ⟨rfl, rfl, rfl, by decide +kernel, rfl, by decide +kernel, by decide +kernel⟩

theorem find1_ofW {L : List Nat} {c : Nat} (h : c ∈ L) : find1 c L = ((L.idxOf c : Nat) : Int) := by
  have e := idx_of h
  unfold find1
  cases z : idx c L 0 with
  | nil => rw [z] at e; cases e
  | cons i r => rw [z] at e; cases e; rfl
def spSomeLetters : Sp := fun vs H Q _ => ∃ (h : Addr), vs = [.ref h] ∧ HandOk H h ∧ ∀ (l : List Nat) H', Ltrs l → Gd h H H' → Q (.str (S l)) H'
def spLawSaysW : Sp := fun vs H Q _ => ∃ (N : Addr → Prop) (L : List Nat) (vt va : V) (t : List (List Nat)) (a u : List Nat), vs = [.str (S L), vt, va, .str (S u)] ∧ Rp N H vt (tabD t) ∧ Rp N H va (rowD a) ∧ Wide L t a ∧ (∀ c ∈ u, c ∈ L) ∧ ∀ H', Same H H' → Q (.bl (decide (led L t 0 u ∈ a))) H'
section
variable {P : Program} {w : World} {K : PySem.W.Frag} {mg : Str → Option Value} {base : Heap}
theorem c__law_saysW (d : DF K mg "_law_says" s__law_says) (B : Bi mg) : Cal P w K mg base 1 "_law_says" spLawSaysW [] := by
  refine d.cal (N := n__law_says) sc__law_says (fun _ _ _ _ _ _ us hl => match us, hl with | [_, _, _, _], _ => rfl) (fun vs H Q E h => ?_) (fun f cdv A outer s H vs Q E hr h => ?_)
  · obtain ⟨N, L, vt, va, t, a, u, rfl, _⟩ := h
    rfl
  · obtain ⟨N, L, vt, va, t, a, u, rfl, rt, ra0, pt, hu, k⟩ := h
    refine ⟨_, (pss_cons (ps_set (i := 4) sc__law_says.nd rfl (by first | exact Or.inl rfl | exact Or.inr rfl) pe_int)
  (pss_cons (ps_for PassesOwn.never rfl (pi_str (pv 3)) (pg_name (i := 5) sc__law_says.nd rfl (by first | exact Or.inl rfl | exact Or.inr rfl)) (pss_one (ps_set (i := 4) sc__law_says.nd rfl (by first | exact Or.inl rfl | exact Or.inr rfl) (pe_ix (r := rIxT K) ix_tup (pe_ix (r := rIxT K) ix_tup (pv 1) (pv 4) (fun _ _ => rfl)) (pe_bmZ (K := K) rfl PySem.F.plainAttrs_str PySem.F.slot_str_find PySem.F.type_str_find zm_find (pv 0) (pa_cons (pv 5) pa_nil)) (fun _ _ => rfl)))))
  (pss_one (ps_ret (pe_cmpR (r := rIn K false) op_in_seq (pv 4) (pv 2) (by rfl)))))), ?_⟩
    refine zstart [some (.str (S L)), some (vt), some (va), some (.str (S u)), none, none] rfl ?_; try dsimp only [zK, zK2]
    have hL4 := pt.wide
    have hrow := pt.tab.row
    have hs := pt.tab.pos
    obtain ⟨p, xs, rfl, ep, _, ra⟩ := Rp.tupS rt
    obtain ⟨pa, rfl, epa, _⟩ := rowD_rp ra0
    walk_at "zz"
    refine l_str (fun i σ H1 => Same H H1 ∧ ∃ v4 : Option V, σ = [some (.str (S L)), some (.ref p), some (.ref pa), some (.str (S u)), some (.int (led L t 0 (u.take i) : Int)), v4]) ⟨Same.refl _, none, rfl⟩ ?_ ?_
    · rintro i c σ H1 hc ⟨sm, v4, rfl⟩
      have hcL := hu c (List.mem_of_getElem? hc)
      have hlt := led_lt hrow (u.take i) 0 hs fun d hd => hu d (List.mem_of_mem_take hd)
      have e2 : led L t 0 (u.take (i + 1)) = (t.getD (led L t 0 (u.take i)) []).getD (L.idxOf c) 0 := by
        unfold led
        rw [List.take_add_one, hc]
        show List.foldl _ _ (u.take i ++ [c]) = _
        rw [List.foldl_append]; rfl
      generalize led L t 0 (u.take i) = q at hlt e2 ⊢
      have e1 : t.getD q [] = t[q] := by rw [List.getD_eq_getElem?_getD, List.getElem?_eq_getElem hlt]; rfl
      obtain ⟨h1, h2⟩ := hrow _ (List.getElem_mem hlt)
      have hi : L.idxOf c < t[q].length := by rw [h1]; exact List.idxOf_lt_length_of_mem hcL
      obtain ⟨x, hx, rx⟩ := (ra.mono (Kp.of_same sm)).get (i := q) (d := rowD t[q]) (by rw [List.getElem?_map, List.getElem?_eq_getElem hlt]; rfl)
      obtain ⟨pr, rfl, epr, _⟩ := rowD_rp rx
      walk_at "zz"
      refine i_ixT (SqT.of (sm _ _ ep)) (atI_nat hx) ?_
      walk_at "zz"
      rw [show find1 c L = ((L.idxOf c : Nat) : Int) from find1_ofW hcL]
      refine i_ixT (SqT.of epr) (atI_nat (v := .int ((t[q].getD (L.idxOf c) 0 : Nat) : Int)) (by
        unfold ivs
        rw [List.getElem?_map, List.getD_eq_getElem?_getD, List.getElem?_eq_getElem hi]; rfl)) ?_
      walk_at "zz"
      exact ⟨sm, _, by rw [e2, e1]⟩
    · rintro σ H1 ⟨sm, v4, rfl⟩
      rw [List.take_length]
      walk_at "zz"
      refine ⟨pa, _, rfl, .inr (SqT.of (sm _ _ epa)), rfl, by unfold ivs; rw [List.all_map]; exact List.all_eq_true.mpr fun _ _ => rfl, ?_⟩
      rw [inI, if_neg (by decide)]
      exact k _ sm
end
end Y

namespace Y
open PySem PySem.Spec PyProof.Rows L2 Z
open C8 (tCut pss_cut Cal pe_c Met pe_mt pe_mt0 Mak pe_mk)
theorem i_make2 {C : Addr} {sp : Sp} {dvs : List V} {E : XK} {t : TA} {σ : L2.St} {H : Hp} {Q : VK} (q : t σ H fun vs H1 => ∀ x dx, H1 x = none → H1 dx = none → dx ≠ x →
  sp (.ref x :: (vs ++ dvs)) (upd (upd H1 dx (.own x)) x (.ins C dx [])) (fun v H2 => v = .non ∧ Q (.ref x) H2) E) : tMake C sp dvs E t σ H Q := q
theorem made_ok2 {K : PySem.W.Frag} {C h m dx : Addr} {H H4 H5 : Hp} {vt va : V} {L : List Nat} {tab : List (List Nat)} {acc : List Nat} (hh : HandOk H h) (hm : H m = none) (hdx : H dx = none) (ndx : dx ≠ m) (rt : Rp (· = h) H vt (tabD tab)) (ra : Rp (· = h) H va (rowD acc))
    (s4 : Same (upd (upd H dx (.own m)) m (.ins C dx [])) H4) (e5 : H5 = upd H4 m (.ins C dx [("_letters", .str (S L)), ("_table", vt), ("_accepts", va)])) :
    Gd h H H5 ∧ ¬ m = h ∧ H5 m = some (.ins C dx [("_letters", .str (S L)), ("_table", vt), ("_accepts", va)]) ∧ ∀ {H'}, Gd h H5 H' → IsM K H' C m L tab acc := by
  have nmh := hh.ne hm
  have gA := ((Gd.refl hh).new (o := .own m) hdx).new (o := .ins C dx []) (by rw [upd_ne (fun q => ndx q.symm)]; exact hm)
  have gB : Gd h H H5 := by rw [e5]; exact (gd_same gA s4).mutz hm
  have em5 : H5 m = some (.ins C dx [("_letters", .str (S L)), ("_table", vt), ("_accepts", va)]) := by rw [e5]; exact upd_same
  have rt5 := rt.mono gB.toKp
  have ra5 := ra.mono gB.toKp
  exact ⟨gB, nmh, em5, fun g => ⟨dx, vt, va, g.kp _ _ em5 nmh, (rt5.mono g.toKp).free, (ra5.mono g.toKp).free⟩⟩
end Y

namespace Y
open PySem PySem.Spec PyProof.Rows L2 Z
open C8 (tCut pss_cut Cal pe_c Met pe_mt pe_mt0 Mak pe_mk pe_gc)
abbrev s__law_swap_right : Stmt := topS 57
abbrev n__law_swap_right : List Str := ["_law_letters_here", "_law_table", "_law_accepts", "_law_rows_here", "_law_yes", "_law_machine", "_law_due", "_law_found", "_law_told", "_law_u", "_law_a", "_law_b", "_law_v"]
theorem sc__law_swap_right : FnScope n__law_swap_right ["_law_letters_here", "_law_table", "_law_accepts"] (defScope s__law_swap_right) := ⟨rfl, rfl, rfl, by decide +kernel, rfl, by decide +kernel, by decide +kernel⟩

/-- what swap told: None, or a swap -/
def Fd29 (H : Hp) (L : List Nat) (t : List (List Nat)) (a : List Nat) (vf : V) : Prop := (vf = .non ∧ ∀ o, Order t 0 o → strictL L (canT t a o) = []) ∨ ∃ (pf : Addr) (u v : List Nat) (x y : Nat), vf = .ref pf ∧ H pf = some (.tup [.str (S u), .str (S [x]), .str (S [y]), .str (S v)]) ∧ SwOk L t a u v x y
theorem Fd29.same {H H' : Hp} {L : List Nat} {t : List (List Nat)} {a : List Nat} {vf : V} (q : Fd29 H L t a vf) (s : Same H H') : Fd29 H' L t a vf := by
  rcases q with q | ⟨pf, u, v, x, y, e, e2, w⟩
  · exact .inl q
  · exact .inr ⟨pf, u, v, x, y, e, s _ _ e2, w⟩
def spSwapV (K : PySem.W.Frag) (C : Addr) : Sp := fun vs H Q _ => ∃ (m : Addr) (L : List Nat) (t : List (List Nat)) (a : List Nat), vs = [.ref m] ∧ IsM K H C m L t a ∧ Wide L t a ∧ L.Nodup ∧ 1 ≤ L.length ∧ ∀ vf H', Same H H' → Fd29 H' L t a vf → Q vf H'
theorem swapV {P : Program} {w : World} {K : PySem.W.Frag} {mg : Str → Option Value} {base : Heap} {n : Nat} {nm : Str} {C : Addr} (c : Cal P w K mg base n nm (spSwap K C) []) : Cal P w K mg base n nm (spSwapV K C) [] :=
  cal_imp c fun vs H Q E ⟨m, L, t, a, e, im, W, nd, hL, k⟩ => ⟨m, L, t, a, e, im, W, nd, hL, fun o H' s hO hs => k _ _ s (.inl ⟨rfl, fun o' hO' => by rw [← Order.one hO hO']; exact hs⟩), fun p u v x y H' s sw ep => k _ _ s (.inr ⟨p, u, v, x, y, rfl, ep, sw⟩)⟩
/-- a machine made where no hand is -/
theorem made_okS {K : PySem.W.Frag} {N : Addr → Prop} {C m dx : Addr} {H H4 H5 : Hp} {vt va : V} {L : List Nat} {tab : List (List Nat)} {acc : List Nat} (hm : H m = none) (hdx : H dx = none) (ndx : dx ≠ m) (rt : Rp N H vt (tabD tab)) (ra : Rp N H va (rowD acc))
    (s4 : Same (upd (upd H dx (.own m)) m (.ins C dx [])) H4) (e5 : H5 = upd H4 m (.ins C dx [("_letters", .str (S L)), ("_table", vt), ("_accepts", va)])) : Same H H5 ∧ IsM K H5 C m L tab acc := by
  have s : Same H H5 := fun b o e => by
    have nb : b ≠ m := ne_of_none e hm
    have nd : b ≠ dx := ne_of_none e hdx
    rw [e5, upd_ne nb]
    refine s4 _ _ ?_
    rw [upd_ne nb, upd_ne nd]; exact e
  exact ⟨s, dx, vt, va, by rw [e5]; exact upd_same, (rt.same s).free, (ra.same s).free⟩
def spSwapR : Sp := fun vs H Q _ => ∃ (N : Addr → Prop) (vt va : V) (L : List Nat) (t : List (List Nat)) (a : List Nat), vs = [.str (S L), vt, va] ∧ Rp N H vt (tabD t) ∧ Rp N H va (rowD a) ∧ Parts L t a ∧ ∀ H', Same H H' → Q (.bl true) H'
theorem wordD_shaped {u x y v : List Nat} (h : ∀ z ∈ [u, x, y, v], ∀ c ∈ z, c < 1000) : SeqAt.shaped (.tuple [.str (S u), .str (S x), .str (S y), .str (S v)]) = true := by
  have ok : ∀ z ∈ [u, x, y, v], PyData.strOk (S z) = true := fun z hz => by
    unfold PyData.strOk
    rw [Array.all_eq_true']
    intro c hx
    have hx : c ∈ z := by simpa using hx
    have := h z hz c hx
    exact decide_eq_true (by omega)
  show ((PyData.strOk (S u) && (PyData.strOk (S x) && (PyData.strOk (S y) && (PyData.strOk (S v) && true)))) && decide _) = true
  rw [ok u (by simp), ok x (by simp), ok y (by simp), ok v (by simp)]
  have h2 : (PyData.tuple [.str (S u), .str (S x), .str (S y), .str (S v)]).depth = 1 := rfl
  rw [h2]
  decide +kernel
section
variable {P : Program} {w : World} {K : PySem.W.Frag} {mg : Str → Option Value} {base : Heap}
theorem c__law_swap_right {C : Addr} (d : DF K mg "_law_swap_right" s__law_swap_right) (B : Bi mg) (c__law_least : Cal P w K mg base 2 "_law_least" spLeastK []) (m_Machine : Mak P w K mg base 5 "Machine" C (spInit C) []) (c__law_commutes : Cal P w K mg base 2 "_law_commutes" spCommutes []) (c_swap : Cal P w K mg base 11 "swap" (spSwapV K C) []) (c_fixed : Cal P w K mg base 10 "fixed" (spFixed K C) []) (c__law_is_word : Cal P w K mg base 1 "_law_is_word" spIsWordK []) (c__law_says : Cal P w K mg base 1 "_law_says" spLawSaysW []) (c_swap_fault : Cal P w K mg base 4 "swap_fault" (spSwapF K C) []) : Cal P w K mg base 12 "_law_swap_right" spSwapR [] := by
  refine d.cal (N := n__law_swap_right) sc__law_swap_right (fun _ _ _ _ _ _ us hl => match us, hl with | [_, _, _], _ => rfl) (fun vs H Q E h => ?_) (fun f cdv A outer s H vs Q E hr h => ?_)
  · obtain ⟨N, vt, va, L, t, a, rfl, _⟩ := h
    rfl
  · obtain ⟨N, vt, va, L, t, a, rfl, rt, ra, PT, k⟩ := h
    refine ⟨_, (pss_cons (ps_asg (pe_c c__law_least hr (by first | decide | omega) rfl (pa_cons (pv 1) (pa_cons (pv 2) pa_nil))) (pg_tup rfl (pgs_cons (pg_name (i := 3) sc__law_swap_right.nd rfl (by first | exact Or.inl rfl | exact Or.inr rfl)) (pgs_cons (pg_name (i := 4) sc__law_swap_right.nd rfl (by first | exact Or.inl rfl | exact Or.inr rfl)) pgs_nil))))
  (pss_cons (ps_set (i := 5) sc__law_swap_right.nd rfl (by first | exact Or.inl rfl | exact Or.inr rfl) (pe_mk m_Machine hr (by first | decide | omega) rfl (pa_cons (pv 0) (pa_cons (pv 1) (pa_cons (pv 2) pa_nil)))))
  (pss_cons (ps_set (i := 6) sc__law_swap_right.nd rfl (by first | exact Or.inl rfl | exact Or.inr rfl) (pe_c c__law_commutes hr (by first | decide | omega) rfl (pa_cons (pv 0) (pa_cons (pv 3) pa_nil))))
  (pss_cons (ps_set (i := 7) sc__law_swap_right.nd rfl (by first | exact Or.inl rfl | exact Or.inr rfl) (pe_c c_swap hr (by first | decide | omega) rfl (pa_cons (pv 5) pa_nil)))
  (pss_cons (ps_set (i := 8) sc__law_swap_right.nd rfl (by first | exact Or.inl rfl | exact Or.inr rfl) (pe_c c_fixed hr (by first | decide | omega) rfl (pa_cons (pv 5) pa_nil)))
  (pss_cons (ps_if (PW.pt (pw_or (pt_not (pt_val (pe_callB (r := zIsi K) zc_isi (by rfl) B.isinstance (by decide +kernel) (pa_cons (pv 8) (pa_cons (pe_bltn (by rfl) B.bool (by decide +kernel) (rel_ty "bool")) pa_nil))))) (pw_or (pt_cmpR op_ne (pv 8) (pv 6) (nomark _)) (pw_or (pt_cmpR op_ne (pe_cmpR op_isN (pv 7) pe_non (nomark _)) (pv 6) (nomark _)) (pw_or1 (pt_cmpR (r := rNeD K) (op_neD hr.units) (pe_c c_swap hr (by first | decide | omega) rfl (pa_cons (pv 5) pa_nil)) (pv 7) (nomark _))))))) (pss_one (ps_ret pe_bl)) pss_nil)
  (pss_cons (ps_if (pt_val (pv 6)) (pss_one (ps_ret pe_bl)) pss_nil)
  (pss_cons (ps_if (PW.pt (pw_or (pt_not (pt_val (pe_callB (r := zIsi K) zc_isi (by rfl) B.isinstance (by decide +kernel) (pa_cons (pv 7) (pa_cons (pe_bltn (by rfl) B.tuple (by decide +kernel) (rel_ty "tuple")) pa_nil))))) (pw_or1 (pt_cmpR op_ne (pe_callB (r := zLen K) zc_len (by rfl) B.len (by decide +kernel) (pa_cons (pv 7) pa_nil)) pe_int (nomark _))))) (pss_one (ps_ret pe_bl)) pss_nil)
  (pss_cons (ps_asg (pv 7) (pg_tup rfl (pgs_cons (pg_name (i := 9) sc__law_swap_right.nd rfl (by first | exact Or.inl rfl | exact Or.inr rfl)) (pgs_cons (pg_name (i := 10) sc__law_swap_right.nd rfl (by first | exact Or.inl rfl | exact Or.inr rfl)) (pgs_cons (pg_name (i := 11) sc__law_swap_right.nd rfl (by first | exact Or.inl rfl | exact Or.inr rfl)) (pgs_cons (pg_name (i := 12) sc__law_swap_right.nd rfl (by first | exact Or.inl rfl | exact Or.inr rfl)) pgs_nil))))))
  (pss_cons (ps_if (PW.pt (pw_or (pt_not (pt_val (pe_c c__law_is_word hr (by first | decide | omega) rfl (pa_cons (pv 0) (pa_cons (pv 9) (pa_cons (pe_callB (r := zLen K) zc_len (by rfl) B.len (by decide +kernel) (pa_cons (pv 3) pa_nil)) pa_nil)))))) (pw_or1 (pt_not (pt_val (pe_c c__law_is_word hr (by first | decide | omega) rfl (pa_cons (pv 0) (pa_cons (pv 12) (pa_cons (pe_callB (r := zLen K) zc_len (by rfl) B.len (by decide +kernel) (pa_cons (pv 3) pa_nil)) pa_nil))))))))) (pss_one (ps_ret pe_bl)) pss_nil)
  (pss_cons (ps_if (PW.pt (pw_or (pt_not (pt_val (pe_c c__law_is_word hr (by first | decide | omega) rfl (pa_cons (pv 0) (pa_cons (pv 10) (pa_cons pe_int pa_nil)))))) (pw_or (pt_not (pt_val (pe_c c__law_is_word hr (by first | decide | omega) rfl (pa_cons (pv 0) (pa_cons (pv 11) (pa_cons pe_int pa_nil)))))) (pw_or1 (pt_cmpR op_ne (pe_callB zc_lens (by rfl) B.len (by decide +kernel) (pa_cons (pe_op z_adds (pv 10) (pv 11)) pa_nil)) pe_int (nomark _)))))) (pss_one (ps_ret pe_bl)) pss_nil)
  (pss_cons (ps_if (PW.pt (pw_or (pt_not (pt_val (pe_c c__law_says hr (by first | decide | omega) rfl (pa_cons (pv 0) (pa_cons (pv 1) (pa_cons (pv 2) (pa_cons (pe_op z_adds (pe_op z_adds (pe_op z_adds (pv 9) (pv 10)) (pv 11)) (pv 12)) pa_nil))))))) (pw_or1 (pt_val (pe_c c__law_says hr (by first | decide | omega) rfl (pa_cons (pv 0) (pa_cons (pv 1) (pa_cons (pv 2) (pa_cons (pe_op z_adds (pe_op z_adds (pe_op z_adds (pv 9) (pv 11)) (pv 10)) (pv 12)) pa_nil))))))))) (pss_one (ps_ret pe_bl)) pss_nil)
  (pss_one (ps_ret (pe_cmpR op_isN (pe_c c_swap_fault hr (by first | decide | omega) rfl (pa_cons (pv 5) (pa_cons (pv 7) pa_nil))) pe_non (nomark _)))))))))))))))), ?_⟩
    refine zstart [some (.str (S L)), some (vt), some (va), none, none, none, none, none, none, none, none, none, none] rfl ?_; try dsimp only [zK, zK2]
    have W0 := PT.wideM
    have TB := W0.tab
    have nd : L.Nodup := PT.ltr.1.imp fun h => by omega
    have hL1 := PT.ltr.2.2.1
    have hL4 := PT.ltr.2.2.2
    have h6 := PT.hi
    have hal := PT.accLen
    have hLk : ∀ c ∈ L, c < 1000 := fun c hc => by have := PT.ltr.2.1 c hc; omega
    walk_at "zz"
    refine ⟨N, vt, va, t, L.length, a, rfl, rt, ra, TB, by omega, by omega, by omega, fun p q1 q2 ps o H1 hO ep eq1 hps eq2 s1 => ?_⟩
    refine i_gtup (SqT.of ep) rfl ?_
    walk_at "zz"
    have r1 : Rp N0 H1 (.ref q1) (tabD (canT t a o)) := .tup eq1 id hps.rp
    have rt1 := rt.same s1
    have ra1 := ra.same s1
    clear ep eq1 hps eq2
    refine i_make2 ?_
    walk_at "zz"
    refine fun m dx hm hdx ndx => ?_
    have sA : Same H1 (upd (upd H1 dx (.own m)) m (.ins C dx [])) := fun b oo e => by rw [upd_ne (ne_of_none e hm), upd_ne (ne_of_none e hdx)]; exact e
    refine ⟨m, dx, vt, va, L, t, a, rfl, upd_same, PT, (rt1.same sA).free, (ra1.same sA).free, fun H4 H5 s4 e5 => ⟨rfl, ?_⟩⟩
    obtain ⟨s5, im⟩ := made_okS (K := K) hm hdx ndx rt1 ra1 s4 e5
    have s05 := s1.trans s5
    have r1 := r1.same s5
    clear e5 s4 sA hm hdx ndx rt1 ra1 s1 s5
    have W2 := W0.can (a := a) hO
    obtain ⟨b, hb⟩ : ∃ b, b = decide (strictL L (canT t a o) = []) := ⟨_, rfl⟩
    walk_at "zz"
    refine ⟨N0, L, .ref q1, canT t a o, _, rfl, r1, W2, nd, fun H6 s6 => ?_⟩
    rw [← hb]
    walk_at "zz"
    refine ⟨m, L, t, a, rfl, im.same s6, W0, nd, hL1, fun vf H7 s7 fd => ?_⟩
    walk_at "zz"
    have s67 := s6.trans s7
    refine ⟨m, L, t, a, rfl, im.same s67, W0, nd, fun o' H8 s8 hO' => ?_⟩
    rw [← Order.one hO hO', ← hb]
    have s68 := s67.trans s8
    have fd := fd.same s8
    have im := im.same s68
    have r1 := r1.same s68
    have s08 := s05.trans s68
    clear s67 s68 s6 s7 s8 hO' s05
    walk_at "zz"
    refine i_isi (N := N0) (d := .bool b) (.bl _) (by decide) ?_
    rw [show isTy (PyData.bool b) "bool" = true from rfl]
    walk_at "zz"
    refine i_neBA ?_
    rw [decide_eq_true rfl]
    walk_at "zz"
    refine ⟨rfl, ?_⟩
    rcases fd with ⟨rfl, hnil⟩ | ⟨pf, u, v, x, y, rfl, epf, sw⟩
    · have hbt : b = true := by rw [hb]; exact decide_eq_true (hnil o hO)
      subst hbt
      rw [decide_eq_true rfl]
      walk_at "zz"
      refine i_neBA ?_
      rw [decide_eq_true rfl]
      walk_at "zz"
      refine ⟨m, L, t, a, rfl, im, W0, nd, hL1, fun vf2 H9 s9 fd2 => ?_⟩
      walk_at "zz"
      rcases fd2 with ⟨rfl, _⟩ | ⟨pf, u, v, x, y, rfl, epf, sw⟩
      · refine ⟨.none, .none, .non, .non, by decide +kernel, by decide +kernel, ?_⟩
        rw [show PyData.eqv .none .none = true from rfl]
        walk_at "zz"
        exact k _ (s08.trans s9)
      · obtain ⟨_, _, c, rest, e, _⟩ := sw.is o hO
        rw [hnil o hO] at e; cases e
    · have hbf : b = false := by
        obtain ⟨_, _, c, rest, e, _⟩ := sw.is o hO
        rw [hb, e]; rfl
      subst hbf
      rw [decide_eq_false (by intro z; cases z)]
      walk_at "zz"
      refine i_neBA ?_
      rw [decide_eq_true rfl]
      walk_at "zz"
      refine ⟨m, L, t, a, rfl, im, W0, nd, hL1, fun vf2 H9 s9 fd2 => ?_⟩
      walk_at "zz"
      rcases fd2 with ⟨_, hn2⟩ | ⟨pf2, u2, v2, x2, y2, rfl, epf2, sw2⟩
      · obtain ⟨_, _, c, rest, e, _⟩ := sw.is o hO
        rw [hn2 o hO] at e; cases e
      obtain ⟨rfl, rfl, rfl, rfl⟩ := SwOk.one hO sw2 sw
      have epf9 := s9 _ _ epf
      have r9 := r1.same s9
      have im9 := im.same s9
      have s09 := s08.trans s9
      have hsh := wordD_shaped (u := u2) (x := [x2]) (y := [y2]) (v := v2) fun z hz c hc => by
        simp only [List.mem_cons, List.not_mem_nil, or_false] at hz
        rcases hz with rfl | rfl | rfl | rfl
        · exact hLk c (sw.wu c hc)
        · rw [List.mem_singleton.mp hc]; exact hLk _ sw.hx
        · rw [List.mem_singleton.mp hc]; exact hLk _ sw.hy
        · exact hLk c (sw.wv c hc)
      have rp2 : ∀ {q : Addr}, H9 q = some (.tup [.str (S u2), .str (S [x2]), .str (S [y2]), .str (S v2)]) → Rp N0 H9 (.ref q) (.tuple [.str (S u2), .str (S [x2]), .str (S [y2]), .str (S v2)]) := fun e => .tup e id (.cons (.str _) (.cons (.str _) (.cons (.str _) (.cons (.str _) .nil))))
      refine ⟨_, _, (rp2 epf2).dp rfl, (rp2 epf9).dp rfl, hsh, hsh, ?_⟩
      rw [SeqAt.eqv_refl _ (SeqAt.canLay_of_shaped hsh)]
      clear epf2 sw2 im r1 s9 s08 epf
      obtain ⟨hul, hvl, _⟩ := sw.is o hO
      have hTl := can_le30 (a := a) TB hO
      walk_at "zz"
      refine i_isi (rp2 epf9) (by decide) ?_
      rw [show isTy (PyData.tuple [.str (S u2), .str (S [x2]), .str (S [y2]), .str (S v2)]) "tuple" = true from rfl]
      walk_at "zz"
      refine i_lenT (SqT.of epf9) ?_
      obtain ⟨q1', xsr, eq', eq19, _, rows9⟩ := Rp.tupS r9
      cases eq'
      have hxl : xsr.length = (canT t a o).length := by rw [rows9.length, List.length_map]
      have rp9 := rp2 epf9
      clear rp2 r9 rows9
      walk_at "zz"
      refine brn (fun z => absurd rfl z) fun _ => ?_
      walk_at "zz"
      refine i_lenT (SqT.of eq19) ?_
      rw [hxl]
      walk_at "zz"
      refine ⟨L, u2, (canT t a o).length, rfl, sw.wu, hul, by omega, fun H10 s10 => ?_⟩
      walk_at "zz"
      refine i_lenT (SqT.of (s10 _ _ eq19)) ?_
      rw [hxl]
      walk_at "zz"
      refine ⟨L, v2, (canT t a o).length, rfl, sw.wv, hvl, by omega, fun H11 s11 => ?_⟩
      walk_at "zz"
      refine ⟨L, [x2], 1, rfl, fun c hc => List.mem_singleton.mp hc ▸ sw.hx, by simp, by simp, fun H12 s12 => ?_⟩
      walk_at "zz"
      refine ⟨L, [y2], 1, rfl, fun c hc => List.mem_singleton.mp hc ▸ sw.hy, by simp, by simp, fun H13 s13 => ?_⟩
      walk_at "zz"
      have sB := ((s10.trans s11).trans s12).trans s13
      clear s10 s11 s12 s13
      rw [show ([x2] ++ [y2]).length = 2 from rfl]
      refine brn (fun z => absurd rfl z) fun _ => ?_
      walk_at "zz"
      have s0D := s09.trans sB
      have hin : ∀ {x y : Nat}, x ∈ L → y ∈ L → ∀ c ∈ u2 ++ [x] ++ [y] ++ v2, c ∈ L := fun hx hy c hc => by
        simp only [List.mem_append, List.mem_singleton] at hc
        rcases hc with ((hc | rfl) | rfl) | hc
        · exact sw.wu c hc
        · exact hx
        · exact hy
        · exact sw.wv c hc
      refine ⟨N, L, vt, va, t, a, u2 ++ [x2] ++ [y2] ++ v2, rfl, rt.same s0D, ra.same s0D, W0, hin sw.hx sw.hy, fun H14 s14 => ?_⟩
      rw [decide_eq_true sw.yes]
      walk_at "zz"
      have s0E := s0D.trans s14
      refine ⟨N, L, vt, va, t, a, u2 ++ [y2] ++ [x2] ++ v2, rfl, rt.same s0E, ra.same s0E, W0, hin sw.hy sw.hx, fun H15 s15 => ?_⟩
      rw [decide_eq_false sw.no]
      walk_at "zz"
      have s9F := (sB.trans s14).trans s15
      have s0F := s0E.trans s15
      have hwd : ∀ {z : List Nat}, (∀ c ∈ z, c ∈ L) → isWord L (.str (S z)) = true := fun {z} h => by
        show (codes (S z)).all (fun c => decide (c ∈ L)) = true
        rw [codes_S]
        exact List.all_eq_true.mpr fun c hc => decide_eq_true (h c hc)
      have hlt : ∀ {z : Nat}, z ∈ L → isLetter L (.str (S [z])) = true := fun {z} h => by
        show (isWord L (.str (S [z])) && _) = true
        rw [hwd fun c hc => List.mem_singleton.mp hc ▸ h]; rfl
      have hsw : isSwapD L (.tuple [.str (S u2), .str (S [x2]), .str (S [y2]), .str (S v2)]) = true := by
        show (isLetter L (.str (S [x2])) && isLetter L (.str (S [y2])) && isWord L (.str (S u2)) && isWord L (.str (S v2))) = true
        rw [hlt sw.hx, hlt sw.hy, hwd sw.wu, hwd sw.wv]; rfl
      have hsm : SwS (.tuple [.str (S u2), .str (S [x2]), .str (S [y2]), .str (S v2)]) := fun ds e => by
        cases e
        refine ⟨by simp, fun e he => ?_⟩
        have : ∀ {z : List Nat}, z.length ≤ 22500 → Sml (.str (S z)) ∧ ∀ z', PyData.str (S z) = .str z' → (codes z').length ≤ 22500 := fun {z} h => ⟨by show (codes (S z)).length ≤ 90000; rw [codes_S]; omega, fun z' e => by cases e; rw [codes_S]; exact h⟩
        simp only [List.mem_cons, List.not_mem_nil, or_false] at he
        rcases he with rfl | rfl | rfl | rfl
        · exact this (by omega)
        · exact this (by simp)
        · exact this (by simp)
        · exact this (by omega)
      refine ⟨m, L, t, a, _, _, rfl, im9.same s9F, W0, rp9.same s9F, hsm, fun v H16 s16 r16 => ?_⟩
      rw [fault_swap hsw, if_pos sw.yes, if_neg sw.no] at r16
      have hv : v = .non := by cases r16; rfl
      subst hv
      refine ⟨rfl, ?_⟩
      rw [decide_eq_true rfl]
      exact k _ (s0F.trans s16)
end
end Y

namespace Y
open PySem PySem.Spec PyProof.Rows L2 Z
open C8 (tCut pss_cut Cal pe_c Met pe_mt pe_mt0 Mak pe_mk)
theorem i_joinC {K : PySem.W.Frag} {H : Hp} {Q : VK} {p : Addr} {ys : List Nat} (h : H p = some (.lst (ys.map fun c => V.str (S [c])))) (hl : ys.length ≤ 100000) (q : Q (.str (S ys)) H) : zJoin0 K (.str (S [])) [.ref p] H Q := by
  have e : (ys.map fun c => V.str (S [c])) = (ys.map fun c => [c]).map fun x => V.str (S x) := by rw [List.map_map]; rfl
  refine i_join0 (l := ys.map fun c => [c]) (.inl (SqL.of (by rw [h, e]))) (by rw [flat_one]; exact hl) ?_
  rw [flat_one]; exact q
section
variable {P : Program} {w : World} {K : PySem.W.Frag} {mg : Str → Option Value} {base : Heap}
theorem c__law_parts (d : DF K mg "_law_parts" s__law_parts) (B : Bi mg) (c__law_draw : Cal P w K mg base 1 "_law_draw" spDraw []) (c__law_letters : Cal P w K mg base 2 "_law_letters" spLetters []) (c__law_rows : Cal P w K mg base 3 "_law_rows" spRows []) : Cal P w K mg base 4 "_law_parts" spParts [] := by
  refine d.cal (N := n__law_parts) sc__law_parts (fun _ _ _ _ _ _ us hl => match us, hl with | [_, _, _], _ => rfl) (fun vs H Q E h => ?_) (fun f cdv A outer s H vs Q E hr h => ?_)
  · obtain ⟨h, rfl, _⟩ := h
    rfl
  · obtain ⟨h, rfl, hh, k⟩ := h
    refine ⟨_, (pss_cons (ps_set (i := 3) sc__law_parts.nd rfl (by first | exact Or.inl rfl | exact Or.inr rfl) (pe_c c__law_draw hr (by first | decide | omega) rfl (pa_cons (pv 0) (pa_cons pe_int pa_nil))))
  (pss_cons (ps_set (i := 4) sc__law_parts.nd rfl (by first | exact Or.inl rfl | exact Or.inr rfl) (pe_op z_add pe_int (pe_c c__law_draw hr (by first | decide | omega) rfl (pa_cons (pv 0) (pa_cons (pv 1) pa_nil)))))
  (pss_cons (ps_set (i := 5) sc__law_parts.nd rfl (by first | exact Or.inl rfl | exact Or.inr rfl) (pe_op z_add pe_int (pe_c c__law_draw hr (by first | decide | omega) rfl (pa_cons (pv 0) (pa_cons (pv 2) pa_nil)))))
  (pss_cut (ps_if (pt_cmpR z_gt (pv 3) pe_int (nomark _)) (pss_cons (ps_set (i := 5) sc__law_parts.nd rfl (by first | exact Or.inl rfl | exact Or.inr rfl) (pe_callB (zc_max rfl) (by rfl) B.max (by decide +kernel) (pa_cons pe_int (pa_cons (pv 5) pa_nil))))
  (pss_one (ps_set (i := 4) sc__law_parts.nd rfl (by first | exact Or.inl rfl | exact Or.inr rfl) (pe_callB (zc_max rfl) (by rfl) B.max (by decide +kernel) (pa_cons (pe_callB (zc_min rfl) (by rfl) B.min (by decide +kernel) (pa_cons pe_int (pa_cons (pv 1) pa_nil))) (pa_cons (pv 4) pa_nil)))))) pss_nil)
  (pss_cons (ps_set (i := 6) sc__law_parts.nd rfl (by first | exact Or.inl rfl | exact Or.inr rfl) (pe_joinZ (K := K) rfl pe_str (pe_callB (zc_sortedC rfl) (by rfl) B.sorted (by decide +kernel) (pa_cons (pe_c c__law_letters hr (by first | decide | omega) rfl (pa_cons (pv 0) (pa_cons pe_str (pa_cons (pv 4) pa_nil)))) pa_nil))))
  (pss_cons (ps_set (i := 7) sc__law_parts.nd rfl (by first | exact Or.inl rfl | exact Or.inr rfl) (pe_c c__law_rows hr (by first | decide | omega) rfl (pa_cons (pv 0) (pa_cons (pv 3) (pa_cons (pv 5) (pa_cons (pv 4) pa_nil))))))
  (pss_cons (ps_set (i := 8) sc__law_parts.nd rfl (by first | exact Or.inl rfl | exact Or.inr rfl) (pe_callTy (r := zTuple K) zc_tuple (by rfl) B.tuple (by decide +kernel) (pa_cons (pe_lc (own := [("_law_state", 9)]) (g := gName 9) (by rfl) sc__law_parts.nd (pi_range1 rfl B.range (pa_cons (pv 5) pa_nil)) (blkOk_by (N := n__law_parts) (sc := defScope s__law_parts) (by decide +kernel)) (fun _ _ _ _ _ => (pg_name (i := 9) sc__law_parts.nd rfl (by first | exact Or.inl rfl | exact Or.inr rfl))) (fun _ _ _ _ _ => (pts_one (pt_cmpR op_eq (pe_c c__law_draw hr (by first | decide | omega) rfl (pa_cons (pv 0) (pa_cons pe_int pa_nil))) pe_int (nomark _)))) (fun _ _ _ _ _ => (pv 9))) pa_nil)))
  (pss_one (ps_ret (pe_tup (pa_cons (pv 6) (pa_cons (pv 7) (pa_cons (pv 8) pa_nil))))))))))))), ?_⟩
    refine zstart [some (.ref h), some (.int 4), some (.int 6), none, none, none, none, none, none, none] rfl ?_; try dsimp only [zK, zK2]
    walk_at "zz"
    refine use_draw hh (by decide) (by decide) fun kind H1 hr1 g1 => ?_
    walk_at "zz"
    refine use_draw g1.ok (by decide) (by decide) fun r2 H2 hr2 g2 => ?_
    walk_at "zz"
    refine use_draw g2.ok (by decide) (by decide) fun r3 H3 hr3 g3 => ?_
    walk_at "zz"
    have g03 := (g1.trans g2).trans g3
    refine i_cut (fun σ' H' => H3 = H' ∧ ∃ many size : Nat, 1 ≤ many ∧ many ≤ 4 ∧ 1 ≤ size ∧ size ≤ 6 ∧ σ' = [some (.ref h), some (.int 4), some (.int 6), some (.int (kind : Int)), some (.int (many : Int)), some (.int (size : Int)), none, none, none, none]) ?_ ?_
    · walk_at "zz"
      refine brd (fun q => ?_) fun q => ?_
      · walk_at "zz"
        obtain ⟨sz, h1, h2, e1⟩ : ∃ sz : Nat, 1 ≤ sz ∧ sz ≤ 6 ∧ (if 1 + (r3 : Int) > 2 then 1 + (r3 : Int) else 2) = (sz : Int) := by
          split
          · exact ⟨1 + r3, by omega, by omega, by omega⟩
          · exact ⟨2, by omega, by omega, rfl⟩
        rw [e1]
        obtain ⟨mn, h3, h4, e2⟩ : ∃ mn : Nat, 1 ≤ mn ∧ mn ≤ 4 ∧ (if 1 + (r2 : Int) > (if (4 : Int) < 2 then (4 : Int) else 2) then 1 + (r2 : Int) else (if (4 : Int) < 2 then (4 : Int) else 2)) = (mn : Int) := by
          rw [if_neg (show ¬ (4 : Int) < 2 by decide)]
          split
          · exact ⟨1 + r2, by omega, by omega, by omega⟩
          · exact ⟨2, by omega, by omega, rfl⟩
        rw [e2]
        exact ⟨rfl, mn, sz, h3, h4, h1, h2, rfl⟩
      · walk_at "zz"
        exact ⟨rfl, 1 + r2, 1 + r3, by omega, by omega, by omega, by omega, rfl⟩
    · rintro σ' H' ⟨rfl, many, size, hm1, hm4, hs1, hs6, rfl⟩
      walk_at "zz"
      rw [empty_codes, show codes (PySem.Str.ofString "abcdefghijklmnopqrstuvwxyz") = List.range' 97 26 from az]
      refine ⟨h, List.range' 97 26, many, rfl, g03.ok, by rw [List.length_range']; omega, by rw [List.length_range']; decide, fun found rest H4 hf hp g4 => ?_⟩
      walk_at "zz"
      refine ⟨found, rfl, by omega, fun L p hpm hpw hpn => ?_⟩
      have hnd : L.Nodup := hpm.nodup_iff.mpr (perm_nodup_of hp List.nodup_range')
      have hlen := hpm.length_eq
      have LL : Ltrs L := ⟨asc_of hpw hnd, fun c hc => by
        have := List.mem_range'_1.mp (hp.mem_iff.mp (List.mem_append_left _ (hpm.mem_iff.mp hc))); omega, by omega, by omega⟩
      walk_at "zz"
      refine i_joinC upd_same (by omega) ?_
      have g5 := (g03.trans g4).new (o := .lst (L.map fun c => V.str (S [c]))) hpn
      generalize upd H4 p (.lst (L.map fun c => V.str (S [c]))) = H5 at g5 ⊢
      walk_at "zz"
      refine ⟨h, kind, size, many, rfl, g5.ok, hs1, hs6, hm1, hm4, fun vt tab H6 ht1 ht2 rt g6 => ?_⟩
      have g06 := g5.trans g6
      walk_at "zz"
      refine i_KR1 (by omega) ?_
      rw [Int.toNat_natCast]
      refine fun Al hA => ?_
      have nAh := g06.ok.ne hA
      refine l_comp (walk_range (lo := 0) (n := size)) [some (.ref h), some (.int 4), some (.int 6), some (.int (kind : Int)), some (.int (many : Int)), some (.int (size : Int)), some (.str (S L)), some vt, none, none] rfl (fun i acc H' => Gd h H6 H' ∧ ∃ cs : List Nat, acc = ivs cs ∧ cs.Sublist ((List.range size).take i)) ⟨(Gd.refl g06.ok).new hA, [], rfl, by simp⟩ (fun _ _ _ _ _ _ => trivial) ?_ ?_
      · rintro i x acc H7 H8 hi ⟨g7, cs, rfl, hcs⟩ e hl2 ⟨e2, rfl⟩
        subst e2
        show gName _ (V.int (0 + (i : Int))) _ _ _
        rw [Int.zero_add]
        refine i_gname ?_
        refine i_lct rfl ?_
        refine ztt [some (.ref h), some (.int 4), some (.int 6), some (.int (kind : Int)), some (.int (many : Int)), some (.int (size : Int)), some (.str (S L)), some vt, none, some (.int (i : Int))] rfl ?_
        walk_at "zz"
        refine use_draw g7.ok (by decide) (by decide) fun r H9 hr9 g9 => ?_
        walk_at "zz"
        have hri : (List.range size)[i]? = some i := List.getElem?_range hi
        refine brd (fun q => ?_) fun q => ?_
        · refine zte [some (.ref h), some (.int 4), some (.int 6), some (.int (kind : Int)), some (.int (many : Int)), some (.int (size : Int)), some (.str (S L)), some vt, none, some (.int (i : Int))] rfl ?_
          walk_at "zz"
          exact cend (g9.kp' e nAh) hl2 (by omega) ⟨(g7.trans g9).mutz hA, cs ++ [i], ivs_snoc _ _, sub_snoc hcs hri⟩
        · exact ⟨_, g9.kp' e nAh, by omega, g7.trans g9, cs, rfl, sub_skip hcs⟩
      · rintro acc H7 ⟨g7, cs, rfl, hcs⟩ e hl2
        have hcs : cs.Sublist (List.range size) := hcs.trans (List.take_sublist _ _)
        walk_at "zz"
        refine i_tupleL (SqL.of e) fun q hq => ?_
        have g8 := (g06.trans g7).new (o := .tup (ivs cs)) hq
        have nqh := (g06.trans g7).ok.ne hq
        have rt8 : Rp (· = h) (upd H7 q (.tup (ivs cs))) vt (tabD tab) := (rt.mono g7.toKp).mono (Kp.refl.newz hq)
        have eq8 : (upd H7 q (.tup (ivs cs))) q = some (.tup (ivs cs)) := upd_same
        generalize upd H7 q (.tup (ivs cs)) = H8 at g8 rt8 eq8 ⊢
        walk_at "zz"
        refine ⟨by show 3 ≤ sizeLine; decide, fun pp hpp => ?_⟩
        have PT : Parts L tab cs := ⟨LL, by omega, by omega, fun r hr => ⟨by rw [(ht2 r hr).1]; omega, fun x hx => by rw [ht1]; exact (ht2 r hr).2 x hx⟩, (List.pairwise_lt_range).sublist hcs, fun x hx => by rw [ht1]; exact List.mem_range.mp (hcs.subset hx)⟩
        exact k pp vt (.ref q) L tab cs _ PT upd_same (g8.ok.ne hpp) (rt8.mono (Kp.refl.newz hpp)) (.tup (nw hpp eq8) nqh (ids_of _)) (g8.new hpp)
end
end Y

namespace Y
open PySem PySem.Spec PyProof.Rows L2 Z
open C8 (tCut pss_cut Cal pe_c Met pe_mt pe_mt0 Mak pe_mk)
def spParts35 : Sp := fun vs H Q _ => ∃ (h : Addr), vs = [.ref h, .int 3, .int 5] ∧ HandOk H h ∧
  ∀ (p : Addr) (vt va : V) (L : List Nat) (tab : List (List Nat)) (acc : List Nat) H', Parts L tab acc → H' p = some (.tup [.str (S L), vt, va]) → ¬ p = h → Rp (· = h) H' vt (tabD tab) → Rp (· = h) H' va (rowD acc) → Gd h H H' → Q (.ref p) H'
section
variable {P : Program} {w : World} {K : PySem.W.Frag} {mg : Str → Option Value} {base : Heap}
theorem c__law_parts35 (d : DF K mg "_law_parts" s__law_parts) (B : Bi mg) (c__law_draw : Cal P w K mg base 1 "_law_draw" spDraw []) (c__law_letters : Cal P w K mg base 2 "_law_letters" spLetters []) (c__law_rows : Cal P w K mg base 3 "_law_rows" spRows []) : Cal P w K mg base 4 "_law_parts" spParts35 [] := by
  refine d.cal (N := n__law_parts) sc__law_parts (fun _ _ _ _ _ _ us hl => match us, hl with | [_, _, _], _ => rfl) (fun vs H Q E h => ?_) (fun f cdv A outer s H vs Q E hr h => ?_)
  · obtain ⟨h, rfl, _⟩ := h
    rfl
  · obtain ⟨h, rfl, hh, k⟩ := h
    refine ⟨_, (pss_cons (ps_set (i := 3) sc__law_parts.nd rfl (by first | exact Or.inl rfl | exact Or.inr rfl) (pe_c c__law_draw hr (by first | decide | omega) rfl (pa_cons (pv 0) (pa_cons pe_int pa_nil))))
  (pss_cons (ps_set (i := 4) sc__law_parts.nd rfl (by first | exact Or.inl rfl | exact Or.inr rfl) (pe_op z_add pe_int (pe_c c__law_draw hr (by first | decide | omega) rfl (pa_cons (pv 0) (pa_cons (pv 1) pa_nil)))))
  (pss_cons (ps_set (i := 5) sc__law_parts.nd rfl (by first | exact Or.inl rfl | exact Or.inr rfl) (pe_op z_add pe_int (pe_c c__law_draw hr (by first | decide | omega) rfl (pa_cons (pv 0) (pa_cons (pv 2) pa_nil)))))
  (pss_cut (ps_if (pt_cmpR z_gt (pv 3) pe_int (nomark _)) (pss_cons (ps_set (i := 5) sc__law_parts.nd rfl (by first | exact Or.inl rfl | exact Or.inr rfl) (pe_callB (zc_max rfl) (by rfl) B.max (by decide +kernel) (pa_cons pe_int (pa_cons (pv 5) pa_nil))))
  (pss_one (ps_set (i := 4) sc__law_parts.nd rfl (by first | exact Or.inl rfl | exact Or.inr rfl) (pe_callB (zc_max rfl) (by rfl) B.max (by decide +kernel) (pa_cons (pe_callB (zc_min rfl) (by rfl) B.min (by decide +kernel) (pa_cons pe_int (pa_cons (pv 1) pa_nil))) (pa_cons (pv 4) pa_nil)))))) pss_nil)
  (pss_cons (ps_set (i := 6) sc__law_parts.nd rfl (by first | exact Or.inl rfl | exact Or.inr rfl) (pe_joinZ (K := K) rfl pe_str (pe_callB (zc_sortedC rfl) (by rfl) B.sorted (by decide +kernel) (pa_cons (pe_c c__law_letters hr (by first | decide | omega) rfl (pa_cons (pv 0) (pa_cons pe_str (pa_cons (pv 4) pa_nil)))) pa_nil))))
  (pss_cons (ps_set (i := 7) sc__law_parts.nd rfl (by first | exact Or.inl rfl | exact Or.inr rfl) (pe_c c__law_rows hr (by first | decide | omega) rfl (pa_cons (pv 0) (pa_cons (pv 3) (pa_cons (pv 5) (pa_cons (pv 4) pa_nil))))))
  (pss_cons (ps_set (i := 8) sc__law_parts.nd rfl (by first | exact Or.inl rfl | exact Or.inr rfl) (pe_callTy (r := zTuple K) zc_tuple (by rfl) B.tuple (by decide +kernel) (pa_cons (pe_lc (own := [("_law_state", 9)]) (g := gName 9) (by rfl) sc__law_parts.nd (pi_range1 rfl B.range (pa_cons (pv 5) pa_nil)) (blkOk_by (N := n__law_parts) (sc := defScope s__law_parts) (by decide +kernel)) (fun _ _ _ _ _ => (pg_name (i := 9) sc__law_parts.nd rfl (by first | exact Or.inl rfl | exact Or.inr rfl))) (fun _ _ _ _ _ => (pts_one (pt_cmpR op_eq (pe_c c__law_draw hr (by first | decide | omega) rfl (pa_cons (pv 0) (pa_cons pe_int pa_nil))) pe_int (nomark _)))) (fun _ _ _ _ _ => (pv 9))) pa_nil)))
  (pss_one (ps_ret (pe_tup (pa_cons (pv 6) (pa_cons (pv 7) (pa_cons (pv 8) pa_nil))))))))))))), ?_⟩
    refine zstart [some (.ref h), some (.int 3), some (.int 5), none, none, none, none, none, none, none] rfl ?_; try dsimp only [zK, zK2]
    walk_at "zz"
    refine use_draw hh (by decide) (by decide) fun kind H1 hr1 g1 => ?_
    walk_at "zz"
    refine use_draw g1.ok (by decide) (by decide) fun r2 H2 hr2 g2 => ?_
    walk_at "zz"
    refine use_draw g2.ok (by decide) (by decide) fun r3 H3 hr3 g3 => ?_
    walk_at "zz"
    have g03 := (g1.trans g2).trans g3
    refine i_cut (fun σ' H' => H3 = H' ∧ ∃ many size : Nat, 1 ≤ many ∧ many ≤ 4 ∧ 1 ≤ size ∧ size ≤ 6 ∧ σ' = [some (.ref h), some (.int 3), some (.int 5), some (.int (kind : Int)), some (.int (many : Int)), some (.int (size : Int)), none, none, none, none]) ?_ ?_
    · walk_at "zz"
      refine brd (fun q => ?_) fun q => ?_
      · walk_at "zz"
        obtain ⟨sz, h1, h2, e1⟩ : ∃ sz : Nat, 1 ≤ sz ∧ sz ≤ 6 ∧ (if 1 + (r3 : Int) > 2 then 1 + (r3 : Int) else 2) = (sz : Int) := by
          split
          · exact ⟨1 + r3, by omega, by omega, by omega⟩
          · exact ⟨2, by omega, by omega, rfl⟩
        rw [e1]
        obtain ⟨mn, h3, h4, e2⟩ : ∃ mn : Nat, 1 ≤ mn ∧ mn ≤ 4 ∧ (if 1 + (r2 : Int) > (if (3 : Int) < 2 then (3 : Int) else 2) then 1 + (r2 : Int) else (if (3 : Int) < 2 then (3 : Int) else 2)) = (mn : Int) := by
          rw [if_neg (show ¬ (3 : Int) < 2 by decide)]
          split
          · exact ⟨1 + r2, by omega, by omega, by omega⟩
          · exact ⟨2, by omega, by omega, rfl⟩
        rw [e2]
        exact ⟨rfl, mn, sz, h3, h4, h1, h2, rfl⟩
      · walk_at "zz"
        exact ⟨rfl, 1 + r2, 1 + r3, by omega, by omega, by omega, by omega, rfl⟩
    · rintro σ' H' ⟨rfl, many, size, hm1, hm4, hs1, hs6, rfl⟩
      walk_at "zz"
      rw [empty_codes, show codes (PySem.Str.ofString "abcdefghijklmnopqrstuvwxyz") = List.range' 97 26 from az]
      refine ⟨h, List.range' 97 26, many, rfl, g03.ok, by rw [List.length_range']; omega, by rw [List.length_range']; decide, fun found rest H4 hf hp g4 => ?_⟩
      walk_at "zz"
      refine ⟨found, rfl, by omega, fun L p hpm hpw hpn => ?_⟩
      have hnd : L.Nodup := hpm.nodup_iff.mpr (perm_nodup_of hp List.nodup_range')
      have hlen := hpm.length_eq
      have LL : Ltrs L := ⟨asc_of hpw hnd, fun c hc => by
        have := List.mem_range'_1.mp (hp.mem_iff.mp (List.mem_append_left _ (hpm.mem_iff.mp hc))); omega, by omega, by omega⟩
      walk_at "zz"
      refine i_joinC upd_same (by omega) ?_
      have g5 := (g03.trans g4).new (o := .lst (L.map fun c => V.str (S [c]))) hpn
      generalize upd H4 p (.lst (L.map fun c => V.str (S [c]))) = H5 at g5 ⊢
      walk_at "zz"
      refine ⟨h, kind, size, many, rfl, g5.ok, hs1, hs6, hm1, hm4, fun vt tab H6 ht1 ht2 rt g6 => ?_⟩
      have g06 := g5.trans g6
      walk_at "zz"
      refine i_KR1 (by omega) ?_
      rw [Int.toNat_natCast]
      refine fun Al hA => ?_
      have nAh := g06.ok.ne hA
      refine l_comp (walk_range (lo := 0) (n := size)) [some (.ref h), some (.int 3), some (.int 5), some (.int (kind : Int)), some (.int (many : Int)), some (.int (size : Int)), some (.str (S L)), some vt, none, none] rfl (fun i acc H' => Gd h H6 H' ∧ ∃ cs : List Nat, acc = ivs cs ∧ cs.Sublist ((List.range size).take i)) ⟨(Gd.refl g06.ok).new hA, [], rfl, by simp⟩ (fun _ _ _ _ _ _ => trivial) ?_ ?_
      · rintro i x acc H7 H8 hi ⟨g7, cs, rfl, hcs⟩ e hl2 ⟨e2, rfl⟩
        subst e2
        show gName _ (V.int (0 + (i : Int))) _ _ _
        rw [Int.zero_add]
        refine i_gname ?_
        refine i_lct rfl ?_
        refine ztt [some (.ref h), some (.int 3), some (.int 5), some (.int (kind : Int)), some (.int (many : Int)), some (.int (size : Int)), some (.str (S L)), some vt, none, some (.int (i : Int))] rfl ?_
        walk_at "zz"
        refine use_draw g7.ok (by decide) (by decide) fun r H9 hr9 g9 => ?_
        walk_at "zz"
        have hri : (List.range size)[i]? = some i := List.getElem?_range hi
        refine brd (fun q => ?_) fun q => ?_
        · refine zte [some (.ref h), some (.int 3), some (.int 5), some (.int (kind : Int)), some (.int (many : Int)), some (.int (size : Int)), some (.str (S L)), some vt, none, some (.int (i : Int))] rfl ?_
          walk_at "zz"
          exact cend (g9.kp' e nAh) hl2 (by omega) ⟨(g7.trans g9).mutz hA, cs ++ [i], ivs_snoc _ _, sub_snoc hcs hri⟩
        · exact ⟨_, g9.kp' e nAh, by omega, g7.trans g9, cs, rfl, sub_skip hcs⟩
      · rintro acc H7 ⟨g7, cs, rfl, hcs⟩ e hl2
        have hcs : cs.Sublist (List.range size) := hcs.trans (List.take_sublist _ _)
        walk_at "zz"
        refine i_tupleL (SqL.of e) fun q hq => ?_
        have g8 := (g06.trans g7).new (o := .tup (ivs cs)) hq
        have nqh := (g06.trans g7).ok.ne hq
        have rt8 : Rp (· = h) (upd H7 q (.tup (ivs cs))) vt (tabD tab) := (rt.mono g7.toKp).mono (Kp.refl.newz hq)
        have eq8 : (upd H7 q (.tup (ivs cs))) q = some (.tup (ivs cs)) := upd_same
        generalize upd H7 q (.tup (ivs cs)) = H8 at g8 rt8 eq8 ⊢
        walk_at "zz"
        refine ⟨by show 3 ≤ sizeLine; decide, fun pp hpp => ?_⟩
        have PT : Parts L tab cs := ⟨LL, by omega, by omega, fun r hr => ⟨by rw [(ht2 r hr).1]; omega, fun x hx => by rw [ht1]; exact (ht2 r hr).2 x hx⟩, (List.pairwise_lt_range).sublist hcs, fun x hx => by rw [ht1]; exact List.mem_range.mp (hcs.subset hx)⟩
        exact k pp vt (.ref q) L tab cs _ PT upd_same (g8.ok.ne hpp) (rt8.mono (Kp.refl.newz hpp)) (.tup (nw hpp eq8) nqh (ids_of _)) (g8.new hpp)
end
end Y

namespace Y
open PySem PySem.Spec PyProof.Rows L2 Z
open C8 (tCut pss_cut Cal pe_c Met pe_mt pe_mt0 Mak pe_mk)
abbrev s_law : Stmt := topS 58
abbrev n_law : List Str := ["_law_script", "_law_hand_here", "_law_letters_here", "_law_table", "_law_accepts", "_law_others", "_law_state", "_law_some"]
theorem sc_law : FnScope n_law ["_law_script"] (defScope s_law) := ⟨rfl, rfl, rfl, by decide +kernel, rfl, by decide +kernel, by decide +kernel⟩

theorem Parts.cpl {L : List Nat} {t : List (List Nat)} {a : List Nat} (p : Parts L t a) : Parts L t (cpl t a) := ⟨p.ltr, p.lo, p.hi, p.row, cpl_asc t a, fun x hx => (cpl_mem.mp hx).1⟩
section
variable {P : Program} {w : World} {K : PySem.W.Frag} {mg : Str → Option Value} {base : Heap}
theorem ok_law {f : Addr} {fd : FuncData} (F : Fun K "law" "law" s_law f fd) (B : Bi mg) (c__law_hand : Cal P w K mg base 1 "_law_hand" (spHand K) []) (c__law_parts : Cal P w K mg base 4 "_law_parts" spParts35 []) (c__law_swap_right : Cal P w K mg base 12 "_law_swap_right" spSwapR []) : FnOk P w K mg base CX0 13 f fd ["_law_script"] (spLaw K) := by
  refine F.ok sc_law (fun vs H Q E h => ?_) (fun cdv A outer s H vs Q E hr h => ?_)
  · obtain ⟨a, ns, rfl, _⟩ := h
    rfl
  · obtain ⟨a, ns, rfl, hs, hl, k⟩ := h
    refine ⟨_, (pss_cons (ps_set (i := 1) sc_law.nd rfl (by first | exact Or.inl rfl | exact Or.inr rfl) (pe_c c__law_hand hr (by first | decide | omega) rfl (pa_cons (pv 0) pa_nil)))
  (pss_cons (ps_asg (pe_c c__law_parts hr (by first | decide | omega) rfl (pa_cons (pv 1) (pa_cons pe_int (pa_cons pe_int pa_nil)))) (pg_tup rfl (pgs_cons (pg_name (i := 2) sc_law.nd rfl (by first | exact Or.inl rfl | exact Or.inr rfl)) (pgs_cons (pg_name (i := 3) sc_law.nd rfl (by first | exact Or.inl rfl | exact Or.inr rfl)) (pgs_cons (pg_name (i := 4) sc_law.nd rfl (by first | exact Or.inl rfl | exact Or.inr rfl)) pgs_nil)))))
  (pss_cons (ps_set (i := 5) sc_law.nd rfl (by first | exact Or.inl rfl | exact Or.inr rfl) (pe_callTy (r := zTuple K) zc_tuple (by rfl) B.tuple (by decide +kernel) (pa_cons (pe_lc (own := [("_law_state", 6)]) (g := gName 6) (by rfl) sc_law.nd (pi_range1 rfl B.range (pa_cons (pe_callB (r := zLen K) zc_len (by rfl) B.len (by decide +kernel) (pa_cons (pv 3) pa_nil)) pa_nil)) (blkOk_by (N := n_law) (sc := defScope s_law) (by decide +kernel)) (fun _ _ _ _ _ => (pg_name (i := 6) sc_law.nd rfl (by first | exact Or.inl rfl | exact Or.inr rfl))) (fun _ _ _ _ _ => (pts_one (pt_cmpR (r := rIn K true) op_notIn_seq (pv 6) (pv 4) (by rfl)))) (fun _ _ _ _ _ => (pv 6))) pa_nil)))
  (pss_cons (ps_for PassesOwn.never rfl (pi_list (pe_lst (pa_cons (pv 4) (pa_cons (pv 5) pa_nil)))) (pg_name (i := 7) sc_law.nd rfl (by first | exact Or.inl rfl | exact Or.inr rfl)) (pss_one (ps_if (pt_not (pt_val (pe_c c__law_swap_right hr (by first | decide | omega) rfl (pa_cons (pv 2) (pa_cons (pv 3) (pa_cons (pv 7) pa_nil)))))) (pss_one (ps_ret pe_bl)) pss_nil)))
  (pss_one (ps_ret pe_bl)))))), ?_⟩
    refine zstart [some (.ref a), none, none, none, none, none, none, none] rfl ?_; try dsimp only [zK, zK2]
    walk_at "zz"
    refine ⟨a, ns, rfl, hs, by omega, fun h H1 hn ok1 s1 => ?_⟩
    walk_at "zz"
    refine ⟨h, rfl, ok1, fun p vt va L t acc H2 PT ep nph rt ra g2 => ?_⟩
    refine i_gtup (SqT.of ep) rfl ?_
    walk_at "zz"
    have h6 := PT.hi
    obtain ⟨pa, rfl, epa, npa⟩ := rowD_rp ra
    refine i_lenRp rt ?_
    rw [List.length_map]
    walk_at "zz"
    refine i_KR1 (by omega) ?_
    rw [Int.toNat_natCast]
    refine fun D hD => ?_
    refine l_filtR hD [some (.ref a), some (.ref h), some (.str (S L)), some vt, some (.ref pa), none, none, none] rfl (fun _ => rfl) (by omega) (fun s => decide (s ∉ acc)) (fun s => .int (s : Int)) (fun i H3 R hi2 sA hR => ?_) (fun i H3 P hi2 hp sA hP => ?_) fun H3 s3 e3 => ?_
    · refine ztt [some (.ref a), some (.ref h), some (.str (S L)), some vt, some (.ref pa), none, some (.int (i : Int)), none] rfl ?_
      walk_at "zz"
      refine ⟨pa, _, rfl, .inr (SqT.of (sA _ _ epa)), rfl, by unfold ivs; rw [List.all_map]; exact List.all_eq_true.mpr fun _ _ => rfl, ?_⟩
      rw [inI, if_pos rfl]
      have := hR H3 (Same.refl _)
      rw [decide_not] at this
      exact Z.i_KB this
    · refine zte [some (.ref a), some (.ref h), some (.str (S L)), some vt, some (.ref pa), none, some (.int (i : Int)), none] rfl ?_
      walk_at "zz"
      exact hP _ (Same.refl _)
    have e3 : H3 D = some (.lst (ivs (cpl t acc))) := e3
    walk_at "zz"
    refine i_tupleL (SqL.of e3) fun po hpo => ?_
    have s4 : Same H3 (upd H3 po (.tup (ivs (cpl t acc)))) := (Same.refl H3).newz hpo
    have e4 : upd H3 po (.tup (ivs (cpl t acc))) po = some (.tup (ivs (cpl t acc))) := upd_same
    generalize upd H3 po (.tup (ivs (cpl t acc))) = H4 at s4 e4
    have s24 := s3.trans s4
    have rt := rt.same s24
    have epa4 := s24 _ _ epa
    walk_at "zz"
    refine ⟨by simp [sizeLine], fun q hq => ?_⟩
    have s5 : Same H4 (upd H4 q (.lst [.ref pa, .ref po])) := (Same.refl H4).newz hq
    have e5 : upd H4 q (.lst [.ref pa, .ref po]) q = some (.lst [.ref pa, .ref po]) := upd_same
    generalize upd H4 q (.lst [.ref pa, .ref po]) = H5 at s5 e5
    refine i_KL (SqL.of e5) ?_
    have rt5 := rt.same s5
    have ra5 : Rp (· = h) H5 (.ref pa) (rowD acc) := .tup (s5 _ _ epa4) (fun z => npa (by rw [z])) (ids_of _)
    have ro5 : Rp N0 H5 (.ref po) (rowD (cpl t acc)) := .tup (s5 _ _ e4) id (ids_of _)
    refine l_for (walk_list (xs := [V.ref pa, V.ref po])) (fun i σ H' => Same H5 H' ∧ ∃ v6 v7, σ = [some (.ref a), some (.ref h), some (.str (S L)), some vt, some (.ref pa), some (.ref po), v6, v7]) ⟨Same.refl _, none, none, rfl⟩ (fun i σ H1 _ p => SqL.of (p.1 _ _ e5)) ?_ ?_
    · rintro i x σ H6 H7 hi ⟨s6, v6, v7, rfl⟩ ⟨rfl, hx⟩
      have hx2 : x ∈ [V.ref pa, V.ref po] := List.mem_of_getElem? hx
      simp only [List.mem_cons, List.not_mem_nil, or_false] at hx2
      rcases hx2 with rfl | rfl
      · walk_at "zz"
        refine ⟨_, vt, .ref pa, L, t, acc, rfl, rt5.same s6, ra5.same s6, PT, fun H8 s8 => ?_⟩
        walk_at "zz"
        exact ⟨s6.trans s8, _, _, rfl⟩
      · walk_at "zz"
        refine ⟨N0, vt, .ref po, L, t, cpl t acc, rfl, (rt5.same s6).free, ro5.same s6, PT.cpl, fun H8 s8 => ?_⟩
        walk_at "zz"
        exact ⟨s6.trans s8, _, _, rfl⟩
    · rintro σ H6 ⟨s6, v6, v7, rfl⟩
      walk_at "zz"
      exact k _
end
end Y

namespace Y
open PySem PySem.Spec PyProof.Rows L2 Z
open C8 (tCut pss_cut Cal pe_c Met pe_mt pe_mt0 Mak pe_mk)
theorem all_mk {l : PySem.W.OpenLaw} {w : World} {K : PySem.W.Frag} {h : Heap} {mg : Str → Option Value} {fa f_is_integer f_is_between f_is_ascending f_is_letters f_is_word f_is_letter f_end_of f_ends_of f_then f_reached f_first_words f_first_parting f__word_back f_least_parts f__classes f__numbered f__how_many f_machine_of_parts f_says f_least f__is_table f__is_accepts f__is_states f_deed f_strict_pairs f_around_unlike f_fixed f_swap f_swap_fault f__is_swap f__law_hand f__law_draw f__law_letters f__law_rows f__law_shuffled f__law_parts f__law_classes f__law_least f__law_deed f__law_commutes f__law_says f__law_is_word f__law_swap_right f_law : Addr} (X : K.In h) (G : h.Ns mainGlobals mg) (hfa : mg "law" = some (.ref fa))
    {od_is_integer an_is_integer od_is_between an_is_between od_is_ascending an_is_ascending od_is_letters an_is_letters od_is_word an_is_word od_is_letter an_is_letter od_end_of an_end_of od_ends_of an_ends_of od_then an_then od_reached an_reached od_first_words an_first_words od_first_parting an_first_parting od__word_back an__word_back od_least_parts an_least_parts od__classes an__classes od__numbered an__numbered od__how_many an__how_many od_machine_of_parts an_machine_of_parts od_says an_says od_least an_least od__is_table an__is_table od__is_accepts an__is_accepts od__is_states an__is_states od_deed an_deed od_strict_pairs an_strict_pairs od_around_unlike an_around_unlike od_fixed an_fixed od_swap an_swap od_swap_fault an_swap_fault od__is_swap an__is_swap od__law_hand an__law_hand od__law_draw an__law_draw od__law_letters an__law_letters od__law_rows an__law_rows od__law_shuffled an__law_shuffled od__law_parts an__law_parts od__law_classes an__law_classes od__law_least an__law_least od__law_deed an__law_deed od__law_commutes an__law_commutes od__law_says an__law_says od__law_is_word an__law_is_word od__law_swap_right an__law_swap_right od_law an_law : Option Addr} {sl_is_integer sl_is_between sl_is_ascending sl_is_letters sl_is_word sl_is_letter sl_end_of sl_ends_of sl_then sl_reached sl_first_words sl_first_parting sl__word_back sl_least_parts sl__classes sl__numbered sl__how_many sl_machine_of_parts sl_says sl_least sl__is_table sl__is_accepts sl__is_states sl_deed sl_strict_pairs sl_around_unlike sl_fixed sl_swap sl_swap_fault sl__is_swap sl__law_hand sl__law_draw sl__law_letters sl__law_rows sl__law_shuffled sl__law_parts sl__law_classes sl__law_least sl__law_deed sl__law_commutes sl__law_says sl__law_is_word sl__law_swap_right sl_law : Array (Option Value)} {oc_is_integer kV_is_integer dc_is_integer pm_is_integer cd_is_integer ct_is_integer oc_is_between kV_is_between dc_is_between pm_is_between cd_is_between ct_is_between oc_is_ascending kV_is_ascending dc_is_ascending pm_is_ascending cd_is_ascending ct_is_ascending oc_is_letters kV_is_letters dc_is_letters pm_is_letters cd_is_letters ct_is_letters oc_is_word kV_is_word dc_is_word pm_is_word cd_is_word ct_is_word oc_is_letter kV_is_letter dc_is_letter pm_is_letter cd_is_letter ct_is_letter oc_end_of kV_end_of dc_end_of pm_end_of cd_end_of ct_end_of oc_ends_of kV_ends_of dc_ends_of pm_ends_of cd_ends_of ct_ends_of oc_then kV_then dc_then pm_then cd_then ct_then oc_reached kV_reached dc_reached pm_reached cd_reached ct_reached oc_first_words kV_first_words dc_first_words pm_first_words cd_first_words ct_first_words oc_first_parting kV_first_parting dc_first_parting pm_first_parting cd_first_parting ct_first_parting oc__word_back kV__word_back dc__word_back pm__word_back cd__word_back ct__word_back oc_least_parts kV_least_parts dc_least_parts pm_least_parts cd_least_parts ct_least_parts oc__classes kV__classes dc__classes pm__classes cd__classes ct__classes oc__numbered kV__numbered dc__numbered pm__numbered cd__numbered ct__numbered oc__how_many kV__how_many dc__how_many pm__how_many cd__how_many ct__how_many oc_machine_of_parts kV_machine_of_parts dc_machine_of_parts pm_machine_of_parts cd_machine_of_parts ct_machine_of_parts oc_says kV_says dc_says pm_says cd_says ct_says oc_least kV_least dc_least pm_least cd_least ct_least oc__is_table kV__is_table dc__is_table pm__is_table cd__is_table ct__is_table oc__is_accepts kV__is_accepts dc__is_accepts pm__is_accepts cd__is_accepts ct__is_accepts oc__is_states kV__is_states dc__is_states pm__is_states cd__is_states ct__is_states oc_deed kV_deed dc_deed pm_deed cd_deed ct_deed oc_strict_pairs kV_strict_pairs dc_strict_pairs pm_strict_pairs cd_strict_pairs ct_strict_pairs oc_around_unlike kV_around_unlike dc_around_unlike pm_around_unlike cd_around_unlike ct_around_unlike oc_fixed kV_fixed dc_fixed pm_fixed cd_fixed ct_fixed oc_swap kV_swap dc_swap pm_swap cd_swap ct_swap oc_swap_fault kV_swap_fault dc_swap_fault pm_swap_fault cd_swap_fault ct_swap_fault oc__is_swap kV__is_swap dc__is_swap pm__is_swap cd__is_swap ct__is_swap oc__law_hand kV__law_hand dc__law_hand pm__law_hand cd__law_hand ct__law_hand oc__law_draw kV__law_draw dc__law_draw pm__law_draw cd__law_draw ct__law_draw oc__law_letters kV__law_letters dc__law_letters pm__law_letters cd__law_letters ct__law_letters oc__law_rows kV__law_rows dc__law_rows pm__law_rows cd__law_rows ct__law_rows oc__law_shuffled kV__law_shuffled dc__law_shuffled pm__law_shuffled cd__law_shuffled ct__law_shuffled oc__law_parts kV__law_parts dc__law_parts pm__law_parts cd__law_parts ct__law_parts oc__law_classes kV__law_classes dc__law_classes pm__law_classes cd__law_classes ct__law_classes oc__law_least kV__law_least dc__law_least pm__law_least cd__law_least ct__law_least oc__law_deed kV__law_deed dc__law_deed pm__law_deed cd__law_deed ct__law_deed oc__law_commutes kV__law_commutes dc__law_commutes pm__law_commutes cd__law_commutes ct__law_commutes oc__law_says kV__law_says dc__law_says pm__law_says cd__law_says ct__law_says oc__law_is_word kV__law_is_word dc__law_is_word pm__law_is_word cd__law_is_word ct__law_is_word oc__law_swap_right kV__law_swap_right dc__law_swap_right pm__law_swap_right cd__law_swap_right ct__law_swap_right oc_law kV_law dc_law pm_law cd_law ct_law : Value} {CM CNoWord : Addr} {f_Machine___init__ f_Machine_letters f_Machine_table f_Machine_accepts : Addr} {od_Machine___init__ an_Machine___init__ od_Machine_letters an_Machine_letters od_Machine_table an_Machine_table od_Machine_accepts an_Machine_accepts : Option Addr} {sl_Machine___init__ sl_Machine_letters sl_Machine_table sl_Machine_accepts : Array (Option Value)} {oc_Machine___init__ kV_Machine___init__ dc_Machine___init__ pm_Machine___init__ cd_Machine___init__ ct_Machine___init__ oc_Machine_letters kV_Machine_letters dc_Machine_letters pm_Machine_letters cd_Machine_letters ct_Machine_letters oc_Machine_table kV_Machine_table dc_Machine_table pm_Machine_table cd_Machine_table ct_Machine_table oc_Machine_accepts kV_Machine_accepts dc_Machine_accepts pm_Machine_accepts cd_Machine_accepts ct_Machine_accepts : Value} {dT_reached : Addr} {dc1_reached : Value} {dd1_reached : Option Addr} {ds1_reached : Array (Option Value)} {dn_reached : Nat} {tk0_reached : Nat} {dT_least_parts : Addr} {dc1_least_parts : Value} {dd1_least_parts : Option Addr} {ds1_least_parts : Array (Option Value)} {dn_least_parts : Nat} {tk0_least_parts : Nat}
    (a_is_integer : PySem.W.nsIn K mainGlobals "is_integer" = some (some (.ref f_is_integer)))
    (l_is_integer : K.lookup f_is_integer = some ⟨oc_is_integer, od_is_integer, .func (PySem.W.fnOf "is_integer" "is_integer" (defArgs s_is_integer) (defBody s_is_integer) (defScope s_is_integer) .none kV_is_integer dc_is_integer pm_is_integer an_is_integer cd_is_integer ct_is_integer), sl_is_integer⟩)
    (c_is_integer : PySem.W.codeIn K cd_is_integer "is_integer" = true) (k_is_integer : PySem.W.keepIn K (.ref f_is_integer) = true)
    (a_is_between : PySem.W.nsIn K mainGlobals "is_between" = some (some (.ref f_is_between)))
    (l_is_between : K.lookup f_is_between = some ⟨oc_is_between, od_is_between, .func (PySem.W.fnOf "is_between" "is_between" (defArgs s_is_between) (defBody s_is_between) (defScope s_is_between) .none kV_is_between dc_is_between pm_is_between an_is_between cd_is_between ct_is_between), sl_is_between⟩)
    (c_is_between : PySem.W.codeIn K cd_is_between "is_between" = true) (k_is_between : PySem.W.keepIn K (.ref f_is_between) = true)
    (a_is_ascending : PySem.W.nsIn K mainGlobals "is_ascending" = some (some (.ref f_is_ascending)))
    (l_is_ascending : K.lookup f_is_ascending = some ⟨oc_is_ascending, od_is_ascending, .func (PySem.W.fnOf "is_ascending" "is_ascending" (defArgs s_is_ascending) (defBody s_is_ascending) (defScope s_is_ascending) .none kV_is_ascending dc_is_ascending pm_is_ascending an_is_ascending cd_is_ascending ct_is_ascending), sl_is_ascending⟩)
    (c_is_ascending : PySem.W.codeIn K cd_is_ascending "is_ascending" = true) (k_is_ascending : PySem.W.keepIn K (.ref f_is_ascending) = true)
    (a_is_letters : PySem.W.nsIn K mainGlobals "is_letters" = some (some (.ref f_is_letters)))
    (l_is_letters : K.lookup f_is_letters = some ⟨oc_is_letters, od_is_letters, .func (PySem.W.fnOf "is_letters" "is_letters" (defArgs s_is_letters) (defBody s_is_letters) (defScope s_is_letters) .none kV_is_letters dc_is_letters pm_is_letters an_is_letters cd_is_letters ct_is_letters), sl_is_letters⟩)
    (c_is_letters : PySem.W.codeIn K cd_is_letters "is_letters" = true) (k_is_letters : PySem.W.keepIn K (.ref f_is_letters) = true)
    (a_is_word : PySem.W.nsIn K mainGlobals "is_word" = some (some (.ref f_is_word)))
    (l_is_word : K.lookup f_is_word = some ⟨oc_is_word, od_is_word, .func (PySem.W.fnOf "is_word" "is_word" (defArgs s_is_word) (defBody s_is_word) (defScope s_is_word) .none kV_is_word dc_is_word pm_is_word an_is_word cd_is_word ct_is_word), sl_is_word⟩)
    (c_is_word : PySem.W.codeIn K cd_is_word "is_word" = true) (k_is_word : PySem.W.keepIn K (.ref f_is_word) = true)
    (a_is_letter : PySem.W.nsIn K mainGlobals "is_letter" = some (some (.ref f_is_letter)))
    (l_is_letter : K.lookup f_is_letter = some ⟨oc_is_letter, od_is_letter, .func (PySem.W.fnOf "is_letter" "is_letter" (defArgs s_is_letter) (defBody s_is_letter) (defScope s_is_letter) .none kV_is_letter dc_is_letter pm_is_letter an_is_letter cd_is_letter ct_is_letter), sl_is_letter⟩)
    (c_is_letter : PySem.W.codeIn K cd_is_letter "is_letter" = true) (k_is_letter : PySem.W.keepIn K (.ref f_is_letter) = true)
    (a_end_of : PySem.W.nsIn K mainGlobals "end_of" = some (some (.ref f_end_of)))
    (l_end_of : K.lookup f_end_of = some ⟨oc_end_of, od_end_of, .func (PySem.W.fnOf "end_of" "end_of" (defArgs s_end_of) (defBody s_end_of) (defScope s_end_of) .none kV_end_of dc_end_of pm_end_of an_end_of cd_end_of ct_end_of), sl_end_of⟩)
    (c_end_of : PySem.W.codeIn K cd_end_of "end_of" = true) (k_end_of : PySem.W.keepIn K (.ref f_end_of) = true)
    (a_ends_of : PySem.W.nsIn K mainGlobals "ends_of" = some (some (.ref f_ends_of)))
    (l_ends_of : K.lookup f_ends_of = some ⟨oc_ends_of, od_ends_of, .func (PySem.W.fnOf "ends_of" "ends_of" (defArgs s_ends_of) (defBody s_ends_of) (defScope s_ends_of) .none kV_ends_of dc_ends_of pm_ends_of an_ends_of cd_ends_of ct_ends_of), sl_ends_of⟩)
    (c_ends_of : PySem.W.codeIn K cd_ends_of "ends_of" = true) (k_ends_of : PySem.W.keepIn K (.ref f_ends_of) = true)
    (a_then : PySem.W.nsIn K mainGlobals "then" = some (some (.ref f_then)))
    (l_then : K.lookup f_then = some ⟨oc_then, od_then, .func (PySem.W.fnOf "then" "then" (defArgs s_then) (defBody s_then) (defScope s_then) .none kV_then dc_then pm_then an_then cd_then ct_then), sl_then⟩)
    (c_then : PySem.W.codeIn K cd_then "then" = true) (k_then : PySem.W.keepIn K (.ref f_then) = true)
    (a_reached : PySem.W.nsIn K mainGlobals "reached" = some (some (.ref f_reached)))
    (l_reached : K.lookup f_reached = some ⟨oc_reached, od_reached, .func (PySem.W.fnOf "reached" "reached" (defArgs s_reached) (defBody s_reached) (defScope s_reached) (.ref dT_reached) kV_reached dc_reached pm_reached an_reached cd_reached ct_reached), sl_reached⟩)
    (c_reached : PySem.W.codeIn K cd_reached "reached" = true) (k_reached : PySem.W.keepIn K (.ref f_reached) = true)
    (v_reached : K.lookup dT_reached = some ⟨dc1_reached, dd1_reached, .seq #[.int 0 tk0_reached] dn_reached, ds1_reached⟩)
    (a_first_words : PySem.W.nsIn K mainGlobals "first_words" = some (some (.ref f_first_words)))
    (l_first_words : K.lookup f_first_words = some ⟨oc_first_words, od_first_words, .func (PySem.W.fnOf "first_words" "first_words" (defArgs s_first_words) (defBody s_first_words) (defScope s_first_words) .none kV_first_words dc_first_words pm_first_words an_first_words cd_first_words ct_first_words), sl_first_words⟩)
    (c_first_words : PySem.W.codeIn K cd_first_words "first_words" = true) (k_first_words : PySem.W.keepIn K (.ref f_first_words) = true)
    (a_first_parting : PySem.W.nsIn K mainGlobals "first_parting" = some (some (.ref f_first_parting)))
    (l_first_parting : K.lookup f_first_parting = some ⟨oc_first_parting, od_first_parting, .func (PySem.W.fnOf "first_parting" "first_parting" (defArgs s_first_parting) (defBody s_first_parting) (defScope s_first_parting) .none kV_first_parting dc_first_parting pm_first_parting an_first_parting cd_first_parting ct_first_parting), sl_first_parting⟩)
    (c_first_parting : PySem.W.codeIn K cd_first_parting "first_parting" = true) (k_first_parting : PySem.W.keepIn K (.ref f_first_parting) = true)
    (a__word_back : PySem.W.nsIn K mainGlobals "_word_back" = some (some (.ref f__word_back)))
    (l__word_back : K.lookup f__word_back = some ⟨oc__word_back, od__word_back, .func (PySem.W.fnOf "_word_back" "_word_back" (defArgs s__word_back) (defBody s__word_back) (defScope s__word_back) .none kV__word_back dc__word_back pm__word_back an__word_back cd__word_back ct__word_back), sl__word_back⟩)
    (c__word_back : PySem.W.codeIn K cd__word_back "_word_back" = true) (k__word_back : PySem.W.keepIn K (.ref f__word_back) = true)
    (a_least_parts : PySem.W.nsIn K mainGlobals "least_parts" = some (some (.ref f_least_parts)))
    (l_least_parts : K.lookup f_least_parts = some ⟨oc_least_parts, od_least_parts, .func (PySem.W.fnOf "least_parts" "least_parts" (defArgs s_least_parts) (defBody s_least_parts) (defScope s_least_parts) (.ref dT_least_parts) kV_least_parts dc_least_parts pm_least_parts an_least_parts cd_least_parts ct_least_parts), sl_least_parts⟩)
    (c_least_parts : PySem.W.codeIn K cd_least_parts "least_parts" = true) (k_least_parts : PySem.W.keepIn K (.ref f_least_parts) = true)
    (v_least_parts : K.lookup dT_least_parts = some ⟨dc1_least_parts, dd1_least_parts, .seq #[.int 0 tk0_least_parts, .none] dn_least_parts, ds1_least_parts⟩)
    (a__classes : PySem.W.nsIn K mainGlobals "_classes" = some (some (.ref f__classes)))
    (l__classes : K.lookup f__classes = some ⟨oc__classes, od__classes, .func (PySem.W.fnOf "_classes" "_classes" (defArgs s__classes) (defBody s__classes) (defScope s__classes) .none kV__classes dc__classes pm__classes an__classes cd__classes ct__classes), sl__classes⟩)
    (c__classes : PySem.W.codeIn K cd__classes "_classes" = true) (k__classes : PySem.W.keepIn K (.ref f__classes) = true)
    (a__numbered : PySem.W.nsIn K mainGlobals "_numbered" = some (some (.ref f__numbered)))
    (l__numbered : K.lookup f__numbered = some ⟨oc__numbered, od__numbered, .func (PySem.W.fnOf "_numbered" "_numbered" (defArgs s__numbered) (defBody s__numbered) (defScope s__numbered) .none kV__numbered dc__numbered pm__numbered an__numbered cd__numbered ct__numbered), sl__numbered⟩)
    (c__numbered : PySem.W.codeIn K cd__numbered "_numbered" = true) (k__numbered : PySem.W.keepIn K (.ref f__numbered) = true)
    (a__how_many : PySem.W.nsIn K mainGlobals "_how_many" = some (some (.ref f__how_many)))
    (l__how_many : K.lookup f__how_many = some ⟨oc__how_many, od__how_many, .func (PySem.W.fnOf "_how_many" "_how_many" (defArgs s__how_many) (defBody s__how_many) (defScope s__how_many) .none kV__how_many dc__how_many pm__how_many an__how_many cd__how_many ct__how_many), sl__how_many⟩)
    (c__how_many : PySem.W.codeIn K cd__how_many "_how_many" = true) (k__how_many : PySem.W.keepIn K (.ref f__how_many) = true)
    (a_machine_of_parts : PySem.W.nsIn K mainGlobals "machine_of_parts" = some (some (.ref f_machine_of_parts)))
    (l_machine_of_parts : K.lookup f_machine_of_parts = some ⟨oc_machine_of_parts, od_machine_of_parts, .func (PySem.W.fnOf "machine_of_parts" "machine_of_parts" (defArgs s_machine_of_parts) (defBody s_machine_of_parts) (defScope s_machine_of_parts) .none kV_machine_of_parts dc_machine_of_parts pm_machine_of_parts an_machine_of_parts cd_machine_of_parts ct_machine_of_parts), sl_machine_of_parts⟩)
    (c_machine_of_parts : PySem.W.codeIn K cd_machine_of_parts "machine_of_parts" = true) (k_machine_of_parts : PySem.W.keepIn K (.ref f_machine_of_parts) = true)
    (a_says : PySem.W.nsIn K mainGlobals "says" = some (some (.ref f_says)))
    (l_says : K.lookup f_says = some ⟨oc_says, od_says, .func (PySem.W.fnOf "says" "says" (defArgs s_says) (defBody s_says) (defScope s_says) .none kV_says dc_says pm_says an_says cd_says ct_says), sl_says⟩)
    (c_says : PySem.W.codeIn K cd_says "says" = true) (k_says : PySem.W.keepIn K (.ref f_says) = true)
    (a_least : PySem.W.nsIn K mainGlobals "least" = some (some (.ref f_least)))
    (l_least : K.lookup f_least = some ⟨oc_least, od_least, .func (PySem.W.fnOf "least" "least" (defArgs s_least) (defBody s_least) (defScope s_least) .none kV_least dc_least pm_least an_least cd_least ct_least), sl_least⟩)
    (c_least : PySem.W.codeIn K cd_least "least" = true) (k_least : PySem.W.keepIn K (.ref f_least) = true)
    (a__is_table : PySem.W.nsIn K mainGlobals "_is_table" = some (some (.ref f__is_table)))
    (l__is_table : K.lookup f__is_table = some ⟨oc__is_table, od__is_table, .func (PySem.W.fnOf "_is_table" "_is_table" (defArgs s__is_table) (defBody s__is_table) (defScope s__is_table) .none kV__is_table dc__is_table pm__is_table an__is_table cd__is_table ct__is_table), sl__is_table⟩)
    (c__is_table : PySem.W.codeIn K cd__is_table "_is_table" = true) (k__is_table : PySem.W.keepIn K (.ref f__is_table) = true)
    (a__is_accepts : PySem.W.nsIn K mainGlobals "_is_accepts" = some (some (.ref f__is_accepts)))
    (l__is_accepts : K.lookup f__is_accepts = some ⟨oc__is_accepts, od__is_accepts, .func (PySem.W.fnOf "_is_accepts" "_is_accepts" (defArgs s__is_accepts) (defBody s__is_accepts) (defScope s__is_accepts) .none kV__is_accepts dc__is_accepts pm__is_accepts an__is_accepts cd__is_accepts ct__is_accepts), sl__is_accepts⟩)
    (c__is_accepts : PySem.W.codeIn K cd__is_accepts "_is_accepts" = true) (k__is_accepts : PySem.W.keepIn K (.ref f__is_accepts) = true)
    (a__is_states : PySem.W.nsIn K mainGlobals "_is_states" = some (some (.ref f__is_states)))
    (l__is_states : K.lookup f__is_states = some ⟨oc__is_states, od__is_states, .func (PySem.W.fnOf "_is_states" "_is_states" (defArgs s__is_states) (defBody s__is_states) (defScope s__is_states) .none kV__is_states dc__is_states pm__is_states an__is_states cd__is_states ct__is_states), sl__is_states⟩)
    (c__is_states : PySem.W.codeIn K cd__is_states "_is_states" = true) (k__is_states : PySem.W.keepIn K (.ref f__is_states) = true)
    (a_deed : PySem.W.nsIn K mainGlobals "deed" = some (some (.ref f_deed)))
    (l_deed : K.lookup f_deed = some ⟨oc_deed, od_deed, .func (PySem.W.fnOf "deed" "deed" (defArgs s_deed) (defBody s_deed) (defScope s_deed) .none kV_deed dc_deed pm_deed an_deed cd_deed ct_deed), sl_deed⟩)
    (c_deed : PySem.W.codeIn K cd_deed "deed" = true) (k_deed : PySem.W.keepIn K (.ref f_deed) = true)
    (a_strict_pairs : PySem.W.nsIn K mainGlobals "strict_pairs" = some (some (.ref f_strict_pairs)))
    (l_strict_pairs : K.lookup f_strict_pairs = some ⟨oc_strict_pairs, od_strict_pairs, .func (PySem.W.fnOf "strict_pairs" "strict_pairs" (defArgs s_strict_pairs) (defBody s_strict_pairs) (defScope s_strict_pairs) .none kV_strict_pairs dc_strict_pairs pm_strict_pairs an_strict_pairs cd_strict_pairs ct_strict_pairs), sl_strict_pairs⟩)
    (c_strict_pairs : PySem.W.codeIn K cd_strict_pairs "strict_pairs" = true) (k_strict_pairs : PySem.W.keepIn K (.ref f_strict_pairs) = true)
    (a_around_unlike : PySem.W.nsIn K mainGlobals "around_unlike" = some (some (.ref f_around_unlike)))
    (l_around_unlike : K.lookup f_around_unlike = some ⟨oc_around_unlike, od_around_unlike, .func (PySem.W.fnOf "around_unlike" "around_unlike" (defArgs s_around_unlike) (defBody s_around_unlike) (defScope s_around_unlike) .none kV_around_unlike dc_around_unlike pm_around_unlike an_around_unlike cd_around_unlike ct_around_unlike), sl_around_unlike⟩)
    (c_around_unlike : PySem.W.codeIn K cd_around_unlike "around_unlike" = true) (k_around_unlike : PySem.W.keepIn K (.ref f_around_unlike) = true)
    (a_fixed : PySem.W.nsIn K mainGlobals "fixed" = some (some (.ref f_fixed)))
    (l_fixed : K.lookup f_fixed = some ⟨oc_fixed, od_fixed, .func (PySem.W.fnOf "fixed" "fixed" (defArgs s_fixed) (defBody s_fixed) (defScope s_fixed) .none kV_fixed dc_fixed pm_fixed an_fixed cd_fixed ct_fixed), sl_fixed⟩)
    (c_fixed : PySem.W.codeIn K cd_fixed "fixed" = true) (k_fixed : PySem.W.keepIn K (.ref f_fixed) = true)
    (a_swap : PySem.W.nsIn K mainGlobals "swap" = some (some (.ref f_swap)))
    (l_swap : K.lookup f_swap = some ⟨oc_swap, od_swap, .func (PySem.W.fnOf "swap" "swap" (defArgs s_swap) (defBody s_swap) (defScope s_swap) .none kV_swap dc_swap pm_swap an_swap cd_swap ct_swap), sl_swap⟩)
    (c_swap : PySem.W.codeIn K cd_swap "swap" = true) (k_swap : PySem.W.keepIn K (.ref f_swap) = true)
    (a_swap_fault : PySem.W.nsIn K mainGlobals "swap_fault" = some (some (.ref f_swap_fault)))
    (l_swap_fault : K.lookup f_swap_fault = some ⟨oc_swap_fault, od_swap_fault, .func (PySem.W.fnOf "swap_fault" "swap_fault" (defArgs s_swap_fault) (defBody s_swap_fault) (defScope s_swap_fault) .none kV_swap_fault dc_swap_fault pm_swap_fault an_swap_fault cd_swap_fault ct_swap_fault), sl_swap_fault⟩)
    (c_swap_fault : PySem.W.codeIn K cd_swap_fault "swap_fault" = true) (k_swap_fault : PySem.W.keepIn K (.ref f_swap_fault) = true)
    (a__is_swap : PySem.W.nsIn K mainGlobals "_is_swap" = some (some (.ref f__is_swap)))
    (l__is_swap : K.lookup f__is_swap = some ⟨oc__is_swap, od__is_swap, .func (PySem.W.fnOf "_is_swap" "_is_swap" (defArgs s__is_swap) (defBody s__is_swap) (defScope s__is_swap) .none kV__is_swap dc__is_swap pm__is_swap an__is_swap cd__is_swap ct__is_swap), sl__is_swap⟩)
    (c__is_swap : PySem.W.codeIn K cd__is_swap "_is_swap" = true) (k__is_swap : PySem.W.keepIn K (.ref f__is_swap) = true)
    (a__law_hand : PySem.W.nsIn K mainGlobals "_law_hand" = some (some (.ref f__law_hand)))
    (l__law_hand : K.lookup f__law_hand = some ⟨oc__law_hand, od__law_hand, .func (PySem.W.fnOf "_law_hand" "_law_hand" (defArgs s__law_hand) (defBody s__law_hand) (defScope s__law_hand) .none kV__law_hand dc__law_hand pm__law_hand an__law_hand cd__law_hand ct__law_hand), sl__law_hand⟩)
    (c__law_hand : PySem.W.codeIn K cd__law_hand "_law_hand" = true) (k__law_hand : PySem.W.keepIn K (.ref f__law_hand) = true)
    (a__law_draw : PySem.W.nsIn K mainGlobals "_law_draw" = some (some (.ref f__law_draw)))
    (l__law_draw : K.lookup f__law_draw = some ⟨oc__law_draw, od__law_draw, .func (PySem.W.fnOf "_law_draw" "_law_draw" (defArgs s__law_draw) (defBody s__law_draw) (defScope s__law_draw) .none kV__law_draw dc__law_draw pm__law_draw an__law_draw cd__law_draw ct__law_draw), sl__law_draw⟩)
    (c__law_draw : PySem.W.codeIn K cd__law_draw "_law_draw" = true) (k__law_draw : PySem.W.keepIn K (.ref f__law_draw) = true)
    (a__law_letters : PySem.W.nsIn K mainGlobals "_law_letters" = some (some (.ref f__law_letters)))
    (l__law_letters : K.lookup f__law_letters = some ⟨oc__law_letters, od__law_letters, .func (PySem.W.fnOf "_law_letters" "_law_letters" (defArgs s__law_letters) (defBody s__law_letters) (defScope s__law_letters) .none kV__law_letters dc__law_letters pm__law_letters an__law_letters cd__law_letters ct__law_letters), sl__law_letters⟩)
    (c__law_letters : PySem.W.codeIn K cd__law_letters "_law_letters" = true) (k__law_letters : PySem.W.keepIn K (.ref f__law_letters) = true)
    (a__law_rows : PySem.W.nsIn K mainGlobals "_law_rows" = some (some (.ref f__law_rows)))
    (l__law_rows : K.lookup f__law_rows = some ⟨oc__law_rows, od__law_rows, .func (PySem.W.fnOf "_law_rows" "_law_rows" (defArgs s__law_rows) (defBody s__law_rows) (defScope s__law_rows) .none kV__law_rows dc__law_rows pm__law_rows an__law_rows cd__law_rows ct__law_rows), sl__law_rows⟩)
    (c__law_rows : PySem.W.codeIn K cd__law_rows "_law_rows" = true) (k__law_rows : PySem.W.keepIn K (.ref f__law_rows) = true)
    (a__law_shuffled : PySem.W.nsIn K mainGlobals "_law_shuffled" = some (some (.ref f__law_shuffled)))
    (l__law_shuffled : K.lookup f__law_shuffled = some ⟨oc__law_shuffled, od__law_shuffled, .func (PySem.W.fnOf "_law_shuffled" "_law_shuffled" (defArgs s__law_shuffled) (defBody s__law_shuffled) (defScope s__law_shuffled) .none kV__law_shuffled dc__law_shuffled pm__law_shuffled an__law_shuffled cd__law_shuffled ct__law_shuffled), sl__law_shuffled⟩)
    (c__law_shuffled : PySem.W.codeIn K cd__law_shuffled "_law_shuffled" = true) (k__law_shuffled : PySem.W.keepIn K (.ref f__law_shuffled) = true)
    (a__law_parts : PySem.W.nsIn K mainGlobals "_law_parts" = some (some (.ref f__law_parts)))
    (l__law_parts : K.lookup f__law_parts = some ⟨oc__law_parts, od__law_parts, .func (PySem.W.fnOf "_law_parts" "_law_parts" (defArgs s__law_parts) (defBody s__law_parts) (defScope s__law_parts) .none kV__law_parts dc__law_parts pm__law_parts an__law_parts cd__law_parts ct__law_parts), sl__law_parts⟩)
    (c__law_parts : PySem.W.codeIn K cd__law_parts "_law_parts" = true) (k__law_parts : PySem.W.keepIn K (.ref f__law_parts) = true)
    (a__law_classes : PySem.W.nsIn K mainGlobals "_law_classes" = some (some (.ref f__law_classes)))
    (l__law_classes : K.lookup f__law_classes = some ⟨oc__law_classes, od__law_classes, .func (PySem.W.fnOf "_law_classes" "_law_classes" (defArgs s__law_classes) (defBody s__law_classes) (defScope s__law_classes) .none kV__law_classes dc__law_classes pm__law_classes an__law_classes cd__law_classes ct__law_classes), sl__law_classes⟩)
    (c__law_classes : PySem.W.codeIn K cd__law_classes "_law_classes" = true) (k__law_classes : PySem.W.keepIn K (.ref f__law_classes) = true)
    (a__law_least : PySem.W.nsIn K mainGlobals "_law_least" = some (some (.ref f__law_least)))
    (l__law_least : K.lookup f__law_least = some ⟨oc__law_least, od__law_least, .func (PySem.W.fnOf "_law_least" "_law_least" (defArgs s__law_least) (defBody s__law_least) (defScope s__law_least) .none kV__law_least dc__law_least pm__law_least an__law_least cd__law_least ct__law_least), sl__law_least⟩)
    (c__law_least : PySem.W.codeIn K cd__law_least "_law_least" = true) (k__law_least : PySem.W.keepIn K (.ref f__law_least) = true)
    (a__law_deed : PySem.W.nsIn K mainGlobals "_law_deed" = some (some (.ref f__law_deed)))
    (l__law_deed : K.lookup f__law_deed = some ⟨oc__law_deed, od__law_deed, .func (PySem.W.fnOf "_law_deed" "_law_deed" (defArgs s__law_deed) (defBody s__law_deed) (defScope s__law_deed) .none kV__law_deed dc__law_deed pm__law_deed an__law_deed cd__law_deed ct__law_deed), sl__law_deed⟩)
    (c__law_deed : PySem.W.codeIn K cd__law_deed "_law_deed" = true) (k__law_deed : PySem.W.keepIn K (.ref f__law_deed) = true)
    (a__law_commutes : PySem.W.nsIn K mainGlobals "_law_commutes" = some (some (.ref f__law_commutes)))
    (l__law_commutes : K.lookup f__law_commutes = some ⟨oc__law_commutes, od__law_commutes, .func (PySem.W.fnOf "_law_commutes" "_law_commutes" (defArgs s__law_commutes) (defBody s__law_commutes) (defScope s__law_commutes) .none kV__law_commutes dc__law_commutes pm__law_commutes an__law_commutes cd__law_commutes ct__law_commutes), sl__law_commutes⟩)
    (c__law_commutes : PySem.W.codeIn K cd__law_commutes "_law_commutes" = true) (k__law_commutes : PySem.W.keepIn K (.ref f__law_commutes) = true)
    (a__law_says : PySem.W.nsIn K mainGlobals "_law_says" = some (some (.ref f__law_says)))
    (l__law_says : K.lookup f__law_says = some ⟨oc__law_says, od__law_says, .func (PySem.W.fnOf "_law_says" "_law_says" (defArgs s__law_says) (defBody s__law_says) (defScope s__law_says) .none kV__law_says dc__law_says pm__law_says an__law_says cd__law_says ct__law_says), sl__law_says⟩)
    (c__law_says : PySem.W.codeIn K cd__law_says "_law_says" = true) (k__law_says : PySem.W.keepIn K (.ref f__law_says) = true)
    (a__law_is_word : PySem.W.nsIn K mainGlobals "_law_is_word" = some (some (.ref f__law_is_word)))
    (l__law_is_word : K.lookup f__law_is_word = some ⟨oc__law_is_word, od__law_is_word, .func (PySem.W.fnOf "_law_is_word" "_law_is_word" (defArgs s__law_is_word) (defBody s__law_is_word) (defScope s__law_is_word) .none kV__law_is_word dc__law_is_word pm__law_is_word an__law_is_word cd__law_is_word ct__law_is_word), sl__law_is_word⟩)
    (c__law_is_word : PySem.W.codeIn K cd__law_is_word "_law_is_word" = true) (k__law_is_word : PySem.W.keepIn K (.ref f__law_is_word) = true)
    (a__law_swap_right : PySem.W.nsIn K mainGlobals "_law_swap_right" = some (some (.ref f__law_swap_right)))
    (l__law_swap_right : K.lookup f__law_swap_right = some ⟨oc__law_swap_right, od__law_swap_right, .func (PySem.W.fnOf "_law_swap_right" "_law_swap_right" (defArgs s__law_swap_right) (defBody s__law_swap_right) (defScope s__law_swap_right) .none kV__law_swap_right dc__law_swap_right pm__law_swap_right an__law_swap_right cd__law_swap_right ct__law_swap_right), sl__law_swap_right⟩)
    (c__law_swap_right : PySem.W.codeIn K cd__law_swap_right "_law_swap_right" = true) (k__law_swap_right : PySem.W.keepIn K (.ref f__law_swap_right) = true)
    (a_law : PySem.W.nsIn K mainGlobals "law" = some (some (.ref f_law)))
    (l_law : K.lookup f_law = some ⟨oc_law, od_law, .func (PySem.W.fnOf "law" "law" (defArgs s_law) (defBody s_law) (defScope s_law) .none kV_law dc_law pm_law an_law cd_law ct_law), sl_law⟩)
    (c_law : PySem.W.codeIn K cd_law "law" = true) (k_law : PySem.W.keepIn K (.ref f_law) = true)
    (z_range : PySem.W.nsIn K mainGlobals "range" = some none)
    (z_len : PySem.W.nsIn K mainGlobals "len" = some none)
    (z_abs : PySem.W.nsIn K mainGlobals "abs" = some none)
    (z_int : PySem.W.nsIn K mainGlobals "int" = some none)
    (z_str : PySem.W.nsIn K mainGlobals "str" = some none)
    (z_bool : PySem.W.nsIn K mainGlobals "bool" = some none)
    (z_list : PySem.W.nsIn K mainGlobals "list" = some none)
    (z_tuple : PySem.W.nsIn K mainGlobals "tuple" = some none)
    (z_dict : PySem.W.nsIn K mainGlobals "dict" = some none)
    (z_set : PySem.W.nsIn K mainGlobals "set" = some none)
    (z_isinstance : PySem.W.nsIn K mainGlobals "isinstance" = some none)
    (z_all : PySem.W.nsIn K mainGlobals "all" = some none)
    (z_any : PySem.W.nsIn K mainGlobals "any" = some none)
    (z_sum : PySem.W.nsIn K mainGlobals "sum" = some none)
    (z_max : PySem.W.nsIn K mainGlobals "max" = some none)
    (z_min : PySem.W.nsIn K mainGlobals "min" = some none)
    (z_sorted : PySem.W.nsIn K mainGlobals "sorted" = some none)
    (z_zip : PySem.W.nsIn K mainGlobals "zip" = some none)
    (z_enumerate : PySem.W.nsIn K mainGlobals "enumerate" = some none)
    (z_reversed : PySem.W.nsIn K mainGlobals "reversed" = some none)
    (a_Machine : PySem.W.nsIn K mainGlobals "Machine" = some (some (.ref CM)))
    (a_NoWord : PySem.W.nsIn K mainGlobals "NoWord" = some (some (.ref CNoWord)))
    (fi_Machine___init__ : PySem.W.findIn K (.ref CM) "__init__" = some (some (.ref f_Machine___init__)))
    (l_Machine___init__ : K.lookup f_Machine___init__ = some ⟨oc_Machine___init__, od_Machine___init__, .func (PySem.W.fnOf "__init__" "Machine.__init__" (defArgs s_Machine___init__) (defBody s_Machine___init__) (defScope s_Machine___init__) .none kV_Machine___init__ dc_Machine___init__ pm_Machine___init__ an_Machine___init__ cd_Machine___init__ ct_Machine___init__), sl_Machine___init__⟩)
    (c_Machine___init__ : PySem.W.codeIn K cd_Machine___init__ "Machine.__init__" = true)
    (k_Machine___init__ : PySem.W.keepIn K (.ref f_Machine___init__) = true)
    (fn_Machine___init__ : PySem.W.isFn K (.ref f_Machine___init__) = true)
    (fi_Machine_letters : PySem.W.findIn K (.ref CM) "letters" = some (some (.ref f_Machine_letters)))
    (l_Machine_letters : K.lookup f_Machine_letters = some ⟨oc_Machine_letters, od_Machine_letters, .func (PySem.W.fnOf "letters" "Machine.letters" (defArgs s_Machine_letters) (defBody s_Machine_letters) (defScope s_Machine_letters) .none kV_Machine_letters dc_Machine_letters pm_Machine_letters an_Machine_letters cd_Machine_letters ct_Machine_letters), sl_Machine_letters⟩)
    (c_Machine_letters : PySem.W.codeIn K cd_Machine_letters "Machine.letters" = true)
    (k_Machine_letters : PySem.W.keepIn K (.ref f_Machine_letters) = true)
    (fn_Machine_letters : PySem.W.isFn K (.ref f_Machine_letters) = true)
    (fi_Machine_table : PySem.W.findIn K (.ref CM) "table" = some (some (.ref f_Machine_table)))
    (l_Machine_table : K.lookup f_Machine_table = some ⟨oc_Machine_table, od_Machine_table, .func (PySem.W.fnOf "table" "Machine.table" (defArgs s_Machine_table) (defBody s_Machine_table) (defScope s_Machine_table) .none kV_Machine_table dc_Machine_table pm_Machine_table an_Machine_table cd_Machine_table ct_Machine_table), sl_Machine_table⟩)
    (c_Machine_table : PySem.W.codeIn K cd_Machine_table "Machine.table" = true)
    (k_Machine_table : PySem.W.keepIn K (.ref f_Machine_table) = true)
    (fn_Machine_table : PySem.W.isFn K (.ref f_Machine_table) = true)
    (fi_Machine_accepts : PySem.W.findIn K (.ref CM) "accepts" = some (some (.ref f_Machine_accepts)))
    (l_Machine_accepts : K.lookup f_Machine_accepts = some ⟨oc_Machine_accepts, od_Machine_accepts, .func (PySem.W.fnOf "accepts" "Machine.accepts" (defArgs s_Machine_accepts) (defBody s_Machine_accepts) (defScope s_Machine_accepts) .none kV_Machine_accepts dc_Machine_accepts pm_Machine_accepts an_Machine_accepts cd_Machine_accepts ct_Machine_accepts), sl_Machine_accepts⟩)
    (c_Machine_accepts : PySem.W.codeIn K cd_Machine_accepts "Machine.accepts" = true)
    (k_Machine_accepts : PySem.W.keepIn K (.ref f_Machine_accepts) = true)
    (fn_Machine_accepts : PySem.W.isFn K (.ref f_Machine_accepts) = true)
    (c_pg : PySem.W.plainGet K CM Str.empty = true)
    (c_hd : PySem.W.hasDictIn K CM = true)
    (c_po : PySem.W.plainOver K CM = true)
    (c_sa : PySem.W.findIn K (.ref CM) "__setattr__" = some (some (.builtin "object.__setattr__")))
    (n_letters : PySem.W.findIn K (.ref CM) "_letters" = some none)
    (n_table : PySem.W.findIn K (.ref CM) "_table" = some none)
    (n_accepts : PySem.W.findIn K (.ref CM) "_accepts" = some none)
    (h_makes : PySem.W.makesIn K CM = true)
    (kp_Machine : PySem.W.keepIn K (.ref CM) = true)
    (x_NoWord : PySem.W.excIn K CNoWord [.type "ValueError", .type "Exception", .type "BaseException", .type "object"] "ValueError.__new__" = true)
    (kp_NoWord : PySem.W.keepIn K (.ref CNoWord) = true)
    (b_NoWord : PySem.W.subIn K (.ref CNoWord) (.type "BaseException") = some true)
    (t_NoWord : PySem.W.typeIn K (.ref CNoWord) = some (.type "type"))
    (i_NoWord : PySem.W.isClsIn K CNoWord = true) :
    ∃ fd : FuncData, (∀ (s : Shared) (v : Value), BindsTo s fd ⟨[v], []⟩ [("_law_script", v)]) ∧ ∀ base : Heap, K.In base → base.Ns mainGlobals mg → FnOk l.prog w K mg base CX0 13 fa fd ["_law_script"] (spLaw K) := by
  have e := hfa.symm.trans (PySem.W.mg_of X G a_law)
  cases e
  have B : Bi mg := ⟨PySem.W.mg_none_of X G z_range, PySem.W.mg_none_of X G z_len, PySem.W.mg_none_of X G z_abs, PySem.W.mg_none_of X G z_int, PySem.W.mg_none_of X G z_str, PySem.W.mg_none_of X G z_bool, PySem.W.mg_none_of X G z_list, PySem.W.mg_none_of X G z_tuple, PySem.W.mg_none_of X G z_dict, PySem.W.mg_none_of X G z_set, PySem.W.mg_none_of X G z_isinstance, PySem.W.mg_none_of X G z_all, PySem.W.mg_none_of X G z_any, PySem.W.mg_none_of X G z_sum, PySem.W.mg_none_of X G z_max, PySem.W.mg_none_of X G z_min, PySem.W.mg_none_of X G z_sorted, PySem.W.mg_none_of X G z_zip, PySem.W.mg_none_of X G z_enumerate, PySem.W.mg_none_of X G z_reversed⟩
  have d_is_integer : DF K mg "is_integer" s_is_integer := ⟨_, _, fun_mk (st := s_is_integer) l_is_integer c_is_integer k_is_integer, PySem.W.mg_of X G a_is_integer⟩
  have d_is_between : DF K mg "is_between" s_is_between := ⟨_, _, fun_mk (st := s_is_between) l_is_between c_is_between k_is_between, PySem.W.mg_of X G a_is_between⟩
  have d_is_ascending : DF K mg "is_ascending" s_is_ascending := ⟨_, _, fun_mk (st := s_is_ascending) l_is_ascending c_is_ascending k_is_ascending, PySem.W.mg_of X G a_is_ascending⟩
  have d_is_letters : DF K mg "is_letters" s_is_letters := ⟨_, _, fun_mk (st := s_is_letters) l_is_letters c_is_letters k_is_letters, PySem.W.mg_of X G a_is_letters⟩
  have d_is_word : DF K mg "is_word" s_is_word := ⟨_, _, fun_mk (st := s_is_word) l_is_word c_is_word k_is_word, PySem.W.mg_of X G a_is_word⟩
  have d_is_letter : DF K mg "is_letter" s_is_letter := ⟨_, _, fun_mk (st := s_is_letter) l_is_letter c_is_letter k_is_letter, PySem.W.mg_of X G a_is_letter⟩
  have d_end_of : DF K mg "end_of" s_end_of := ⟨_, _, fun_mk (st := s_end_of) l_end_of c_end_of k_end_of, PySem.W.mg_of X G a_end_of⟩
  have d_ends_of : DF K mg "ends_of" s_ends_of := ⟨_, _, fun_mk (st := s_ends_of) l_ends_of c_ends_of k_ends_of, PySem.W.mg_of X G a_ends_of⟩
  have d_then : DF K mg "then" s_then := ⟨_, _, fun_mk (st := s_then) l_then c_then k_then, PySem.W.mg_of X G a_then⟩
  have d_reached : DD K mg "reached" s_reached [.int 0] := ⟨_, _, ⟨⟨_, _, _, _, _, _, _, _, _, _, rfl, l_reached, c_reached, .inr ⟨by simp, _, _, [.int 0 tk0_reached], _, rfl, v_reached, rfl, (.cons ⟨_, rfl⟩ .nil)⟩, .inl rfl⟩, k_reached⟩, PySem.W.mg_of X G a_reached⟩
  have d_first_words : DF K mg "first_words" s_first_words := ⟨_, _, fun_mk (st := s_first_words) l_first_words c_first_words k_first_words, PySem.W.mg_of X G a_first_words⟩
  have d_first_parting : DF K mg "first_parting" s_first_parting := ⟨_, _, fun_mk (st := s_first_parting) l_first_parting c_first_parting k_first_parting, PySem.W.mg_of X G a_first_parting⟩
  have d__word_back : DF K mg "_word_back" s__word_back := ⟨_, _, fun_mk (st := s__word_back) l__word_back c__word_back k__word_back, PySem.W.mg_of X G a__word_back⟩
  have d_least_parts : DD K mg "least_parts" s_least_parts [.int 0, .non] := ⟨_, _, ⟨⟨_, _, _, _, _, _, _, _, _, _, rfl, l_least_parts, c_least_parts, .inr ⟨by simp, _, _, [.int 0 tk0_least_parts, .none], _, rfl, v_least_parts, rfl, (.cons ⟨_, rfl⟩ (.cons rfl .nil))⟩, .inl rfl⟩, k_least_parts⟩, PySem.W.mg_of X G a_least_parts⟩
  have d__classes : DF K mg "_classes" s__classes := ⟨_, _, fun_mk (st := s__classes) l__classes c__classes k__classes, PySem.W.mg_of X G a__classes⟩
  have d__numbered : DF K mg "_numbered" s__numbered := ⟨_, _, fun_mk (st := s__numbered) l__numbered c__numbered k__numbered, PySem.W.mg_of X G a__numbered⟩
  have d__how_many : DF K mg "_how_many" s__how_many := ⟨_, _, fun_mk (st := s__how_many) l__how_many c__how_many k__how_many, PySem.W.mg_of X G a__how_many⟩
  have d_machine_of_parts : DF K mg "machine_of_parts" s_machine_of_parts := ⟨_, _, fun_mk (st := s_machine_of_parts) l_machine_of_parts c_machine_of_parts k_machine_of_parts, PySem.W.mg_of X G a_machine_of_parts⟩
  have d_says : DF K mg "says" s_says := ⟨_, _, fun_mk (st := s_says) l_says c_says k_says, PySem.W.mg_of X G a_says⟩
  have d_least : DF K mg "least" s_least := ⟨_, _, fun_mk (st := s_least) l_least c_least k_least, PySem.W.mg_of X G a_least⟩
  have d__is_table : DF K mg "_is_table" s__is_table := ⟨_, _, fun_mk (st := s__is_table) l__is_table c__is_table k__is_table, PySem.W.mg_of X G a__is_table⟩
  have d__is_accepts : DF K mg "_is_accepts" s__is_accepts := ⟨_, _, fun_mk (st := s__is_accepts) l__is_accepts c__is_accepts k__is_accepts, PySem.W.mg_of X G a__is_accepts⟩
  have d__is_states : DF K mg "_is_states" s__is_states := ⟨_, _, fun_mk (st := s__is_states) l__is_states c__is_states k__is_states, PySem.W.mg_of X G a__is_states⟩
  have d_deed : DF K mg "deed" s_deed := ⟨_, _, fun_mk (st := s_deed) l_deed c_deed k_deed, PySem.W.mg_of X G a_deed⟩
  have d_strict_pairs : DF K mg "strict_pairs" s_strict_pairs := ⟨_, _, fun_mk (st := s_strict_pairs) l_strict_pairs c_strict_pairs k_strict_pairs, PySem.W.mg_of X G a_strict_pairs⟩
  have d_around_unlike : DF K mg "around_unlike" s_around_unlike := ⟨_, _, fun_mk (st := s_around_unlike) l_around_unlike c_around_unlike k_around_unlike, PySem.W.mg_of X G a_around_unlike⟩
  have d_fixed : DF K mg "fixed" s_fixed := ⟨_, _, fun_mk (st := s_fixed) l_fixed c_fixed k_fixed, PySem.W.mg_of X G a_fixed⟩
  have d_swap : DF K mg "swap" s_swap := ⟨_, _, fun_mk (st := s_swap) l_swap c_swap k_swap, PySem.W.mg_of X G a_swap⟩
  have d_swap_fault : DF K mg "swap_fault" s_swap_fault := ⟨_, _, fun_mk (st := s_swap_fault) l_swap_fault c_swap_fault k_swap_fault, PySem.W.mg_of X G a_swap_fault⟩
  have d__is_swap : DF K mg "_is_swap" s__is_swap := ⟨_, _, fun_mk (st := s__is_swap) l__is_swap c__is_swap k__is_swap, PySem.W.mg_of X G a__is_swap⟩
  have d__law_hand : DF K mg "_law_hand" s__law_hand := ⟨_, _, fun_mk (st := s__law_hand) l__law_hand c__law_hand k__law_hand, PySem.W.mg_of X G a__law_hand⟩
  have d__law_draw : DF K mg "_law_draw" s__law_draw := ⟨_, _, fun_mk (st := s__law_draw) l__law_draw c__law_draw k__law_draw, PySem.W.mg_of X G a__law_draw⟩
  have d__law_letters : DF K mg "_law_letters" s__law_letters := ⟨_, _, fun_mk (st := s__law_letters) l__law_letters c__law_letters k__law_letters, PySem.W.mg_of X G a__law_letters⟩
  have d__law_rows : DF K mg "_law_rows" s__law_rows := ⟨_, _, fun_mk (st := s__law_rows) l__law_rows c__law_rows k__law_rows, PySem.W.mg_of X G a__law_rows⟩
  have d__law_shuffled : DF K mg "_law_shuffled" s__law_shuffled := ⟨_, _, fun_mk (st := s__law_shuffled) l__law_shuffled c__law_shuffled k__law_shuffled, PySem.W.mg_of X G a__law_shuffled⟩
  have d__law_parts : DF K mg "_law_parts" s__law_parts := ⟨_, _, fun_mk (st := s__law_parts) l__law_parts c__law_parts k__law_parts, PySem.W.mg_of X G a__law_parts⟩
  have d__law_classes : DF K mg "_law_classes" s__law_classes := ⟨_, _, fun_mk (st := s__law_classes) l__law_classes c__law_classes k__law_classes, PySem.W.mg_of X G a__law_classes⟩
  have d__law_least : DF K mg "_law_least" s__law_least := ⟨_, _, fun_mk (st := s__law_least) l__law_least c__law_least k__law_least, PySem.W.mg_of X G a__law_least⟩
  have d__law_deed : DF K mg "_law_deed" s__law_deed := ⟨_, _, fun_mk (st := s__law_deed) l__law_deed c__law_deed k__law_deed, PySem.W.mg_of X G a__law_deed⟩
  have d__law_commutes : DF K mg "_law_commutes" s__law_commutes := ⟨_, _, fun_mk (st := s__law_commutes) l__law_commutes c__law_commutes k__law_commutes, PySem.W.mg_of X G a__law_commutes⟩
  have d__law_says : DF K mg "_law_says" s__law_says := ⟨_, _, fun_mk (st := s__law_says) l__law_says c__law_says k__law_says, PySem.W.mg_of X G a__law_says⟩
  have d__law_is_word : DF K mg "_law_is_word" s__law_is_word := ⟨_, _, fun_mk (st := s__law_is_word) l__law_is_word c__law_is_word k__law_is_word, PySem.W.mg_of X G a__law_is_word⟩
  have d__law_swap_right : DF K mg "_law_swap_right" s__law_swap_right := ⟨_, _, fun_mk (st := s__law_swap_right) l__law_swap_right c__law_swap_right k__law_swap_right, PySem.W.mg_of X G a__law_swap_right⟩

  refine ⟨PySem.W.fnOf "law" "law" (defArgs s_law) (defBody s_law) (defScope s_law) .none kV_law dc_law pm_law an_law cd_law ct_law, fun s v => .of_eq rfl, fun base _ _ => ?_⟩
  have T : MTxt K CM := ⟨⟨c_pg, c_hd, c_po, c_sa⟩, n_letters, n_table, n_accepts⟩
  have d_Machine___init__ : MF K CM "__init__" "Machine.__init__" s_Machine___init__ := ⟨_, _, fun_mk (st := s_Machine___init__) l_Machine___init__ c_Machine___init__ k_Machine___init__, fi_Machine___init__, fn_Machine___init__⟩
  have d_Machine_letters : MF K CM "letters" "Machine.letters" s_Machine_letters := ⟨_, _, fun_mk (st := s_Machine_letters) l_Machine_letters c_Machine_letters k_Machine_letters, fi_Machine_letters, fn_Machine_letters⟩
  have d_Machine_table : MF K CM "table" "Machine.table" s_Machine_table := ⟨_, _, fun_mk (st := s_Machine_table) l_Machine_table c_Machine_table k_Machine_table, fi_Machine_table, fn_Machine_table⟩
  have d_Machine_accepts : MF K CM "accepts" "Machine.accepts" s_Machine_accepts := ⟨_, _, fun_mk (st := s_Machine_accepts) l_Machine_accepts c_Machine_accepts k_Machine_accepts, fi_Machine_accepts, fn_Machine_accepts⟩
  have g_Machine := PySem.W.mg_of X G a_Machine
  have T_NoWord : OwnX K mg "NoWord" CNoWord := ⟨⟨_, _, _, PySem.F.excBase_ValueError, x_NoWord⟩, PySem.W.mg_of X G a_NoWord, kp_NoWord, b_NoWord, t_NoWord⟩
  have t_is_integer := Y.c_is_integer (P := l.prog) (w := w) (base := base) d_is_integer B
  have t_is_between := Y.c_is_between (P := l.prog) (w := w) (base := base) d_is_between B t_is_integer
  have t_is_ascending := Y.c_is_ascending (P := l.prog) (w := w) (base := base) d_is_ascending B
  have t_is_letters := Y.c_is_letters (P := l.prog) (w := w) (base := base) d_is_letters B t_is_ascending
  have t_is_states := Y.c__is_states (P := l.prog) (w := w) (base := base) d__is_states B t_is_between
  have t_is_table := Y.c__is_table (P := l.prog) (w := w) (base := base) d__is_table B t_is_states
  have t_is_accepts := Y.c__is_accepts (P := l.prog) (w := w) (base := base) d__is_accepts B t_is_states t_is_ascending
  have t_Machine := Y.m_Machine (P := l.prog) (w := w) (base := base) T g_Machine h_makes kp_Machine d_Machine___init__ B t_is_letters t_is_table t_is_accepts
  have t_letters := Y.c_Machine_letters (P := l.prog) (w := w) (base := base) (mg := mg) T d_Machine_letters
  have t_table := Y.c_Machine_table (P := l.prog) (w := w) (base := base) (mg := mg) T d_Machine_table
  have t_accepts := Y.c_Machine_accepts (P := l.prog) (w := w) (base := base) (mg := mg) T d_Machine_accepts
  have t_reached := Y.c_reached (P := l.prog) (w := w) (base := base) d_reached B
  have t_numbered := Y.c__numbered (P := l.prog) (w := w) (base := base) d__numbered B
  have t_how := Y.c__how_many (P := l.prog) (w := w) (base := base) d__how_many B
  have t_classes := Y.c__classes (P := l.prog) (w := w) (base := base) d__classes B t_numbered t_how
  have t_lp := Y.c_least_parts (P := l.prog) (w := w) (base := base) d_least_parts B t_reached.2 t_classes
  have t_mop := Y.c_machine_of_parts (P := l.prog) (w := w) (base := base) d_machine_of_parts B T t_Machine
  have t_least := Y.c_least (P := l.prog) (w := w) (base := base) d_least B t_letters t_table t_accepts t_lp t_mop
  have t_hand := Y.c__law_hand (P := l.prog) (w := w) (base := base) d__law_hand B
  have t_draw := Y.c__law_draw (P := l.prog) (w := w) (base := base) d__law_draw B
  have t_lletters := Y.c__law_letters (P := l.prog) (w := w) (base := base) d__law_letters B t_draw
  have t_shuf := Y.c__law_shuffled (P := l.prog) (w := w) (base := base) d__law_shuffled B t_draw
  have t_rows := Y.c__law_rows (P := l.prog) (w := w) (base := base) d__law_rows B t_draw t_shuf
  have t_parts := Y.c__law_parts35 (P := l.prog) (w := w) (base := base) d__law_parts B t_draw t_lletters t_rows
  have t_is_word := Y.c_is_word (P := l.prog) (w := w) (base := base) d_is_word B
  have t_end_of := Y.c_end_of (P := l.prog) (w := w) (base := base) d_end_of B
  have t_ends_of := Y.c_ends_ofW (P := l.prog) (w := w) (base := base) d_ends_of B t_end_of
  have t_then := Y.c_thenW (P := l.prog) (w := w) (base := base) d_then B
  have t_says := Y.c_saysB (P := l.prog) (w := w) (base := base) d_says B T_NoWord t_letters t_table t_accepts t_is_word t_end_of
  have t_deed := Y.c_deedW (P := l.prog) (w := w) (base := base) d_deed B T_NoWord t_letters t_is_word t_least t_table t_ends_of
  have t_back := Y.c__word_back (P := l.prog) (w := w) (base := base) d__word_back B
  have t_fp := Y.c_first_parting (P := l.prog) (w := w) (base := base) d_first_parting B t_letters t_table t_accepts t_back
  have t_fw := Y.c_first_words (P := l.prog) (w := w) (base := base) d_first_words B t_reached.1
  have t_strict := Y.c_strict_pairs (P := l.prog) (w := w) (base := base) d_strict_pairs B t_letters t_table t_least t_ends_of t_then
  have t_around := Y.c_around_unlike (P := l.prog) (w := w) (base := base) d_around_unlike B t_letters t_table t_least t_deed t_fw t_fp
  have t_swap := Y.c_swap (P := l.prog) (w := w) (base := base) d_swap B t_strict t_around t_says
  have t_isl := Y.c_is_letter (P := l.prog) (w := w) (base := base) d_is_letter B t_is_word
  have t_iss := Y.c__is_swap (P := l.prog) (w := w) (base := base) d__is_swap B t_isl t_is_word
  have t_sf := Y.c_swap_fault (P := l.prog) (w := w) (base := base) d_swap_fault B t_letters t_iss t_says
  have t_fixed := Y.c_fixed (P := l.prog) (w := w) (base := base) d_fixed B t_strict
  have t_lcl := Y.c__law_classesK (P := l.prog) (w := w) (base := base) d__law_classes B
  have t_lle := Y.c__law_leastK (P := l.prog) (w := w) (base := base) d__law_least B t_lcl
  have t_ldeed := Y.c__law_deedK (P := l.prog) (w := w) (base := base) d__law_deed B
  have t_lcom := Y.c__law_commutes (P := l.prog) (w := w) (base := base) d__law_commutes B t_ldeed
  have t_liw := Y.c__law_is_wordK (P := l.prog) (w := w) (base := base) d__law_is_word B
  have t_lsays := Y.c__law_saysW (P := l.prog) (w := w) (base := base) d__law_says B
  have t_lsr := Y.c__law_swap_right (P := l.prog) (w := w) (base := base) d__law_swap_right B t_lle t_Machine t_lcom (Y.swapV t_swap) t_fixed t_liw t_lsays t_sf
  exact Y.ok_law (fun_mk (st := s_law) l_law c_law k_law) B t_hand t_parts t_lsr
theorem walk {l : PySem.W.OpenLaw} {q : Program} {loose : List Str} {XP : (Str → Option Value) → Heap → Prop} {YP : World → Heap → Prop} {d : DefRec} {K : Params → PySem.W.Frag} (hn : l.most = some 63) (hdf : d.params.defaults = [])
    (hY : ∀ (w : World) (h : Heap), YP w h → (K w.params).In h)
    (F : ∀ (w : World) (mg : Str → Option Value) (fa : Addr) (h : Heap), (K w.params).In h → h.Ns mainGlobals mg → mg d.name = some (.ref fa) →
      ∃ fd : FuncData, (∀ (s : Shared) (u : Value), BindsTo s fd ⟨[u], []⟩ [("_law_script", u)]) ∧ ∀ base : Heap, (K w.params).In base → base.Ns mainGlobals mg → FnOk l.prog w (K w.params) mg base CX0 13 fa fd ["_law_script"] (spLaw (K w.params))) :
    PySem.W.WalkO q loose XP YP l.row.toRowW d [] (fun f vs => PySem.call f vs) :=
  L2.walk_of (n := 63) (k := 13) (x := "_law_script") (CX := fun _ => CX0) (sp := fun w => spLaw (K w.params)) hn (by decide) hdf ⟨rfl, by decide, by decide⟩ hY F (fun _ _ a ns hl _ hS => ⟨a, ns, rfl, hS, hl, fun _ => rfl⟩) fun _ _ _ _ _ z => z
end Y
open PySem PySem.W PyProof.Rows
set_option maxRecDepth 100000 in
set_option maxHeartbeats 0 in
theorem PySem.Challenge.cw_saidacross_k29_letters_that_change_place_holds : PySem.Challenge.rw_saidacross_k29_letters_that_change_place.Holds := by
  w_on; o_law; k_head; (case hw => w_witness2)
  k_fill
  refine Y.walk (l := PySem.Challenge.rw_saidacross_k29_letters_that_change_place) rfl rfl (fun w h Y => PySem.W.kIn_of Y) ?F
  case F =>
    intro w mg fa h KX G hmg
    refine' Y.all_mk KX G hmg ?a_is_integer ?l_is_integer ?c_is_integer ?k_is_integer ?a_is_between ?l_is_between ?c_is_between ?k_is_between ?a_is_ascending ?l_is_ascending ?c_is_ascending ?k_is_ascending ?a_is_letters ?l_is_letters ?c_is_letters ?k_is_letters ?a_is_word ?l_is_word ?c_is_word ?k_is_word ?a_is_letter ?l_is_letter ?c_is_letter ?k_is_letter ?a_end_of ?l_end_of ?c_end_of ?k_end_of ?a_ends_of ?l_ends_of ?c_ends_of ?k_ends_of ?a_then ?l_then ?c_then ?k_then ?a_reached ?l_reached ?c_reached ?k_reached ?v_reached ?a_first_words ?l_first_words ?c_first_words ?k_first_words ?a_first_parting ?l_first_parting ?c_first_parting ?k_first_parting ?a__word_back ?l__word_back ?c__word_back ?k__word_back ?a_least_parts ?l_least_parts ?c_least_parts ?k_least_parts ?v_least_parts ?a__classes ?l__classes ?c__classes ?k__classes ?a__numbered ?l__numbered ?c__numbered ?k__numbered ?a__how_many ?l__how_many ?c__how_many ?k__how_many ?a_machine_of_parts ?l_machine_of_parts ?c_machine_of_parts ?k_machine_of_parts ?a_says ?l_says ?c_says ?k_says ?a_least ?l_least ?c_least ?k_least ?a__is_table ?l__is_table ?c__is_table ?k__is_table ?a__is_accepts ?l__is_accepts ?c__is_accepts ?k__is_accepts ?a__is_states ?l__is_states ?c__is_states ?k__is_states ?a_deed ?l_deed ?c_deed ?k_deed ?a_strict_pairs ?l_strict_pairs ?c_strict_pairs ?k_strict_pairs ?a_around_unlike ?l_around_unlike ?c_around_unlike ?k_around_unlike ?a_fixed ?l_fixed ?c_fixed ?k_fixed ?a_swap ?l_swap ?c_swap ?k_swap ?a_swap_fault ?l_swap_fault ?c_swap_fault ?k_swap_fault ?a__is_swap ?l__is_swap ?c__is_swap ?k__is_swap ?a__law_hand ?l__law_hand ?c__law_hand ?k__law_hand ?a__law_draw ?l__law_draw ?c__law_draw ?k__law_draw ?a__law_letters ?l__law_letters ?c__law_letters ?k__law_letters ?a__law_rows ?l__law_rows ?c__law_rows ?k__law_rows ?a__law_shuffled ?l__law_shuffled ?c__law_shuffled ?k__law_shuffled ?a__law_parts ?l__law_parts ?c__law_parts ?k__law_parts ?a__law_classes ?l__law_classes ?c__law_classes ?k__law_classes ?a__law_least ?l__law_least ?c__law_least ?k__law_least ?a__law_deed ?l__law_deed ?c__law_deed ?k__law_deed ?a__law_commutes ?l__law_commutes ?c__law_commutes ?k__law_commutes ?a__law_says ?l__law_says ?c__law_says ?k__law_says ?a__law_is_word ?l__law_is_word ?c__law_is_word ?k__law_is_word ?a__law_swap_right ?l__law_swap_right ?c__law_swap_right ?k__law_swap_right ?a_law ?l_law ?c_law ?k_law ?z_range ?z_len ?z_abs ?z_int ?z_str ?z_bool ?z_list ?z_tuple ?z_dict ?z_set ?z_isinstance ?z_all ?z_any ?z_sum ?z_max ?z_min ?z_sorted ?z_zip ?z_enumerate ?z_reversed ?a_Machine ?a_NoWord ?fi_Machine___init__ ?l_Machine___init__ ?c_Machine___init__ ?k_Machine___init__ ?fn_Machine___init__ ?fi_Machine_letters ?l_Machine_letters ?c_Machine_letters ?k_Machine_letters ?fn_Machine_letters ?fi_Machine_table ?l_Machine_table ?c_Machine_table ?k_Machine_table ?fn_Machine_table ?fi_Machine_accepts ?l_Machine_accepts ?c_Machine_accepts ?k_Machine_accepts ?fn_Machine_accepts ?c_pg ?c_hd ?c_po ?c_sa ?n_letters ?n_table ?n_accepts ?h_makes ?kp_Machine ?x_NoWord ?kp_NoWord ?b_NoWord ?t_NoWord ?i_NoWord
    (case a_is_integer => k_is)
    (case l_is_integer => k_is)
    (case c_is_integer => k_is)
    (case k_is_integer => k_is)
    (case a_is_between => k_is)
    (case l_is_between => k_is)
    (case c_is_between => k_is)
    (case k_is_between => k_is)
    (case a_is_ascending => k_is)
    (case l_is_ascending => k_is)
    (case c_is_ascending => k_is)
    (case k_is_ascending => k_is)
    (case a_is_letters => k_is)
    (case l_is_letters => k_is)
    (case c_is_letters => k_is)
    (case k_is_letters => k_is)
    (case a_is_word => k_is)
    (case l_is_word => k_is)
    (case c_is_word => k_is)
    (case k_is_word => k_is)
    (case a_is_letter => k_is)
    (case l_is_letter => k_is)
    (case c_is_letter => k_is)
    (case k_is_letter => k_is)
    (case a_end_of => k_is)
    (case l_end_of => k_is)
    (case c_end_of => k_is)
    (case k_end_of => k_is)
    (case a_ends_of => k_is)
    (case l_ends_of => k_is)
    (case c_ends_of => k_is)
    (case k_ends_of => k_is)
    (case a_then => k_is)
    (case l_then => k_is)
    (case c_then => k_is)
    (case k_then => k_is)
    (case a_reached => k_is)
    (case l_reached => k_is)
    (case c_reached => k_is)
    (case k_reached => k_is)
    (case v_reached => k_is)
    (case a_first_words => k_is)
    (case l_first_words => k_is)
    (case c_first_words => k_is)
    (case k_first_words => k_is)
    (case a_first_parting => k_is)
    (case l_first_parting => k_is)
    (case c_first_parting => k_is)
    (case k_first_parting => k_is)
    (case a__word_back => k_is)
    (case l__word_back => k_is)
    (case c__word_back => k_is)
    (case k__word_back => k_is)
    (case a_least_parts => k_is)
    (case l_least_parts => k_is)
    (case c_least_parts => k_is)
    (case k_least_parts => k_is)
    (case v_least_parts => k_is)
    (case a__classes => k_is)
    (case l__classes => k_is)
    (case c__classes => k_is)
    (case k__classes => k_is)
    (case a__numbered => k_is)
    (case l__numbered => k_is)
    (case c__numbered => k_is)
    (case k__numbered => k_is)
    (case a__how_many => k_is)
    (case l__how_many => k_is)
    (case c__how_many => k_is)
    (case k__how_many => k_is)
    (case a_machine_of_parts => k_is)
    (case l_machine_of_parts => k_is)
    (case c_machine_of_parts => k_is)
    (case k_machine_of_parts => k_is)
    (case a_says => k_is)
    (case l_says => k_is)
    (case c_says => k_is)
    (case k_says => k_is)
    (case a_least => k_is)
    (case l_least => k_is)
    (case c_least => k_is)
    (case k_least => k_is)
    (case a__is_table => k_is)
    (case l__is_table => k_is)
    (case c__is_table => k_is)
    (case k__is_table => k_is)
    (case a__is_accepts => k_is)
    (case l__is_accepts => k_is)
    (case c__is_accepts => k_is)
    (case k__is_accepts => k_is)
    (case a__is_states => k_is)
    (case l__is_states => k_is)
    (case c__is_states => k_is)
    (case k__is_states => k_is)
    (case a_deed => k_is)
    (case l_deed => k_is)
    (case c_deed => k_is)
    (case k_deed => k_is)
    (case a_strict_pairs => k_is)
    (case l_strict_pairs => k_is)
    (case c_strict_pairs => k_is)
    (case k_strict_pairs => k_is)
    (case a_around_unlike => k_is)
    (case l_around_unlike => k_is)
    (case c_around_unlike => k_is)
    (case k_around_unlike => k_is)
    (case a_fixed => k_is)
    (case l_fixed => k_is)
    (case c_fixed => k_is)
    (case k_fixed => k_is)
    (case a_swap => k_is)
    (case l_swap => k_is)
    (case c_swap => k_is)
    (case k_swap => k_is)
    (case a_swap_fault => k_is)
    (case l_swap_fault => k_is)
    (case c_swap_fault => k_is)
    (case k_swap_fault => k_is)
    (case a__is_swap => k_is)
    (case l__is_swap => k_is)
    (case c__is_swap => k_is)
    (case k__is_swap => k_is)
    (case a__law_hand => k_is)
    (case l__law_hand => k_is)
    (case c__law_hand => k_is)
    (case k__law_hand => k_is)
    (case a__law_draw => k_is)
    (case l__law_draw => k_is)
    (case c__law_draw => k_is)
    (case k__law_draw => k_is)
    (case a__law_letters => k_is)
    (case l__law_letters => k_is)
    (case c__law_letters => k_is)
    (case k__law_letters => k_is)
    (case a__law_rows => k_is)
    (case l__law_rows => k_is)
    (case c__law_rows => k_is)
    (case k__law_rows => k_is)
    (case a__law_shuffled => k_is)
    (case l__law_shuffled => k_is)
    (case c__law_shuffled => k_is)
    (case k__law_shuffled => k_is)
    (case a__law_parts => k_is)
    (case l__law_parts => k_is)
    (case c__law_parts => k_is)
    (case k__law_parts => k_is)
    (case a__law_classes => k_is)
    (case l__law_classes => k_is)
    (case c__law_classes => k_is)
    (case k__law_classes => k_is)
    (case a__law_least => k_is)
    (case l__law_least => k_is)
    (case c__law_least => k_is)
    (case k__law_least => k_is)
    (case a__law_deed => k_is)
    (case l__law_deed => k_is)
    (case c__law_deed => k_is)
    (case k__law_deed => k_is)
    (case a__law_commutes => k_is)
    (case l__law_commutes => k_is)
    (case c__law_commutes => k_is)
    (case k__law_commutes => k_is)
    (case a__law_says => k_is)
    (case l__law_says => k_is)
    (case c__law_says => k_is)
    (case k__law_says => k_is)
    (case a__law_is_word => k_is)
    (case l__law_is_word => k_is)
    (case c__law_is_word => k_is)
    (case k__law_is_word => k_is)
    (case a__law_swap_right => k_is)
    (case l__law_swap_right => k_is)
    (case c__law_swap_right => k_is)
    (case k__law_swap_right => k_is)
    (case a_law => k_is)
    (case l_law => k_is)
    (case c_law => k_is)
    (case k_law => k_is)
    (case z_range => k_is)
    (case z_len => k_is)
    (case z_abs => k_is)
    (case z_int => k_is)
    (case z_str => k_is)
    (case z_bool => k_is)
    (case z_list => k_is)
    (case z_tuple => k_is)
    (case z_dict => k_is)
    (case z_set => k_is)
    (case z_isinstance => k_is)
    (case z_all => k_is)
    (case z_any => k_is)
    (case z_sum => k_is)
    (case z_max => k_is)
    (case z_min => k_is)
    (case z_sorted => k_is)
    (case z_zip => k_is)
    (case z_enumerate => k_is)
    (case z_reversed => k_is)
    (case a_Machine => k_is)
    (case a_NoWord => k_is)
    (case fi_Machine___init__ => k_is)
    (case l_Machine___init__ => k_is)
    (case c_Machine___init__ => k_is)
    (case k_Machine___init__ => k_is)
    (case fn_Machine___init__ => k_is)
    (case fi_Machine_letters => k_is)
    (case l_Machine_letters => k_is)
    (case c_Machine_letters => k_is)
    (case k_Machine_letters => k_is)
    (case fn_Machine_letters => k_is)
    (case fi_Machine_table => k_is)
    (case l_Machine_table => k_is)
    (case c_Machine_table => k_is)
    (case k_Machine_table => k_is)
    (case fn_Machine_table => k_is)
    (case fi_Machine_accepts => k_is)
    (case l_Machine_accepts => k_is)
    (case c_Machine_accepts => k_is)
    (case k_Machine_accepts => k_is)
    (case fn_Machine_accepts => k_is)
    (case c_pg => first | rfl | k_is)
    (case c_hd => k_is)
    (case c_po => k_is)
    (case c_sa => k_is)
    (case n_letters => k_is)
    (case n_table => k_is)
    (case n_accepts => k_is)
    (case h_makes => k_is)
    (case kp_Machine => k_is)
    (case x_NoWord => k_exc)
    (case kp_NoWord => k_is)
    (case b_NoWord => k_is)
    (case t_NoWord => k_is)
    (case i_NoWord => k_is)
