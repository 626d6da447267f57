import PyProof.Rows.All
import Wide.All
import OpenK.AllK
import Wide.FinOn
import HandS.ForMost
import HandS.ForExc
import HandS.StrMore
import HandS.Zip
import HandS.IsInst
import HandS.Conv
import HandS.Codes
import HandS.Evl
import HandS.Wide
import HandS.Replace
import HandS.Walk
import HandS.More
import HandS.TupAny
import KE.GoesZip
import KE.GoesMore
import PySem.Challenge.RW_saidacross_k07_plain_sayings_of_words
set_option Elab.async false
set_option linter.all false
set_option maxRecDepth 100000
set_option maxHeartbeats 4000000
namespace Z
open PySem PySem.Spec PyProof.Rows L2
open C8 (tCut pss_cut Cal pe_c Met pe_mt pe_mt0 Mak pe_mk)
/-! ### texts as lists of codes -/
abbrev S (l : List Nat) : Str := ⟨l.toArray⟩
abbrev codes (w : Str) : List Nat := w.cps.toList
theorem S_codes (w : Str) : S (codes w) = w := rfl
theorem codes_S (l : List Nat) : codes (S l) = l := rfl
theorem S_len (l : List Nat) : (S l).length = l.length := by show l.toArray.size = _; simp
theorem S_inj {a b : List Nat} (h : S a = S b) : a = b := by
  have := congrArg codes h
  simpa using this
theorem S_app (a b : List Nat) : S a ++ S b = S (a ++ b) := by
  show (⟨a.toArray ++ b.toArray⟩ : Str) = _
  simp [S]
/-! ### readings under names, and how one goes into them -/
def zAdd : R2 := rI0 fun i j => .int (i + j)
def zSub : R2 := rI0 fun i j => .int (i - j)
def zMul : R2 := rI CMul fun i j => .int (i * j)
def zMod : R2 := rI (fun _ j => 0 < j) fun i j => .int (i % j)
def zDiv : R2 := rI CDivW fun i j => .int (i / j)
def zPow : R2 := rI CPow fun i j => .int (i ^ Int.toNat j)
def zAddS : R2 := fun x y H Q => ∃ i j : Str, x = V.str i ∧ y = V.str j ∧ i.length + j.length ≤ sizeLine ∧ Q (V.str (i ++ j)) H
def zLt : R2 := rI0 fun i j => .bl (decide (i < j))
def zLe : R2 := rI0 fun i j => .bl (decide (i ≤ j))
def zGt : R2 := rI0 fun i j => .bl (decide (j < i))
def zGe : R2 := rI0 fun i j => .bl (decide (j ≤ i))
def zLtS : R2 := fun x y H Q => ∃ i j : Str, x = V.str i ∧ y = V.str j ∧ Q (V.bl (decide (i.cps.toList < j.cps.toList))) H
def zLeS : R2 := fun x y H Q => ∃ i j : Str, x = V.str i ∧ y = V.str j ∧ Q (V.bl (!decide (j.cps.toList < i.cps.toList))) H
def zInS : R2 := fun x y H Q => ∃ (c : Nat) (z : Str), x = V.str ⟨#[c]⟩ ∧ y = V.str z ∧ Q (V.bl (decide (c ∈ z.cps.toList))) H
def zNInS : R2 := fun x y H Q => ∃ (c : Nat) (z : Str), x = V.str ⟨#[c]⟩ ∧ y = V.str z ∧ Q (V.bl (!decide (c ∈ z.cps.toList))) H
section
variable {X : Cx}
theorem z_add : OpR X (binaryOp .Add) zAdd := op_add
theorem z_sub : OpR X (binaryOp .Sub) zSub := op_sub
theorem z_mul : OpR X (binaryOp .Mult) zMul := op_mul
theorem z_mod : OpR X (binaryOp .Mod) zMod := op_mod
theorem z_div : OpR X (binaryOp .FloorDiv) zDiv := op_fdivW
theorem z_pow : OpR X (binaryOp .Pow) zPow := op_pow
theorem z_adds : OpR X (binaryOp .Add) zAddS := op_add_str
theorem z_lt : OpR X (compareOp .Lt) zLt := op_lt
theorem z_le : OpR X (compareOp .LtE) zLe := op_le
theorem z_gt : OpR X (compareOp .Gt) zGt := op_gt
theorem z_ge : OpR X (compareOp .GtE) zGe := op_ge
theorem z_lts : OpR X (compareOp .Lt) zLtS := op_lt_str
theorem z_les : OpR X (compareOp .LtE) zLeS := op_le_str
theorem z_ins : OpR X (compareOp .In) zInS := op_in_sign
theorem z_nins : OpR X (compareOp .NotIn) zNInS := op_notIn_sign
end
/-- what a boolean value is for what follows -/
def KB (x : V) (P : Bool → Prop) : Prop := ∃ c, x = V.bl c ∧ P c
theorem i_KB {b : Bool} {P : Bool → Prop} (h : P b) : KB (.bl b) P := ⟨b, rfl, h⟩
section
variable {σ : L2.St} {H : Hp} {Q : VK} {D : Ends} {K : PySem.W.Frag} {ta tb tc te : TE} {t u : TS} {r r' : R2} {i j : Int} {a b : List Nat} {x y v : V} {P : V → Hp → Prop}
theorem i_var {n : Nat} (h : σ[n]? = some (some v)) (q : Q v H) : tVar n σ H Q := ⟨v, h, q⟩
theorem i_c (q : Q v H) : tC v σ H Q := q
theorem i_cs {w : Str} (q : Q (.str (S (codes w))) H) : tC (.str w) σ H Q := q
theorem i_op (q : ta σ H fun x H1 => tb σ H1 fun y H2 => r x y H2 Q) : tOp r ta tb σ H Q := q
theorem i_un {r : V → Hp → VK → Prop} (q : ta σ H fun x H1 => r x H1 Q) : tUn r ta σ H Q := q
theorem i_add (q : Q (.int (i + j)) H) : zAdd (.int i) (.int j) H Q := ⟨i, j, rfl, rfl, q⟩
theorem i_sub (q : Q (.int (i - j)) H) : zSub (.int i) (.int j) H Q := ⟨i, j, rfl, rfl, q⟩
theorem i_mul (h : -2 ^ 64 < i ∧ i < 2 ^ 64 ∨ -2 ^ 64 < j ∧ j < 2 ^ 64) (q : Q (.int (i * j)) H) : zMul (.int i) (.int j) H Q := ⟨i, j, rfl, rfl, h, q⟩
theorem i_mod (h : 0 < j) (q : Q (.int (i % j)) H) : zMod (.int i) (.int j) H Q := ⟨i, j, rfl, rfl, h, q⟩
theorem i_div (h : CDivW i j) (q : Q (.int (i / j)) H) : zDiv (.int i) (.int j) H Q := ⟨i, j, rfl, rfl, h, q⟩
theorem i_pow (h : CPow i j) (q : Q (.int (i ^ Int.toNat j)) H) : zPow (.int i) (.int j) H Q := ⟨i, j, rfl, rfl, h, q⟩
theorem i_adds (h : a.length + b.length ≤ 100000) (q : Q (.str (S (a ++ b))) H) : zAddS (.str (S a)) (.str (S b)) H Q :=
  ⟨_, _, rfl, rfl, by rw [S_len, S_len]; exact Nat.le_trans h (by decide), by rw [S_app]; exact q⟩
theorem i_lt (q : Q (.bl (decide (i < j))) H) : zLt (.int i) (.int j) H Q := ⟨i, j, rfl, rfl, q⟩
theorem i_le (q : Q (.bl (decide (i ≤ j))) H) : zLe (.int i) (.int j) H Q := ⟨i, j, rfl, rfl, q⟩
theorem i_gt (q : Q (.bl (decide (j < i))) H) : zGt (.int i) (.int j) H Q := ⟨i, j, rfl, rfl, q⟩
theorem i_ge (q : Q (.bl (decide (j ≤ i))) H) : zGe (.int i) (.int j) H Q := ⟨i, j, rfl, rfl, q⟩
theorem i_lts (q : Q (.bl (decide (a < b))) H) : zLtS (.str (S a)) (.str (S b)) H Q := ⟨_, _, rfl, rfl, q⟩
theorem i_les (q : Q (.bl (!decide (b < a))) H) : zLeS (.str (S a)) (.str (S b)) H Q := ⟨_, _, rfl, rfl, q⟩
theorem i_ins {c : Nat} (q : Q (.bl (decide (c ∈ a))) H) : zInS (.str (S [c])) (.str (S a)) H Q := ⟨c, S a, rfl, rfl, q⟩
theorem i_nins {c : Nat} (q : Q (.bl (!decide (c ∈ a))) H) : zNInS (.str (S [c])) (.str (S a)) H Q := ⟨c, S a, rfl, rfl, q⟩
theorem i_eqI (q : Q (.bl (decide (i = j))) H) : rEq (.int i) (.int j) H Q := ⟨rfl, by have e : decide (V.int i = V.int j) = decide (i = j) := by simp
                                                                                       rw [e]; exact q⟩
theorem i_neI (q : Q (.bl (!decide (i = j))) H) : rNe (.int i) (.int j) H Q := ⟨rfl, by have e : decide (V.int i = V.int j) = decide (i = j) := by simp
                                                                                        rw [e]; exact q⟩
theorem eq_S : decide (V.str (S a) = V.str (S b)) = decide (a = b) := by
  by_cases h : a = b
  · subst h; simp
  · rw [decide_eq_false h]; exact decide_eq_false fun e => h (S_inj (V.str.inj e))
theorem i_eqS (q : Q (.bl (decide (a = b))) H) : rEq (.str (S a)) (.str (S b)) H Q := ⟨rfl, by rw [eq_S]; exact q⟩
theorem i_neS (q : Q (.bl (!decide (a = b))) H) : rNe (.str (S a)) (.str (S b)) H Q := ⟨rfl, by rw [eq_S]; exact q⟩
theorem i_eqB {c d : Bool} (q : Q (.bl (decide (c = d))) H) : rEq (.bl c) (.bl d) H Q := ⟨rfl, by have e : decide (V.bl c = V.bl d) = decide (c = d) := by simp
                                                                                                  rw [e]; exact q⟩
theorem i_neg (q : Q (.int (-i)) H) : rU (fun i => V.int (-i)) (.int i) H Q := ⟨i, rfl, q⟩
/-! booleans as values -/
theorem i_and (q : ta σ H fun x H1 => KB x fun c => if c = true then tb σ H1 Q else Q (.bl false) H1) : tAndV ta tb σ H Q := q
theorem i_or (q : ta σ H fun x H1 => KB x fun c => if c = true then Q (.bl true) H1 else tb σ H1 Q) : tOrV ta tb σ H Q := q
theorem i_not (q : ta σ H fun x H1 => KB x fun c => Q (.bl (!c)) H1) : tNotV ta σ H Q := q
theorem i_chain (q : ta σ H fun x H1 => tb σ H1 fun y H2 => r x y H2 fun z H3 => KB z fun k => if k = true then tc σ H3 fun w' H4 => r' y w' H4 Q else Q (.bl false) H3) : tChain r r' ta tb tc σ H Q := q
theorem i_tB {R : Bool → Hp → Prop} (q : te σ H fun x H1 => KB x fun c => R c H1) : tB te σ H R := q
theorem i_ifS {c : TT} (q : c σ H fun b H1 => if b = true then t D σ H1 else u D σ H1) : tIfS c t u D σ H := q
theorem i_if {c : TT} (q : c σ H fun b H1 => if b = true then ta σ H1 Q else tb σ H1 Q) : tIf c ta tb σ H Q := q
theorem i_test {R : Bool → Hp → Prop} (q : te σ H fun x H1 => KB x fun c => R c H1) : tTest te σ H R := q
theorem i_tand {c d : TT} {R : Bool → Hp → Prop} (q : c σ H fun b H1 => if b = true then d σ H1 R else R false H1) : tAnd c d σ H R := q
theorem i_tor {c d : TT} {R : Bool → Hp → Prop} (q : c σ H fun b H1 => if b = true then R true H1 else d σ H1 R) : tOr c d σ H R := q
theorem i_tnot {c : TT} {R : Bool → Hp → Prop} (q : c σ H fun b H1 => R (!b) H1) : tNot c σ H R := q
theorem brb {c : Bool} {A B : Prop} (h1 : c = true → A) (h2 : c = false → B) : if c = true then A else B := by
  cases c
  · exact iteF (h2 rfl)
  · exact iteT (h1 rfl)
theorem brd {p : Prop} [Decidable p] {A B : Prop} (h1 : p → A) (h2 : ¬ p → B) : if decide p = true then A else B := by
  by_cases h : p
  · rw [decide_eq_true h]; exact iteT (h1 h)
  · rw [decide_eq_false h]; exact iteF (h2 h)
theorem brn {p : Prop} [Decidable p] {A B : Prop} (h1 : ¬ p → A) (h2 : p → B) : if (!decide p) = true then A else B := by
  by_cases h : p
  · rw [decide_eq_true h]; exact iteF (h2 h)
  · rw [decide_eq_false h]; exact iteT (h1 h)
/-! arguments, calls, displays -/
theorem i_nil {R : List V → Hp → Prop} (q : R [] H) : tNil σ H R := q
theorem i_cons {tr : TA} {R : List V → Hp → Prop} (q : ta σ H fun x H1 => tr σ H1 fun xs H2 => R (x :: xs) H2) : tCons ta tr σ H R := q
theorem i_call {sp : Sp} {dvs : List V} {E : XK} {t : TA} (q : t σ H fun vs H1 => sp (vs ++ dvs) H1 Q E) : tCall sp dvs E t σ H Q := q
theorem i_cb {r : List V → Hp → VK → Prop} {t : TA} (q : t σ H fun vs H1 => r vs H1 Q) : tCB r t σ H Q := q
theorem i_tup {t : TA} (q : t σ H fun xs H1 => xs.length ≤ sizeLine ∧ ∀ p, H1 p = none → Q (.ref p) (upd H1 p (.tup xs))) : tTup t σ H Q := q
theorem i_lst {t : TA} (q : t σ H fun xs H1 => xs.length ≤ sizeLine ∧ ∀ p, H1 p = none → Q (.ref p) (upd H1 p (.lst xs))) : tLst t σ H Q := q
theorem i_bm {T : String} {r : V → List V → Hp → VK → Prop} {t : TA} (q : ta σ H fun x H1 => tyV K T x H1 ∧ t σ H1 fun xs H2 => r x xs H2 Q) : tBM K T r ta t σ H Q := q
theorem i_bm0 {T : String} {r : V → List V → Hp → VK → Prop} (q : ta σ H fun x H1 => tyV K T x H1 ∧ r x [] H1 Q) : tBM0 K T r ta σ H Q := q
theorem i_sl {r : V → Option Int → Option Int → Hp → VK → Prop} {tl th : TO} (q : te σ H fun x H1 => tl σ H1 fun l H2 => th σ H2 fun u H3 => r x l u H3 Q) : L2.tSl r te tl th σ H Q := q
theorem i_po0 {R : Option Int → Hp → Prop} (q : R none H) : tNoPart σ H R := q
def KI (x : V) (P : Int → Prop) : Prop := ∃ i, x = V.int i ∧ P i
theorem i_KI {P : Int → Prop} (h : P i) : KI (.int i) P := ⟨i, rfl, h⟩
theorem i_po1 {R : Option Int → Hp → Prop} (q : te σ H fun x H1 => KI x fun i => R (some i) H1) : tPart te σ H R := q
/-! statements -/
theorem i_seq (q : t { D with nx := u D } σ H) : tSeq t u D σ H := q
theorem i_next (q : D.nx σ H) : tNext D σ H := q
theorem i_asg {g : TG} (q : te σ H fun x H1 => g x σ H1 D.nx) : tAsg te g D σ H := q
theorem i_gname {n : Nat} {R : L2.St → Hp → Prop} (q : R (σ.set n (some v)) H) : gName n v σ H R := q
theorem i_ret (q : te σ H D.rt) : tRet te D σ H := q
theorem i_retN (q : D.rt .non H) : tRetN D σ H := q
theorem i_drop (q : te σ H fun _ H1 => D.nx σ H1) : tDrop te D σ H := q
theorem i_brk (q : D.bk σ H) : tBreak D σ H := q
theorem i_cont (q : D.ct σ H) : tCont D σ H := q
theorem i_gsub {to ti : TE} {s : TSet} {R : L2.St → Hp → Prop} (q : to σ H fun o H1 => ti σ H1 fun i H2 => s o i v H2 fun H3 => R σ H3) : gSub to ti s v σ H R := q
/-! loops -/
def FOR (J : It) (g : TG) (tb : TS) (D : Ends) (σ : L2.St) (H : Hp) : Prop := ∃ W : Nat → Nat → L2.St → Hp → Prop, (∃ m, W 0 m σ H) ∧ ∀ i m σ H, W i m σ H →
  (J.stop i H ∧ D.nx σ H) ∨ (J.go i H ∧ ∃ N : L2.St → Hp → Prop, (∀ σ' H', N σ' H' → ∃ m', m' < m ∧ W (i + 1) m' σ' H') ∧ ∀ x H', J.yld i H x H' → g x σ H' fun σ2 H2 => tb { D with nx := N, ct := N, bk := D.nx } σ2 H2)
theorem i_for {wi : TI} {g : TG} {tb : TS} (q : wi σ H fun J H1 => FOR J g tb D σ H1) : tFor wi g tb D σ H := q
def LC (J : It) (g : TG) (tt : TT) (te : TE) (vs : List Nat) (σ : L2.St) (H1 : Hp) (Q : VK) (D : Addr) : Prop := ∃ W : Nat → Nat → Hp → Prop, (∃ m, W 0 m (upd H1 D (.lst []))) ∧ ∀ i m H, W i m H →
  (J.stop i H ∧ Q (.ref D) H) ∨ (J.go i H ∧ ∃ Nx : Hp → Prop, (∀ H', Nx H' → ∃ m', m' < m ∧ W (i + 1) m' H') ∧ ∀ x H', J.yld i H x H' → g x (wipe σ vs) H' fun σ2 H2 => wipe σ2 vs = wipe σ vs ∧ tt σ2 H2 fun b H3 =>
    if b = true then te σ2 H3 fun y H4 => ∃ acc, H4 D = some (.lst acc) ∧ acc.length < sizeLine ∧ Nx (upd H4 D (.lst (acc ++ [y]))) else Nx H3)
theorem i_lc {wi : TI} {g : TG} {tt : TT} {vs : List Nat} (q : wi σ H fun J H1 => ∀ D, H1 D = none → LC J g tt te vs σ H1 Q D) : tLc wi g tt te vs σ H Q := q
theorem i_yes {R : Bool → Hp → Prop} (q : R true H) : tYes σ H R := q
def KR1 (vs : List V) (P : Int → Prop) : Prop := ∃ j : Int, vs = [.int j] ∧ -(2 ^ 62) ≤ j ∧ j < 2 ^ 62 ∧ P j
theorem i_r1 {ta : TA} {R : It → Hp → Prop} (q : ta σ H fun vs H1 => KR1 vs fun j => R (Itr 0 j.toNat) H1) : iRng1 ta σ H R := q
theorem i_KR1 {P : Int → Prop} (h : -100000 ≤ j ∧ j ≤ 100000) (q : P j) : KR1 [.int j] P := ⟨j, rfl, by omega, by omega, q⟩
def KS (x : V) (P : Str → Prop) : Prop := ∃ z, x = V.str z ∧ P z
theorem i_KS {P : Str → Prop} (q : P (S a)) : KS (.str (S a)) P := ⟨_, rfl, q⟩
theorem i_istr {R : It → Hp → Prop} (q : te σ H fun x H1 => KS x fun z => R (Its z) H1) : iStr te σ H R := q
def KL (K : PySem.W.Frag) (x : V) (H1 : Hp) (P : Addr → Prop) : Prop := ∃ a, x = V.ref a ∧ (∃ xs, SqL K H1 a xs) ∧ P a
theorem i_ilist {R : It → Hp → Prop} (q : te σ H fun x H1 => KL K x H1 fun a => R (Itl K a) H1) : iList K te σ H R := q
theorem i_KL {a : Addr} {xs : List V} {P : Addr → Prop} (h : SqL K H a xs) (q : P a) : KL K (.ref a) H P := ⟨a, rfl, ⟨xs, h⟩, q⟩
def KT (K : PySem.W.Frag) (x : V) (H1 : Hp) (P : Addr → Prop) : Prop := ∃ a, x = V.ref a ∧ (∃ xs, SqT K H1 a xs) ∧ P a
theorem i_itup {R : It → Hp → Prop} (q : te σ H fun x H1 => KT K x H1 fun a => R (Itt K a) H1) : iTup K te σ H R := q
theorem i_KT {a : Addr} {xs : List V} {P : Addr → Prop} (h : SqT K H a xs) (q : P a) : KT K (.ref a) H P := ⟨a, rfl, ⟨xs, h⟩, q⟩
theorem l_for {J : It} {n : Nat} {G : Hp → Prop} {Y : Nat → Hp → V → Hp → Prop} (w : Walk J n G Y) {g : TG} {tb : TS} (Pv : Nat → L2.St → Hp → Prop) (h0 : Pv 0 σ H) (hG : ∀ i σ H, i ≤ n → Pv i σ H → G H)
    (hs : ∀ i x σ H H', i < n → Pv i σ H → Y i H x H' → g x σ H' fun σ2 H2 => tb { D with nx := Pv (i + 1), ct := Pv (i + 1), bk := D.nx } σ2 H2) (hd : ∀ σ H, Pv n σ H → D.nx σ H) : FOR J g tb D σ H :=
  for_it w Pv h0 hG hs hd
theorem l_range {n : Nat} {g : TG} {tb : TS} (Pv : Nat → L2.St → Hp → Prop) (h0 : Pv 0 σ H)
    (hs : ∀ i σ H, i < n → Pv i σ H → g (.int i) σ H fun σ2 H2 => tb { D with nx := Pv (i + 1), ct := Pv (i + 1), bk := D.nx } σ2 H2) (hd : ∀ σ H, Pv n σ H → D.nx σ H) : FOR (Itr 0 n) g tb D σ H :=
  for_range (lo := 0) Pv h0 (fun i σ H hi p => by rw [Int.zero_add]; exact hs i σ H hi p) hd
theorem l_str {g : TG} {tb : TS} (Pv : Nat → L2.St → Hp → Prop) (h0 : Pv 0 σ H)
    (hs : ∀ i c σ H, a[i]? = some c → Pv i σ H → g (.str (S [c])) σ H fun σ2 H2 => tb { D with nx := Pv (i + 1), ct := Pv (i + 1), bk := D.nx } σ2 H2) (hd : ∀ σ H, Pv a.length σ H → D.nx σ H) : FOR (Its (S a)) g tb D σ H :=
  for_it walk_str Pv h0 (fun _ _ _ _ _ => trivial) (fun i x σ H H' hi p y => by
    obtain ⟨e, c, hc, ex⟩ := y
    subst e; subst ex
    exact hs i c σ _ (by simpa using hc) p) fun σ H p => hd σ H (by simpa using p)
theorem l_lc {J : It} {n : Nat} {G : Hp → Prop} {Y : Nat → Hp → V → Hp → Prop} (w : Walk J n G Y) {g : TG} {tt : TT} {te : TE} {vs : List Nat} {Dl : Addr} (Pv : Nat → Hp → Prop) (h0 : Pv 0 (upd H Dl (.lst []))) (hG : ∀ i H, i ≤ n → Pv i H → G H)
    (hs : ∀ i x H H', i < n → Pv i H → Y i H x H' → g x (wipe σ vs) H' fun σ2 H2 => wipe σ2 vs = wipe σ vs ∧ tt σ2 H2 fun b H3 =>
      if b = true then te σ2 H3 fun y H4 => ∃ acc, H4 Dl = some (.lst acc) ∧ acc.length < sizeLine ∧ Pv (i + 1) (upd H4 Dl (.lst (acc ++ [y]))) else Pv (i + 1) H3) (hd : ∀ H, Pv n H → Q (.ref Dl) H) : LC J g tt te vs σ H Q Dl :=
  lc_it w Pv h0 hG hs hd
theorem l_lcstr {g : TG} {tt : TT} {te : TE} {vs : List Nat} {Dl : Addr} (Pv : Nat → Hp → Prop) (h0 : Pv 0 (upd H Dl (.lst [])))
    (hs : ∀ i c H, a[i]? = some c → Pv i H → g (.str (S [c])) (wipe σ vs) H fun σ2 H2 => wipe σ2 vs = wipe σ vs ∧ tt σ2 H2 fun b H3 =>
      if b = true then te σ2 H3 fun y H4 => ∃ acc, H4 Dl = some (.lst acc) ∧ acc.length < sizeLine ∧ Pv (i + 1) (upd H4 Dl (.lst (acc ++ [y]))) else Pv (i + 1) H3) (hd : ∀ H, Pv a.length H → Q (.ref Dl) H) : LC (Its (S a)) g tt te vs σ H Q Dl :=
  lc_it walk_str Pv h0 (fun _ _ _ _ => trivial) (fun i x H H' hi p y => by
    obtain ⟨e, c, hc, ex⟩ := y
    subst e; subst ex
    exact hs i c _ (by simpa using hc) p) fun H p => hd H (by simpa using p)
end
end Z
namespace Z
open PySem PySem.Spec PyProof.Rows L2
open C8 (tCut pss_cut Cal pe_c Met pe_mt pe_mt0 Mak pe_mk)
section
variable {H : Hp} {Q : VK} {v : V} {R : L2.St → Hp → Prop} {y : Option V} {r : L2.St}
theorem i_v0 (q : Q v H) : tVar 0 (some v :: r) H Q := ⟨v, rfl, q⟩
theorem i_g0 (q : R (some v :: r) H) : gName 0 v (y :: r) H R := q
theorem i_v1 {x0 : Option V} (q : Q v H) : tVar 1 (x0 :: some v :: r) H Q := ⟨v, rfl, q⟩
theorem i_g1 {x0 : Option V} (q : R (x0 :: some v :: r) H) : gName 1 v (x0 :: y :: r) H R := q
theorem i_v2 {x0 x1 : Option V} (q : Q v H) : tVar 2 (x0 :: x1 :: some v :: r) H Q := ⟨v, rfl, q⟩
theorem i_g2 {x0 x1 : Option V} (q : R (x0 :: x1 :: some v :: r) H) : gName 2 v (x0 :: x1 :: y :: r) H R := q
theorem i_v3 {x0 x1 x2 : Option V} (q : Q v H) : tVar 3 (x0 :: x1 :: x2 :: some v :: r) H Q := ⟨v, rfl, q⟩
theorem i_g3 {x0 x1 x2 : Option V} (q : R (x0 :: x1 :: x2 :: some v :: r) H) : gName 3 v (x0 :: x1 :: x2 :: y :: r) H R := q
theorem i_v4 {x0 x1 x2 x3 : Option V} (q : Q v H) : tVar 4 (x0 :: x1 :: x2 :: x3 :: some v :: r) H Q := ⟨v, rfl, q⟩
theorem i_g4 {x0 x1 x2 x3 : Option V} (q : R (x0 :: x1 :: x2 :: x3 :: some v :: r) H) : gName 4 v (x0 :: x1 :: x2 :: x3 :: y :: r) H R := q
theorem i_v5 {x0 x1 x2 x3 x4 : Option V} (q : Q v H) : tVar 5 (x0 :: x1 :: x2 :: x3 :: x4 :: some v :: r) H Q := ⟨v, rfl, q⟩
theorem i_g5 {x0 x1 x2 x3 x4 : Option V} (q : R (x0 :: x1 :: x2 :: x3 :: x4 :: some v :: r) H) : gName 5 v (x0 :: x1 :: x2 :: x3 :: x4 :: y :: r) H R := q
theorem i_v6 {x0 x1 x2 x3 x4 x5 : Option V} (q : Q v H) : tVar 6 (x0 :: x1 :: x2 :: x3 :: x4 :: x5 :: some v :: r) H Q := ⟨v, rfl, q⟩
theorem i_g6 {x0 x1 x2 x3 x4 x5 : Option V} (q : R (x0 :: x1 :: x2 :: x3 :: x4 :: x5 :: some v :: r) H) : gName 6 v (x0 :: x1 :: x2 :: x3 :: x4 :: x5 :: y :: r) H R := q
theorem i_v7 {x0 x1 x2 x3 x4 x5 x6 : Option V} (q : Q v H) : tVar 7 (x0 :: x1 :: x2 :: x3 :: x4 :: x5 :: x6 :: some v :: r) H Q := ⟨v, rfl, q⟩
theorem i_g7 {x0 x1 x2 x3 x4 x5 x6 : Option V} (q : R (x0 :: x1 :: x2 :: x3 :: x4 :: x5 :: x6 :: some v :: r) H) : gName 7 v (x0 :: x1 :: x2 :: x3 :: x4 :: x5 :: x6 :: y :: r) H R := q
theorem i_v8 {x0 x1 x2 x3 x4 x5 x6 x7 : Option V} (q : Q v H) : tVar 8 (x0 :: x1 :: x2 :: x3 :: x4 :: x5 :: x6 :: x7 :: some v :: r) H Q := ⟨v, rfl, q⟩
theorem i_g8 {x0 x1 x2 x3 x4 x5 x6 x7 : Option V} (q : R (x0 :: x1 :: x2 :: x3 :: x4 :: x5 :: x6 :: x7 :: some v :: r) H) : gName 8 v (x0 :: x1 :: x2 :: x3 :: x4 :: x5 :: x6 :: x7 :: y :: r) H R := q
theorem i_v9 {x0 x1 x2 x3 x4 x5 x6 x7 x8 : Option V} (q : Q v H) : tVar 9 (x0 :: x1 :: x2 :: x3 :: x4 :: x5 :: x6 :: x7 :: x8 :: some v :: r) H Q := ⟨v, rfl, q⟩
theorem i_g9 {x0 x1 x2 x3 x4 x5 x6 x7 x8 : Option V} (q : R (x0 :: x1 :: x2 :: x3 :: x4 :: x5 :: x6 :: x7 :: x8 :: some v :: r) H) : gName 9 v (x0 :: x1 :: x2 :: x3 :: x4 :: x5 :: x6 :: x7 :: x8 :: y :: r) H R := q
theorem i_v10 {x0 x1 x2 x3 x4 x5 x6 x7 x8 x9 : Option V} (q : Q v H) : tVar 10 (x0 :: x1 :: x2 :: x3 :: x4 :: x5 :: x6 :: x7 :: x8 :: x9 :: some v :: r) H Q := ⟨v, rfl, q⟩
theorem i_g10 {x0 x1 x2 x3 x4 x5 x6 x7 x8 x9 : Option V} (q : R (x0 :: x1 :: x2 :: x3 :: x4 :: x5 :: x6 :: x7 :: x8 :: x9 :: some v :: r) H) : gName 10 v (x0 :: x1 :: x2 :: x3 :: x4 :: x5 :: x6 :: x7 :: x8 :: x9 :: y :: r) H R := q
theorem i_v11 {x0 x1 x2 x3 x4 x5 x6 x7 x8 x9 x10 : Option V} (q : Q v H) : tVar 11 (x0 :: x1 :: x2 :: x3 :: x4 :: x5 :: x6 :: x7 :: x8 :: x9 :: x10 :: some v :: r) H Q := ⟨v, rfl, q⟩
theorem i_g11 {x0 x1 x2 x3 x4 x5 x6 x7 x8 x9 x10 : Option V} (q : R (x0 :: x1 :: x2 :: x3 :: x4 :: x5 :: x6 :: x7 :: x8 :: x9 :: x10 :: some v :: r) H) : gName 11 v (x0 :: x1 :: x2 :: x3 :: x4 :: x5 :: x6 :: x7 :: x8 :: x9 :: x10 :: y :: r) H R := q
theorem i_v12 {x0 x1 x2 x3 x4 x5 x6 x7 x8 x9 x10 x11 : Option V} (q : Q v H) : tVar 12 (x0 :: x1 :: x2 :: x3 :: x4 :: x5 :: x6 :: x7 :: x8 :: x9 :: x10 :: x11 :: some v :: r) H Q := ⟨v, rfl, q⟩
theorem i_g12 {x0 x1 x2 x3 x4 x5 x6 x7 x8 x9 x10 x11 : Option V} (q : R (x0 :: x1 :: x2 :: x3 :: x4 :: x5 :: x6 :: x7 :: x8 :: x9 :: x10 :: x11 :: some v :: r) H) : gName 12 v (x0 :: x1 :: x2 :: x3 :: x4 :: x5 :: x6 :: x7 :: x8 :: x9 :: x10 :: x11 :: y :: r) H R := q
theorem i_v13 {x0 x1 x2 x3 x4 x5 x6 x7 x8 x9 x10 x11 x12 : Option V} (q : Q v H) : tVar 13 (x0 :: x1 :: x2 :: x3 :: x4 :: x5 :: x6 :: x7 :: x8 :: x9 :: x10 :: x11 :: x12 :: some v :: r) H Q := ⟨v, rfl, q⟩
theorem i_g13 {x0 x1 x2 x3 x4 x5 x6 x7 x8 x9 x10 x11 x12 : Option V} (q : R (x0 :: x1 :: x2 :: x3 :: x4 :: x5 :: x6 :: x7 :: x8 :: x9 :: x10 :: x11 :: x12 :: some v :: r) H) : gName 13 v (x0 :: x1 :: x2 :: x3 :: x4 :: x5 :: x6 :: x7 :: x8 :: x9 :: x10 :: x11 :: x12 :: y :: r) H R := q
theorem i_v14 {x0 x1 x2 x3 x4 x5 x6 x7 x8 x9 x10 x11 x12 x13 : Option V} (q : Q v H) : tVar 14 (x0 :: x1 :: x2 :: x3 :: x4 :: x5 :: x6 :: x7 :: x8 :: x9 :: x10 :: x11 :: x12 :: x13 :: some v :: r) H Q := ⟨v, rfl, q⟩
theorem i_g14 {x0 x1 x2 x3 x4 x5 x6 x7 x8 x9 x10 x11 x12 x13 : Option V} (q : R (x0 :: x1 :: x2 :: x3 :: x4 :: x5 :: x6 :: x7 :: x8 :: x9 :: x10 :: x11 :: x12 :: x13 :: some v :: r) H) : gName 14 v (x0 :: x1 :: x2 :: x3 :: x4 :: x5 :: x6 :: x7 :: x8 :: x9 :: x10 :: x11 :: x12 :: x13 :: y :: r) H R := q
theorem i_v15 {x0 x1 x2 x3 x4 x5 x6 x7 x8 x9 x10 x11 x12 x13 x14 : Option V} (q : Q v H) : tVar 15 (x0 :: x1 :: x2 :: x3 :: x4 :: x5 :: x6 :: x7 :: x8 :: x9 :: x10 :: x11 :: x12 :: x13 :: x14 :: some v :: r) H Q := ⟨v, rfl, q⟩
theorem i_g15 {x0 x1 x2 x3 x4 x5 x6 x7 x8 x9 x10 x11 x12 x13 x14 : Option V} (q : R (x0 :: x1 :: x2 :: x3 :: x4 :: x5 :: x6 :: x7 :: x8 :: x9 :: x10 :: x11 :: x12 :: x13 :: x14 :: some v :: r) H) : gName 15 v (x0 :: x1 :: x2 :: x3 :: x4 :: x5 :: x6 :: x7 :: x8 :: x9 :: x10 :: x11 :: x12 :: x13 :: x14 :: y :: r) H R := q
theorem i_v16 {x0 x1 x2 x3 x4 x5 x6 x7 x8 x9 x10 x11 x12 x13 x14 x15 : Option V} (q : Q v H) : tVar 16 (x0 :: x1 :: x2 :: x3 :: x4 :: x5 :: x6 :: x7 :: x8 :: x9 :: x10 :: x11 :: x12 :: x13 :: x14 :: x15 :: some v :: r) H Q := ⟨v, rfl, q⟩
theorem i_g16 {x0 x1 x2 x3 x4 x5 x6 x7 x8 x9 x10 x11 x12 x13 x14 x15 : Option V} (q : R (x0 :: x1 :: x2 :: x3 :: x4 :: x5 :: x6 :: x7 :: x8 :: x9 :: x10 :: x11 :: x12 :: x13 :: x14 :: x15 :: some v :: r) H) : gName 16 v (x0 :: x1 :: x2 :: x3 :: x4 :: x5 :: x6 :: x7 :: x8 :: x9 :: x10 :: x11 :: x12 :: x13 :: x14 :: x15 :: y :: r) H R := q
theorem i_v17 {x0 x1 x2 x3 x4 x5 x6 x7 x8 x9 x10 x11 x12 x13 x14 x15 x16 : Option V} (q : Q v H) : tVar 17 (x0 :: x1 :: x2 :: x3 :: x4 :: x5 :: x6 :: x7 :: x8 :: x9 :: x10 :: x11 :: x12 :: x13 :: x14 :: x15 :: x16 :: some v :: r) H Q := ⟨v, rfl, q⟩
theorem i_g17 {x0 x1 x2 x3 x4 x5 x6 x7 x8 x9 x10 x11 x12 x13 x14 x15 x16 : Option V} (q : R (x0 :: x1 :: x2 :: x3 :: x4 :: x5 :: x6 :: x7 :: x8 :: x9 :: x10 :: x11 :: x12 :: x13 :: x14 :: x15 :: x16 :: some v :: r) H) : gName 17 v (x0 :: x1 :: x2 :: x3 :: x4 :: x5 :: x6 :: x7 :: x8 :: x9 :: x10 :: x11 :: x12 :: x13 :: x14 :: x15 :: x16 :: y :: r) H R := q
theorem i_v18 {x0 x1 x2 x3 x4 x5 x6 x7 x8 x9 x10 x11 x12 x13 x14 x15 x16 x17 : Option V} (q : Q v H) : tVar 18 (x0 :: x1 :: x2 :: x3 :: x4 :: x5 :: x6 :: x7 :: x8 :: x9 :: x10 :: x11 :: x12 :: x13 :: x14 :: x15 :: x16 :: x17 :: some v :: r) H Q := ⟨v, rfl, q⟩
theorem i_g18 {x0 x1 x2 x3 x4 x5 x6 x7 x8 x9 x10 x11 x12 x13 x14 x15 x16 x17 : Option V} (q : R (x0 :: x1 :: x2 :: x3 :: x4 :: x5 :: x6 :: x7 :: x8 :: x9 :: x10 :: x11 :: x12 :: x13 :: x14 :: x15 :: x16 :: x17 :: some v :: r) H) : gName 18 v (x0 :: x1 :: x2 :: x3 :: x4 :: x5 :: x6 :: x7 :: x8 :: x9 :: x10 :: x11 :: x12 :: x13 :: x14 :: x15 :: x16 :: x17 :: y :: r) H R := q
theorem i_v19 {x0 x1 x2 x3 x4 x5 x6 x7 x8 x9 x10 x11 x12 x13 x14 x15 x16 x17 x18 : Option V} (q : Q v H) : tVar 19 (x0 :: x1 :: x2 :: x3 :: x4 :: x5 :: x6 :: x7 :: x8 :: x9 :: x10 :: x11 :: x12 :: x13 :: x14 :: x15 :: x16 :: x17 :: x18 :: some v :: r) H Q := ⟨v, rfl, q⟩
theorem i_g19 {x0 x1 x2 x3 x4 x5 x6 x7 x8 x9 x10 x11 x12 x13 x14 x15 x16 x17 x18 : Option V} (q : R (x0 :: x1 :: x2 :: x3 :: x4 :: x5 :: x6 :: x7 :: x8 :: x9 :: x10 :: x11 :: x12 :: x13 :: x14 :: x15 :: x16 :: x17 :: x18 :: some v :: r) H) : gName 19 v (x0 :: x1 :: x2 :: x3 :: x4 :: x5 :: x6 :: x7 :: x8 :: x9 :: x10 :: x11 :: x12 :: x13 :: x14 :: x15 :: x16 :: x17 :: x18 :: y :: r) H R := q
theorem i_v20 {x0 x1 x2 x3 x4 x5 x6 x7 x8 x9 x10 x11 x12 x13 x14 x15 x16 x17 x18 x19 : Option V} (q : Q v H) : tVar 20 (x0 :: x1 :: x2 :: x3 :: x4 :: x5 :: x6 :: x7 :: x8 :: x9 :: x10 :: x11 :: x12 :: x13 :: x14 :: x15 :: x16 :: x17 :: x18 :: x19 :: some v :: r) H Q := ⟨v, rfl, q⟩
theorem i_g20 {x0 x1 x2 x3 x4 x5 x6 x7 x8 x9 x10 x11 x12 x13 x14 x15 x16 x17 x18 x19 : Option V} (q : R (x0 :: x1 :: x2 :: x3 :: x4 :: x5 :: x6 :: x7 :: x8 :: x9 :: x10 :: x11 :: x12 :: x13 :: x14 :: x15 :: x16 :: x17 :: x18 :: x19 :: some v :: r) H) : gName 20 v (x0 :: x1 :: x2 :: x3 :: x4 :: x5 :: x6 :: x7 :: x8 :: x9 :: x10 :: x11 :: x12 :: x13 :: x14 :: x15 :: x16 :: x17 :: x18 :: x19 :: y :: r) H R := q
theorem i_v21 {x0 x1 x2 x3 x4 x5 x6 x7 x8 x9 x10 x11 x12 x13 x14 x15 x16 x17 x18 x19 x20 : Option V} (q : Q v H) : tVar 21 (x0 :: x1 :: x2 :: x3 :: x4 :: x5 :: x6 :: x7 :: x8 :: x9 :: x10 :: x11 :: x12 :: x13 :: x14 :: x15 :: x16 :: x17 :: x18 :: x19 :: x20 :: some v :: r) H Q := ⟨v, rfl, q⟩
theorem i_g21 {x0 x1 x2 x3 x4 x5 x6 x7 x8 x9 x10 x11 x12 x13 x14 x15 x16 x17 x18 x19 x20 : Option V} (q : R (x0 :: x1 :: x2 :: x3 :: x4 :: x5 :: x6 :: x7 :: x8 :: x9 :: x10 :: x11 :: x12 :: x13 :: x14 :: x15 :: x16 :: x17 :: x18 :: x19 :: x20 :: some v :: r) H) : gName 21 v (x0 :: x1 :: x2 :: x3 :: x4 :: x5 :: x6 :: x7 :: x8 :: x9 :: x10 :: x11 :: x12 :: x13 :: x14 :: x15 :: x16 :: x17 :: x18 :: x19 :: x20 :: y :: r) H R := q
theorem i_v22 {x0 x1 x2 x3 x4 x5 x6 x7 x8 x9 x10 x11 x12 x13 x14 x15 x16 x17 x18 x19 x20 x21 : Option V} (q : Q v H) : tVar 22 (x0 :: x1 :: x2 :: x3 :: x4 :: x5 :: x6 :: x7 :: x8 :: x9 :: x10 :: x11 :: x12 :: x13 :: x14 :: x15 :: x16 :: x17 :: x18 :: x19 :: x20 :: x21 :: some v :: r) H Q := ⟨v, rfl, q⟩
theorem i_g22 {x0 x1 x2 x3 x4 x5 x6 x7 x8 x9 x10 x11 x12 x13 x14 x15 x16 x17 x18 x19 x20 x21 : Option V} (q : R (x0 :: x1 :: x2 :: x3 :: x4 :: x5 :: x6 :: x7 :: x8 :: x9 :: x10 :: x11 :: x12 :: x13 :: x14 :: x15 :: x16 :: x17 :: x18 :: x19 :: x20 :: x21 :: some v :: r) H) : gName 22 v (x0 :: x1 :: x2 :: x3 :: x4 :: x5 :: x6 :: x7 :: x8 :: x9 :: x10 :: x11 :: x12 :: x13 :: x14 :: x15 :: x16 :: x17 :: x18 :: x19 :: x20 :: x21 :: y :: r) H R := q
theorem i_v23 {x0 x1 x2 x3 x4 x5 x6 x7 x8 x9 x10 x11 x12 x13 x14 x15 x16 x17 x18 x19 x20 x21 x22 : Option V} (q : Q v H) : tVar 23 (x0 :: x1 :: x2 :: x3 :: x4 :: x5 :: x6 :: x7 :: x8 :: x9 :: x10 :: x11 :: x12 :: x13 :: x14 :: x15 :: x16 :: x17 :: x18 :: x19 :: x20 :: x21 :: x22 :: some v :: r) H Q := ⟨v, rfl, q⟩
theorem i_g23 {x0 x1 x2 x3 x4 x5 x6 x7 x8 x9 x10 x11 x12 x13 x14 x15 x16 x17 x18 x19 x20 x21 x22 : Option V} (q : R (x0 :: x1 :: x2 :: x3 :: x4 :: x5 :: x6 :: x7 :: x8 :: x9 :: x10 :: x11 :: x12 :: x13 :: x14 :: x15 :: x16 :: x17 :: x18 :: x19 :: x20 :: x21 :: x22 :: some v :: r) H) : gName 23 v (x0 :: x1 :: x2 :: x3 :: x4 :: x5 :: x6 :: x7 :: x8 :: x9 :: x10 :: x11 :: x12 :: x13 :: x14 :: x15 :: x16 :: x17 :: x18 :: x19 :: x20 :: x21 :: x22 :: y :: r) H R := q
end
section
variable {σ : L2.St} {H : Hp} {v : V} {a c d : L2.St → Hp → Prop} {b : VK}
theorem i_nx (q : a σ H) : Ends.nx ⟨a, b, c, d⟩ σ H := q
theorem i_rt (q : b v H) : Ends.rt ⟨a, b, c, d⟩ v H := q
theorem i_bk (q : c σ H) : Ends.bk ⟨a, b, c, d⟩ σ H := q
theorem i_ct (q : d σ H) : Ends.ct ⟨a, b, c, d⟩ σ H := q
end
end Z
namespace Z
open PySem PySem.Spec PyProof.Rows L2
open C8 (tCut pss_cut Cal pe_c Met pe_mt pe_mt0 Mak pe_mk)
/-! ### calls of built-ins, items, methods, by names -/
def zInt : List V → Hp → VK → Prop := fun xs H Q => (∃ i, xs = [.int i] ∧ Q (.int i) H) ∨ ∃ k, xs = [.bl k] ∧ Q (.int (if k = true then 1 else 0)) H
def zLenS : List V → Hp → VK → Prop := fun xs H Q => ∃ z : Str, xs = [.str z] ∧ z.length ≤ sizeLine ∧ Q (.int z.length) H
def zLen (K : PySem.W.Frag) : List V → Hp → VK → Prop := fun xs H Q => ∃ p ys, xs = [.ref p] ∧ (SqL K H p ys ∨ SqT K H p ys) ∧ Q (.int ys.length) H
def zAbs : List V → Hp → VK → Prop := fun xs H Q => ∃ i : Int, xs = [.int i] ∧ Q (.int (if i < 0 then -i else i)) H
def zMax : List V → Hp → VK → Prop := fun xs H Q => ∃ i j : Int, xs = [.int i, .int j] ∧ Q (.int (if j > i then j else i)) H
def zMin : List V → Hp → VK → Prop := fun xs H Q => ∃ i j : Int, xs = [.int i, .int j] ∧ Q (.int (if j < i then j else i)) H
def zList (K : PySem.W.Frag) : List V → Hp → VK → Prop := fun xs H Q => ∃ p ys, xs = [.ref p] ∧ (SqL K H p ys ∨ SqT K H p ys) ∧ ∀ l, H l = none → Q (.ref l) (upd H l (.lst ys))
def zTuple (K : PySem.W.Frag) : List V → Hp → VK → Prop := fun xs H Q => ∃ p ys, xs = [.ref p] ∧ ((SqL K H p ys ∧ ∀ l, H l = none → Q (.ref l) (upd H l (.tup ys))) ∨ SqT K H p ys ∧ Q (.ref p) H)
section
variable {X : Cx}
theorem zc_int : CallR X (.type "int") zInt := call_int1
theorem zc_lens : CallR X (.builtin "len") zLenS := call_len_str
theorem zc_len : CallR X (.builtin "len") (zLen X.K) := call_len_seq
theorem zc_abs : CallR X (.builtin "abs") zAbs := call_abs
theorem zc_max (hc : X.calm = true) : CallR X (.builtin "max") zMax := call_max2 hc
theorem zc_min (hc : X.calm = true) : CallR X (.builtin "min") zMin := call_min2 hc
theorem zc_list : CallR X (.type "list") (zList X.K) := call_list_of
theorem zc_tuple : CallR X (.type "tuple") (zTuple X.K) := call_tuple_of
end
section
variable {σ : L2.St} {H : Hp} {Q : VK} {D : Ends} {K : PySem.W.Frag} {i j : Int} {a b : List Nat} {x y v : V} {p : Addr} {xs : List V}
theorem i_int (q : Q (.int i) H) : zInt [.int i] H Q := .inl ⟨i, rfl, q⟩
theorem i_intB {k : Bool} (q : Q (.int (if k = true then 1 else 0)) H) : zInt [.bl k] H Q := .inr ⟨k, rfl, q⟩
theorem le_line {n : Nat} (h : n ≤ 100000) : n ≤ sizeLine := Nat.le_trans h (by decide)
theorem lt_line {n : Nat} (h : n < 100000) : n < sizeLine := Nat.lt_of_lt_of_le h (by decide)
theorem i_lens (h : a.length ≤ 100000) (q : Q (.int (a.length : Int)) H) : zLenS [.str (S a)] H Q := ⟨_, rfl, by rw [S_len]; exact le_line h, by rw [S_len]; exact q⟩
theorem i_lenL (h : SqL K H p xs) (q : Q (.int (xs.length : Int)) H) : zLen K [.ref p] H Q := ⟨p, xs, rfl, .inl h, q⟩
theorem i_lenT (h : SqT K H p xs) (q : Q (.int (xs.length : Int)) H) : zLen K [.ref p] H Q := ⟨p, xs, rfl, .inr h, q⟩
theorem i_abs (q : Q (.int (if i < 0 then -i else i)) H) : zAbs [.int i] H Q := ⟨i, rfl, q⟩
theorem i_max (q : Q (.int (if j > i then j else i)) H) : zMax [.int i, .int j] H Q := ⟨i, j, rfl, q⟩
theorem i_min (q : Q (.int (if j < i then j else i)) H) : zMin [.int i, .int j] H Q := ⟨i, j, rfl, q⟩
theorem i_listL (h : SqL K H p xs) (q : ∀ l, H l = none → Q (.ref l) (upd H l (.lst xs))) : zList K [.ref p] H Q := ⟨p, xs, rfl, .inl h, q⟩
theorem i_tupleL (h : SqL K H p xs) (q : ∀ l, H l = none → Q (.ref l) (upd H l (.tup xs))) : zTuple K [.ref p] H Q := ⟨p, xs, rfl, .inl ⟨h, q⟩⟩
theorem i_ixL (h : SqL K H p xs) (ha : atI xs i = some v) (q : Q v H) : rIxL K (.ref p) (.int i) H Q := ⟨p, xs, i, v, rfl, rfl, h, ha, q⟩
theorem i_ixT (h : SqT K H p xs) (ha : atI xs i = some v) (q : Q v H) : rIxT K (.ref p) (.int i) H Q := ⟨p, xs, i, v, rfl, rfl, h, ha, q⟩
theorem i_ixS {c : Nat} (hz : a.length ≤ 100000) (ha : atI a i = some c) (q : Q (.str (S [c])) H) : rIxS (.str (S a)) (.int i) H Q :=
  ⟨S a, i, c, rfl, rfl, by rw [S_len]; exact le_line hz, ha, q⟩
theorem i_setL {k : Int} {n : Nat} {R : Hp → Prop} (h : H p = some (.lst xs)) (hn : ixN xs.length k = some n) (q : R (upd H p (.lst (xs.set n v)))) : rSetL (.ref p) (.int k) v H R := ⟨p, xs, k, n, rfl, rfl, h, hn, q⟩
theorem at_nat {α : Type} {xs : List α} {i : Int} {v : α} (h0 : 0 ≤ i) (h : xs[i.toNat]? = some v) : atI xs i = some v := by
  obtain ⟨n, rfl⟩ : ∃ n : Nat, i = n := ⟨i.toNat, by omega⟩
  exact atI_nat (by simpa using h)
theorem at_lt {α : Type} {xs : List α} {i : Int} (h0 : 0 ≤ i) (h1 : i < xs.length) : atI xs i = some (xs[i.toNat]'(by omega)) :=
  at_nat h0 (List.getElem?_eq_getElem (by omega))
theorem i_cut {t u : TS} (Mid : L2.St → Hp → Prop) (h1 : t { D with nx := Mid } σ H) (h2 : ∀ σ' H', Mid σ' H' → u D σ' H') : tCut t u D σ H := ⟨Mid, h1, h2⟩
theorem cdivw (h0 : 0 < j) (h : j < 2 ^ 200) : CDivW i j := by
  refine ⟨h0, ?_⟩
  have h2 : j.natAbs < 2 ^ 200 := by omega
  have h3 : j.natAbs ≠ 0 := by omega
  have h4 : Nat.log2 j.natAbs < 200 := (Nat.log2_lt h3).2 h2
  omega
end
/-! ### what the hand of a law is, and what a draw leaves -/
structure HandOk (H : Hp) (h : Addr) : Prop where
  ex : ∃ (c : Addr) (cells : List Int) (a1 a2 a3 a4 : Int), H h = some (.lst [.ref c, .int a1, .int a2, .int a3, .int a4]) ∧ H c = some (.lst (cells.map V.int)) ∧ (∀ x ∈ cells, 0 ≤ x) ∧ 0 ≤ a1 ∧ 0 ≤ a2 ∧ 0 ≤ a3 ∧ a3 < 2147483647 ∧ 0 ≤ a4
/-- all but the hand is as it was, the hand is one, over the same cells -/
structure Gd (h : Addr) (H H' : Hp) : Prop where
  ok : HandOk H' h
  kp : ∀ b o, H b = some o → b ≠ h → H' b = some o
  ok0 : HandOk H h
  cell : ∃ (c : Addr) (r r' : List V), H h = some (.lst (.ref c :: r)) ∧ H' h = some (.lst (.ref c :: r'))
theorem Gd.of {h c : Addr} {H H' : Hp} {r r' : List V} (k0 : HandOk H h) (e0 : H h = some (.lst (.ref c :: r))) (e1 : H' h = some (.lst (.ref c :: r'))) (k : HandOk H' h) (kp : ∀ b o, H b = some o → b ≠ h → H' b = some o) : Gd h H H' :=
  ⟨k, kp, k0, c, r, r', e0, e1⟩
theorem Gd.refl {h : Addr} {H : Hp} (k : HandOk H h) : Gd h H H := by
  obtain ⟨c, _, _, _, _, _, e, _⟩ := k.ex
  exact ⟨k, fun _ _ e _ => e, k, c, _, _, e, e⟩
theorem Gd.trans {h : Addr} {H H1 H2 : Hp} (a : Gd h H H1) (b : Gd h H1 H2) : Gd h H H2 := by
  obtain ⟨c, r, r1, e0, e1⟩ := a.cell
  obtain ⟨c', r1', r2, e1', e2⟩ := b.cell
  have q := Option.some.inj (e1.symm.trans e1')
  have q2 : c = c' := by
    have := (List.cons.inj (HO.lst.inj q)).1
    exact V.ref.inj this
  subst q2
  exact ⟨b.ok, fun c o e n => b.kp c o (a.kp c o e n) n, a.ok0, c, r, r2, e0, e2⟩
theorem HandOk.some {h : Addr} {H : Hp} (k : HandOk H h) : ∃ o, H h = some o := by obtain ⟨_, _, _, _, _, _, e, _⟩ := k.ex; exact ⟨_, e⟩
theorem map_int_ne {c : Addr} {cells : List Int} {r : List V} : HO.lst (.ref c :: r) ≠ HO.lst (cells.map V.int) := fun e => by
  cases cells with
  | nil => cases e
  | cons a l =>
    have e2 := (List.cons.inj (HO.lst.inj e)).1
    cases e2
theorem HandOk.new {h p : Addr} {o : HO} {H : Hp} (k : HandOk H h) (hp : H p = none) : HandOk (upd H p o) h := by
  obtain ⟨c, cells, a1, a2, a3, a4, e1, e2, r⟩ := k.ex
  exact ⟨c, cells, a1, a2, a3, a4, by rw [upd_ne (ne_of_none e1 hp)]; exact e1, by rw [upd_ne (ne_of_none e2 hp)]; exact e2, r⟩
theorem Gd.new {h p : Addr} {o : HO} {H H' : Hp} (g : Gd h H H') (hp : H' p = none) : Gd h H (upd H' p o) := by
  obtain ⟨c, r, r', e0, e1⟩ := g.cell
  exact ⟨g.ok.new hp, fun b u e n => by have := g.kp b u e n; rw [upd_ne (ne_of_none this hp)]; exact this, g.ok0, c, r, r', e0, by rw [upd_ne (ne_of_none e1 hp)]; exact e1⟩
theorem Gd.mutz {h p : Addr} {o : HO} {H H' : Hp} (g : Gd h H H') (hp : H p = none) : Gd h H (upd H' p o) := by
  obtain ⟨c, r, r', e0, e1⟩ := g.cell
  obtain ⟨c0, cells0, _, _, _, _, f0, f1, _⟩ := g.ok0.ex
  obtain ⟨c1, cells, a1, a2, a3, a4, g0, g1, rest⟩ := g.ok.ex
  have q0 : c = c0 := by
    have := (List.cons.inj (HO.lst.inj (Option.some.inj (e0.symm.trans f0)))).1
    exact V.ref.inj this
  have q1 : c = c1 := by
    have := (List.cons.inj (HO.lst.inj (Option.some.inj (e1.symm.trans g0)))).1
    exact V.ref.inj this
  subst q0 q1
  have n1 : h ≠ p := ne_of_none e0 hp
  have n2 : c ≠ p := ne_of_none f1 hp
  exact ⟨⟨c, cells, a1, a2, a3, a4, by rw [upd_ne n1]; exact g0, by rw [upd_ne n2]; exact g1, rest⟩, fun b u e n => by rw [upd_ne (ne_of_none e hp)]; exact g.kp b u e n, g.ok0, c, r, r', e0, by rw [upd_ne n1]; exact e1⟩
end Z
namespace Z
open PySem PySem.Spec PyProof.Rows L2
theorem i_setH {H : Hp} {p : Addr} {xs : List V} {k : Int} {n : Nat} {v : V} {R : Hp → Prop} (h : H p = some (.lst xs)) (hn : ixN xs.length k = some n) (L : List V) (hL : xs.set n v = L) (q : ∀ H1, H1 = upd H p (.lst L) → R H1) : rSetL (.ref p) (.int k) v H R := by
  subst hL
  exact ⟨p, xs, k, n, rfl, rfl, h, hn, q _ rfl⟩
theorem hstep {h c : Addr} {H0 H H1 : Hp} {L : List V} {cells : List Int} (e : H1 = upd H h (.lst L)) (hne : c ≠ h) (e2 : H c = some (.lst (cells.map V.int))) (kp : ∀ b o, H0 b = some o → b ≠ h → H b = some o) :
    H1 h = some (.lst L) ∧ H1 c = some (.lst (cells.map V.int)) ∧ (∀ b o, H0 b = some o → b ≠ h → H1 b = some o) := by
  subst e
  exact ⟨upd_same, by rw [upd_ne hne]; exact e2, fun b o e n => by rw [upd_ne n]; exact kp b o e n⟩
end Z
namespace Z
open PySem PySem.Spec PyProof.Rows L2
open C8 (tCut pss_cut Cal pe_c Met pe_mt pe_mt0 Mak pe_mk)
/-! ### defs of the text -/
structure DF (K : PySem.W.Frag) (mg : Str → Option Value) (x : Str) (st : Stmt) : Prop where
  ex : ∃ (f : Addr) (fd : FuncData), Fun K x x st f fd ∧ mg x = some (.ref f)
section
variable {P : Program} {w : World} {K : PySem.W.Frag} {mg : Str → Option Value} {base : Heap}
theorem DF.cal {x : Str} {st : Stmt} {N ps : List Str} {k : Nat} {sp : Sp} (d : DF K mg x st) (S : FnScope N ps (defScope st))
    (hb : ∀ (kV doc pm : Value) (an : Option Addr) (cdv ct : Value) (us : List Value), us.length = ps.length → bindArgs (PySem.W.fnOf x x (defArgs st) (defBody st) (defScope st) .none kV doc pm an cdv ct) ⟨us, []⟩ = pure (ps.zip us))
    (len : ∀ vs H Q E, sp vs H Q E → vs.length = ps.length)
    (hbody : ∀ (f : Addr) (cdv : Value) (A : Around) (outer : List Env) (s : Shared) (H : Hp) (vs : List V) (Q : VK) (E : XK), Room k (A.deeper (envOfC x (defScope st) s.heap.objs.size f cdv)) → sp vs H Q E →
      ∃ t, PSs (cxOf CX0 P w K mg base N x (defScope st) f cdv A outer s H E).nox (defBody st) t ∧ t { nx := fun _ H' => Q .non H', rt := Q } (start N vs) H) : Cal P w K mg base (k + 1) x sp [] := by
  obtain ⟨f, fd, F, hm⟩ := d.ex
  exact ⟨f, fd, ps, [], F.ok S len (hbody f), hm, F.kp, F.binds hb, .nil⟩
end
/-- the built-ins stand as they are -/
structure Bi (mg : Str → Option Value) : Prop where
  range : mg "range" = none
  len : mg "len" = none
  abs : mg "abs" = none
  int : mg "int" = none
  str : mg "str" = none
  bool : mg "bool" = none
  list : mg "list" = none
  tuple : mg "tuple" = none
  dict : mg "dict" = none
  set : mg "set" = none
  isinstance : mg "isinstance" = none
  all : mg "all" = none
  any : mg "any" = none
  sum : mg "sum" = none
  max : mg "max" = none
  min : mg "min" = none
  sorted : mg "sorted" = none
  zip : mg "zip" = none
  enumerate : mg "enumerate" = none
  reversed : mg "reversed" = none
/-! ### the promises of the hand -/
def spHand (K : PySem.W.Frag) : Sp := fun vs H Q _ => ∃ (a : Addr) (ns : List Int), vs = [.ref a] ∧ SqL K H a (ns.map V.int) ∧ ns.length ≤ 1000 ∧ ∀ h H', H h = none → HandOk H' h → Same H H' → Q (.ref h) H'
def spDraw : Sp := fun vs H Q _ => ∃ (h : Addr) (m : Int), vs = [.ref h, .int m] ∧ HandOk H h ∧ 0 < m ∧ m < 2 ^ 200 ∧ ∀ (r : Nat) H', (r : Int) < m → Gd h H H' → Q (.int (r : Int)) H'
theorem use_draw {h : Addr} {m : Int} {H : Hp} {Q : VK} {E : XK} (hh : HandOk H h) (h0 : 0 < m) (h1 : m < 2 ^ 200) (k : ∀ (r : Nat) H', (r : Int) < m → Gd h H H' → Q (.int (r : Int)) H') : spDraw ([.ref h, .int m] ++ []) H Q E :=
  ⟨h, m, rfl, hh, h0, h1, k⟩
theorem draw_k {h : Addr} {m r : Int} {H H' : Hp} {Q : VK} (k : ∀ (r : Nat) H', (r : Int) < m → Gd h H H' → Q (.int (r : Int)) H') (h0 : 0 ≤ r) (h1 : r < m) (g : Gd h H H') : Q (.int r) H' := by
  obtain ⟨n, rfl⟩ := Int.eq_ofNat_of_zero_le h0
  exact k n H' h1 g
end Z
namespace Z
open PySem PySem.Spec PyProof.Rows L2
theorem zstart {t : TS} {D : Ends} {σ : L2.St} {H : Hp} (L : L2.St) (h : σ = L) (q : t D L H) : t D σ H := h ▸ q
end Z
namespace Z
open PySem PySem.Spec PyProof.Rows L2
theorem zK {CX : CXT} {P : Program} {w : World} {K : PySem.W.Frag} {mg : Str → Option Value} {base : Heap} {N : List Str} {qual : Str} {scope : Scope} {f : Addr} {cd : Value} {A : Around} {outer : List Env} {s : Shared} {H : Hp} {E : XK} :
    (cxOf CX P w K mg base N qual scope f cd A outer s H E).nox.K = K := rfl
theorem zK2 {CX : CXT} {P : Program} {w : World} {K : PySem.W.Frag} {mg : Str → Option Value} {base : Heap} {N : List Str} {qual : Str} {scope : Scope} {f : Addr} {cd : Value} {A : Around} {outer : List Env} {s : Shared} {H : Hp} {E : XK} :
    (cxOf CX P w K mg base N qual scope f cd A outer s H E).K = K := rfl
end Z
namespace Z
open PySem PySem.Spec PyProof.Rows L2
open PySem.Sem (wp)
/-! ### zip over texts, lists, tuples, in any mixture -/
inductive Sd where
  | str (z : Str) | lst (a : Addr) | tup (a : Addr)
def Sd.is (K : PySem.W.Frag) (H : Hp) : Sd → List V → Prop
  | .str z, xs => xs = (codes z).map fun c => V.str (S [c])
  | .lst a, xs => SqL K H a xs
  | .tup a, xs => SqT K H a xs
def Sd.cell (it : Addr) (i : Nat) (h : Heap) : Sd → Prop
  | .str z => ∃ t, h.IsStrIter it (strIterType z) z t i
  | .lst a => h.IsListIter it a i
  | .tup a => h.IsTupleIter it a i
def Sd.off (b : Addr) : Sd → Prop
  | .str _ => True
  | .lst a => a ≠ b
  | .tup a => a ≠ b
def Sd.val : V → Sd → Prop
  | v, .str z => v = .str z
  | v, .lst a => v = .ref a
  | v, .tup a => v = .ref a
theorem Draws.tuple {prog : Program} {w : World} {A : Around} (hh : A.handled = none) (it l : Addr) (hne : l ≠ it) (items : Array Value) :
    Draws prog w A it [it, l] items.size (fun i v => items[i]? = some v) (fun i h => h.IsTupleIter it l i ∧ h.IsTuple l items) where
  live := fun _ _ st => let ⟨o, ho, _⟩ := st.1; ⟨o, ho⟩
  frame := fun _ _ _ st hk => ⟨st.1.at fun o e => hk it (by simp) o e, st.2.at fun o e => hk l (by simp) o e⟩
  item := fun i s Q E hi st hQ => by
    refine RZ.nextOf_tuple_item st.1 st.2 (x := items[i]) (by simp [hi]) fun h' hit' hs' => ?_
    exact hQ _ h' s.toks (by simp [hi]) ⟨hit', st.2.at fun o e => hs'.extBut _ _ hne e⟩ hs'
  done := fun s Q E st hE => RZ.nextOf_tuple_end hh st.1 st.2 (by simp) hE
section
variable {X : Cx} {pins : List (Addr × Obj)} {σ : L2.St} {H : Hp} {s : Shared}
theorem Sd.cell_keep {c : Sd} {it : Addr} {i : Nat} {h h' : Heap} (st : c.cell it i h) (k : ∀ o, h.get? it = some o → h'.get? it = some o) : c.cell it i h' := by
  cases c with
  | str z => obtain ⟨t, o, ho, r⟩ := st; exact ⟨t, o, k o ho, r⟩
  | lst a => exact Heap.IsListIter.at st k
  | tup a => exact Heap.IsTupleIter.at st k
theorem Sd.cell_obj {c : Sd} {it : Addr} {i : Nat} {h : Heap} (st : c.cell it i h) : ∃ o, h.get? it = some o ∧ ∀ v, o.data ≠ .cell v := by
  cases c with
  | str z => obtain ⟨t, o, ho, _, d⟩ := st; exact ⟨o, ho, fun v q => by rw [d] at q; cases q⟩
  | lst a => obtain ⟨o, ho, _, d⟩ := st; exact ⟨o, ho, fun v q => by rw [d] at q; cases q⟩
  | tup a => obtain ⟨o, ho, _, d⟩ := st; exact ⟨o, ho, fun v q => by rw [d] at q; cases q⟩
/-- one side of a zip as an iterator that draws -/
theorem Sd.draws {A : Around} (hh : A.handled = none) {c : Sd} {it : Addr} {i : Nat} {xs : List V} (I : Inv X pins σ H s) (st : c.cell it i s.heap) (hx : c.is X.K H xs) (ho : c.off it) :
    ∃ fp P St, Draws X.prog X.w A it fp xs.length P St ∧ St i s.heap ∧ it ∈ fp ∧ (∀ b, b ∈ fp → b = it ∨ ¬ c.off b) ∧ (∀ j v, P j v → ∃ x, xs[j]? = some x ∧ RelV x v) ∧ ∀ j h, St j h → c.cell it j h := by
  cases c with
  | str z =>
    obtain ⟨t, st⟩ := st
    have hx : xs = (codes z).map fun c => V.str (S [c]) := hx
    have hl : xs.length = z.cps.size := by rw [hx]; simp
    have hP : ∀ (j : Nat) (v : Value), (∃ c u, z.cps[j]? = some c ∧ v = .str ⟨#[c]⟩ u) → ∃ x, xs[j]? = some x ∧ RelV x v := by
      rintro j v ⟨c, u, hc, rfl⟩
      refine ⟨.str (S [c]), ?_, ⟨u, rfl⟩⟩
      rw [hx, List.getElem?_map]
      have : (codes z)[j]? = some c := by simpa using hc
      rw [this]; rfl
    rw [hl]
    by_cases ha : z.cps.all (· < 128) = true
    · have e : strIterType z = "str_ascii_iterator" := if_pos ha
      rw [e] at st
      refine ⟨_, _, _, Draws.strAscii hh it z t, st, by simp, fun b hb => .inl (by simpa using hb), hP, fun j h q => ⟨t, ?_⟩⟩
      rw [e]; exact q
    · have e : strIterType z = "str_iterator" := if_neg ha
      rw [e] at st
      refine ⟨_, _, _, Draws.strWide hh it z t, st, by simp, fun b hb => .inl (by simpa using hb), hP, fun j h q => ⟨t, ?_⟩⟩
      rw [e]; exact q
  | lst a =>
    obtain ⟨its, rv, p, _⟩ := I.list hx
    have hl : xs.length = its.toArray.size := by rw [rv.length]; simp
    rw [hl]
    refine ⟨_, _, _, Draws.list hh it a ho its.toArray, ⟨st, p.isList⟩, by simp, fun b hb => ?_, fun j v hv => ?_, fun j h q => q.1⟩
    · rcases List.mem_cons.mp hb with q | q
      · exact .inl q
      · exact .inr fun o => o (List.mem_singleton.mp q).symm
    · have hv' : its[j]? = some v := by simpa using hv
      cases e : xs[j]? with
      | none => rw [rv.none_of e] at hv'; cases hv'
      | some x => obtain ⟨u, hu, ru⟩ := rv.get e; rw [hu] at hv'; cases hv'; exact ⟨x, rfl, ru⟩
  | tup a =>
    obtain ⟨its, rv, p, _⟩ := I.tuple hx
    have hl : xs.length = its.toArray.size := by rw [rv.length]; simp
    rw [hl]
    refine ⟨_, _, _, Draws.tuple hh it a ho its.toArray, ⟨st, p⟩, by simp, fun b hb => ?_, fun j v hv => ?_, fun j h q => q.1⟩
    · rcases List.mem_cons.mp hb with q | q
      · exact .inl q
      · exact .inr fun o => o (List.mem_singleton.mp q).symm
    · have hv' : its[j]? = some v := by simpa using hv
      cases e : xs[j]? with
      | none => rw [rv.none_of e] at hv'; cases hv'
      | some x => obtain ⟨u, hu, ru⟩ := rv.get e; rw [hu] at hv'; cases hv'; exact ⟨x, rfl, ru⟩
theorem Sd.is_inj {c : Sd} {xs ys : List V} (I : Inv X pins σ H s) (a : c.is X.K H xs) (b : c.is X.K H ys) : xs = ys := by
  cases c with
  | str z => exact a.trans b.symm
  | lst p => exact I.list_inj a b
  | tup p => exact I.tuple_inj a b
theorem Sd.is_new {K : PySem.W.Frag} {c : Sd} {xs : List V} {p : Addr} {o : HO} {H : Hp} (hp : H p = none) (a : c.is K H xs) : c.is K (upd H p o) xs := by
  have e : Same H (upd H p o) := fun b u q => by rw [upd_ne (ne_of_none q hp)]; exact q
  cases c with
  | str z => exact a
  | lst q => exact e.seq a
  | tup q =>
    rcases a with (h | ⟨u, h⟩) | h
    · exact .inl (.inl (e _ _ h))
    · exact .inl (.inr ⟨u, e _ _ h⟩)
    · exact .inr h
end
def ItZ (K : PySem.W.Frag) (c d : Sd) : It :=
  ⟨fun i H => ∃ (xs ys : List V), c.is K H xs ∧ d.is K H ys ∧ i < xs.length ∧ i < ys.length,
    fun i H v H' => ∃ T x y, v = .ref T ∧ H T = none ∧ H' = upd H T (.tup [x, y]) ∧ (∀ xs, c.is K H xs → xs[i]? = some x) ∧ ∀ ys, d.is K H ys → ys[i]? = some y,
    fun i H => ∃ xs ys : List V, c.is K H xs ∧ d.is K H ys ∧ i ≤ xs.length ∧ i ≤ ys.length ∧ (i = xs.length ∨ i = ys.length)⟩
structure ZApart (z TI TO i1 i2 : Addr) (c d : Sd) : Prop where
  TIz : TI ≠ z
  TOz : TO ≠ z
  TITO : TI ≠ TO
  TIi1 : TI ≠ i1
  TIi2 : TI ≠ i2
  i1z : i1 ≠ z
  i2z : i2 ≠ z
  i1T : i1 ≠ TO
  i2T : i2 ≠ TO
  i12 : i1 ≠ i2
  cf : ∀ b, b ∈ [z, TI, TO, i1, i2] → c.off b
  df : ∀ b, b ∈ [z, TI, TO, i1, i2] → d.off b
theorem turn_zipZ {P : Program} {w : World} {K : PySem.W.Frag} {elts : List Expr} {kk : Nat} {tpos : Pos} {c d : Sd} {z TI TO i1 i2 : Addr} (D : ZApart z TI TO i1 i2 c d) :
    Turn P w K (.Tuple elts kk tpos) (ItZ K c d) [z, TI, TO, i1, i2] z (fun i h => IsZip h z TI TO .none ∧ IsTupOf2 h TI (.ref i1) (.ref i2) ∧ (∃ x y, IsTupOf2 h TO x y) ∧ c.cell i1 i h ∧ d.cell i2 i h) where
  mem := by simp
  obj := fun i h st b hb => by
    obtain ⟨hz, hTI, ⟨x, y, hTO⟩, h1, h2⟩ := st
    have e' : b = z ∨ b = TI ∨ b = TO ∨ b = i1 ∨ b = i2 := by simpa using hb
    rcases e' with q | q | q | q | q
    · rw [q]; exact ⟨_, hz, fun v q => nomatch q⟩
    · rw [q]; exact ⟨_, hTI, fun v q => nomatch q⟩
    · rw [q]; exact ⟨_, hTO, fun v q => nomatch q⟩
    · rw [q]; exact Sd.cell_obj h1
    · rw [q]; exact Sd.cell_obj h2
  keep := fun i h h' st k => by
    obtain ⟨hz, hTI, ⟨x, y, hTO⟩, h1, h2⟩ := st
    exact ⟨k z (by simp) _ hz, k TI (by simp) _ hTI, ⟨x, y, k TO (by simp) _ hTO⟩, Sd.cell_keep h1 fun o q => k i1 (by simp) o q, Sd.cell_keep h2 fun o q => k i2 (by simp) o q⟩
  item := by
    intro X hP hw hK hc i pins s σ H E I hf st hg
    subst hP hw hK
    obtain ⟨hz, hTI, ⟨x0, y0, hTO⟩, h1, h2⟩ := st
    obtain ⟨xs, ys, hx, hy, li, lj⟩ := hg
    have hh : X.A.in1.handled = none := I.ok.hd hc
    obtain ⟨fp1, P1, St1, D1, s1, m1, f1, r1, b1⟩ := Sd.draws hh I h1 hx (D.cf i1 (by simp))
    obtain ⟨fp2, P2, St2, D2, s2, m2, f2, r2, b2⟩ := Sd.draws hh I h2 hy (D.df i2 (by simp))
    have nin : ∀ b, b ∈ [z, TI, TO, i1, i2] → b ≠ i1 → b ∉ fp1 := fun b hb n hm => by
      rcases f1 b hm with q | q
      · exact n q
      · exact q (D.cf b hb)
    have nin2 : ∀ b, b ∈ [z, TI, TO, i1, i2] → b ≠ i2 → b ∉ fp2 := fun b hb n hm => by
      rcases f2 b hm with q | q
      · exact n q
      · exact q (D.df b hb)
    have Zs : ZipSep2 z TI TO i1 i2 fp1 fp2 := ⟨D.TIz, D.TOz, D.TITO, D.TIi1, m1, nin z (by simp) D.i1z.symm, nin TO (by simp) D.i1T.symm, D.TIi2, m2, nin2 z (by simp) D.i2z.symm, nin2 TO (by simp) D.i2T.symm, nin2 i1 (by simp) D.i12, nin i2 (by simp) D.i12.symm⟩
    have hzl : z < s.heap.objs.size := Heap.lt_size hz
    refine wpAny_pyNext_zipD2_item Zs D1 D2 hz hTI hTO s1 s2 li lj fun u u2 h' tk p1 p2 z' TO' t1 t2 hT hsz hk => ?_
    obtain ⟨x, hxi, ru⟩ := r1 i u p1
    obtain ⟨y, hyi, ru2⟩ := r2 i u2 p2
    refine ⟨_, rfl, wpAny_letOwnedTupleGo_zip (s := { s with heap := h', toks := tk }) z' fun h'' z'' sb => ?_⟩
    have hT2 : h''.get? s.heap.objs.size = some { cls := .type "tuple", data := .seq #[u, u2] } := (sb.2 _ (Nat.ne_of_gt hzl)).trans hT
    have new : ObjOk X.prog X.w (upd H s.heap.objs.size (.tup [x, y])) h'' s.heap.objs.size (.tup [x, y]) :=
      ⟨by show 2 ≤ sizeLine; decide, [u, u2], .cons ru (.cons ru2 .nil), ⟨_, hT2, rfl, _, rfl⟩⟩
    have I1 : Inv X pins σ (upd H s.heap.objs.size (.tup [x, y])) { s with heap := h'', toks := tk } :=
      I.turnedNew (t' := tk) (ch := [z, TI, TO, i1, i2]) (fun c o hb q => (sb.2 c (fun q' => hb (by simp [q']))).trans (hk c o (fun q' => hb (by simp [q'])) (fun q' => hb (by simp [q'])) (fun q' => hb (by simp [q'])) (fun q' => hb (by simp [q'])) q)) hf (Nat.le_refl _) new
    refine ⟨.ref s.heap.objs.size, _, I1, rfl, ⟨_, x, y, rfl, I.hok.fresh (Nat.le_refl _), rfl, fun l hl => by rw [Sd.is_inj I hl hx]; exact hxi, fun l hl => by rw [Sd.is_inj I hl hy]; exact hyi⟩, ⟨z'', ?_, ⟨u, u2, ?_⟩, ?_, ?_⟩, fun c hcm => ?_⟩
    · exact (sb.2 _ D.TIz).trans (hk _ _ D.TIz D.TITO D.TIi1 D.TIi2 hTI)
    · exact (sb.2 _ D.TOz).trans TO'
    · exact Sd.cell_keep (b1 _ _ t1) fun o q => (sb.2 _ D.i1z).trans q
    · exact Sd.cell_keep (b2 _ _ t2) fun o q => (sb.2 _ D.i2z).trans q
    · have hlt : c < s.heap.objs.size := by
        have e' : c = z ∨ c = TI ∨ c = TO ∨ c = i1 ∨ c = i2 := by simpa using hcm
        rcases e' with q | q | q | q | q
        · rw [q]; exact hzl
        · rw [q]; exact Heap.lt_size hTI
        · rw [q]; exact Heap.lt_size hTO
        · rw [q]; obtain ⟨_, e1, _⟩ := Sd.cell_obj h1; exact Heap.lt_size e1
        · rw [q]; obtain ⟨_, e1, _⟩ := Sd.cell_obj h2; exact Heap.lt_size e1
      rw [upd_ne (Nat.ne_of_lt hlt)]
      exact (hf c hcm).1
  done := by
    intro X hP hw hK hc i pins s σ H E I hf st hg
    subst hP hw hK
    obtain ⟨hz, hTI, ⟨x0, y0, hTO⟩, h1, h2⟩ := st
    obtain ⟨xs, ys, hx, hy, li, lj, hend⟩ := hg
    have hh : X.A.in1.handled = none := I.ok.hd hc
    obtain ⟨fp1, P1, St1, D1, s1, m1, f1, r1, b1⟩ := Sd.draws hh I h1 hx (D.cf i1 (by simp))
    obtain ⟨fp2, P2, St2, D2, s2, m2, f2, r2, b2⟩ := Sd.draws hh I h2 hy (D.df i2 (by simp))
    have nin : ∀ b, b ∈ [z, TI, TO, i1, i2] → b ≠ i1 → b ∉ fp1 := fun b hb n hm => by
      rcases f1 b hm with q | q
      · exact n q
      · exact q (D.cf b hb)
    have nin2 : ∀ b, b ∈ [z, TI, TO, i1, i2] → b ≠ i2 → b ∉ fp2 := fun b hb n hm => by
      rcases f2 b hm with q | q
      · exact n q
      · exact q (D.df b hb)
    have Zs : ZipSep2 z TI TO i1 i2 fp1 fp2 := ⟨D.TIz, D.TOz, D.TITO, D.TIi1, m1, nin z (by simp) D.i1z.symm, nin TO (by simp) D.i1T.symm, D.TIi2, m2, nin2 z (by simp) D.i2z.symm, nin2 TO (by simp) D.i2T.symm, nin2 i1 (by simp) D.i12, nin i2 (by simp) D.i12.symm⟩
    exact wpAny_pyNext_zipD2_end Zs D1 D2 hz hTI hTO s1 s2 li lj hend fun h' tk hk => ⟨rfl, I.turnedL (t' := tk) (ch := [z, TI, TO, i1, i2]) (fun c o hb q =>
      hk c o (fun q' => hb (by simp [q'])) (fun q' => hb (by simp [q'])) (fun q' => hb (by simp [q'])) (fun q' => hb (by simp [q'])) q) hf⟩
  self := fun A i s Q E st h => wpAny_pyIter_zip st.1 h
/-- how a side begins -/
def Sd.hh (its : List Value) : Sd → Heap → Prop
  | .str _, _ => True
  | .lst a, h => h.IsList a its.toArray
  | .tup a, h => h.IsTuple a its.toArray
theorem Sd.begins {X : Cx} {pins : List (Addr × Obj)} {σ : L2.St} {H : Hp} {s : Shared} {c : Sd} {v : V} {u : Value} {xs : List V} (I : Inv X pins σ H s) (hv : c.val v) (r : RelV v u) (hx : c.is X.K H xs) :
    ∃ (o : Obj) (its : List Value), Begins u o (c.hh its) ∧ c.hh its s.heap ∧ (∀ b, s.heap.objs.size ≤ b → c.off b) ∧ ∀ (it : Addr) (h : Heap), h.get? it = some o → c.cell it 0 h := by
  cases c with
  | str z =>
    have e : v = .str z := hv
    subst e
    obtain ⟨t, rfl⟩ := r
    exact ⟨_, [], begins_text z t, trivial, fun _ _ => trivial, fun it h e => ⟨t, _, e, rfl, rfl⟩⟩
  | lst a =>
    have e : v = .ref a := hv
    subst e
    cases r
    obtain ⟨its, rv, p, _⟩ := I.list hx
    exact ⟨_, its, begins_list a its.toArray, p.isList, fun b hb => Nat.ne_of_lt (Nat.lt_of_lt_of_le p.lt hb), fun it h e => ⟨_, e, rfl, rfl⟩⟩
  | tup a =>
    have e : v = .ref a := hv
    subst e
    cases r
    obtain ⟨its, rv, p, _⟩ := I.tuple hx
    exact ⟨_, its, begins_tuple a its.toArray, p, fun b hb => Nat.ne_of_lt (Nat.lt_of_lt_of_le p.lt hb), fun it h e => ⟨_, e, rfl, rfl⟩⟩
theorem nadd {N i j : Nat} (h : i ≠ j) : (N + i : Nat) ≠ N + j := by omega
theorem nad0 {N i : Nat} (h : i ≠ 0) : (N + i : Nat) ≠ N := by omega
theorem zap (N : Nat) (c d : Sd) (h1 : ∀ b, b ∈ [N + 4, N + 2, N + 3, N, N + 1] → c.off b) (h2 : ∀ b, b ∈ [N + 4, N + 2, N + 3, N, N + 1] → d.off b) : ZApart (N + 4) (N + 2) (N + 3) N (N + 1) c d :=
  ⟨nadd (by decide), nadd (by decide), nadd (by decide), nad0 (by decide), nadd (by decide), (nad0 (by decide)).symm, nadd (by decide), (nad0 (by decide)).symm, nadd (by decide), (nad0 (by decide)).symm, h1, h2⟩
def KZ (K : PySem.W.Frag) (vs : List V) (H : Hp) (R : It → Prop) : Prop := ∃ (x y : V) (c d : Sd) (xs ys : List V), vs = [x, y] ∧ c.val x ∧ d.val y ∧ c.is K H xs ∧ d.is K H ys ∧ R (ItZ K c d)
def iZipZ (K : PySem.W.Frag) (ta : TA) : TI := fun σ H R => ta σ H fun vs H1 => KZ K vs H1 fun J => R J H1
theorem pi_zipZ {X : Cx} {e e2 : Expr} {ta : TA} {p pos tpos : Pos} {elts : List Expr} {kk : Nat} (hg : Gl X "zip") (hm : X.mg "zip" = none) (ha : PA X [e, e2] ta)
    (hs : starEach [e, e2] X.env = (false, eval e X.env) :: starEach [e2] X.env := by rfl) (hpl : (backTo pos (starEach [e2] X.env)).any (·.1) = false := by rfl) :
    PI X (.Tuple elts kk tpos) (.Call (.Name "zip" p) [e, e2] [] pos) (iZipZ X.K ta) := by
  refine ⟨fun pins s σ H R I h => ?_⟩
  refine PyProof.Rows.Call_ (ld_blt I hg hm PyProof.Rows.boot_zip (PyProof.Rows.callWith_type1 (thn (ha.run pos pins s σ H _ I h) fun us s1 ⟨vs, H1, I1, r1, q1⟩ => ?_) hs hpl))
  obtain ⟨x, y, c, d, xs, ys, ex, vc, vd, hx, hy, q⟩ := q1
  subst ex
  cases r1 with
  | cons r rr =>
    cases rr with
    | cons r' rr =>
      cases rr
      obtain ⟨o1, its1, B1, g1, off1, cell1⟩ := Sd.begins I1 vc r hx
      obtain ⟨o2, its2, B2, g2, off2, cell2⟩ := Sd.begins I1 vd r' hy
      have fresh5 : ∀ c, c ∈ [s1.heap.objs.size + 4, s1.heap.objs.size + 2, s1.heap.objs.size + 3, s1.heap.objs.size, s1.heap.objs.size + 1] → s1.heap.objs.size ≤ c := fun c hcm => by
        have e' : c = s1.heap.objs.size + 4 ∨ c = s1.heap.objs.size + 2 ∨ c = s1.heap.objs.size + 3 ∨ c = s1.heap.objs.size ∨ c = s1.heap.objs.size + 1 := by simpa using hcm
        rcases e' with z | z | z | z | z
        · rw [z]; exact Nat.le_add_right _ _
        · rw [z]; exact Nat.le_add_right _ _
        · rw [z]; exact Nat.le_add_right _ _
        · rw [z]; exact Nat.le_refl _
        · rw [z]; exact Nat.le_add_right _ _
      refine zip_begins2 B1 B2 g1 g2 fun h' hz hTI hTO h1 h2 hsz hk => wpAny_pyIter_zip hz ?_
      have I2 : Inv X pins σ H1 { s1 with heap := h' } := I1.kept (t' := s1.toks) hk
      have ap : ZApart (s1.heap.objs.size + 4) (s1.heap.objs.size + 2) (s1.heap.objs.size + 3) s1.heap.objs.size (s1.heap.objs.size + 1) c d :=
        zap s1.heap.objs.size c d (fun b hb => off1 b (fresh5 b hb)) (fun b hb => off2 b (fresh5 b hb))
      exact ⟨s1.heap.objs.size + 4, [s1.heap.objs.size + 4, s1.heap.objs.size + 2, s1.heap.objs.size + 3, s1.heap.objs.size, s1.heap.objs.size + 1], _, _, H1, rfl, I2, turn_zipZ ap, ⟨hz, hTI, ⟨_, _, hTO⟩, cell1 _ _ h1, cell2 _ _ h2⟩, fun c hc => I1.fpOk (fresh5 c hc) (I1.hok.fresh (fresh5 c hc)), q⟩
theorem walk_zipZ {K : PySem.W.Frag} {c d : Sd} {xs ys : List V} {n : Nat} (hn : n = min xs.length ys.length) :
    Walk (ItZ K c d) n (fun H => c.is K H xs ∧ d.is K H ys) (YPair (fun i => xs[i]?) (fun i => ys[i]?)) := by
  subst hn
  refine ⟨fun i _ hi q => ⟨xs, ys, q.1, q.2, by omega, by omega⟩, fun _ q => ⟨xs, ys, q.1, q.2, by omega, by omega, by omega⟩, fun i H v H' hi q y => ?_⟩
  obtain ⟨T, x, z, h1, h2, h3, h4, h5⟩ := y
  exact ⟨T, x, z, h1, h2, h3, h4 xs q.1, h5 ys q.2⟩
end Z
namespace Z
open PySem PySem.Spec PyProof.Rows L2
open PySem.Sem (wp)
/-! ### sorted of a text, a text times a number -/
theorem strs_of_signs : ∀ (l : List Nat) (vs : List Value), vs.length = l.length → (∀ (j : Nat) (v : Value), vs[j]? = some v → ∃ c u, l[j]? = some c ∧ v = .str ⟨#[c]⟩ u) → StrsAre vs (l.map fun c => S [c])
  | [], [], _, _ => .nil
  | [], _ :: _, h, _ => by simp at h
  | _ :: _, [], h, _ => by simp at h
  | c :: l, v :: vs, h, q => by
    obtain ⟨c', u, e1, e2⟩ := q 0 v (by simp)
    have : c = c' := by simpa using e1
    subst this
    subst e2
    exact .cons _ u (strs_of_signs l vs (by simpa using h) fun j w hw => by
      have := q (j + 1) w (by simpa using hw)
      simpa using this)
theorem rising_pw : ∀ (p : Nat) (l : List Nat), risingS (S [p]) (l.map fun c => S [c]) = true → (p :: l).Pairwise (· ≤ ·)
  | p, [], _ => by simp
  | p, c :: l, h => by
    have h' : (!ltCps [c] [p] && risingS (S [c]) (l.map fun c => S [c])) = true := h
    rw [Bool.and_eq_true] at h'
    obtain ⟨h1, h2⟩ := h'
    have ih := rising_pw c l h2
    have hpc : p ≤ c := by
      have e : ltCps [c] [p] = false := by simpa using h1
      rw [ltCps_eq] at e
      have : ¬ ([c] < [p]) := by simpa using e
      have h3 : ¬ c < p := fun q => this (List.Lex.rel q)
      omega
    refine List.pairwise_cons.mpr ⟨fun d hd => ?_, ih⟩
    rcases List.mem_cons.mp hd with q | q
    · rw [q]; exact hpc
    · exact Nat.le_trans hpc (List.rel_of_pairwise_cons ih q)
theorem sorted_pw : ∀ (l : List Nat), sortedS (l.map fun c => S [c]) = true → l.Pairwise (· ≤ ·)
  | [], _ => by simp
  | p :: l, h => rising_pw p l h
theorem unmap_S : ∀ {l : List Nat} {ys : List Str}, ys.Perm (l.map fun c => S [c]) → ∃ zs : List Nat, ys = zs.map (fun c => S [c]) ∧ zs.Perm l := fun {l ys} h => by
  have e : ys = (ys.map fun y => (codes y).headD 0).map fun c => S [c] := by
    rw [List.map_map]
    refine (List.map_congr_left (fun y hy => ?_)).symm.trans (List.map_id _) |>.symm
    obtain ⟨c, _, rfl⟩ := List.mem_map.mp (h.mem_iff.mp hy)
    rfl
  refine ⟨ys.map fun y => (codes y).headD 0, e, ?_⟩
  have := h.map fun y => (codes y).headD 0
  rw [List.map_map] at this
  refine this.trans (List.Perm.of_eq ?_)
  exact (List.map_congr_left (g := id) fun c _ => rfl).trans (List.map_id _)
def zSortedC : List V → Hp → VK → Prop := fun vs H Q => ∃ z : List Nat, vs = [.str (S z)] ∧ z.length < 64 ∧ ∀ (ys : List Nat) (p : Addr), ys.Perm z → ys.Pairwise (· ≤ ·) → H p = none → Q (.ref p) (upd H p (.lst (ys.map fun c => V.str (S [c]))))
theorem zc_sortedC {X : Cx} (hc : X.calm = true) : CallR X (.builtin "sorted") zSortedC := by
  intro pins s σ H vs us Q I r h
  obtain ⟨z, rfl, h64, q⟩ := h
  obtain ⟨u, rfl, rx⟩ := vals1 r
  obtain ⟨t, rfl⟩ := rx
  refine Calls.call_function_entry kind_sorted plain_sorted entry_sorted (args_sorted1 _) ?_
  unfold Builtin.«sorted»
  refine wpAny_bind (m := checkCount "sorted" 1 1 _) (wpAny_pure ?_)
  have h64' : (S z).cps.size = z.length := by simp
  have hh : X.A.in1.handled = none := I.ok.hd hc
  refine wpAny_bind (wpAny_collect_str (A := X.A.in1) hh (S z) t (fun s1 acc k g dr os it => ?_) (by rw [h64']; exact Nat.le_trans (Nat.le_of_lt h64) (by decide)))
  obtain ⟨h1, g1, d1, t1, o1⟩ := s1
  subst g dr os
  replace k : ∀ b o, s.heap.get? b = some o → h1.get? b = some o := k
  have hl64 : acc.toList.length < 64 := by rw [Array.length_toList, it.1, h64']; exact h64
  refine wpAny_bind (wpAny_newList ?_ (by exact Nat.le_trans (Nat.le_of_lt hl64) (by decide)))
  have hS : StrsAre acc.toList (z.map fun c => S [c]) := strs_of_signs z acc.toList (by rw [Array.length_toList, it.1, h64']) fun j v hv => by
    obtain ⟨c, u, e1, e2⟩ := it.2 j v (by simpa using hv)
    exact ⟨c, u, by simpa using e1, e2⟩
  have hoL : (h1.push (seqObj "list" acc.toList.toArray 0)).get? h1.objs.size = some (seqObj "list" acc.toList.toArray 0) := Heap.get?_push_size _ rfl
  refine wpAny_bind (wpAny_holding (wpAny_call_entry slot_list_sort ⟨_, hoL, rfl⟩ entry_list_sort (list_sort_treeK strKind_oneLt hoL hS.keysOf (fun v₁ v₂ rest e => keyKind_strs (by rw [← e]; exact hS)) hl64 fun st' a1 a2 => ⟨_, rfl, ?_⟩) (args_list_sort _)))
  refine wpAny_pure ⟨_, rfl, ?_⟩
  obtain ⟨ss', b1, b2, b3⟩ := sorted_out_str hS a1 a2
  obtain ⟨zs, rfl, pz⟩ := unmap_S b2
  obtain ⟨ep, he'⟩ := PyProof.Rows.sortedHeap_at (vs := acc.toList) (out := (arrOf st').map (·.2)) hoL
  have hlen : (zs.map fun c => V.str (S [c])).length ≤ sizeLine := by rw [List.length_map, pz.length_eq]; exact Nat.le_trans (Nat.le_of_lt h64) (by decide)
  have I1 : Inv X pins σ H ⟨h1, s.gens, s.drawn, t1, s.os⟩ := I.kept (t' := t1) k
  refine ⟨.ref _, upd H h1.objs.size (.lst (zs.map fun c => V.str (S [c]))), I1.laid (t' := t1) (fun b u e => ?_) (Nat.le_refl _) ⟨hlen, _, ep, ?_, he'⟩, rfl, q zs _ pz (sorted_pw zs b3) (I1.hok.fresh (Nat.le_refl _))⟩
  · have hb : b ≠ h1.objs.size := Nat.ne_of_lt (Heap.lt_size e)
    exact PyProof.Rows.sortedHeap_old hb (Heap.lt_size (Heap.get?_push_of_some _ e)) |>.trans (Heap.get?_push_of_some _ e)
  · have := vals_of_strs b1
    rwa [List.map_map] at this
end Z
namespace Z
open PySem PySem.Spec PyProof.Rows L2
open PySem.Sem (wp)
def zRepS : R2 := fun x y H Q => ∃ (z : List Nat) (n : Int), x = .str (S z) ∧ y = .int n ∧ 0 ≤ n ∧ z.length * n.toNat ≤ 100000 ∧ n ≤ 100000 ∧ Q (.str (S (List.replicate n.toNat z).flatten)) H
theorem foldl_app : ∀ (k : Nat) (z : Array Nat) (a : Array Nat), ((List.replicate k z).foldl (· ++ ·) a).toList = a.toList ++ (List.replicate k z.toList).flatten
  | 0, z, a => by simp
  | k + 1, z, a => by
    rw [List.replicate_succ, List.foldl_cons, foldl_app k z (a ++ z), List.replicate_succ, List.flatten_cons, Array.toList_append, List.append_assoc]
theorem mul_S (z : List Nat) (n : Int) (h0 : 0 ≤ n) : Txt.mul (S z) n = S (List.replicate n.toNat z).flatten := by
  unfold Txt.mul
  by_cases h1 : n < 1
  · rw [if_pos h1]
    have : n = 0 := by omega
    subst this
    rfl
  · rw [if_neg h1]
    by_cases h2 : (n == 1 || (S z).length == 0) = true
    · rw [if_pos h2]
      rcases (Bool.or_eq_true _ _).mp h2 with h3 | h3
      · have : n = 1 := by simpa using h3
        subst this
        simp
      · have : z = [] := by
          have h4 : (S z).length = 0 := by simpa using h3
          rw [S_len] at h4
          exact List.eq_nil_of_length_eq_zero h4
        subst this
        simp
    · rw [if_neg h2]
      have := foldl_app n.toNat z.toArray #[]
      rw [List.nil_append] at this
      show (⟨_⟩ : Str) = ⟨_⟩
      rw [← Array.toArray_toList (xs := (List.replicate n.toNat (S z).cps).foldl (· ++ ·) #[])]
      exact congrArg (fun l : List Nat => (⟨l.toArray⟩ : Str)) this
theorem op_rep_str {X : Cx} : OpR X (binaryOp .Mult) zRepS := by
  intro pins s σ H x y v u Q I rx ry h
  obtain ⟨z, n, rfl, rfl, h0, hl, hn, q⟩ := h
  obtain ⟨t, rfl⟩ := rx
  obtain ⟨t', rfl⟩ := ry
  have hmul : MulOk (S z) n := by
    refine ⟨?_, fun h1 h2 => ?_, fun h1 h2 => ?_⟩
    · rw [Bool.or_eq_false_iff]
      exact ⟨decide_eq_false (by omega), decide_eq_false (by omega)⟩
    · have e : ((S z).length : Int) = z.length := by rw [S_len]
      have hz : z.length ≤ 100000 := by
        have : 1 ≤ n.toNat := by omega
        exact Nat.le_trans (Nat.le_mul_of_pos_right _ this) hl
      have h3 : (100000 : Int) ≤ (2 ^ 63 - 1) / n := by
        rw [Int.le_ediv_iff_mul_le (by omega)]
        have : (100000 : Int) * n ≤ 100000 * 100000 := Int.mul_le_mul_of_nonneg_left hn (by decide)
        omega
      omega
    · unfold Builtin.Str.tooLong
      rw [S_len]
      exact decide_eq_false (Nat.not_lt.mpr (Nat.le_trans hl (by decide)))
  refine SB.mul hmul fun tk k => ?_
  rw [mul_S z n h0]
  exact ⟨.str (S (List.replicate n.toNat z).flatten), H, I.tok k, ⟨tk, rfl⟩, q⟩
theorem i_repS {a : List Nat} {n : Int} {H : Hp} {Q : VK} (h0 : 0 ≤ n) (hl : a.length * n.toNat ≤ 100000) (hn : n ≤ 100000) (q : Q (.str (S (List.replicate n.toNat a).flatten)) H) : zRepS (.str (S a)) (.int n) H Q := ⟨a, n, rfl, rfl, h0, hl, hn, q⟩
end Z
namespace Z
open PySem PySem.Spec PyProof.Rows L2
open PySem.Builtin.Str (occurrences subAt lastOccurrence)
/-! ### texts: what find, count and their kin are on lists of codes -/
theorem cutS_S (a : List Nat) (lo hi : Option Int) : cutS (S a) lo hi = S ((a.drop (HT.sIx a.length 0 lo)).take (HT.sIx a.length a.length hi - HT.sIx a.length 0 lo)) := by
  unfold cutS
  rw [S_len]
theorem sub_iff (a b : List Nat) (i : Nat) : subAt (S a) (S b) i = true ↔ (a.drop i).take b.length = b := by
  unfold subAt
  have e : ((S a).cps.extract i (i + (S b).length)) = ((a.drop i).take b.length).toArray := by
    rw [S_len]
    show a.toArray.extract i (i + b.length) = _
    rw [List.extract_toArray, List.extract_eq_take_drop]
    have : i + b.length - i = b.length := by omega
    rw [this]
  rw [e]
  constructor
  · intro h
    have := eq_of_beq h
    exact congrArg Array.toList this
  · intro h
    rw [h]
    exact beq_self_eq_true _
def idx (c : Nat) : List Nat → Nat → List Nat
  | [], _ => []
  | x :: r, i => if x = c then i :: idx c r (i + 1) else idx c r (i + 1)
theorem idx_len (c : Nat) : ∀ (l : List Nat) (i : Nat), (idx c l i).length = l.count c
  | [], _ => rfl
  | x :: r, i => by
    unfold idx
    by_cases h : x = c
    · subst h; rw [if_pos rfl, List.length_cons, idx_len x r, List.count_cons_self]
    · rw [if_neg h, idx_len c r, List.count_cons_of_ne h]
theorem idx_lo (c : Nat) : ∀ (l : List Nat) (i j : Nat), j ∈ idx c l i → i ≤ j
  | [], _, _, h => by simp [idx] at h
  | x :: r, i, j, h => by
    unfold idx at h
    split at h
    · rcases List.mem_cons.mp h with e | h
      · omega
      · have := idx_lo c r (i + 1) j h; omega
    · have := idx_lo c r (i + 1) j h; omega
theorem take1 (c : Nat) (a : List Nat) (i : Nat) : ((a.drop i).take 1 = [c]) ↔ a[i]? = some c := by
  rcases h : a[i]? with _ | x
  · have : a.drop i = [] := List.drop_eq_nil_iff.mpr (List.getElem?_eq_none_iff.mp h)
    rw [this]; simp
  · obtain ⟨hl, e⟩ := List.getElem?_eq_some_iff.mp h
    have : a.drop i = x :: a.drop (i + 1) := by rw [List.drop_eq_getElem_cons hl, e]
    rw [this]; simp
theorem occ_loop (a : List Nat) (c lim : Nat) : ∀ (k i : Nat) (st : Array Nat × Nat), i + k = a.length + 1 → st.2 ≤ i →
    (forIn (List.range' i k) st (StrLaws.occBody (S a) (S [c]) a.length lim)).run.fst.toList = st.1.toList ++ (idx c (a.drop i) i).take (lim - st.1.size)
  | 0, i, st, hk, _ => by
    have : a.drop i = [] := List.drop_eq_nil_iff.mpr (by omega)
    rw [this]
    simp [idx]
  | k + 1, i, st, hk, hf => by
    rw [List.range'_succ, List.forIn_cons]
    unfold StrLaws.occBody
    have hS : (S [c]).length = 1 := S_len [c]
    by_cases hc : ((st.fst.size < lim ∧ st.snd ≤ i) ∧ i + (S [c]).length ≤ a.length) ∧ subAt (S a) (S [c]) i = true
    · rw [if_pos hc]
      have h1 : a[i]? = some c := (take1 c a i).mp ((sub_iff a [c] i).mp hc.2)
      obtain ⟨hl, e⟩ := List.getElem?_eq_some_iff.mp h1
      have hd : a.drop i = c :: a.drop (i + 1) := by rw [List.drop_eq_getElem_cons hl, e]
      have ih := occ_loop a c lim k (i + 1) (st.fst.push i, i + (S [c]).length) (by omega) (by rw [hS]; exact Nat.le_refl _)
      refine ih.trans ?_
      rw [hd, show idx c (c :: a.drop (i + 1)) i = i :: idx c (a.drop (i + 1)) (i + 1) from if_pos rfl]
      have hlt := hc.1.1.1
      obtain ⟨n, hn⟩ : ∃ n, lim - st.fst.size = n + 1 := ⟨lim - st.fst.size - 1, by omega⟩
      have hn2 : lim - (st.fst.push i).size = n := by rw [Array.size_push]; omega
      rw [hn, List.take_succ_cons, Array.toList_push, List.append_assoc]
      show _ ++ ([i] ++ _) = _
      rw [hn2]
      rfl
    · rw [if_neg hc]
      have ih := occ_loop a c lim k (i + 1) st (by omega) (by omega)
      refine ih.trans ?_
      by_cases hz : lim - st.fst.size = 0
      · rw [hz]; simp
      · have hne : ¬ a[i]? = some c := fun h1 => hc ⟨⟨⟨by omega, hf⟩, by obtain ⟨hl, _⟩ := List.getElem?_eq_some_iff.mp h1; rw [hS]; omega⟩, (sub_iff a [c] i).mpr ((take1 c a i).mpr h1)⟩
        rcases h : a[i]? with _ | x
        · have e0 : a.drop i = [] := List.drop_eq_nil_iff.mpr (List.getElem?_eq_none_iff.mp h)
          have e1 : a.drop (i + 1) = [] := List.drop_eq_nil_iff.mpr (by have := List.getElem?_eq_none_iff.mp h; omega)
          rw [e0, e1]; simp [idx]
        · obtain ⟨hl, e⟩ := List.getElem?_eq_some_iff.mp h
          have hd : a.drop i = x :: a.drop (i + 1) := by rw [List.drop_eq_getElem_cons hl, e]
          rw [hd]
          have hx : ¬ x = c := fun q => hne (by rw [h, q])
          show _ = _ ++ List.take _ (idx c (x :: a.drop (i + 1)) i)
          rw [show idx c (x :: a.drop (i + 1)) i = idx c (a.drop (i + 1)) (i + 1) from if_neg hx]
theorem occ_idx (a : List Nat) (c lo lim : Nat) (h : lo ≤ a.length) : occurrences (S a) (S [c]) lo a.length lim = (idx c (a.drop lo) lo).take lim := by
  rw [StrLaws.occ_eq, occ_loop a c lim (a.length + 1 - lo) lo (#[], lo) (by omega) (Nat.le_refl _)]
  simp
theorem find_S (a : List Nat) (c : Nat) : Txt.find (S a) (S [c]) = match idx c a 0 with | i :: _ => (i : Int) | [] => -1 := by
  unfold Txt.find
  rw [S_len, occ_idx a c 0 1 (Nat.zero_le _), List.drop_zero]
  cases idx c a 0 <;> rfl
theorem count_S (a : List Nat) (c : Nat) : Txt.count (S a) (S [c]) = (a.count c : Nat) := by
  unfold Txt.count
  rw [S_len, occ_idx a c 0 (a.length + 1) (Nat.zero_le _), List.drop_zero, List.take_of_length_le (by rw [idx_len]; have := List.count_le_length (a := c) (l := a); omega), idx_len]
theorem starts_S (a b : List Nat) : Txt.startswith (S a) (S b) = decide (b <+: a) := by
  unfold Txt.startswith
  rw [S_len, S_len]
  by_cases h : b <+: a
  · rw [decide_eq_true h]
    obtain ⟨r, rfl⟩ := h
    have h1 : subAt (S (b ++ r)) (S b) 0 = true := (sub_iff _ _ _).mpr (by simp)
    rw [h1]; simp
  · rw [decide_eq_false h]
    rw [Bool.and_eq_false_iff]
    refine .inr ?_
    cases q : subAt (S a) (S b) 0 with
    | false => rfl
    | true =>
      have := (sub_iff a b 0).mp q
      rw [List.drop_zero] at this
      exact absurd (by rw [← this]; exact List.take_prefix _ _) h
theorem ends_S (a b : List Nat) : Txt.endswith (S a) (S b) = decide (b <:+ a) := by
  unfold Txt.endswith
  rw [S_len, S_len]
  by_cases h : b <:+ a
  · rw [decide_eq_true h]
    obtain ⟨r, rfl⟩ := h
    have h1 : subAt (S (r ++ b)) (S b) ((r ++ b).length - b.length) = true := (sub_iff _ _ _).mpr (by simp)
    rw [h1]; simp
  · rw [decide_eq_false h]
    cases q : (decide (0 + b.length ≤ a.length) && subAt (S a) (S b) (a.length - b.length)) with
    | false => rfl
    | true =>
      obtain ⟨q1, q2⟩ := (Bool.and_eq_true _ _).mp q
      have q1 : 0 + b.length ≤ a.length := of_decide_eq_true q1
      have := (sub_iff a b _).mp q2
      have hl : (a.drop (a.length - b.length)).length = b.length := by rw [List.length_drop]; omega
      rw [List.take_of_length_le (by omega)] at this
      exact absurd (by rw [← this]; exact List.drop_suffix _ _) h
theorem in_S (a b : List Nat) : (!(occurrences (S a) (S b) 0 (S a).length 1).isEmpty) = decide (b <:+: a) := by
  rw [Bool.eq_iff_iff, StrLaws.found_iff, decide_eq_true_iff]
  constructor
  · rintro ⟨i, h1, h2⟩
    have := (sub_iff a b i).mp h2
    rw [← this]
    exact (List.take_prefix _ _).isInfix.trans (List.drop_suffix _ _).isInfix
  · rintro ⟨r, t, rfl⟩
    refine ⟨r.length, by rw [S_len, S_len, List.length_append, List.length_append]; omega, (sub_iff _ _ _).mpr (by simp)⟩
end Z
namespace Z
open PySem PySem.Spec PyProof.Rows L2
open PySem.Builtin.Str (occurrences subAt lastOccurrence)
/-! ### methods of texts by name -/
def find1 (c : Nat) (a : List Nat) : Int := match idx c a 0 with | i :: _ => (i : Int) | [] => -1
def zJoin0 (K : PySem.W.Frag) : V → List V → Hp → VK → Prop := fun x xs H Q => ∃ a p, ∃ ys : List Str, x = V.str a ∧ xs = [.ref p] ∧ (SqL K H p (ys.map V.str) ∨ SqT K H p (ys.map V.str)) ∧ (ys.map (·.length)).sum + ys.length * a.length ≤ 16777216 ∧ Q (.str (Txt.join a ys)) H
def zFind : V → List V → Hp → VK → Prop := fun x xs H Q => ∃ a b : Str, x = V.str a ∧ xs = [.str b] ∧ Q (.int (Txt.find a b)) H
def zFind3 : V → List V → Hp → VK → Prop := fun x xs H Q => ∃ (a b : Str) (i : Int), x = V.str a ∧ xs = [.str b, .int i] ∧ Q (.int (Txt.find3 a b i)) H
def zCount : V → List V → Hp → VK → Prop := fun x xs H Q => ∃ a b : Str, x = V.str a ∧ xs = [.str b] ∧ Q (.int (Txt.count a b)) H
def zStarts : V → List V → Hp → VK → Prop := fun x xs H Q => ∃ a b : Str, x = V.str a ∧ xs = [.str b] ∧ Q (.bl (Txt.startswith a b)) H
def zEnds : V → List V → Hp → VK → Prop := fun x xs H Q => ∃ a b : Str, x = V.str a ∧ xs = [.str b] ∧ Q (.bl (Txt.endswith a b)) H
def zIndex : V → List V → Hp → VK → Prop := fun x xs H Q => ∃ (a b : Str) (i : Nat) (rest : List Nat), x = V.str a ∧ xs = [.str b] ∧ occurrences a b 0 a.length 1 = i :: rest ∧ Q (.int (i : Nat)) H
def zUpper : V → List V → Hp → VK → Prop := fun x xs H Q => ∃ a : Str, x = V.str a ∧ xs = [] ∧ a.length ≤ 5592405 ∧ Q (.str (Txt.upper a)) H
def zInStr : R2 := fun x y H Q => ∃ i j : Str, x = V.str i ∧ y = V.str j ∧ Q (V.bl (!(occurrences j i 0 j.length 1).isEmpty)) H
def zAppend : V → List V → Hp → VK → Prop := fun x vs H Q => ∃ l xs y, x = V.ref l ∧ vs = [y] ∧ H l = some (.lst xs) ∧ xs.length < sizeLine ∧ Q .non (upd H l (.lst (xs ++ [y])))
def zPopAt : V → List V → Hp → VK → Prop := fun x vs H Q => ∃ l xs i k y, x = V.ref l ∧ vs = [.int i] ∧ H l = some (.lst xs) ∧ -(2 ^ 63) ≤ i ∧ i < 2 ^ 63 ∧ seqIndex? i xs.length = some k ∧ xs[k]? = some y ∧ Q y (upd H l (.lst (xs.eraseIdx k)))
section
variable {X : Cx}
theorem zm_find : MtR X "str.find" zFind := mt_find
theorem zm_find3 : MtR X "str.find" zFind3 := mt_find3
theorem zm_count : MtR X "str.count" zCount := mt_count
theorem zm_starts : MtR X "str.startswith" zStarts := mt_startswith
theorem zm_ends : MtR X "str.endswith" zEnds := mt_endswith
theorem zm_index : MtR X "str.index" zIndex := mt_sindex
theorem zm_upper : MtR X "str.upper" zUpper := mt_upper
theorem zm_append : MtR X "list.append" zAppend := mt_append
theorem zm_popAt : MtR X "list.pop" zPopAt := mt_popAt
theorem z_instr : OpR X (compareOp .In) zInStr := op_in_str
theorem pe_joinZ {K : PySem.W.Frag} {o e : Expr} {to te : TE} {apos pos : Pos} (hK : X.K = K) (ho : PE X o to) (he : PE X e te) (h1 : starEach [e] X.env = [(false, eval e X.env)] := by rfl)
    (h2 : attributeBase o "join" X.env (eval o X.env) = eval o X.env := by rfl) (h3 : (apos.endLine == pos.line) = true := by rfl) :
    PE X (.Call (.Attribute o "join" apos) [e] [] pos) (tM1 (zJoin0 K) to te) := hK ▸ pe_join ho he h1 h2 h3
theorem pe_bmZ {K : PySem.W.Frag} {o e : Expr} {es : List Expr} {to : TE} {t : TA} {name : Str} {apos cpos : Pos} {T id : String} {r : V → List V → Hp → VK → Prop} (hK : X.K = K)
    (pa : PlainAttrs T) (slot : Slot T name id) (hty : typeOf (.builtin id) = pure (.type "method_descriptor")) (hm : MtR X id r) (ho : PE X o to) (ha : PA X (e :: es) t)
    (h1 : attributeBase o name X.env (eval o X.env) = eval o X.env := by rfl)
    (h2 : ((((backTo cpos (starEach (e :: es) X.env)).all fun x => !x.1) && (backToKw cpos (keywordEach [] X.env)).all fun x => x.1.isSome) && decide (((e :: es).length + ([] : List Keyword).length + if ([] : List Keyword).isEmpty = true then 0 else 1) < 30)) = true := by rfl)
    (h3 : (apos.endLine == cpos.line) = true := by rfl) (h4 : starEach (e :: es) X.env = (false, eval e X.env) :: starEach es X.env := by rfl) (h5 : (backTo cpos (starEach es X.env)).any (fun x => x.1) = false := by rfl) :
    PE X (.Call (.Attribute o name apos) (e :: es) [] cpos) (tBM K T r to t) := hK ▸ pe_bm pa slot hty hm ho ha h1 h2 h3 h4 h5
theorem pe_bm0Z {K : PySem.W.Frag} {o : Expr} {to : TE} {name : Str} {apos cpos : Pos} {T id : String} {r : V → List V → Hp → VK → Prop} (hK : X.K = K)
    (pa : PlainAttrs T) (slot : Slot T name id) (hty : typeOf (.builtin id) = pure (.type "method_descriptor")) (hm : MtR X id r) (ho : PE X o to)
    (h1 : attributeBase o name X.env (eval o X.env) = eval o X.env := by rfl) (h3 : (apos.endLine == cpos.line) = true := by rfl) :
    PE X (.Call (.Attribute o name apos) [] [] cpos) (tBM0 K T r to) := hK ▸ pe_bm0 pa slot hty hm ho h1 h3
theorem pe_fldZ {K : PySem.W.Frag} {e : Expr} {f : Str} {pos : Pos} {ta : TE} (hK : X.K = K) (he : PE X e ta) (hb : attributeBase e f X.env (eval e X.env) = eval e X.env) : PE X (.Attribute e f pos) (tFld K ta f) := hK ▸ pe_fld he hb
end
section
variable {σ : L2.St} {H : Hp} {Q : VK} {D : Ends} {K : PySem.W.Frag} {i j : Int} {a b : List Nat} {x y v : V} {p : Addr} {xs : List V} {te : TE}
theorem i_m1 {r : V → List V → Hp → VK → Prop} {to : TE} (q : to σ H fun x H1 => KS x fun z => te σ H1 fun y H2 => r (.str z) [y] H2 Q) : tM1 r to te σ H Q := by
  have e : (fun (x : V) (H1 : Hp) => KS x fun z => te σ H1 fun y H2 => r (.str z) [y] H2 Q) = fun x H1 => (∃ a, x = V.str a) ∧ te σ H1 fun y H2 => r x [y] H2 Q := by
    funext x H1
    refine propext ⟨?_, ?_⟩
    · rintro ⟨z, rfl, h⟩; exact ⟨⟨z, rfl⟩, h⟩
    · rintro ⟨⟨z, rfl⟩, h⟩; exact ⟨z, rfl, h⟩
  rw [e] at q
  exact q
theorem i_tyS {t : TA} {R : List V → Hp → Prop} (q : t σ H R) : tyV K "str" (.str (S a)) H ∧ t σ H R := ⟨rfl, q⟩
theorem i_tyS0 {A : Prop} (q : A) : tyV K "str" (.str (S a)) H ∧ A := ⟨rfl, q⟩
theorem i_tyL {A : Prop} (h : SqL K H p xs) (q : A) : tyV K "list" (.ref p) H ∧ A := ⟨.inl ⟨rfl, xs, h⟩, q⟩
theorem i_find {c : Nat} (q : Q (.int (find1 c a)) H) : zFind (.str (S a)) [.str (S [c])] H Q := ⟨_, _, rfl, rfl, by rw [find_S]; exact q⟩
theorem i_count {c : Nat} (q : Q (.int (a.count c : Nat)) H) : zCount (.str (S a)) [.str (S [c])] H Q := ⟨_, _, rfl, rfl, by rw [count_S]; exact q⟩
theorem i_starts (q : Q (.bl (decide (b <+: a))) H) : zStarts (.str (S a)) [.str (S b)] H Q := ⟨_, _, rfl, rfl, by rw [starts_S]; exact q⟩
theorem i_ends (q : Q (.bl (decide (b <:+ a))) H) : zEnds (.str (S a)) [.str (S b)] H Q := ⟨_, _, rfl, rfl, by rw [ends_S]; exact q⟩
theorem i_instr (q : Q (.bl (decide (b <:+: a))) H) : zInStr (.str (S b)) (.str (S a)) H Q := ⟨_, _, rfl, rfl, by rw [in_S]; exact q⟩
theorem i_index {c n : Nat} (h : (idx c a 0).head? = some n) (q : Q (.int (n : Nat)) H) : zIndex (.str (S a)) [.str (S [c])] H Q := by
  cases e : idx c a 0 with
  | nil => rw [e] at h; cases h
  | cons m r =>
    rw [e] at h; cases h
    exact ⟨_, _, n, [], rfl, rfl, by rw [S_len, occ_idx a c 0 1 (Nat.zero_le _), List.drop_zero, e]; rfl, q⟩
theorem placed_len (x : Str) (f : Nat → Nat → Array Nat) : True := trivial
theorem i_append (h : H p = some (.lst xs)) (hl : xs.length < 100000) (q : Q .non (upd H p (.lst (xs ++ [v])))) : zAppend (.ref p) [v] H Q := ⟨p, xs, v, rfl, rfl, h, lt_line hl, q⟩
theorem i_slS {lo hi : Option Int} (hl : a.length ≤ 100000) (q : Q (.str (S ((a.drop (HT.sIx a.length 0 lo)).take (HT.sIx a.length a.length hi - HT.sIx a.length 0 lo)))) H) : rSlS (.str (S a)) lo hi H Q :=
  ⟨S a, rfl, by rw [S_len]; exact le_line hl, by rw [cutS_S]; exact q⟩
/-- the slices that a text is cut by: [:i], [i:], [i:j] with places in it -/
theorem i_slTo {n : Nat} (hl : a.length ≤ 100000) (q : Q (.str (S (a.take n))) H) : rSlS (.str (S a)) none (some (n : Int)) H Q := by
  refine i_slS hl ?_
  rw [HT.sIx_none, HT.sIx_nat, List.drop_zero, Nat.sub_zero]
  have : a.take (min n a.length) = a.take n := by
    rcases Nat.le_total n a.length with h | h
    · rw [Nat.min_eq_left h]
    · rw [Nat.min_eq_right h, List.take_of_length_le (Nat.le_refl _), List.take_of_length_le h]
  rw [this]; exact q
theorem i_slFrom {n : Nat} (hl : a.length ≤ 100000) (q : Q (.str (S (a.drop n))) H) : rSlS (.str (S a)) (some (n : Int)) none H Q := by
  refine i_slS hl ?_
  rw [HT.sIx_none, HT.sIx_nat]
  have : (a.drop (min n a.length)).take (a.length - min n a.length) = a.drop n := by
    rcases Nat.le_total n a.length with h | h
    · rw [Nat.min_eq_left h, List.take_of_length_le (by rw [List.length_drop]; exact Nat.le_refl _)]
    · rw [Nat.min_eq_right h, Nat.sub_self, List.take_zero, List.drop_of_length_le h]
  rw [this]; exact q
theorem i_slBoth {n m : Nat} (hl : a.length ≤ 100000) (q : Q (.str (S ((a.drop n).take (m - n)))) H) : rSlS (.str (S a)) (some (n : Int)) (some (m : Int)) H Q := by
  refine i_slS hl ?_
  rw [HT.sIx_nat, HT.sIx_nat]
  have e : (a.drop (min n a.length)).take (min m a.length - min n a.length) = (a.drop n).take (m - n) := by
    rcases Nat.le_total n a.length with h | h
    · rw [Nat.min_eq_left h]
      rcases Nat.le_total m a.length with h2 | h2
      · rw [Nat.min_eq_left h2]
      · rw [Nat.min_eq_right h2, List.take_of_length_le (by rw [List.length_drop]; exact Nat.le_refl _), List.take_of_length_le (by rw [List.length_drop]; omega)]
    · rw [Nat.min_eq_right h, List.drop_length, List.drop_of_length_le h, List.take_nil, List.take_nil]
  rw [e]; exact q
theorem glued_nil : ∀ (l : List (List Nat)) (acc : Array Nat), ((l.map S).foldl (fun (acc : Array Nat) (p : Str) => acc ++ (S []).cps ++ p.cps) acc).toList = acc.toList ++ l.flatten
  | [], acc => by simp
  | x :: l, acc => by
    rw [List.map_cons, List.foldl_cons, glued_nil l]
    simp
theorem join_nil (l : List (List Nat)) : Txt.join (S []) (l.map S) = S l.flatten := by
  cases l with
  | nil => rfl
  | cons x l =>
    have := glued_nil l x.toArray
    show (⟨_⟩ : Str) = ⟨_⟩
    refine congrArg Str.mk ?_
    rw [← Array.toArray_toList (xs := List.foldl _ _ _)]
    exact congrArg List.toArray this
theorem i_join0 {l : List (List Nat)} (h : SqL K H p (l.map fun x => V.str (S x)) ∨ SqT K H p (l.map fun x => V.str (S x))) (hl : l.flatten.length ≤ 100000) (q : Q (.str (S l.flatten)) H) : zJoin0 K (.str (S [])) [.ref p] H Q := by
  refine ⟨S [], p, l.map S, rfl, rfl, ?_, ?_, by rw [join_nil]; exact q⟩
  · rw [List.map_map]; exact h
  · have e : ((l.map S).map (·.length)).sum = l.flatten.length := by
      rw [List.map_map, List.length_flatten]
      exact congrArg List.sum (List.map_congr_left fun x _ => S_len x)
    have e0 : (S []).length = 0 := rfl
    rw [e, e0]; omega
end
end Z
namespace Z
open PySem PySem.Spec PyProof.Rows L2
/-! ### comprehensions by an invariant over what is made so far -/
section
variable {σ : L2.St} {H : Hp} {Q : VK} {K : PySem.W.Frag}
/-- the list at D is acc, and I speaks of it -/
def LcI (Dl : Addr) (I : Nat → List V → Hp → Prop) (i : Nat) (H : Hp) : Prop := ∃ acc, H Dl = some (.lst acc) ∧ acc.length ≤ i ∧ I i acc H
def CEnd (Dl : Addr) (P : Hp → Prop) (y : V) (H4 : Hp) : Prop := ∃ acc, H4 Dl = some (.lst acc) ∧ acc.length < sizeLine ∧ P (upd H4 Dl (.lst (acc ++ [y])))
def LcT (Dl : Addr) (I : Nat → List V → Hp → Prop) (i : Nat) (te : TE) (W : L2.St) (vs : List Nat) (tt : TT) (σ2 : L2.St) (H2 : Hp) : Prop := wipe σ2 vs = W ∧ tt σ2 H2 fun b H3 => if b = true then te σ2 H3 (CEnd Dl (LcI Dl I (i + 1))) else LcI Dl I (i + 1) H3
theorem l_comp {J : It} {n : Nat} {G : Hp → Prop} {Y : Nat → Hp → V → Hp → Prop} (w : Walk J n G Y) {g : TG} {tt : TT} {te : TE} {vs : List Nat} {Dl : Addr} (W : L2.St) (hw : wipe σ vs = W) (I : Nat → List V → Hp → Prop)
    (h0 : I 0 [] (upd H Dl (.lst []))) (hG : ∀ i acc H, i ≤ n → I i acc H → H Dl = some (.lst acc) → G H)
    (hs : ∀ i x acc H H', i < n → I i acc H → H Dl = some (.lst acc) → acc.length ≤ i → Y i H x H' → g x W H' (LcT Dl I i te W vs tt))
    (hd : ∀ acc H, I n acc H → H Dl = some (.lst acc) → acc.length ≤ n → Q (.ref Dl) H) : LC J g tt te vs σ H Q Dl := by
  subst hw
  refine l_lc w (LcI Dl I) ⟨[], upd_same, Nat.le_refl _, h0⟩ (fun i H hi ⟨acc, e, _, p⟩ => hG i acc H hi p e) (fun i x H H' hi ⟨acc, e, hl, p⟩ y => ?_) fun H ⟨acc, e, hl, p⟩ => hd acc H p e hl
  exact hs i x acc H H' hi p e hl y
theorem cend {Dl : Addr} {I : Nat → List V → Hp → Prop} {i : Nat} {y : V} {acc : List V} (h : H Dl = some (.lst acc)) (hl : acc.length ≤ i) (hi : i < 100000) (p : I (i + 1) (acc ++ [y]) (upd H Dl (.lst (acc ++ [y])))) : CEnd Dl (LcI Dl I (i + 1)) y H :=
  ⟨acc, h, lt_line (by omega), acc ++ [y], upd_same, by rw [List.length_append]; simp; omega, p⟩
theorem i_lct {Dl : Addr} {I : Nat → List V → Hp → Prop} {i : Nat} {te : TE} {W : L2.St} {vs : List Nat} {tt : TT} {σ2 : L2.St} (hw : wipe σ2 vs = W) (q : tt σ2 H fun b H3 => if b = true then te σ2 H3 (CEnd Dl (LcI Dl I (i + 1))) else LcI Dl I (i + 1) H3) :
    LcT Dl I i te W vs tt σ2 H := ⟨hw, q⟩
theorem i_slL {p : Addr} {xs : List V} {lo hi : Option Int} (h : SqL K H p xs) (q : ∀ l, H l = none → Q (.ref l) (upd H l (.lst (cutV xs lo hi)))) : rSlL K (.ref p) lo hi H Q := ⟨p, xs, rfl, h, q⟩
theorem cutV_to (xs : List V) (n : Nat) : cutV xs none (some (n : Int)) = xs.take n := by
  unfold cutV
  rw [HT.sIx_none, HT.sIx_nat, List.drop_zero, Nat.sub_zero]
  rcases Nat.le_total n xs.length with h | h
  · rw [Nat.min_eq_left h]
  · rw [Nat.min_eq_right h, List.take_of_length_le (Nat.le_refl _), List.take_of_length_le h]
theorem cutV_from (xs : List V) (n : Nat) : cutV xs (some (n : Int)) none = xs.drop n := by
  unfold cutV
  rw [HT.sIx_none, HT.sIx_nat]
  rcases Nat.le_total n xs.length with h | h
  · rw [Nat.min_eq_left h, List.take_of_length_le (by rw [List.length_drop]; exact Nat.le_refl _)]
  · rw [Nat.min_eq_right h, Nat.sub_self, List.take_zero, List.drop_of_length_le h]
end
theorem _root_.L2.Same.newz {H H' : Hp} {p : Addr} {o : HO} (e : Same H H') (hp : H' p = none) : Same H (upd H' p o) := fun b u q => by have := e b u q; rw [upd_ne (ne_of_none this hp)]; exact this
theorem _root_.L2.Same.mutz {H H' : Hp} {p : Addr} {o : HO} (e : Same H H') (hp : H p = none) : Same H (upd H' p o) := fun b u q => by rw [upd_ne (ne_of_none q hp)]; exact e b u q
end Z
namespace Z
theorem perm_pick {α : Type} {found rest l : List α} {r : Nat} (hr : r < rest.length) (hp : (found ++ rest).Perm l) : ((found ++ [rest[r]]) ++ (rest.take r ++ rest.drop (r + 1))).Perm l := by
  refine List.Perm.trans ?_ hp
  rw [List.append_assoc]
  refine List.Perm.append_left found ?_
  have e : rest = rest.take r ++ rest[r] :: rest.drop (r + 1) := by
    rw [List.getElem_cons_drop, List.take_append_drop]
  refine List.Perm.trans ?_ (List.Perm.of_eq e.symm)
  show (rest[r] :: (rest.take r ++ rest.drop (r + 1))).Perm _
  exact List.perm_middle.symm
theorem az : codes (PySem.Str.ofString "abcdefghijklmnopqrstuvwxyz") = List.range' 97 26 := by decide +kernel
theorem empty_codes : codes (PySem.Str.ofString "") = [] := by decide +kernel
theorem perm_nodup_of {α : Type} {found rest l : List α} (hp : (found ++ rest).Perm l) (hn : l.Nodup) : found.Nodup := (List.nodup_append.mp (hp.nodup_iff.mpr hn)).1
/-- a sorted arrangement of different ones ascends -/
theorem asc_of {ys : List Nat} (h : ys.Pairwise (· ≤ ·)) (hn : ys.Nodup) : ys.Pairwise (· < ·) :=
  (h.and hn).imp fun {a b} q => by have := q.1; have := q.2; omega
theorem flat_one : ∀ ys : List Nat, (ys.map fun c => [c]).flatten = ys
  | [] => rfl
  | a :: l => by rw [List.map_cons, List.flatten_cons, flat_one l]; rfl
end Z
namespace Z
open PySem PySem.Spec PyProof.Rows L2
/-! ### data in the heap: what a value stands for; N tells the addresses that may change -/
mutual
inductive Rp (N : Addr → Prop) (H : Hp) : V → PyData → Prop
  | non : Rp N H .non .none
  | bl (b : Bool) : Rp N H (.bl b) (.bool b)
  | int (i : Int) : Rp N H (.int i) (.int i)
  | str (x : Str) : Rp N H (.str x) (.str x)
  | lst {a : Addr} {xs : List V} {ds : List PyData} : H a = some (.lst xs) → ¬ N a → RpAll N H xs ds → Rp N H (.ref a) (.list ds)
  | tup {a : Addr} {xs : List V} {ds : List PyData} : H a = some (.tup xs) → ¬ N a → RpAll N H xs ds → Rp N H (.ref a) (.tuple ds)
  | dct {a : Addr} {kvs : List (Key × V)} : H a = some (.dK kvs) → ¬ N a → Rp N H (.ref a) (.dict [])
inductive RpAll (N : Addr → Prop) (H : Hp) : List V → List PyData → Prop
  | nil : RpAll N H [] []
  | cons {v : V} {vs : List V} {d : PyData} {ds : List PyData} : Rp N H v d → RpAll N H vs ds → RpAll N H (v :: vs) (d :: ds)
end
/-- all but what may change is as it was -/
def Kp (N : Addr → Prop) (H H' : Hp) : Prop := ∀ b o, H b = some o → ¬ N b → H' b = some o
theorem Kp.refl {N : Addr → Prop} {H : Hp} : Kp N H H := fun _ _ e _ => e
theorem Kp.trans {N : Addr → Prop} {H H1 H2 : Hp} (a : Kp N H H1) (b : Kp N H1 H2) : Kp N H H2 := fun c o e n => b c o (a c o e n) n
theorem Kp.of_same {N : Addr → Prop} {H H' : Hp} (s : Same H H') : Kp N H H' := fun b o e _ => s b o e
theorem Gd.toKp {h : Addr} {H H' : Hp} (g : Gd h H H') : Kp (· = h) H H' := g.kp
theorem Kp.newz {N : Addr → Prop} {H H' : Hp} {p : Addr} {o : HO} (k : Kp N H H') (hp : H' p = none) : Kp N H (upd H' p o) := fun b u e n => by
  have := k b u e n
  rw [upd_ne (ne_of_none this hp)]; exact this
mutual
theorem Rp.mono {N : Addr → Prop} {H H' : Hp} (k : Kp N H H') : ∀ {v : V} {d : PyData}, Rp N H v d → Rp N H' v d
  | _, _, .non => .non
  | _, _, .bl b => .bl b
  | _, _, .int i => .int i
  | _, _, .str x => .str x
  | _, _, .lst e n r => .lst (k _ _ e n) n (RpAll.mono k r)
  | _, _, .tup e n r => .tup (k _ _ e n) n (RpAll.mono k r)
  | _, _, .dct e n => .dct (k _ _ e n) n
theorem RpAll.mono {N : Addr → Prop} {H H' : Hp} (k : Kp N H H') : ∀ {vs : List V} {ds : List PyData}, RpAll N H vs ds → RpAll N H' vs ds
  | _, _, .nil => .nil
  | _, _, .cons a b => .cons (Rp.mono k a) (RpAll.mono k b)
end
mutual
theorem Rp.sub {N M : Addr → Prop} {H : Hp} (k : ∀ b, M b → N b) : ∀ {v : V} {d : PyData}, Rp N H v d → Rp M H v d
  | _, _, .non => .non
  | _, _, .bl b => .bl b
  | _, _, .int i => .int i
  | _, _, .str x => .str x
  | _, _, .lst e n r => .lst e (fun q => n (k _ q)) (RpAll.sub k r)
  | _, _, .tup e n r => .tup e (fun q => n (k _ q)) (RpAll.sub k r)
  | _, _, .dct e n => .dct e fun q => n (k _ q)
theorem RpAll.sub {N M : Addr → Prop} {H : Hp} (k : ∀ b, M b → N b) : ∀ {vs : List V} {ds : List PyData}, RpAll N H vs ds → RpAll M H vs ds
  | _, _, .nil => .nil
  | _, _, .cons a b => .cons (Rp.sub k a) (RpAll.sub k b)
end
/-- nothing may change -/
abbrev N0 : Addr → Prop := fun _ => False
theorem Rp.same {H H' : Hp} {N : Addr → Prop} {v : V} {d : PyData} (s : Same H H') (r : Rp N H v d) : Rp N H' v d := r.mono (Kp.of_same s)
theorem Rp.free {N : Addr → Prop} {H : Hp} {v : V} {d : PyData} (r : Rp N H v d) : Rp N0 H v d := r.sub fun _ q => q.elim
theorem RpAll.length {N : Addr → Prop} {H : Hp} : ∀ {vs : List V} {ds : List PyData}, RpAll N H vs ds → vs.length = ds.length
  | _, _, .nil => rfl
  | _, _, .cons _ r => by rw [List.length_cons, List.length_cons, r.length]
theorem RpAll.get {N : Addr → Prop} {H : Hp} : ∀ {vs : List V} {ds : List PyData} {i : Nat} {d : PyData}, RpAll N H vs ds → ds[i]? = some d → ∃ v, vs[i]? = some v ∧ Rp N H v d
  | _, _, _, _, .nil, e => by simp at e
  | _, _, 0, _, .cons a _, e => by simp at e; subst e; exact ⟨_, rfl, a⟩
  | _, _, i + 1, _, .cons _ r, e => by obtain ⟨v, h1, h2⟩ := r.get (i := i) (by simpa using e); exact ⟨v, by simpa using h1, h2⟩
theorem RpAll.get' {N : Addr → Prop} {H : Hp} : ∀ {vs : List V} {ds : List PyData} {i : Nat} {v : V}, RpAll N H vs ds → vs[i]? = some v → ∃ d, ds[i]? = some d ∧ Rp N H v d
  | _, _, _, _, .nil, e => by simp at e
  | _, _, 0, _, .cons a _, e => by simp at e; subst e; exact ⟨_, rfl, a⟩
  | _, _, i + 1, _, .cons _ r, e => by obtain ⟨v, h1, h2⟩ := r.get' (i := i) (by simpa using e); exact ⟨v, by simpa using h1, h2⟩
theorem RpAll.drop {N : Addr → Prop} {H : Hp} : ∀ {vs : List V} {ds : List PyData} (n : Nat), RpAll N H vs ds → RpAll N H (vs.drop n) (ds.drop n)
  | _, _, 0, r => r
  | _, _, _ + 1, .nil => .nil
  | _, _, n + 1, .cons _ r => r.drop n
theorem RpAll.append {N : Addr → Prop} {H : Hp} : ∀ {vs ws : List V} {ds es : List PyData}, RpAll N H vs ds → RpAll N H ws es → RpAll N H (vs ++ ws) (ds ++ es)
  | _, _, _, _, .nil, r => r
  | _, _, _, _, .cons a q, r => .cons a (q.append r)
theorem RpAll.ints {N : Addr → Prop} {H : Hp} : ∀ (l : List Int), RpAll N H (l.map V.int) (l.map PyData.int)
  | [] => .nil
  | _ :: l => .cons (.int _) (RpAll.ints l)
mutual
/-- without dicts -/
def noD : PyData → Bool
  | .dict _ => false
  | .list l => noDs l
  | .tuple l => noDs l
  | .none => true
  | .bool _ => true
  | .int _ => true
  | .str _ => true
def noDs : List PyData → Bool
  | [] => true
  | d :: r => noD d && noDs r
end
mutual
theorem Rp.dp {K : PySem.W.Frag} {N : Addr → Prop} {H : Hp} : ∀ {v : V} {d : PyData}, noD d = true → Rp N H v d → Dp K H v d
  | _, _, _, .non => .non
  | _, _, _, .bl b => .bl b
  | _, _, _, .int i => .int i
  | _, _, _, .str x => .str x
  | _, _, s, .lst e _ r => .lst (SqL.of e) (RpAll.dp (by simpa [noD] using s) r)
  | _, _, s, .tup e _ r => .tup (SqT.of e) (RpAll.dp (by simpa [noD] using s) r)
  | _, _, s, .dct _ _ => by simp [noD] at s
theorem RpAll.dp {K : PySem.W.Frag} {N : Addr → Prop} {H : Hp} : ∀ {vs : List V} {ds : List PyData}, noDs ds = true → RpAll N H vs ds → DpAll K H vs ds
  | _, _, _, .nil => .nil
  | _, _, s, .cons a b => by
    have s' := s
    simp only [noDs, Bool.and_eq_true] at s'
    exact .cons (Rp.dp s'.1 a) (RpAll.dp s'.2 b)
end
/-- the built-in class of a datum -/
def tyN : PyData → String
  | .none => "NoneType"
  | .bool _ => "bool"
  | .int _ => "int"
  | .str _ => "str"
  | .list _ => "list"
  | .tuple _ => "tuple"
  | .dict _ => "dict"
theorem Rp.ty {K : PySem.W.Frag} {N : Addr → Prop} {H : Hp} {v : V} {d : PyData} (r : Rp N H v d) : TyX K H v (.type (tyN d)) := by
  cases r with
  | non => exact .base .non
  | bl b => exact .base (.bl b)
  | int i => exact .base (.int i)
  | str x => exact .base (.str x)
  | lst e _ _ => exact .base (.lst e)
  | tup e _ _ => exact .base (.tup e)
  | dct e _ => exact .base (.dK e)
def isTy (d : PyData) (T : String) : Bool := tyN d == T || (tyN d == "bool" && T == "int")
def tys : List String := ["int", "str", "bool", "list", "tuple", "dict"]
theorem kit_all : ∀ n, n ∈ ["NoneType", "bool", "int", "str", "list", "tuple", "dict"] → ∀ T, T ∈ tys → kitB n T = some (n == T || (n == "bool" && T == "int")) := by decide +kernel
theorem tyN_mem (d : PyData) : tyN d ∈ ["NoneType", "bool", "int", "str", "list", "tuple", "dict"] := by cases d <;> simp [tyN]
def zIsi (K : PySem.W.Frag) : List V → Hp → VK → Prop := rIsi K
theorem zc_isi {X : Cx} : CallR X (.builtin "isinstance") (zIsi X.K) := call_isi
theorem i_isi {K : PySem.W.Frag} {N : Addr → Prop} {H : Hp} {Q : VK} {x : V} {d : PyData} {T : String} (r : Rp N H x d) (hT : T ∈ tys) (q : Q (.bl (isTy d T)) H) : zIsi K [x, .ty T] H Q :=
  ⟨x, .ty T, _, _, _, rfl, .ty T, r.ty, kit_ty (kit_all _ (tyN_mem d) T hT), q⟩
theorem rel_ty (n : String) : RelV (.ty n) (.type n) := rfl
theorem Rp.isStr {N : Addr → Prop} {H : Hp} {x : V} {d : PyData} (r : Rp N H x d) : isTy d "str" = true → ∃ l, x = .str (S l) ∧ d = .str (S l) := by
  intro h
  cases r with
  | str w => exact ⟨codes w, rfl, rfl⟩
  | _ => simp [isTy, tyN] at h
theorem Rp.isTup {N : Addr → Prop} {H : Hp} {x : V} {d : PyData} (r : Rp N H x d) : isTy d "tuple" = true → ∃ a xs ds, x = .ref a ∧ d = .tuple ds ∧ H a = some (.tup xs) ∧ ¬ N a ∧ RpAll N H xs ds := by
  intro h
  cases r with
  | tup e n q => exact ⟨_, _, _, rfl, rfl, e, n, q⟩
  | _ => simp [isTy, tyN] at h
theorem Rp.isList {N : Addr → Prop} {H : Hp} {x : V} {d : PyData} (r : Rp N H x d) : isTy d "list" = true → ∃ a xs ds, x = .ref a ∧ d = .list ds ∧ H a = some (.lst xs) ∧ ¬ N a ∧ RpAll N H xs ds := by
  intro h
  cases r with
  | lst e n q => exact ⟨_, _, _, rfl, rfl, e, n, q⟩
  | _ => simp [isTy, tyN] at h
/-! ### a comprehension whose element is a function of the item -/
section
variable {σ : L2.St} {H : Hp} {Q : VK} {K : PySem.W.Frag}
theorem l_map {J : It} {n : Nat} {G : Hp → Prop} {Y : Nat → Hp → V → Hp → Prop} (w : Walk J n G Y) {j : Nat} {te : TE} {vs : List Nat} {Dl : Addr} (hD : H Dl = none) (W : L2.St) (hw : wipe σ vs = W) (hw2 : ∀ x : V, wipe (W.set j (some x)) vs = W)
    (xs : List V) (hn : n = xs.length) (hl : xs.length ≤ 99999) (hY : ∀ i H1 x H2, i < n → G H1 → Y i H1 x H2 → H2 = H1 ∧ xs[i]? = some x) (hG : ∀ H1, Same H H1 → G H1) (f : V → V)
    (hs : ∀ (x : V) (H1 : Hp) (P : VK), x ∈ xs → Same H H1 → (∀ H2, Same H1 H2 → P (f x) H2) → te (W.set j (some x)) H1 P)
    (hd : ∀ H1, Same H H1 → H1 Dl = some (.lst (xs.map f)) → Q (.ref Dl) H1) : LC J (gName j) tYes te vs σ H Q Dl := by
  subst hn
  refine l_comp w W hw (fun i acc H1 => Same H H1 ∧ acc = (xs.take i).map f) ⟨(Same.refl H).newz hD, by simp⟩ (fun i acc H1 _ p _ => hG H1 p.1) ?_ ?_
  · rintro i x acc H1 H2 hi ⟨sm, rfl⟩ e hl2 y
    obtain ⟨rfl, hx⟩ := hY i _ x _ hi (hG _ sm) y
    refine i_gname ?_
    refine i_lct (hw2 x) ?_
    refine i_yes ?_
    refine iteT ?_
    refine hs x _ _ (List.mem_of_getElem? hx) sm fun H3 s3 => ?_
    refine cend (s3 _ _ e) hl2 (by omega) ⟨(sm.trans s3).mutz hD, ?_⟩
    rw [List.take_add_one, hx]
    simp
  · rintro acc H1 ⟨sm, rfl⟩ e _
    rw [List.take_length] at e
    exact hd H1 sm e
theorem l_mapS {a : List Nat} {j : Nat} {te : TE} {vs : List Nat} {Dl : Addr} (hD : H Dl = none) (W : L2.St) (hw : wipe σ vs = W) (hw2 : ∀ x : V, wipe (W.set j (some x)) vs = W) (hl : a.length ≤ 99999) (f : Nat → V)
    (hs : ∀ (c : Nat) (H1 : Hp) (P : VK), c ∈ a → Same H H1 → (∀ H2, Same H1 H2 → P (f c) H2) → te (W.set j (some (.str (S [c])))) H1 P)
    (hd : ∀ H1, Same H H1 → H1 Dl = some (.lst (a.map f)) → Q (.ref Dl) H1) : LC (Its (S a)) (gName j) tYes te vs σ H Q Dl := by
  let f' : V → V := fun v => match v with | .str w => f ((codes w).headD 0) | _ => .non
  refine l_map (walk_str (z := S a)) hD W hw hw2 (a.map fun c => V.str (S [c])) (by simp) (by rw [List.length_map]; exact hl) (fun i H1 x H2 hi _ y => ?_) (fun _ _ => trivial) f' (fun x H1 P hx sm hP => ?_) fun H1 sm e => hd H1 sm ?_
  · obtain ⟨e, c, hc, ex⟩ := y
    refine ⟨e, ?_⟩
    rw [List.getElem?_map, show a[i]? = some c by simpa using hc, ex]
    rfl
  · obtain ⟨c, hc, rfl⟩ := List.mem_map.mp hx
    exact hs c H1 P hc sm hP
  · rw [List.map_map] at e
    exact e
end
def zAll (K : PySem.W.Frag) : List V → Hp → VK → Prop := rAll K
def zAny (K : PySem.W.Frag) : List V → Hp → VK → Prop := rAny K
theorem zc_all {X : Cx} (hc : X.calm = true) : CallR X (.builtin "all") (zAll X.K) := cr_all hc
theorem zc_any {X : Cx} (hc : X.calm = true) : CallR X (.builtin "any") (zAny X.K) := cr_any hc
theorem i_all {K : PySem.W.Frag} {H : Hp} {Q : VK} {a : Addr} {bs : List Bool} (h : SqL K H a (bs.map V.bl)) (q : Q (.bl (bs.all id)) H) : zAll K [.ref a] H Q := ⟨a, bs, rfl, h, q⟩
theorem i_any {K : PySem.W.Frag} {H : Hp} {Q : VK} {a : Addr} {bs : List Bool} (h : SqL K H a (bs.map V.bl)) (q : Q (.bl (bs.any id)) H) : zAny K [.ref a] H Q := ⟨a, bs, rfl, h, q⟩
def zSum (K : PySem.W.Frag) : List V → Hp → VK → Prop := rSum K
theorem zc_sum {X : Cx} (hc : X.calm = true) : CallR X (.builtin "sum") (zSum X.K) := cr_sum hc
theorem i_sum {K : PySem.W.Frag} {H : Hp} {Q : VK} {a : Addr} {ns : List Int} (h : SqL K H a (ns.map V.int)) (q : Q (.int ns.sum) H) : zSum K [.ref a] H Q := ⟨a, ns, rfl, h, q⟩
/-! for operands of more than one kind -/
def zLtA : R2 := fun x y H Q => zLt x y H Q ∨ zLtS x y H Q
theorem z_ltA {X : Cx} : OpR X (compareOp .Lt) zLtA := by
  intro pins s σ H x y v u Q I rx ry h
  rcases h with h | h
  · exact z_lt pins s σ H x y v u Q I rx ry h
  · exact z_lts pins s σ H x y v u Q I rx ry h
theorem i_ltAI {i j : Int} {H : Hp} {Q : VK} (q : Q (.bl (decide (i < j))) H) : zLtA (.int i) (.int j) H Q := .inl (i_lt q)
theorem i_ltAS {a b : List Nat} {H : Hp} {Q : VK} (q : Q (.bl (decide (a < b))) H) : zLtA (.str (S a)) (.str (S b)) H Q := .inr (i_lts q)
def zSlA (K : PySem.W.Frag) : V → Option Int → Option Int → Hp → VK → Prop := fun x lo hi H Q => rSlS x lo hi H Q ∨ rSlA K x lo hi H Q ∨ rSlL K x lo hi H Q
theorem sl_A {X : Cx} : SlR X (zSlA X.K) := by
  intro pins s σ H x v vl vu lo hi sl Q I rx hs pl pu h
  rcases h with h | h | h
  · exact sl_str pins s σ H x v vl vu lo hi sl Q I rx hs pl pu h
  · exact sl_tupA pins s σ H x v vl vu lo hi sl Q I rx hs pl pu h
  · exact sl_list pins s σ H x v vl vu lo hi sl Q I rx hs pl pu h
theorem one_lt {c d : Nat} : decide ([c] < [d]) = decide (c < d) := by
  by_cases h : c < d
  · rw [decide_eq_true h]; exact decide_eq_true (List.Lex.rel h)
  · rw [decide_eq_false h]
    refine decide_eq_false fun q => ?_
    cases q with
    | rel q => exact h q
    | cons q => cases q
section
variable {σ : L2.St} {H : Hp} {K : PySem.W.Frag} {R : L2.St → Hp → Prop} {v : V} {r : List V} {t : TG} {u ts : TGs}
theorem i_gtup {a : Addr} {xs : List V} {n : Nat} (h : SqT K H a xs) (hl : xs.length = n) (q : ts xs σ H R) : gTup K n ts (.ref a) σ H R := ⟨a, xs, rfl, h, hl, q⟩
theorem i_gcons (q : t v σ H fun σ' H' => u r σ' H' R) : gCons t u (v :: r) σ H R := ⟨v, r, rfl, q⟩
theorem i_gnil (q : R σ H) : gNil [] σ H R := ⟨rfl, q⟩
theorem i_izip {ta : TA} {R : It → Hp → Prop} (q : ta σ H fun vs H1 => KZ K vs H1 fun J => R J H1) : iZipZ K ta σ H R := q
theorem i_KZ {x y : V} {R : It → Prop} (c d : Sd) {xs ys : List V} (vc : c.val x) (vd : d.val y) (hx : c.is K H xs) (hy : d.is K H ys) (q : R (ItZ K c d)) : KZ K [x, y] H R := ⟨x, y, c, d, xs, ys, rfl, vc, vd, hx, hy, q⟩
end
/-- each one is less than the next -/
def adj {α : Type} (lt : α → α → Bool) : List α → Bool
  | [] => true
  | [_] => true
  | a :: b :: r => lt a b && adj lt (b :: r)
theorem adj_all {α : Type} (lt : α → α → Bool) : ∀ l : List α, ((l.zip (l.drop 1)).map fun p => lt p.1 p.2).all id = adj lt l
  | [] => rfl
  | [_] => rfl
  | a :: b :: r => by
    have ih := adj_all lt (b :: r)
    show (lt a b && (((b :: r).zip r).map fun p => lt p.1 p.2).all id) = (lt a b && adj lt (b :: r))
    rw [← ih]; rfl
theorem adj_asc : ∀ l : List Nat, adj (fun a b => decide (a < b)) l = decide (l.Pairwise (· < ·))
  | [] => by simp [adj]
  | [_] => by simp [adj]
  | a :: b :: r => by
    have ih := adj_asc (b :: r)
    show (decide (a < b) && adj (fun a b => decide (a < b)) (b :: r)) = _
    rw [ih, Bool.eq_iff_iff, Bool.and_eq_true, decide_eq_true_iff, decide_eq_true_iff, decide_eq_true_iff]
    constructor
    · rintro ⟨h1, h2⟩
      refine List.pairwise_cons.mpr ⟨fun c hc => ?_, h2⟩
      rcases List.mem_cons.mp hc with q | q
      · rw [q]; exact h1
      · exact Nat.lt_trans h1 (List.rel_of_pairwise_cons h2 q)
    · intro h
      exact ⟨List.rel_of_pairwise_cons h (by simp), (List.pairwise_cons.mp h).2⟩
theorem adj_ascI : ∀ l : List Int, adj (fun a b => decide (a < b)) l = decide (l.Pairwise (· < ·))
  | [] => by simp [adj]
  | [_] => by simp [adj]
  | a :: b :: r => by
    have ih := adj_ascI (b :: r)
    show (decide (a < b) && adj (fun a b => decide (a < b)) (b :: r)) = _
    rw [ih, Bool.eq_iff_iff, Bool.and_eq_true, decide_eq_true_iff, decide_eq_true_iff, decide_eq_true_iff]
    constructor
    · rintro ⟨h1, h2⟩
      refine List.pairwise_cons.mpr ⟨fun c hc => ?_, h2⟩
      rcases List.mem_cons.mp hc with q | q
      · rw [q]; exact h1
      · exact Int.lt_trans h1 (List.rel_of_pairwise_cons h2 q)
    · intro h
      exact ⟨List.rel_of_pairwise_cons h (by simp), (List.pairwise_cons.mp h).2⟩
theorem zte {t : TE} {σ : L2.St} {H : Hp} {P : VK} (L : L2.St) (h : σ = L) (q : t L H P) : t σ H P := h ▸ q
theorem l_zipmap {σ : L2.St} {H : Hp} {Q : VK} {K : PySem.W.Frag} {c d : Sd} {xs ys : List V} {j1 j2 : Nat} {te : TE} {vs : List Nat} {Dl : Addr} (hD : H Dl = none) (W : L2.St) (hw : wipe σ vs = W) (hw2 : ∀ x y : V, wipe ((W.set j1 (some x)).set j2 (some y)) vs = W)
    (hc : ∀ H1, Same H H1 → c.is K H1 xs) (hd : ∀ H1, Same H H1 → d.is K H1 ys) (hl : min xs.length ys.length ≤ 99999) (f : V → V → V)
    (hs : ∀ (x y : V) (H1 : Hp) (P : VK), x ∈ xs → y ∈ ys → Same H H1 → (∀ H2, Same H1 H2 → P (f x y) H2) → te ((W.set j1 (some x)).set j2 (some y)) H1 P)
    (hq : ∀ H1, Same H H1 → H1 Dl = some (.lst ((xs.zip ys).map fun p => f p.1 p.2)) → Q (.ref Dl) H1) : LC (ItZ K c d) (gTup K 2 (gCons (gName j1) (gCons (gName j2) gNil))) tYes te vs σ H Q Dl := by
  refine l_comp (walk_zipZ (K := K) (n := min xs.length ys.length) rfl) W hw (fun i acc H1 => Same H H1 ∧ acc = ((xs.zip ys).take i).map fun p => f p.1 p.2) ⟨(Same.refl H).newz hD, by simp⟩ (fun i acc H1 _ p _ => ⟨hc _ p.1, hd _ p.1⟩) ?_ ?_
  · rintro i v acc H1 H2 hi ⟨sm, rfl⟩ e hl2 ⟨T, x, y, rfl, hT, rfl, hx, hy⟩
    have hx : xs[i]? = some x := hx
    have hy : ys[i]? = some y := hy
    refine i_gtup (SqT.of upd_same) rfl ?_
    refine i_gcons (i_gname (i_gcons (i_gname (i_gnil ?_))))
    refine i_lct (hw2 x y) ?_
    refine i_yes ?_
    refine iteT ?_
    have s2 : Same H (upd H1 T (.tup [x, y])) := sm.newz hT
    refine hs x y _ _ (List.mem_of_getElem? hx) (List.mem_of_getElem? hy) s2 fun H3 s3 => ?_
    refine cend (s3 _ _ (by rw [upd_ne (ne_of_none e hT)]; exact e)) hl2 (by omega) ⟨(s2.trans s3).mutz hD, ?_⟩
    have hz : (xs.zip ys)[i]? = some (x, y) := List.getElem?_zip_eq_some.mpr ⟨hx, hy⟩
    rw [List.take_add_one, hz]
    simp
  · rintro acc H1 ⟨sm, rfl⟩ e _
    rw [List.take_of_length_le (by simp)] at e
    exact hq H1 sm e
theorem zip_map {α β : Type} (f : α → V) (g : β → V) (F : V → V → V) (b : α → β → V) (hb : ∀ x y, F (f x) (g y) = b x y) : ∀ (l : List α) (m : List β), ((l.map f).zip (m.map g)).map (fun p => F p.1 p.2) = (l.zip m).map fun p => b p.1 p.2
  | [], _ => rfl
  | _ :: _, [] => rfl
  | x :: l, y :: m => by
    show F (f x) (g y) :: _ = b x y :: _
    rw [hb]
    exact congrArg _ (zip_map f g F b hb l m)
/-- the first code of a text of one sign, an int of a value -/
def chr1 : V → Nat
  | .str w => (codes w).headD 0
  | _ => 0
def int1 : V → Int
  | .int i => i
  | _ => 0
theorem i_slTA {K : PySem.W.Frag} {H : Hp} {Q : VK} {a : Addr} {xs : List V} {lo hi : Option Int} (h : H a = some (.tup xs)) (q : ∀ p H', Same H H' → H' p = some (.tup (cutV xs lo hi)) → Q (.ref p) H') : rSlA K (.ref a) lo hi H Q := by
  refine ⟨a, xs, rfl, SqT.of h, fun hw => ?_, fun _ p hp => q p _ ((Same.refl H).newz hp) upd_same⟩
  refine q a H (Same.refl H) ?_
  have e : cutV xs lo hi = xs := by
    unfold cutV
    rw [hw.1, hw.2, List.drop_zero, Nat.sub_zero, List.take_length]
  rw [e]; exact h
theorem one_lt' {c d : Nat} : (!decide ([c] < [d])) = decide (d ≤ c) := by
  rw [one_lt]
  by_cases h : c < d
  · rw [decide_eq_true h, decide_eq_false (by omega)]; rfl
  · rw [decide_eq_false h, decide_eq_true (by omega)]; rfl
theorem brnb {c : Bool} {A B : Prop} (h1 : c = false → A) (h2 : c = true → B) : if (!c) = true then A else B := by
  cases c
  · exact iteT (h1 rfl)
  · exact iteF (h2 rfl)
theorem iteNF {A B : Prop} (h : A) : if (!false) = true then A else B := h
theorem iteNT {A B : Prop} (h : B) : if (!true) = true then A else B := h
theorem brT {p : Prop} [Decidable p] {A B : Prop} (hp : p) (h : A) : if decide p = true then A else B := by rw [decide_eq_true hp]; exact iteT h
theorem brF {p : Prop} [Decidable p] {A B : Prop} (hp : ¬ p) (h : B) : if decide p = true then A else B := by rw [decide_eq_false hp]; exact iteF h
theorem HandOk.ne {h p : Addr} {H : Hp} (k : HandOk H h) (hp : H p = none) : ¬ p = h := fun e => by obtain ⟨o, ho⟩ := k.some; rw [e, ho] at hp; cases hp
theorem Gd.kp' {h p : Addr} {H H' : Hp} {o : HO} (g : Gd h H H') (e : H p = some o) (n : ¬ p = h) : H' p = some o := g.kp _ _ e n
theorem sub_snoc {α : Type} {cs l : List α} {i : Nat} {x : α} (h : cs.Sublist (l.take i)) (hx : l[i]? = some x) : (cs ++ [x]).Sublist (l.take (i + 1)) := by
  rw [List.take_add_one, hx]
  exact h.append (List.Sublist.refl _)
theorem sub_skip {α : Type} {cs l : List α} {i : Nat} (h : cs.Sublist (l.take i)) : cs.Sublist (l.take (i + 1)) := h.trans (List.take_sublist_take_left (Nat.le_succ i))
theorem find3_S (a : List Nat) (c n : Nat) : (Txt.find3 (S a) (S [c]) (n : Int) = -1 ∧ ∀ k, n ≤ k → a[k]? ≠ some c) ∨
    ∃ k : Nat, Txt.find3 (S a) (S [c]) (n : Int) = (k : Int) ∧ n ≤ k ∧ a[k]? = some c ∧ ∀ v, n ≤ v → v < k → a[v]? ≠ some c := by
  have e : fromIndex (S a).length (n : Int) = n := by
    unfold fromIndex
    rw [if_neg (by omega)]
    omega
  have g : ∀ v, v < a.length → ((S a).cps.getD v 0 = c ↔ a[v]? = some c) := fun v hv => by
    have : (S a).cps.getD v 0 = a[v] := by
      show a.toArray.getD v 0 = _
      simp [Array.getD, hv]
    rw [this, List.getElem?_eq_getElem hv]
    exact ⟨fun h => by rw [h], fun h => Option.some.inj h⟩
  rcases StrLaws.find3_spec (S a) c (n : Int) with ⟨h1, h2⟩ | ⟨k, h1, h2, h3, h4, h5⟩
  · refine .inl ⟨h1, fun k hk q => ?_⟩
    obtain ⟨hl, _⟩ := List.getElem?_eq_some_iff.mp q
    exact h2 k (by rw [e]; exact hk) (by rw [S_len]; exact hl) ((g k hl).mpr q)
  · rw [S_len] at h3
    refine .inr ⟨k, h1, by rw [e] at h2; exact h2, (g k h3).mp h4, fun v hv hvk q => ?_⟩
    exact h5 v (by rw [e]; exact hv) hvk ((g v (by omega)).mpr q)
theorem i_find3 {a : List Nat} {c n : Nat} {H : Hp} {Q : VK} (q1 : (∀ k, n ≤ k → a[k]? ≠ some c) → Q (.int (-1)) H) (q2 : ∀ k : Nat, n ≤ k → a[k]? = some c → (∀ v, n ≤ v → v < k → a[v]? ≠ some c) → Q (.int (k : Int)) H) : zFind3 (.str (S a)) [.str (S [c]), .int (n : Int)] H Q := by
  refine ⟨_, _, _, rfl, rfl, ?_⟩
  rcases find3_S a c n with ⟨h1, h2⟩ | ⟨k, h1, h2, h3, h4⟩
  · rw [h1]; exact q1 h2
  · rw [h1]; exact q2 k h2 h3 h4
/-- the first place is the best one -/
theorem sub_first {c : Nat} {u : List Nat} : ∀ {a : List Nat} {n k : Nat}, n ≤ k → a[k]? = some c → (∀ v, n ≤ v → v < k → a[v]? ≠ some c) → ((c :: u).Sublist (a.drop n) ↔ u.Sublist (a.drop (k + 1))) := by
  intro a n k
  induction k generalizing n a with
  | zero =>
    intro hn hk _
    obtain rfl : n = 0 := by omega
    cases a with
    | nil => simp at hk
    | cons x r =>
      have : x = c := by simpa using hk
      subst this
      simp
  | succ k ih =>
    intro hn hk h
    cases a with
    | nil => simp at hk
    | cons x r =>
      have hk' : r[k]? = some c := by simpa using hk
      cases n with
      | succ n =>
        have := ih (a := r) (n := n) (by omega) hk' (fun v h1 h2 => by have := h (v + 1) (by omega) (by omega); simpa using this)
        simpa using this
      | zero =>
        have hx : x ≠ c := fun q => h 0 (by omega) (by omega) (by simp [q])
        have := ih (a := r) (n := 0) (by omega) hk' (fun v h1 h2 => by have := h (v + 1) (by omega) (by omega); simpa using this)
        rw [List.drop_zero] at this
        rw [List.drop_zero, List.drop_succ_cons, ← this]
        constructor
        · intro q
          cases q with
          | cons _ q => exact q
          | cons_cons => exact absurd rfl hx
        · intro q
          exact .cons _ q
theorem sub_none {c : Nat} {u a : List Nat} {n : Nat} (h : ∀ k, n ≤ k → a[k]? ≠ some c) : ¬ (c :: u).Sublist (a.drop n) := fun q => by
  have hc : c ∈ a.drop n := q.subset (by simp)
  obtain ⟨i, hi⟩ := List.getElem?_of_mem hc
  rw [List.getElem?_drop] at hi
  exact h (n + i) (by omega) hi
theorem l_mapR {σ : L2.St} {H : Hp} {Q : VK} {n j : Nat} {te : TE} {vs : List Nat} {Dl : Addr} (hD : H Dl = none) (W : L2.St) (hw : wipe σ vs = W) (hw2 : ∀ x : V, wipe (W.set j (some x)) vs = W) (hl : n ≤ 99999) (f : Nat → V)
    (hs : ∀ (i : Nat) (H1 : Hp) (P : VK), i < n → Same H H1 → (∀ H2, Same H1 H2 → P (f i) H2) → te (W.set j (some (.int (i : Int)))) H1 P)
    (hd : ∀ H1, Same H H1 → H1 Dl = some (.lst ((List.range n).map f)) → Q (.ref Dl) H1) : LC (Itr 0 n) (gName j) tYes te vs σ H Q Dl := by
  let f' : V → V := fun v => match v with | .int i => f i.toNat | _ => .non
  refine l_map (walk_range (lo := 0) (n := n)) hD W hw hw2 ((List.range n).map fun (i : Nat) => V.int (i : Int)) (by simp) (by simpa using hl) (fun i H1 x H2 hi _ y => ?_) (fun _ _ => trivial) f' (fun x H1 P hx sm hP => ?_) fun H1 sm e => hd H1 sm ?_
  · obtain ⟨e, hx⟩ := y
    refine ⟨e, ?_⟩
    rw [List.getElem?_map, List.getElem?_range hi, hx]
    show some (V.int (i : Int)) = some (V.int (0 + (i : Int)))
    rw [Int.zero_add]
  · obtain ⟨c, hc, rfl⟩ := List.mem_map.mp hx
    exact hs c H1 P (List.mem_range.mp hc) sm hP
  · rw [List.map_map] at e
    exact e
theorem Rp.tupS {N : Addr → Prop} {H : Hp} {v : V} {ds : List PyData} (r : Rp N H v (.tuple ds)) : ∃ a xs, v = .ref a ∧ H a = some (.tup xs) ∧ ¬ N a ∧ RpAll N H xs ds := by
  cases r with
  | tup e n q => exact ⟨_, _, rfl, e, n, q⟩
theorem Rp.strS {N : Addr → Prop} {H : Hp} {v : V} {w : Str} (r : Rp N H v (.str w)) : v = .str w := by cases r; rfl
theorem Rp.intS {N : Addr → Prop} {H : Hp} {v : V} {i : Int} (r : Rp N H v (.int i)) : v = .int i := by cases r; rfl
theorem RpAll.consS {N : Addr → Prop} {H : Hp} {vs : List V} {d : PyData} {ds : List PyData} (r : RpAll N H vs (d :: ds)) : ∃ v ws, vs = v :: ws ∧ Rp N H v d ∧ RpAll N H ws ds := by
  cases r with
  | cons a b => exact ⟨_, _, rfl, a, b⟩
theorem RpAll.nilS {N : Addr → Prop} {H : Hp} {vs : List V} (r : RpAll N H vs []) : vs = [] := by cases r; rfl
theorem RpAll.one {N : Addr → Prop} {H : Hp} {vs : List V} {d : PyData} (r : RpAll N H vs [d]) : ∃ v, vs = [v] ∧ Rp N H v d := by
  obtain ⟨v, ws, rfl, a, b⟩ := r.consS
  rw [b.nilS]; exact ⟨v, rfl, a⟩
theorem RpAll.two {N : Addr → Prop} {H : Hp} {vs : List V} {d d2 : PyData} (r : RpAll N H vs [d, d2]) : ∃ v v2, vs = [v, v2] ∧ Rp N H v d ∧ Rp N H v2 d2 := by
  obtain ⟨v, ws, rfl, a, b⟩ := r.consS
  obtain ⟨v2, rfl, a2⟩ := b.one
  exact ⟨v, v2, rfl, a, a2⟩
theorem RpAll.three {N : Addr → Prop} {H : Hp} {vs : List V} {d d2 d3 : PyData} (r : RpAll N H vs [d, d2, d3]) : ∃ v v2 v3, vs = [v, v2, v3] ∧ Rp N H v d ∧ Rp N H v2 d2 ∧ Rp N H v3 d3 := by
  obtain ⟨v, ws, rfl, a, b⟩ := r.consS
  obtain ⟨v2, v3, rfl, a2, a3⟩ := b.two
  exact ⟨v, v2, v3, rfl, a, a2, a3⟩
theorem RpAll.four {N : Addr → Prop} {H : Hp} {vs : List V} {d d2 d3 d4 : PyData} (r : RpAll N H vs [d, d2, d3, d4]) : ∃ v v2 v3 v4, vs = [v, v2, v3, v4] ∧ Rp N H v d ∧ Rp N H v2 d2 ∧ Rp N H v3 d3 ∧ Rp N H v4 d4 := by
  obtain ⟨v, ws, rfl, a, b⟩ := r.consS
  obtain ⟨v2, v3, v4, rfl, a2, a3, a4⟩ := b.three
  exact ⟨v, v2, v3, v4, rfl, a, a2, a3, a4⟩
theorem sum_count (a : List Nat) (c : Nat) : (a.map fun x => if decide ([x] = [c]) = true then (1 : Int) else 0).sum = (a.count c : Nat) := by
  induction a with
  | nil => rfl
  | cons x r ih =>
    rw [List.map_cons, List.sum_cons, ih]
    by_cases h : x = c
    · subst h
      rw [if_pos (by simp), List.count_cons_self]
      omega
    · rw [if_neg (by simpa using h), List.count_cons_of_ne h]
      omega
theorem row_any (a u : List Nat) (hu : 1 ≤ u.length) : ((List.range a.length).map fun i => decide ((a.drop i).take u.length = u)).any id = decide (u <:+: a) := by
  rw [Bool.eq_iff_iff, decide_eq_true_iff, List.any_eq_true]
  constructor
  · rintro ⟨b, hb, e⟩
    obtain ⟨i, _, rfl⟩ := List.mem_map.mp hb
    have := of_decide_eq_true e
    rw [← this]
    exact (List.take_prefix _ _).isInfix.trans (List.drop_suffix _ _).isInfix
  · rintro ⟨s, t, rfl⟩
    refine ⟨true, List.mem_map.mpr ⟨s.length, List.mem_range.mpr ?_, ?_⟩, rfl⟩
    · rw [List.length_append, List.length_append]; omega
    · exact decide_eq_true (by simp)
theorem one_eq {c d : Nat} : decide ([c] = [d]) = decide (c = d) := by
  by_cases h : c = d
  · subst h; simp
  · rw [decide_eq_false h]; exact decide_eq_false fun q => h (by simpa using q)
theorem mod_eq {x n m : Nat} (hm : m < n) : x % n = m ↔ ((x : Int) - (m : Int)) % (n : Int) = 0 := by
  have h1 : ((x % n : Nat) : Int) = (x : Int) % (n : Int) := Int.natCast_emod x n
  have h2 : (m : Int) % (n : Int) = (m : Int) := Int.emod_eq_of_lt (by omega) (by omega)
  rw [← Int.emod_eq_emod_iff_emod_sub_eq_zero, h2, ← h1]
  omega
theorem nodup_len : ∀ {l L : List Nat}, l.Nodup → (∀ c ∈ l, c ∈ L) → l.length ≤ L.length
  | [], _, _, _ => Nat.zero_le _
  | a :: l, L, hn, hs => by
    have ha : a ∈ L := hs a (by simp)
    have hn' := List.nodup_cons.mp hn
    have ih := nodup_len (l := l) (L := L.erase a) hn'.2 fun c hc => (List.mem_erase_of_ne (show c ≠ a from fun e => hn'.1 (by rw [← e]; exact hc))).mpr (hs c (by simp [hc]))
    have := List.length_erase_of_mem ha
    have h0 : 0 < L.length := List.length_pos_of_mem ha
    rw [List.length_cons]
    omega
/-- different ones out of a list are no more than it has -/
theorem asc_len {l L : List Nat} (h : l.Pairwise (· < ·)) (hs : ∀ c ∈ l, c ∈ L) : l.length ≤ L.length :=
  nodup_len (h.imp fun {a b} q => by omega) hs
end Z

local macro_rules | `(tactic| walk_at "zz") => `(tactic| repeat first
  | with_reducible first
    | refine Z.i_op ?_ | refine Z.i_v0 ?_ | refine Z.i_v1 ?_ | refine Z.i_v2 ?_ | refine Z.i_v3 ?_ | refine Z.i_v4 ?_ | refine Z.i_v5 ?_ | refine Z.i_cs ?_ | refine Z.i_c ?_ | refine Z.i_cons ?_ | refine Z.i_nil ?_ | refine Z.i_seq ?_ | refine Z.i_asg ?_ | refine Z.i_nx ?_ | refine Z.i_rt ?_
    | refine Z.i_KB ?_ | refine Z.i_cb ?_ | refine Z.i_call ?_ | refine Z.i_add ?_ | refine Z.i_sub ?_ | refine Z.i_test ?_ | refine Z.i_ifS ?_ | refine Z.i_eqI ?_ | refine Z.i_lt ?_ 
    | refine Z.i_g0 ?_ | refine Z.i_g1 ?_ | refine Z.i_g2 ?_ | refine Z.i_g3 ?_ | refine Z.i_g4 ?_ | refine Z.i_g5 ?_
    | refine Z.i_v6 ?_ | refine Z.i_v7 ?_ | refine Z.i_v8 ?_ | refine Z.i_v9 ?_ | refine Z.i_v10 ?_ | refine Z.i_v11 ?_ | refine Z.i_v12 ?_ | refine Z.i_v13 ?_ | refine Z.i_v14 ?_
    | refine Z.i_g6 ?_ | refine Z.i_g7 ?_ | refine Z.i_g8 ?_ | refine Z.i_g9 ?_ | refine Z.i_g10 ?_ | refine Z.i_g11 ?_ | refine Z.i_g12 ?_ | refine Z.i_g13 ?_ | refine Z.i_g14 ?_
    | refine Z.i_le ?_ | refine Z.i_gt ?_ | refine Z.i_ge ?_ | refine Z.i_lts ?_ | refine Z.i_les ?_ | refine Z.i_ins ?_ | refine Z.i_nins ?_ | refine Z.i_neI ?_ | refine Z.i_eqS ?_ | refine Z.i_neS ?_ | refine Z.i_eqB ?_ | refine Z.i_neg ?_ | refine Z.i_un ?_
    | refine Z.i_next ?_ | refine Z.i_ret ?_ | refine Z.i_retN ?_ | refine Z.i_drop ?_ | refine Z.i_brk ?_ | refine Z.i_cont ?_ | refine Z.i_bk ?_ | refine Z.i_ct ?_ | refine Z.i_gsub ?_
    | refine Z.i_KI ?_ | refine Z.i_KS ?_ | refine Z.i_if ?_ | refine Z.i_tB ?_ | refine Z.i_tand ?_ | refine Z.i_tor ?_ | refine Z.i_tnot ?_ | refine Z.i_and ?_ | refine Z.i_or ?_ | refine Z.i_not ?_ | refine Z.i_chain ?_
    | refine Z.i_tup ?_ | refine Z.i_lst ?_ | refine Z.i_bm ?_ | refine Z.i_bm0 ?_ | refine Z.i_sl ?_ | refine Z.i_po0 ?_ | refine Z.i_po1 ?_
    | refine Z.i_m1 ?_ | refine Z.i_tyS ?_ | refine Z.i_tyS0 ?_ | refine Z.i_find ?_ | refine Z.i_count ?_ | refine Z.i_starts ?_ | refine Z.i_ends ?_ | refine Z.i_instr ?_ | refine Z.i_gcons ?_ | refine Z.i_gnil ?_ | refine Z.i_izip ?_ | refine Z.i_ltAI ?_ | refine Z.i_ltAS ?_ | refine Z.i_for ?_ | refine Z.i_lc ?_ | refine Z.i_yes ?_ | refine Z.i_r1 ?_ | refine Z.i_istr ?_ | refine Z.i_ilist ?_ | refine Z.i_itup ?_ | refine Z.i_int ?_ | refine Z.i_abs ?_ | refine Z.i_max ?_ | refine Z.i_min ?_
  | ((with_reducible refine' Z.i_ixL ?za ?zb ?_); (case za => exact L2.SqL.of (by assumption)); (case zb => first | rfl | exact Z.at_nat (by decide) rfl))
  | ((with_reducible refine' Z.i_ixT ?za ?zb ?_); (case za => exact L2.SqT.of (by assumption)); (case zb => first | rfl | exact Z.at_nat (by decide) rfl))
  | with_reducible refine Z.i_mul (by first | exact Or.inr ⟨by decide, by decide⟩ | exact Or.inl ⟨by decide, by decide⟩ | omega) ?_
  | with_reducible refine Z.i_mod (by first | decide | omega) ?_
  | with_reducible refine Z.i_div (Z.cdivw (by first | decide | omega) (by first | decide | omega)) ?_
  | ((with_reducible refine' Z.i_lenL ?za ?_); (case za => exact L2.SqL.of (by assumption)))
  | with_reducible refine Z.i_adds (by simp only [List.length_append, List.length_cons, List.length_nil]; omega) ?_
  | with_reducible refine Z.i_lens (by first | omega | (simp only [List.length_append, List.length_cons, List.length_nil]; omega)) ?_
  | ((with_reducible refine Z.i_lct ?zw ?_); (case zw => rfl))
  | ((with_reducible refine' Z.i_gtup ?zt ?zl ?_); (case zt => exact L2.SqT.of (by first | assumption | exact L2.upd_same)); (case zl => rfl))
  | with_reducible refine Z.brT (by decide +kernel) ?_ | with_reducible refine Z.brF (by decide +kernel) ?_
  | with_reducible refine Z.iteNF ?_ | with_reducible refine Z.iteNT ?_
  | with_reducible refine L2.iteT ?_
  | with_reducible refine L2.iteF ?_)
namespace Y
open PySem PySem.Spec PyProof.Rows L2 Z
open C8 (tCut pss_cut Cal pe_c Met pe_mt pe_mt0 Mak pe_mk)
def topS (i : Nat) : Stmt := PySem.Challenge.pw_saidacross_k07_plain_sayings_of_words.main.body.getD i (.Pass ⟨0, 0, 0, 0⟩)
abbrev s__law_draw : Stmt := topS 26
abbrev n__law_draw : List Str := ["_law_hand_here", "_law_many", "_law_cell", "_law_digit", "_law_number"]
theorem sc__law_draw : FnScope n__law_draw ["_law_hand_here", "_law_many"] (defScope s__law_draw) := ⟨rfl, rfl, rfl, by decide +kernel, rfl, by decide +kernel, by decide +kernel⟩

abbrev s__law_hand : Stmt := topS 25
abbrev n__law_hand : List Str := ["_law_script", "_law_cells", "_law_cell"]
theorem sc__law_hand : FnScope n__law_hand ["_law_script"] (defScope s__law_hand) := ⟨rfl, rfl, rfl, by decide +kernel, rfl, by decide +kernel, by decide +kernel⟩

section
variable {P : Program} {w : World} {K : PySem.W.Frag} {mg : Str → Option Value} {base : Heap}
theorem c__law_draw (d : DF K mg "_law_draw" s__law_draw) (B : Bi mg) : Cal P w K mg base 1 "_law_draw" spDraw [] := by
  refine d.cal (N := n__law_draw) sc__law_draw (fun _ _ _ _ _ _ us hl => match us, hl with | [_, _], _ => rfl) (fun vs H Q E h => ?_) (fun f cdv A outer s H vs Q E hr h => ?_)
  · obtain ⟨h, m, rfl, _⟩ := h
    rfl
  · obtain ⟨h, m, rfl, hh, hm0, hm1, k⟩ := h
    refine ⟨_, (pss_cut (ps_if (PW.pt (pw_and (pt_cmpR op_eq (pe_ix (r := rIxL K) ix_list (pv 0) pe_int (fun _ _ => rfl)) pe_int (nomark _)) (pw_and1 (pt_cmpR z_lt (pe_ix (r := rIxL K) ix_list (pv 0) pe_int (fun _ _ => rfl)) (pe_callB (r := zLen K) zc_len (by rfl) B.len (by decide +kernel) (pa_cons (pe_ix (r := rIxL K) ix_list (pv 0) pe_int (fun _ _ => rfl)) pa_nil)) (nomark _))))) (pss_cons (ps_set (i := 2) sc__law_draw.nd rfl (by first | exact Or.inl rfl | exact Or.inr rfl) (pe_ix (r := rIxL K) ix_list (pe_ix (r := rIxL K) ix_list (pv 0) pe_int (fun _ _ => rfl)) (pe_ix (r := rIxL K) ix_list (pv 0) pe_int (fun _ _ => rfl)) (fun _ _ => rfl)))
  (pss_cons (ps_asg (pe_op z_add (pe_ix (r := rIxL K) ix_list (pv 0) pe_int (fun _ _ => rfl)) pe_int) (pg_sub (pv 0) pe_int set_list))
  (pss_cons (ps_asg (pe_op z_mod (pe_callTy zc_int (by rfl) B.int (by decide +kernel) (pa_cons (pe_op z_add (pe_op z_add (pe_op z_mul (pe_ix (r := rIxL K) ix_list (pv 0) pe_int (fun _ _ => rfl)) pe_int) (pv 2)) pe_int) pa_nil)) pe_int) (pg_sub (pv 0) pe_int set_list))
  (pss_one (ps_if (pt_cmpR z_ge (pv 2) (pe_op z_pow pe_int pe_int) (nomark _)) (pss_one (ps_asg (pv 2) (pg_sub (pv 0) pe_int set_list))) pss_nil))))) pss_nil)
  (pss_cons (ps_if (pt_cmpR z_gt (pe_ix (r := rIxL K) ix_list (pv 0) pe_int (fun _ _ => rfl)) pe_int (nomark _)) (pss_cons (ps_set (i := 3) sc__law_draw.nd rfl (by first | exact Or.inl rfl | exact Or.inr rfl) (pe_op z_mod (pe_callTy zc_int (by rfl) B.int (by decide +kernel) (pa_cons (pe_ix (r := rIxL K) ix_list (pv 0) pe_int (fun _ _ => rfl)) pa_nil)) (pv 1)))
  (pss_cons (ps_asg (pe_op z_div (pe_ix (r := rIxL K) ix_list (pv 0) pe_int (fun _ _ => rfl)) (pv 1)) (pg_sub (pv 0) pe_int set_list))
  (pss_one (ps_ret (pv 3))))) pss_nil)
  (pss_cons (ps_asg (pe_op z_add (pe_ix (r := rIxL K) ix_list (pv 0) pe_int (fun _ _ => rfl)) pe_int) (pg_sub (pv 0) pe_int set_list))
  (pss_cons (ps_set (i := 4) sc__law_draw.nd rfl (by first | exact Or.inl rfl | exact Or.inr rfl) (pe_op z_mod (pe_callTy zc_int (by rfl) B.int (by decide +kernel) (pa_cons (pe_op z_mul (pe_callTy zc_int (by rfl) B.int (by decide +kernel) (pa_cons (pe_op z_add (pe_ix (r := rIxL K) ix_list (pv 0) pe_int (fun _ _ => rfl)) (pe_op z_mul pe_int (pe_ix (r := rIxL K) ix_list (pv 0) pe_int (fun _ _ => rfl)))) pa_nil)) pe_int) pa_nil)) pe_int))
  (pss_cons (ps_set (i := 4) sc__law_draw.nd rfl (by first | exact Or.inl rfl | exact Or.inr rfl) (pe_op z_mod (pe_callTy zc_int (by rfl) B.int (by decide +kernel) (pa_cons (pe_op z_mul (pv 4) (pe_op z_add (pe_op z_div (pv 4) pe_int) pe_int)) pa_nil)) pe_int))
  (pss_cons (ps_set (i := 4) sc__law_draw.nd rfl (by first | exact Or.inl rfl | exact Or.inr rfl) (pe_op z_mod (pe_callTy zc_int (by rfl) B.int (by decide +kernel) (pa_cons (pe_op z_mul (pv 4) (pe_op z_add (pe_op z_div (pv 4) pe_int) pe_int)) pa_nil)) pe_int))
  (pss_one (ps_ret (pe_op z_mod (pe_callTy zc_int (by rfl) B.int (by decide +kernel) (pa_cons (pe_op z_div (pv 4) pe_int) pa_nil)) (pv 1)))))))))), ?_⟩
    refine zstart [some (.ref h), some (.int m), none, none, none] rfl ?_; try dsimp only [zK, zK2]
    refine i_cut (fun σ' H' => ∃ v2, σ' = [some (.ref h), some (.int m), v2, none, none] ∧ Gd h H H') ?_ ?_
    · obtain ⟨c, cells, a1, a2, a3, a4, e1, e2, hc, h1, h2, h3, h3', h4⟩ := hh.ex
      have hch : c ≠ h := fun e => by subst e; exact map_int_ne (Option.some.inj (e1.symm.trans e2))
      walk_at "zz"
      refine brd (fun q2 => ?_) fun q2 => ?_
      · walk_at "zz"
        refine brd (fun q1 => ?_) fun q1 => ?_
        · rw [List.length_map] at q1
          walk_at "zz"
          obtain ⟨cell, hcell⟩ : ∃ x, cells[a1.toNat]? = some x := ⟨_, List.getElem?_eq_getElem (by omega)⟩
          have hcell0 := hc _ (List.mem_of_getElem? hcell)
          refine i_ixL (SqL.of e2) (at_nat h1 (by rw [List.getElem?_map, hcell]; rfl)) ?_
          walk_at "zz"
          refine i_setH e1 rfl [V.ref c, V.int (a1 + 1), V.int a2, V.int a3, V.int a4] rfl fun H1 eH => ?_
          obtain ⟨f1, f2, kp1⟩ := hstep eH hch e2 (fun b o e _ => e)
          clear eH
          walk_at "zz"
          refine i_setH f1 rfl [V.ref c, V.int (a1 + 1), V.int a2, V.int ((a3 * 69621 + cell + 11) % 2147483629), V.int a4] rfl fun H2 eH => ?_
          obtain ⟨f3, f4, kp2⟩ := hstep eH hch f2 kp1
          clear eH
          walk_at "zz"
          refine i_pow ⟨by decide, by decide, by decide⟩ ?_
          walk_at "zz"
          have b1 := Int.emod_nonneg (a3 * 69621 + cell + 11) (b := 2147483629) (by decide)
          have b2 := Int.emod_lt_of_pos (a3 * 69621 + cell + 11) (b := 2147483629) (by decide)
          refine brd (fun q3 => ?_) fun q3 => ?_
          · walk_at "zz"
            refine i_setH f3 rfl [V.ref c, V.int (a1 + 1), V.int cell, V.int ((a3 * 69621 + cell + 11) % 2147483629), V.int a4] rfl fun H3 eH => ?_
            obtain ⟨f5, f6, kp3⟩ := hstep eH hch f4 kp2
            clear eH
            walk_at "zz"
            exact ⟨_, rfl, Gd.of hh e1 f5 ⟨c, cells, _, _, _, _, f5, f6, hc, by omega, hcell0, b1, by omega, h4⟩ kp3⟩
          · walk_at "zz"
            exact ⟨_, rfl, Gd.of hh e1 f3 ⟨c, cells, _, _, _, _, f3, f4, hc, by omega, h2, b1, by omega, h4⟩ kp2⟩
        · walk_at "zz"
          exact ⟨_, rfl, Gd.refl hh⟩
      · walk_at "zz"
        exact ⟨_, rfl, Gd.refl hh⟩
    · rintro σ' H1 ⟨v2, rfl, g⟩
      obtain ⟨c, cells, a1, a2, a3, a4, e1, e2, hc, h1, h2, h3, h3', h4⟩ := g.ok.ex
      have hch : c ≠ h := fun e => by subst e; exact map_int_ne (Option.some.inj (e1.symm.trans e2))
      walk_at "zz"
      refine brd (fun q1 => ?_) fun q1 => ?_
      · walk_at "zz"
        refine i_setH e1 rfl [V.ref c, V.int a1, V.int (a2 / m), V.int a3, V.int a4] rfl fun H2 eH => ?_
        obtain ⟨f1, f2, kp1⟩ := hstep eH hch e2 (fun b o e _ => e)
        clear eH
        walk_at "zz"
        exact draw_k k (Int.emod_nonneg _ (by omega)) (Int.emod_lt_of_pos _ hm0) (g.trans (Gd.of g.ok e1 f1 ⟨c, cells, _, _, _, _, f1, f2, hc, h1, Int.ediv_nonneg h2 (by omega), h3, h3', h4⟩ kp1))
      · walk_at "zz"
        refine i_setH e1 rfl [V.ref c, V.int a1, V.int a2, V.int a3, V.int (a4 + 1)] rfl fun H2 eH => ?_
        obtain ⟨f1, f2, kp1⟩ := hstep eH hch e2 (fun b o e _ => e)
        clear eH
        walk_at "zz"
        exact draw_k k (Int.emod_nonneg _ (by omega)) (Int.emod_lt_of_pos _ hm0) (g.trans (Gd.of g.ok e1 f1 ⟨c, cells, _, _, _, _, f1, f2, hc, h1, h2, h3, h3', by omega⟩ kp1))
theorem c__law_hand (d : DF K mg "_law_hand" s__law_hand) (B : Bi mg) : Cal P w K mg base 1 "_law_hand" (spHand K) [] := by
  refine d.cal (N := n__law_hand) sc__law_hand (fun _ _ _ _ _ _ us hl => match us, hl with | [_], _ => rfl) (fun vs H Q E h => ?_) (fun f cdv A outer s H vs Q E hr h => ?_)
  · obtain ⟨a, ns, rfl, _⟩ := h
    rfl
  · obtain ⟨a, ns, rfl, hs, hk, k⟩ := h
    refine ⟨_, (pss_cons (ps_setLc (i := 1) (own := [("_law_cell", 2)]) (g := gName 2) (tt := tYes) rfl sc__law_hand.nd rfl rfl (sw_true rfl rfl rfl (by decide +kernel)) (pi_list (pe_slice (r := rSlL K) sl_list (pv 0) po_none (po_some pe_int))) (blkOk_by (N := n__law_hand) (sc := defScope s__law_hand) (by decide +kernel)) (fun _ _ _ _ _ => (pg_name (i := 2) sc__law_hand.nd rfl (by first | exact Or.inl rfl | exact Or.inr rfl))) (fun _ _ _ _ _ => pts_nil) (fun _ _ _ _ _ => (pe_callB zc_abs (by rfl) B.abs (by decide +kernel) (pa_cons (pe_callTy zc_int (by rfl) B.int (by decide +kernel) (pa_cons (pv 2) pa_nil)) pa_nil))))
  (pss_one (ps_ret (pe_lst (pa_cons (pv 1) (pa_cons pe_int (pa_cons pe_int (pa_cons (pe_op z_add pe_int (pe_callB (r := zLen K) zc_len (by rfl) B.len (by decide +kernel) (pa_cons (pv 1) pa_nil))) (pa_cons pe_int pa_nil))))))))), ?_⟩
    refine zstart [some (.ref a), none, none] rfl ?_; try dsimp only [zK, zK2]
    walk_at "zz"
    refine i_slL hs fun p hp => ?_
    refine i_KL (SqL.of upd_same) fun Dl hD => ?_
    have e63 : cutV (ns.map V.int) none (some 63) = (ns.take 63).map V.int := by
      rw [show (63 : Int) = ((63 : Nat) : Int) from rfl, cutV_to, List.map_take]
    rw [e63] at hD ⊢
    have npD : p ≠ Dl := fun e => by subst e; rw [upd_same] at hD; cases hD
    refine l_comp (walk_list (xs := (ns.take 63).map V.int)) [some (.ref a), none, none] rfl (fun i acc H' => Same H H' ∧ H' p = some (.lst ((ns.take 63).map V.int)) ∧ ∃ cells : List Int, acc = cells.map V.int ∧ ∀ x ∈ cells, 0 ≤ x)
      ⟨((Same.refl H).newz hp).newz hD, by rw [upd_ne npD]; exact upd_same, [], rfl, by simp⟩ (fun i acc H' _ ⟨_, e, _⟩ _ => SqL.of e) ?_ ?_
    · rintro i x acc H1 H2 hi ⟨sm, ep, cells, rfl, h0⟩ eD hl ⟨rfl, hx⟩
      rw [List.getElem?_map] at hx
      obtain ⟨z, hz, rfl⟩ := Option.map_eq_some_iff.mp hx
      have hD0 : H Dl = none := by rw [upd_ne npD.symm] at hD; exact hD
      walk_at "zz"
      refine cend eD hl (by rw [List.length_map, List.length_take] at hi; omega) ⟨sm.mutz hD0, by rw [upd_ne npD]; exact ep, cells ++ [if z < 0 then -z else z], by simp, ?_⟩
      intro x hx
      rcases List.mem_append.mp hx with q | q
      · exact h0 x q
      · rw [List.mem_singleton.mp q]; split <;> omega
    · rintro acc H1 ⟨sm, ep, cells, rfl, h0⟩ eD hl
      walk_at "zz"
      have hlen : cells.length ≤ 63 := by rw [List.length_map, List.length_map, List.length_take] at hl; omega
      refine ⟨by show 5 ≤ sizeLine; decide, fun h hh => ?_⟩
      refine k h _ (sm.free hh) ⟨Dl, cells, 0, 0, _, 0, upd_same, by rw [upd_ne (ne_of_none eD hh)]; exact eD, h0, by omega, by omega, ?_, ?_, by omega⟩ (sm.newz hh)
      · rw [List.length_map]; omega
      · rw [List.length_map]; omega
end
end Y

namespace Y
open PySem PySem.Spec PyProof.Rows L2 Z
open C8 (tCut pss_cut Cal pe_c Met pe_mt pe_mt0 Mak pe_mk)
abbrev s__law_letters : Stmt := topS 27
abbrev n__law_letters : List Str := ["_law_hand_here", "_law_signs", "_law_many", "_law_rest", "_law_found", "_law_turn", "_law_at"]
theorem sc__law_letters : FnScope n__law_letters ["_law_hand_here", "_law_signs", "_law_many"] (defScope s__law_letters) := ⟨rfl, rfl, rfl, by decide +kernel, rfl, by decide +kernel, by decide +kernel⟩

abbrev s__law_word : Stmt := topS 28
abbrev n__law_word : List Str := ["_law_hand_here", "_law_letters_here", "_law_many", "_law_word_here", "_law_turn"]
theorem sc__law_word : FnScope n__law_word ["_law_hand_here", "_law_letters_here", "_law_many"] (defScope s__law_word) := ⟨rfl, rfl, rfl, by decide +kernel, rfl, by decide +kernel, by decide +kernel⟩

abbrev s__law_some_letters : Stmt := topS 32
abbrev n__law_some_letters : List Str := ["_law_hand_here"]
theorem sc__law_some_letters : FnScope n__law_some_letters ["_law_hand_here"] (defScope s__law_some_letters) := ⟨rfl, rfl, rfl, by decide +kernel, rfl, by decide +kernel, by decide +kernel⟩

/-- letters that are drawn out of others: what is left beside them -/
def spLetters : Sp := fun vs H Q _ => ∃ (h : Addr) (l : List Nat) (m : Nat), vs = [.ref h, .str (S l), .int (m : Int)] ∧ HandOk H h ∧ m ≤ l.length ∧ l.length ≤ 1000 ∧
  ∀ (found rest : List Nat) H', found.length = m → (found ++ rest).Perm l → Gd h H H' → Q (.str (S found)) H'
def spWord : Sp := fun vs H Q _ => ∃ (h : Addr) (l : List Nat) (m : Nat), vs = [.ref h, .str (S l), .int (m : Int)] ∧ HandOk H h ∧ (0 < m → 0 < l.length) ∧ l.length ≤ 1000 ∧ m ≤ 1000 ∧
  ∀ (word : List Nat) H', word.length = m → (∀ c ∈ word, c ∈ l) → Gd h H H' → Q (.str (S word)) H'
def Ltrs (l : List Nat) : Prop := l.Pairwise (· < ·) ∧ (∀ c ∈ l, 97 ≤ c ∧ c ≤ 122) ∧ 1 ≤ l.length ∧ l.length ≤ 4
def spSomeLetters : Sp := fun vs H Q _ => ∃ (h : Addr), vs = [.ref h] ∧ HandOk H h ∧ ∀ (l : List Nat) H', Ltrs l → Gd h H H' → Q (.str (S l)) H'
section
variable {P : Program} {w : World} {K : PySem.W.Frag} {mg : Str → Option Value} {base : Heap}
theorem c__law_letters (d : DF K mg "_law_letters" s__law_letters) (B : Bi mg) (c__law_draw : Cal P w K mg base 1 "_law_draw" spDraw []) : Cal P w K mg base 2 "_law_letters" spLetters [] := by
  refine d.cal (N := n__law_letters) sc__law_letters (fun _ _ _ _ _ _ us hl => match us, hl with | [_, _, _], _ => rfl) (fun vs H Q E h => ?_) (fun f cdv A outer s H vs Q E hr h => ?_)
  · obtain ⟨h, l, m, rfl, _⟩ := h
    rfl
  · obtain ⟨h, l, m, rfl, hh, hm, hl, k⟩ := h
    refine ⟨_, (pss_cons (ps_set (i := 3) sc__law_letters.nd rfl (by first | exact Or.inl rfl | exact Or.inr rfl) (pv 1))
  (pss_cons (ps_set (i := 4) sc__law_letters.nd rfl (by first | exact Or.inl rfl | exact Or.inr rfl) pe_str)
  (pss_cons (ps_for PassesOwn.never rfl (pi_range1 rfl B.range (pa_cons (pv 2) pa_nil)) (pg_name (i := 5) sc__law_letters.nd rfl (by first | exact Or.inl rfl | exact Or.inr rfl)) (pss_cons (ps_set (i := 6) sc__law_letters.nd rfl (by first | exact Or.inl rfl | exact Or.inr rfl) (pe_c c__law_draw hr (by first | decide | omega) rfl (pa_cons (pv 0) (pa_cons (pe_callB zc_lens (by rfl) B.len (by decide +kernel) (pa_cons (pv 3) pa_nil)) pa_nil))))
  (pss_cons (ps_set (i := 4) sc__law_letters.nd rfl (by first | exact Or.inl rfl | exact Or.inr rfl) (pe_op z_adds (pv 4) (pe_ix ix_str (pv 3) (pv 6) (fun _ _ => rfl))))
  (pss_one (ps_set (i := 3) sc__law_letters.nd rfl (by first | exact Or.inl rfl | exact Or.inr rfl) (pe_op z_adds (pe_slice sl_str (pv 3) po_none (po_some (pv 6))) (pe_slice sl_str (pv 3) (po_some (pe_op z_add (pv 6) pe_int)) po_none)))))))
  (pss_one (ps_ret (pv 4)))))), ?_⟩
    refine zstart [some (.ref h), some (.str (S l)), some (.int m), none, none, none, none] rfl ?_; try dsimp only [zK, zK2]
    walk_at "zz"
    refine i_KR1 (by omega) ?_
    refine l_range (fun i σ H1 => ∃ (found rest : List Nat) (v5 v6 : Option V), σ = [some (.ref h), some (.str (S l)), some (.int m), some (.str (S rest)), some (.str (S found)), v5, v6] ∧ found.length = i ∧ (found ++ rest).Perm l ∧ Gd h H H1) ?_ ?_ ?_
    · exact ⟨[], l, none, none, rfl, rfl, by simp, Gd.refl hh⟩
    · rintro i σ H1 hi ⟨found, rest, v5, v6, rfl, hf, hp, g⟩
      have hlen := hp.length_eq
      rw [List.length_append] at hlen
      have hi' : i < m := by omega
      walk_at "zz"
      refine use_draw g.ok (by omega) (by omega) fun r H2 hr2 g2 => ?_
      walk_at "zz"
      have hrl : r < rest.length := by omega
      refine i_ixS (by omega) (atI_nat (List.getElem?_eq_getElem hrl)) ?_
      walk_at "zz"
      refine i_slTo (by omega) ?_
      walk_at "zz"
      refine i_slFrom (by omega) ?_
      walk_at "zz"
      refine i_adds (by rw [List.length_take, List.length_drop]; omega) ?_
      walk_at "zz"
      exact ⟨_, _, _, _, rfl, by rw [List.length_append, hf]; rfl, perm_pick hrl hp, g.trans g2⟩
    · rintro σ H1 ⟨found, rest, v5, v6, rfl, hf, hp, g⟩
      walk_at "zz"
      exact k found rest _ (by omega) hp g
theorem c__law_word (d : DF K mg "_law_word" s__law_word) (B : Bi mg) (c__law_draw : Cal P w K mg base 1 "_law_draw" spDraw []) : Cal P w K mg base 2 "_law_word" spWord [] := by
  refine d.cal (N := n__law_word) sc__law_word (fun _ _ _ _ _ _ us hl => match us, hl with | [_, _, _], _ => rfl) (fun vs H Q E h => ?_) (fun f cdv A outer s H vs Q E hr h => ?_)
  · obtain ⟨h, l, m, rfl, _⟩ := h
    rfl
  · obtain ⟨h, l, m, rfl, hh, hm, hl, hm2, k⟩ := h
    refine ⟨_, (pss_cons (ps_set (i := 3) sc__law_word.nd rfl (by first | exact Or.inl rfl | exact Or.inr rfl) pe_str)
  (pss_cons (ps_for PassesOwn.never rfl (pi_range1 rfl B.range (pa_cons (pv 2) pa_nil)) (pg_name (i := 4) sc__law_word.nd rfl (by first | exact Or.inl rfl | exact Or.inr rfl)) (pss_one (ps_set (i := 3) sc__law_word.nd rfl (by first | exact Or.inl rfl | exact Or.inr rfl) (pe_op z_adds (pv 3) (pe_ix ix_str (pv 1) (pe_c c__law_draw hr (by first | decide | omega) rfl (pa_cons (pv 0) (pa_cons (pe_callB zc_lens (by rfl) B.len (by decide +kernel) (pa_cons (pv 1) pa_nil)) pa_nil))) (fun _ _ => rfl))))))
  (pss_one (ps_ret (pv 3))))), ?_⟩
    refine zstart [some (.ref h), some (.str (S l)), some (.int m), none, none] rfl ?_; try dsimp only [zK, zK2]
    walk_at "zz"
    refine i_KR1 (by omega) ?_
    refine l_range (fun i σ H1 => ∃ (word : List Nat) (v4 : Option V), σ = [some (.ref h), some (.str (S l)), some (.int m), some (.str (S word)), v4] ∧ word.length = i ∧ (∀ c ∈ word, c ∈ l) ∧ Gd h H H1) ?_ ?_ ?_
    · exact ⟨[], none, rfl, rfl, by simp, Gd.refl hh⟩
    · rintro i σ H1 hi ⟨word, v4, rfl, hw, hin, g⟩
      have hi' : i < m := by omega
      have hl0 := hm (by omega)
      walk_at "zz"
      refine use_draw g.ok (by omega) (by omega) fun r H2 hr2 g2 => ?_
      have hrl : r < l.length := by omega
      refine i_ixS (by omega) (atI_nat (List.getElem?_eq_getElem hrl)) ?_
      walk_at "zz"
      refine ⟨_, _, rfl, by rw [List.length_append, hw]; rfl, fun c hc => ?_, g.trans g2⟩
      rcases List.mem_append.mp hc with q | q
      · exact hin c q
      · rw [List.mem_singleton.mp q]; exact List.getElem_mem hrl
    · rintro σ H1 ⟨word, v4, rfl, hw, hin, g⟩
      walk_at "zz"
      exact k word _ (by omega) hin g
theorem c__law_some_letters (d : DF K mg "_law_some_letters" s__law_some_letters) (B : Bi mg) (c__law_draw : Cal P w K mg base 1 "_law_draw" spDraw []) (c__law_letters : Cal P w K mg base 2 "_law_letters" spLetters []) :
    Cal P w K mg base 3 "_law_some_letters" spSomeLetters [] := by
  refine d.cal (N := n__law_some_letters) sc__law_some_letters (fun _ _ _ _ _ _ us hl => match us, hl with | [_], _ => rfl) (fun vs H Q E h => ?_) (fun f cdv A outer s H vs Q E hr h => ?_)
  · obtain ⟨h, rfl, _⟩ := h
    rfl
  · obtain ⟨h, rfl, hh, k⟩ := h
    refine ⟨_, (pss_one (ps_ret (pe_joinZ (K := K) rfl pe_str (pe_callB (zc_sortedC rfl) (by rfl) B.sorted (by decide +kernel) (pa_cons (pe_c c__law_letters hr (by first | decide | omega) rfl (pa_cons (pv 0) (pa_cons pe_str (pa_cons (pe_op z_add pe_int (pe_c c__law_draw hr (by first | decide | omega) rfl (pa_cons (pv 0) (pa_cons pe_int pa_nil)))) pa_nil)))) pa_nil))))), ?_⟩
    refine zstart [some (.ref h)] rfl ?_; try dsimp only [zK, zK2]
    walk_at "zz"
    refine use_draw hh (by decide) (by decide) fun r H1 hr1 g1 => ?_
    walk_at "zz"
    rw [az]
    refine ⟨h, _, 1 + r, rfl, g1.ok, by rw [List.length_range']; omega, by rw [List.length_range']; omega, fun found rest H2 hf hp g2 => ?_⟩
    have hnd : found.Nodup := perm_nodup_of hp List.nodup_range'
    walk_at "zz"
    refine ⟨found, rfl, by omega, fun ys p hys hpw hpn => ?_⟩
    walk_at "zz"
    rw [empty_codes]
    have e : ys.map (fun c => V.str (S [c])) = (ys.map fun c => [c]).map fun x => V.str (S x) := by rw [List.map_map]; rfl
    have hfl := flat_one ys
    have hyl := hys.length_eq
    refine i_join0 (l := ys.map fun c => [c]) (.inl (SqL.of (by rw [upd_same, e]))) (by rw [hfl]; omega) ?_
    rw [hfl]
    walk_at "zz"
    refine k ys _ ⟨asc_of hpw (hys.nodup_iff.mpr hnd), fun c hc => ?_, by omega, by omega⟩ ((g1.trans g2).new hpn)
    have hc2 : c ∈ List.range' 97 26 := hp.mem_iff.mp (List.mem_append_left _ (hys.mem_iff.mp hc))
    rw [List.mem_range'] at hc2
    omega
end
end Y

namespace Y
open PySem PySem.Spec PyProof.Rows L2 Z
open C8 (tCut pss_cut Cal pe_c Met pe_mt pe_mt0 Mak pe_mk)
abbrev s__law_plain : Stmt := topS 29
abbrev n__law_plain : List Str := ["_law_hand_here", "_law_letters_here", "_law_kind", "_law_letter", "_law_many", "_law_one"]
theorem sc__law_plain : FnScope n__law_plain ["_law_hand_here", "_law_letters_here"] (defScope s__law_plain) := ⟨rfl, rfl, rfl, by decide +kernel, rfl, by decide +kernel, by decide +kernel⟩

abbrev s__law_stands : Stmt := topS 30
abbrev n__law_stands : List Str := ["_law_word_here", "_law_goal", "_law_at", "_law_letter", "_law_found"]
theorem sc__law_stands : FnScope n__law_stands ["_law_word_here", "_law_goal"] (defScope s__law_stands) := ⟨rfl, rfl, rfl, by decide +kernel, rfl, by decide +kernel, by decide +kernel⟩

abbrev s__law_plain_so : Stmt := topS 31
abbrev n__law_plain_so : List Str := ["_law_saying", "_law_word_here", "_law_kind", "_law_many", "_law_letter", "_law_size", "_law_at"]
theorem sc__law_plain_so : FnScope n__law_plain_so ["_law_saying", "_law_word_here"] (defScope s__law_plain_so) := ⟨rfl, rfl, rfl, by decide +kernel, rfl, by decide +kernel, by decide +kernel⟩

abbrev s__law_flag : Stmt := topS 33
abbrev n__law_flag : List Str := ["_law_found", "_law_due"]
theorem sc__law_flag : FnScope n__law_flag ["_law_found", "_law_due"] (defScope s__law_flag) := ⟨rfl, rfl, rfl, by decide +kernel, rfl, by decide +kernel, by decide +kernel⟩

abbrev s__law_spread : Stmt := topS 34
abbrev n__law_spread : List Str := ["_law_hand_here", "_law_letters_here", "_law_word_here", "_law_found", "_law_letter"]
theorem sc__law_spread : FnScope n__law_spread ["_law_hand_here", "_law_letters_here", "_law_word_here"] (defScope s__law_spread) := ⟨rfl, rfl, rfl, by decide +kernel, rfl, by decide +kernel, by decide +kernel⟩

abbrev s__law_made_word : Stmt := topS 35
abbrev n__law_made_word : List Str := ["_law_hand_here", "_law_letters_here", "_law_saying", "_law_way", "_law_some", "_law_word_here", "_law_at"]
theorem sc__law_made_word : FnScope n__law_made_word ["_law_hand_here", "_law_letters_here", "_law_saying"] (defScope s__law_made_word) := ⟨rfl, rfl, rfl, by decide +kernel, rfl, by decide +kernel, by decide +kernel⟩

/-- sayings -/
inductive Say where
  | first (c : Nat) | last (c : Nat) | count (c n r : Nat) | least (c n : Nat) | isin (w : List Nat) | row (w : List Nat) | only (l : List Nat)
  | neg (s : Say) | conj (s t : Say) | disj (s t : Say) | cut (c : Nat) (s t : Say) | cutlast (c : Nat) (s t : Say)
abbrev st (x : String) : PyData := .str (PySem.Str.ofString x)
def Say.data : Say → PyData
  | .first c => .tuple [st "first", .str (S [c])]
  | .last c => .tuple [st "last", .str (S [c])]
  | .count c n r => .tuple [st "count", .str (S [c]), .int n, .int r]
  | .least c n => .tuple [st "least", .str (S [c]), .int n]
  | .isin w => .tuple [st "in", .str (S w)]
  | .row w => .tuple [st "row", .str (S w)]
  | .only l => .tuple [st "only", .str (S l)]
  | .neg s => .tuple [st "not", s.data]
  | .conj s t => .tuple [st "and", s.data, t.data]
  | .disj s t => .tuple [st "or", s.data, t.data]
  | .cut c s t => .tuple [st "cut", .str (S [c]), s.data, t.data]
  | .cutlast c s t => .tuple [st "cutlast", .str (S [c]), s.data, t.data]
def Say.plain : Say → Bool
  | .first _ | .last _ | .count _ _ _ | .least _ _ | .isin _ | .row _ | .only _ => true
  | _ => false
def Say.ok (L : List Nat) : Say → Prop
  | .first c | .last c => c ∈ L
  | .count c n r => c ∈ L ∧ 1 ≤ n ∧ n ≤ 6 ∧ r < n
  | .least c n => c ∈ L ∧ 1 ≤ n ∧ n ≤ 5
  | .isin w | .row w => (∀ c ∈ w, c ∈ L) ∧ 1 ≤ w.length ∧ w.length ≤ 4
  | .only l => (∀ c ∈ l, c ∈ L) ∧ l.Pairwise (· < ·)
  | .neg s => s.ok L
  | .conj s t | .disj s t => s.ok L ∧ t.ok L
  | .cut c s t | .cutlast c s t => c ∈ L ∧ s.ok L ∧ t.ok L
/-- what is told of a plain saying and a word -/
def Say.plainHolds (w : List Nat) : Say → Bool
  | .first c => decide (w.head? = some c)
  | .last c => decide (w.getLast? = some c)
  | .count c n r => decide (w.count c % n = r)
  | .least c n => decide (n ≤ w.count c)
  | .isin u => decide (u.Sublist w)
  | .row u => decide (u <:+: w)
  | .only l => w.all fun c => decide (c ∈ l)
  | _ => false
def spPlain : Sp := fun vs H Q _ => ∃ (h : Addr) (L : List Nat), vs = [.ref h, .str (S L)] ∧ HandOk H h ∧ Ltrs L ∧ ∀ (v : V) (s : Say) H', s.plain = true → s.ok L → Rp (· = h) H' v s.data → Gd h H H' → Q v H'
def spStands : Sp := fun vs H Q _ => ∃ (w u : List Nat), vs = [.str (S w), .str (S u)] ∧ w.length ≤ 1000 ∧ Q (.bl (decide (u.Sublist w))) H
def spFlag : Sp := fun vs H Q _ => ∃ (a b : Bool), vs = [.bl a, .bl b] ∧ Q (.bl (decide (a = b))) H
section
variable {P : Program} {w : World} {K : PySem.W.Frag} {mg : Str → Option Value} {base : Heap}
theorem c__law_flag (d : DF K mg "_law_flag" s__law_flag) (B : Bi mg) : Cal P w K mg base 1 "_law_flag" spFlag [] := by
  refine d.cal (N := n__law_flag) sc__law_flag (fun _ _ _ _ _ _ us hl => match us, hl with | [_, _], _ => rfl) (fun vs H Q E h => ?_) (fun f cdv A outer s H vs Q E hr h => ?_)
  · obtain ⟨a, b, rfl, _⟩ := h
    rfl
  · obtain ⟨a, b, rfl, k⟩ := h
    refine ⟨_, (pss_one (ps_ret (pe_and (pe_callB (r := zIsi K) zc_isi (by rfl) B.isinstance (by decide +kernel) (pa_cons (pv 0) (pa_cons (pe_bltn (by rfl) B.bool (by decide +kernel) (rel_ty "bool")) pa_nil))) (pe_one (pe_cmpR op_eq (pv 0) (pv 1) (nomark _)))))), ?_⟩
    refine zstart [some (.bl a), some (.bl b)] rfl ?_; try dsimp only [zK, zK2]
    walk_at "zz"
    refine i_isi (N := N0) (Rp.bl a) (by decide) ?_
    walk_at "zz"
    refine iteT ?_
    walk_at "zz"
    exact k
theorem c__law_plain (d : DF K mg "_law_plain" s__law_plain) (B : Bi mg) (c__law_draw : Cal P w K mg base 1 "_law_draw" spDraw []) (c__law_word : Cal P w K mg base 2 "_law_word" spWord []) : Cal P w K mg base 3 "_law_plain" spPlain [] := by
  refine d.cal (N := n__law_plain) sc__law_plain (fun _ _ _ _ _ _ us hl => match us, hl with | [_, _], _ => rfl) (fun vs H Q E h => ?_) (fun f cdv A outer s H vs Q E hr h => ?_)
  · obtain ⟨h, L, rfl, _⟩ := h
    rfl
  · obtain ⟨h, L, rfl, hh, hL, k⟩ := h
    refine ⟨_, (pss_cons (ps_set (i := 2) sc__law_plain.nd rfl (by first | exact Or.inl rfl | exact Or.inr rfl) (pe_ix (r := rIxL K) ix_list (pe_lst (pa_cons pe_str (pa_cons pe_str (pa_cons pe_str (pa_cons pe_str (pa_cons pe_str (pa_cons pe_str (pa_cons pe_str pa_nil)))))))) (pe_c c__law_draw hr (by first | decide | omega) rfl (pa_cons (pv 0) (pa_cons pe_int pa_nil))) (fun _ _ => rfl)))
  (pss_cons (ps_set (i := 3) sc__law_plain.nd rfl (by first | exact Or.inl rfl | exact Or.inr rfl) (pe_ix ix_str (pv 1) (pe_c c__law_draw hr (by first | decide | omega) rfl (pa_cons (pv 0) (pa_cons (pe_callB zc_lens (by rfl) B.len (by decide +kernel) (pa_cons (pv 1) pa_nil)) pa_nil))) (fun _ _ => rfl)))
  (pss_cons (ps_if (PW.pt (pw_or (pt_cmpR op_eq (pv 2) pe_str (nomark _)) (pw_or1 (pt_cmpR op_eq (pv 2) pe_str (nomark _))))) (pss_one (ps_ret (pe_tup (pa_cons (pv 2) (pa_cons (pv 3) pa_nil))))) pss_nil)
  (pss_cons (ps_if (pt_cmpR op_eq (pv 2) pe_str (nomark _)) (pss_cons (ps_set (i := 4) sc__law_plain.nd rfl (by first | exact Or.inl rfl | exact Or.inr rfl) (pe_op z_add pe_int (pe_c c__law_draw hr (by first | decide | omega) rfl (pa_cons (pv 0) (pa_cons pe_int pa_nil)))))
  (pss_one (ps_ret (pe_tup (pa_cons (pv 2) (pa_cons (pv 3) (pa_cons (pv 4) (pa_cons (pe_c c__law_draw hr (by first | decide | omega) rfl (pa_cons (pv 0) (pa_cons (pv 4) pa_nil))) pa_nil)))))))) pss_nil)
  (pss_cons (ps_if (pt_cmpR op_eq (pv 2) pe_str (nomark _)) (pss_one (ps_ret (pe_tup (pa_cons (pv 2) (pa_cons (pv 3) (pa_cons (pe_op z_add pe_int (pe_c c__law_draw hr (by first | decide | omega) rfl (pa_cons (pv 0) (pa_cons pe_int pa_nil)))) pa_nil)))))) pss_nil)
  (pss_cons (ps_if (pt_cmpR op_eq (pv 2) pe_str (nomark _)) (pss_one (ps_ret (pe_tup (pa_cons (pv 2) (pa_cons (pe_joinZ (K := K) rfl pe_str (pe_lc (own := [("_law_one", 5)]) (g := gName 5) (by rfl) sc__law_plain.nd (pi_str (pv 1)) (blkOk_by (N := n__law_plain) (sc := defScope s__law_plain) (by decide +kernel)) (fun _ _ _ _ _ => (pg_name (i := 5) sc__law_plain.nd rfl (by first | exact Or.inl rfl | exact Or.inr rfl))) (fun _ _ _ _ _ => (pts_one (pt_cmpR z_gt (pe_c c__law_draw hr (by first | decide | omega) rfl (pa_cons (pv 0) (pa_cons pe_int pa_nil))) pe_int (nomark _)))) (fun _ _ _ _ _ => (pv 5)))) pa_nil))))) pss_nil)
  (pss_one (ps_ret (pe_tup (pa_cons (pv 2) (pa_cons (pe_c c__law_word hr (by first | decide | omega) rfl (pa_cons (pv 0) (pa_cons (pv 1) (pa_cons (pe_op z_add pe_int (pe_c c__law_draw hr (by first | decide | omega) rfl (pa_cons (pv 0) (pa_cons pe_int pa_nil)))) pa_nil)))) pa_nil))))))))))), ?_⟩
    refine zstart [some (.ref h), some (.str (S L)), none, none, none, none] rfl ?_; try dsimp only [zK, zK2]
    walk_at "zz"
    refine ⟨by show 7 ≤ sizeLine; decide, fun p hp => ?_⟩
    walk_at "zz"
    refine use_draw (hh.new hp) (by decide) (by decide) fun r H1 hr1 g1 => ?_
    have g01 : Gd h H H1 := ((Gd.refl hh).new hp).trans g1
    have hhp : p ≠ h := by obtain ⟨o, ho⟩ := hh.some; exact (ne_of_none ho hp).symm
    have ep : H1 p = _ := g1.kp _ _ upd_same hhp
    obtain ⟨hLp, hLr, hL1, hL4⟩ := id hL
    refine i_ixL (SqL.of ep) (atI_nat (v := V.str (PySem.Str.ofString (["first", "last", "count", "least", "in", "row", "only"].getD r ""))) ?_) ?_
    · match r, hr1 with
      | 0, _ | 1, _ | 2, _ | 3, _ | 4, _ | 5, _ | 6, _ => rfl
      | n + 7, q => omega
    walk_at "zz"
    refine use_draw g1.ok (by omega) (by omega) fun r2 H2 hr2 g2 => ?_
    have hr2' : r2 < L.length := by omega
    refine i_ixS (by omega) (atI_nat (List.getElem?_eq_getElem hr2')) ?_
    have hcL : L[r2] ∈ L := List.getElem_mem hr2'
    have g02 := g01.trans g2
    generalize L[r2] = c at hcL ⊢
    match r, hr1 with
    | 0, _ =>
      walk_at "zz"
      refine ⟨by show 2 ≤ sizeLine; decide, fun q hq => ?_⟩
      walk_at "zz"
      exact k _ (.first c) _ rfl hcL (.tup upd_same (g02.ok.ne hq) (.cons (.str _) (.cons (.str _) .nil))) (g02.new hq)
    | 1, _ =>
      walk_at "zz"
      refine ⟨by show 2 ≤ sizeLine; decide, fun q hq => ?_⟩
      walk_at "zz"
      exact k _ (.last c) _ rfl hcL (.tup upd_same (g02.ok.ne hq) (.cons (.str _) (.cons (.str _) .nil))) (g02.new hq)
    | 2, _ =>
      walk_at "zz"
      refine use_draw g02.ok (by decide) (by decide) fun n H3 hn g3 => ?_
      walk_at "zz"
      refine use_draw g3.ok (by omega) (by omega) fun m H4 hm g4 => ?_
      walk_at "zz"
      have g04 := (g02.trans g3).trans g4
      refine ⟨by show 4 ≤ sizeLine; decide, fun q hq => ?_⟩
      walk_at "zz"
      exact k _ (.count c (1 + n) m) _ rfl ⟨hcL, by omega, by omega, by omega⟩ (.tup upd_same (g04.ok.ne hq) (.cons (.str _) (.cons (.str _) (.cons (.int _) (.cons (.int _) .nil))))) (g04.new hq)
    | 3, _ =>
      walk_at "zz"
      refine use_draw g02.ok (by decide) (by decide) fun n H3 hn g3 => ?_
      walk_at "zz"
      have g04 := g02.trans g3
      refine ⟨by show 3 ≤ sizeLine; decide, fun q hq => ?_⟩
      walk_at "zz"
      exact k _ (.least c (1 + n)) _ rfl ⟨hcL, by omega, by omega⟩ (.tup upd_same (g04.ok.ne hq) (.cons (.str _) (.cons (.str _) (.cons (.int _) .nil)))) (g04.new hq)
    | 4, _ =>
      walk_at "zz"
      refine use_draw g02.ok (by decide) (by decide) fun n H3 hn g3 => ?_
      walk_at "zz"
      refine ⟨h, L, 1 + n, rfl, g3.ok, by omega, by omega, by omega, fun word H4 hw hin g4 => ?_⟩
      walk_at "zz"
      have g04 := (g02.trans g3).trans g4
      refine ⟨by show 2 ≤ sizeLine; decide, fun q hq => ?_⟩
      walk_at "zz"
      exact k _ (.isin word) _ rfl ⟨hin, by omega, by omega⟩ (.tup upd_same (g04.ok.ne hq) (.cons (.str _) (.cons (.str _) .nil))) (g04.new hq)
    | 5, _ =>
      walk_at "zz"
      refine use_draw g02.ok (by decide) (by decide) fun n H3 hn g3 => ?_
      walk_at "zz"
      refine ⟨h, L, 1 + n, rfl, g3.ok, by omega, by omega, by omega, fun word H4 hw hin g4 => ?_⟩
      walk_at "zz"
      have g04 := (g02.trans g3).trans g4
      refine ⟨by show 2 ≤ sizeLine; decide, fun q hq => ?_⟩
      walk_at "zz"
      exact k _ (.row word) _ rfl ⟨hin, by omega, by omega⟩ (.tup upd_same (g04.ok.ne hq) (.cons (.str _) (.cons (.str _) .nil))) (g04.new hq)
    | 6, _ =>
      walk_at "zz"
      refine fun Dl hD => ?_
      refine l_comp walk_str [some (.ref h), some (.str (S L)), some (.str (PySem.Str.ofString "only")), some (.str (S [c])), none, none] rfl (fun i acc H' => Gd h H2 H' ∧ ∃ cs : List Nat, acc = cs.map (fun c => V.str (S [c])) ∧ cs.Sublist (L.take i)) ⟨(Gd.refl g02.ok).new hD, [], rfl, by simp⟩ (fun _ _ _ _ _ _ => trivial) ?_ ?_
      · rintro i x acc H3 H4 hi ⟨g3, cs, rfl, hcs⟩ e hl ⟨rfl, c2, hc2, rfl⟩
        have hc2' : L[i]? = some c2 := by simpa using hc2
        have hil : i < L.length := (List.getElem?_eq_some_iff.mp hc2').1
        walk_at "zz"
        refine use_draw g3.ok (by decide) (by decide) fun n H5 hn g5 => ?_
        walk_at "zz"
        have nDh : ¬ Dl = h := g02.ok.ne hD
        refine brd (fun hn0 => ?_) fun hn0 => ?_
        · walk_at "zz"
          exact cend (g5.kp' e nDh) hl (by omega) ⟨(g3.trans g5).mutz hD, cs ++ [c2], by simp, sub_snoc hcs hc2'⟩
        · walk_at "zz"
          exact ⟨_, g5.kp' e nDh, by omega, g3.trans g5, cs, rfl, sub_skip hcs⟩
      · rintro acc H3 ⟨g3, cs, rfl, hcs⟩ e hl
        walk_at "zz"
        rw [empty_codes]
        have hcs' : cs.Sublist L := hcs.trans (List.take_sublist _ _)
        have e' : cs.map (fun c => V.str (S [c])) = (cs.map fun c => [c]).map fun x => V.str (S x) := by rw [List.map_map]; rfl
        have hcl := hcs'.length_le
        refine i_join0 (l := cs.map fun c => [c]) (.inl (SqL.of (by rw [e, e']))) (by rw [flat_one]; omega) ?_
        rw [flat_one]
        walk_at "zz"
        have g04 := g02.trans g3
        refine ⟨by show 2 ≤ sizeLine; decide, fun q hq => ?_⟩
        walk_at "zz"
        exact k _ (.only cs) _ rfl ⟨fun x hx => hcs'.subset hx, hLp.sublist hcs'⟩ (.tup upd_same (g04.ok.ne hq) (.cons (.str _) (.cons (.str _) .nil))) (g04.new hq)
    | n + 7, q => omega
end
end Y

namespace Y
open PySem PySem.Spec PyProof.Rows L2 Z
open C8 (tCut pss_cut Cal pe_c Met pe_mt pe_mt0 Mak pe_mk)
section
variable {P : Program} {w : World} {K : PySem.W.Frag} {mg : Str → Option Value} {base : Heap}
theorem c__law_stands (d : DF K mg "_law_stands" s__law_stands) (B : Bi mg) : Cal P w K mg base 1 "_law_stands" spStands [] := by
  refine d.cal (N := n__law_stands) sc__law_stands (fun _ _ _ _ _ _ us hl => match us, hl with | [_, _], _ => rfl) (fun vs H Q E h => ?_) (fun f cdv A outer s H vs Q E hr h => ?_)
  · obtain ⟨a, u, rfl, _⟩ := h
    rfl
  · obtain ⟨a, u, rfl, ha, k⟩ := h
    refine ⟨_, (pss_cons (ps_set (i := 2) sc__law_stands.nd rfl (by first | exact Or.inl rfl | exact Or.inr rfl) pe_int)
  (pss_cons (ps_for PassesOwn.never rfl (pi_str (pv 1)) (pg_name (i := 3) sc__law_stands.nd rfl (by first | exact Or.inl rfl | exact Or.inr rfl)) (pss_cons (ps_set (i := 4) sc__law_stands.nd rfl (by first | exact Or.inl rfl | exact Or.inr rfl) (pe_bmZ (K := K) rfl PySem.F.plainAttrs_str PySem.F.slot_str_find PySem.F.type_str_find zm_find3 (pv 0) (pa_cons (pv 3) (pa_cons (pv 2) pa_nil))))
  (pss_cons (ps_if (pt_cmpR z_lt (pv 4) pe_int (nomark _)) (pss_one (ps_ret pe_bl)) pss_nil)
  (pss_one (ps_set (i := 2) sc__law_stands.nd rfl (by first | exact Or.inl rfl | exact Or.inr rfl) (pe_op z_add (pv 4) pe_int))))))
  (pss_one (ps_ret pe_bl)))), ?_⟩
    refine zstart [some (.str (S a)), some (.str (S u)), none, none, none] rfl ?_; try dsimp only [zK, zK2]
    walk_at "zz"
    refine l_str (fun i σ H' => H' = H ∧ ∃ (n : Nat) (v3 v4 : Option V), σ = [some (.str (S a)), some (.str (S u)), some (.int (n : Int)), v3, v4] ∧ (u.Sublist a ↔ (u.drop i).Sublist (a.drop n))) ⟨rfl, 0, none, none, rfl, Iff.rfl⟩ ?_ ?_
    · rintro i c σ H' hc ⟨rfl, n, v3, v4, rfl, hiff⟩
      obtain ⟨hil, hic⟩ := List.getElem?_eq_some_iff.mp hc
      have hd : u.drop i = c :: u.drop (i + 1) := by rw [List.drop_eq_getElem_cons hil, hic]
      rw [hd] at hiff
      walk_at "zz"
      refine i_find3 (fun hno => ?_) fun m hm hmc hmn => ?_
      · walk_at "zz"
        have e : decide (u.Sublist a) = false := decide_eq_false fun q => sub_none hno (hiff.mp q)
        rw [← e]
        exact k
      · walk_at "zz"
        refine brd (fun q => absurd q (by omega)) fun _ => ?_
        walk_at "zz"
        exact ⟨rfl, m + 1, _, _, rfl, hiff.trans (sub_first hm hmc hmn)⟩
    · rintro σ H' ⟨rfl, n, v3, v4, rfl, hiff⟩
      walk_at "zz"
      have e : decide (u.Sublist a) = true := decide_eq_true (hiff.mpr (by rw [List.drop_length]; exact List.nil_sublist _))
      rw [← e]
      exact k
end
end Y

namespace Y
open PySem PySem.Spec PyProof.Rows L2 Z
open C8 (tCut pss_cut Cal pe_c Met pe_mt pe_mt0 Mak pe_mk)
def spSpread : Sp := fun vs H Q _ => ∃ (h : Addr) (L u : List Nat), vs = [.ref h, .str (S L), .str (S u)] ∧ HandOk H h ∧ 1 ≤ L.length ∧ L.length ≤ 1000 ∧ u.length ≤ 100 ∧ (∀ c ∈ u, c ∈ L) ∧
  ∀ (x : List Nat) H', x.length ≤ 2 * u.length → (∀ c ∈ x, c ∈ L) → Gd h H H' → Q (.str (S x)) H'
section
variable {P : Program} {w : World} {K : PySem.W.Frag} {mg : Str → Option Value} {base : Heap}
theorem c__law_spread (d : DF K mg "_law_spread" s__law_spread) (B : Bi mg) (c__law_draw : Cal P w K mg base 1 "_law_draw" spDraw []) (c__law_word : Cal P w K mg base 2 "_law_word" spWord []) : Cal P w K mg base 3 "_law_spread" spSpread [] := by
  refine d.cal (N := n__law_spread) sc__law_spread (fun _ _ _ _ _ _ us hl => match us, hl with | [_, _, _], _ => rfl) (fun vs H Q E h => ?_) (fun f cdv A outer s H vs Q E hr h => ?_)
  · obtain ⟨h, L, u, rfl, _⟩ := h
    rfl
  · obtain ⟨h, L, u, rfl, hh, hL, hL2, hu, huL, k⟩ := h
    refine ⟨_, (pss_cons (ps_set (i := 3) sc__law_spread.nd rfl (by first | exact Or.inl rfl | exact Or.inr rfl) pe_str)
  (pss_cons (ps_for PassesOwn.never rfl (pi_str (pv 2)) (pg_name (i := 4) sc__law_spread.nd rfl (by first | exact Or.inl rfl | exact Or.inr rfl)) (pss_one (ps_set (i := 3) sc__law_spread.nd rfl (by first | exact Or.inl rfl | exact Or.inr rfl) (pe_op z_adds (pe_op z_adds (pv 3) (pv 4)) (pe_c c__law_word hr (by first | decide | omega) rfl (pa_cons (pv 0) (pa_cons (pv 1) (pa_cons (pe_c c__law_draw hr (by first | decide | omega) rfl (pa_cons (pv 0) (pa_cons pe_int pa_nil))) pa_nil))))))))
  (pss_one (ps_ret (pv 3))))), ?_⟩
    refine zstart [some (.ref h), some (.str (S L)), some (.str (S u)), none, none] rfl ?_; try dsimp only [zK, zK2]
    walk_at "zz"
    refine l_str (fun i σ H' => Gd h H H' ∧ ∃ (x : List Nat) (v4 : Option V), σ = [some (.ref h), some (.str (S L)), some (.str (S u)), some (.str (S x)), v4] ∧ x.length ≤ 2 * i ∧ i ≤ u.length ∧ ∀ c ∈ x, c ∈ L) ⟨Gd.refl hh, [], none, rfl, by simp, by omega, by simp⟩ ?_ ?_
    · rintro i c σ H1 hc ⟨g, x, v4, rfl, hx, hi, hxL⟩
      obtain ⟨hil, hic⟩ := List.getElem?_eq_some_iff.mp hc
      walk_at "zz"
      refine use_draw g.ok (by decide) (by decide) fun r H2 hr2 g2 => ?_
      walk_at "zz"
      refine ⟨h, L, r, rfl, g2.ok, by omega, hL2, by omega, fun word H3 hw hin g3 => ?_⟩
      walk_at "zz"
      refine ⟨(g.trans g2).trans g3, _, _, rfl, ?_, by omega, fun y hy => ?_⟩
      · rw [List.length_append, List.length_append]; simp only [List.length_cons, List.length_nil]; omega
      · rcases List.mem_append.mp hy with q | q
        · rcases List.mem_append.mp q with q | q
          · exact hxL y q
          · rw [List.mem_singleton.mp q]; exact huL _ (List.mem_of_getElem? hc)
        · exact hin y q
    · rintro σ H1 ⟨g, x, v4, rfl, hx, hi, hxL⟩
      walk_at "zz"
      exact k x _ hx hxL g
end
end Y

namespace Y
open PySem PySem.Spec PyProof.Rows L2 Z
open C8 (tCut pss_cut Cal pe_c Met pe_mt pe_mt0 Mak pe_mk)
def spPlainSo : Sp := fun vs H Q _ => ∃ (v : V) (s : Say) (L a : List Nat), vs = [v, .str (S a)] ∧ Rp N0 H v s.data ∧ s.plain = true ∧ s.ok L ∧ L.length ≤ 100 ∧ a.length ≤ 1000 ∧ ∀ H', Same H H' → Q (.bl (s.plainHolds a)) H'
section
variable {P : Program} {w : World} {K : PySem.W.Frag} {mg : Str → Option Value} {base : Heap}
theorem c__law_plain_so (d : DF K mg "_law_plain_so" s__law_plain_so) (B : Bi mg) (c__law_stands : Cal P w K mg base 1 "_law_stands" spStands []) : Cal P w K mg base 2 "_law_plain_so" spPlainSo [] := by
  refine d.cal (N := n__law_plain_so) sc__law_plain_so (fun _ _ _ _ _ _ us hl => match us, hl with | [_, _], _ => rfl) (fun vs H Q E h => ?_) (fun f cdv A outer s H vs Q E hr h => ?_)
  · obtain ⟨v, s, L, a, rfl, _⟩ := h
    rfl
  · obtain ⟨v, s, L, a, rfl, r, hp, hok, hL, ha, k⟩ := h
    refine ⟨_, (pss_cons (ps_set (i := 2) sc__law_plain_so.nd rfl (by first | exact Or.inl rfl | exact Or.inr rfl) (pe_ix (r := rIxT K) ix_tup (pv 0) pe_int (fun _ _ => rfl)))
  (pss_cons (ps_if (pt_cmpR op_eq (pv 2) pe_str (nomark _)) (pss_one (ps_ret (pe_and (pe_cmpR z_gt (pe_callB zc_lens (by rfl) B.len (by decide +kernel) (pa_cons (pv 1) pa_nil)) pe_int (nomark _)) (pe_one (pe_cmpR op_eq (pe_ix ix_str (pv 1) pe_int (fun _ _ => rfl)) (pe_ix (r := rIxT K) ix_tup (pv 0) pe_int (fun _ _ => rfl)) (nomark _)))))) pss_nil)
  (pss_cons (ps_if (pt_cmpR op_eq (pv 2) pe_str (nomark _)) (pss_one (ps_ret (pe_and (pe_cmpR z_gt (pe_callB zc_lens (by rfl) B.len (by decide +kernel) (pa_cons (pv 1) pa_nil)) pe_int (nomark _)) (pe_one (pe_cmpR op_eq (pe_ix ix_str (pv 1) (pe_op z_sub (pe_callB zc_lens (by rfl) B.len (by decide +kernel) (pa_cons (pv 1) pa_nil)) pe_int) (fun _ _ => rfl)) (pe_ix (r := rIxT K) ix_tup (pv 0) pe_int (fun _ _ => rfl)) (nomark _)))))) pss_nil)
  (pss_cons (ps_set (i := 3) sc__law_plain_so.nd rfl (by first | exact Or.inl rfl | exact Or.inr rfl) (pe_callB (r := zSum K) (zc_sum rfl) (by rfl) B.sum (by decide +kernel) (pa_cons (pe_lc (own := [("_law_letter", 4)]) (g := gName 4) (tt := tYes) (by rfl) sc__law_plain_so.nd (pi_str (pv 1)) (blkOk_by (N := n__law_plain_so) (sc := defScope s__law_plain_so) (by decide +kernel)) (fun _ _ _ _ _ => (pg_name (i := 4) sc__law_plain_so.nd rfl (by first | exact Or.inl rfl | exact Or.inr rfl))) (fun _ _ _ _ _ => pts_nil) (fun _ _ _ _ _ => (pe_callTy zc_int (by rfl) B.int (by decide +kernel) (pa_cons (pe_cmpR op_eq (pv 4) (pe_ix (r := rIxT K) ix_tup (pv 0) pe_int (fun _ _ => rfl)) (nomark _)) pa_nil)))) pa_nil)))
  (pss_cons (ps_if (pt_cmpR op_eq (pv 2) pe_str (nomark _)) (pss_one (ps_ret (pe_cmpR op_eq (pe_op z_mod (pe_callTy zc_int (by rfl) B.int (by decide +kernel) (pa_cons (pe_op z_sub (pv 3) (pe_ix (r := rIxT K) ix_tup (pv 0) pe_int (fun _ _ => rfl))) pa_nil)) (pe_ix (r := rIxT K) ix_tup (pv 0) pe_int (fun _ _ => rfl))) pe_int (nomark _)))) pss_nil)
  (pss_cons (ps_if (pt_cmpR op_eq (pv 2) pe_str (nomark _)) (pss_one (ps_ret (pe_cmpR z_ge (pv 3) (pe_ix (r := rIxT K) ix_tup (pv 0) pe_int (fun _ _ => rfl)) (nomark _)))) pss_nil)
  (pss_cons (ps_if (pt_cmpR op_eq (pv 2) pe_str (nomark _)) (pss_one (ps_ret (pe_c c__law_stands hr (by first | decide | omega) rfl (pa_cons (pv 1) (pa_cons (pe_ix (r := rIxT K) ix_tup (pv 0) pe_int (fun _ _ => rfl)) pa_nil))))) pss_nil)
  (pss_cons (ps_if (pt_cmpR op_eq (pv 2) pe_str (nomark _)) (pss_cons (ps_set (i := 5) sc__law_plain_so.nd rfl (by first | exact Or.inl rfl | exact Or.inr rfl) (pe_callB zc_lens (by rfl) B.len (by decide +kernel) (pa_cons (pe_ix (r := rIxT K) ix_tup (pv 0) pe_int (fun _ _ => rfl)) pa_nil)))
  (pss_one (ps_ret (pe_callB (r := zAny K) (zc_any rfl) (by rfl) B.any (by decide +kernel) (pa_cons (pe_lc (own := [("_law_at", 6)]) (g := gName 6) (tt := tYes) (by rfl) sc__law_plain_so.nd (pi_range1 rfl B.range (pa_cons (pe_callB zc_lens (by rfl) B.len (by decide +kernel) (pa_cons (pv 1) pa_nil)) pa_nil)) (blkOk_by (N := n__law_plain_so) (sc := defScope s__law_plain_so) (by decide +kernel)) (fun _ _ _ _ _ => (pg_name (i := 6) sc__law_plain_so.nd rfl (by first | exact Or.inl rfl | exact Or.inr rfl))) (fun _ _ _ _ _ => pts_nil) (fun _ _ _ _ _ => (pe_cmpR op_eq (pe_slice sl_str (pv 1) (po_some (pv 6)) (po_some (pe_op z_add (pv 6) (pv 5)))) (pe_ix (r := rIxT K) ix_tup (pv 0) pe_int (fun _ _ => rfl)) (nomark _)))) pa_nil))))) pss_nil)
  (pss_one (ps_ret (pe_callB (r := zAll K) (zc_all rfl) (by rfl) B.all (by decide +kernel) (pa_cons (pe_lc (own := [("_law_letter", 4)]) (g := gName 4) (tt := tYes) (by rfl) sc__law_plain_so.nd (pi_str (pv 1)) (blkOk_by (N := n__law_plain_so) (sc := defScope s__law_plain_so) (by decide +kernel)) (fun _ _ _ _ _ => (pg_name (i := 4) sc__law_plain_so.nd rfl (by first | exact Or.inl rfl | exact Or.inr rfl))) (fun _ _ _ _ _ => pts_nil) (fun _ _ _ _ _ => (pe_cmpR z_ins (pv 4) (pe_ix (r := rIxT K) ix_tup (pv 0) pe_int (fun _ _ => rfl)) (by rfl)))) pa_nil)))))))))))), ?_⟩
    refine zstart [some (v), some (.str (S a)), none, none, none, none, none] rfl ?_; try dsimp only [zK, zK2]
    walk_at "zz"
    cases s with
    | neg _ | conj _ _ | disj _ _ | cut _ _ _ | cutlast _ _ _ => cases hp
    | first c =>
      obtain ⟨p, xs, rfl, ep, _, ra⟩ := Rp.tupS r
      obtain ⟨v1, v2, rfl, r1, r2⟩ := ra.two
      rw [r1.strS, r2.strS] at ep
      walk_at "zz"
      refine brd (fun h0 => ?_) fun h0 => ?_
      · walk_at "zz"
        obtain ⟨x, t, rfl⟩ : ∃ x t, a = x :: t := by cases a with | nil => simp at h0 | cons x t => exact ⟨x, t, rfl⟩
        refine i_ixS (c := x) (by omega) (at_nat (by decide) rfl) ?_
        walk_at "zz"
        rw [one_eq]
        have e : Say.plainHolds (x :: t) (.first c) = decide (x = c) := by
          show decide (some x = some c) = _
          rw [Bool.eq_iff_iff, decide_eq_true_iff, decide_eq_true_iff]
          exact ⟨fun q => Option.some.inj q, fun q => by rw [q]⟩
        rw [← e]
        exact k _ (Same.refl _)
      · walk_at "zz"
        have e : Say.plainHolds a (.first c) = false := by
          have : a = [] := List.eq_nil_of_length_eq_zero (by omega)
          subst this; rfl
        rw [← e]
        exact k _ (Same.refl _)
    | last c =>
      obtain ⟨p, xs, rfl, ep, _, ra⟩ := Rp.tupS r
      obtain ⟨v1, v2, rfl, r1, r2⟩ := ra.two
      rw [r1.strS, r2.strS] at ep
      walk_at "zz"
      refine brd (fun h0 => ?_) fun h0 => ?_
      · walk_at "zz"
        have hl : a.length - 1 < a.length := by omega
        refine i_ixS (c := a[a.length - 1]) (by omega) (at_nat (by omega) ?_) ?_
        · have : ((a.length : Int) - 1).toNat = a.length - 1 := by omega
          rw [this, List.getElem?_eq_getElem hl]
        walk_at "zz"
        rw [one_eq]
        have e : Say.plainHolds a (.last c) = decide (a[a.length - 1] = c) := by
          show decide (a.getLast? = some c) = _
          rw [List.getLast?_eq_getElem?, List.getElem?_eq_getElem hl, Bool.eq_iff_iff, decide_eq_true_iff, decide_eq_true_iff]
          exact ⟨fun q => Option.some.inj q, fun q => by rw [q]⟩
        rw [← e]
        exact k _ (Same.refl _)
      · walk_at "zz"
        have e : Say.plainHolds a (.last c) = false := by
          have : a = [] := List.eq_nil_of_length_eq_zero (by omega)
          subst this; rfl
        rw [← e]
        exact k _ (Same.refl _)
    | count c n m =>
      obtain ⟨p, xs, rfl, ep, _, ra⟩ := Rp.tupS r
      obtain ⟨v1, v2, v3, v4, rfl, r1, r2, r3, r4⟩ := ra.four
      rw [r1.strS, r2.strS, r3.intS, r4.intS] at ep
      obtain ⟨_, hn1, hn6, hm⟩ := hok
      walk_at "zz"
      refine fun Dl hD => ?_
      refine l_mapS hD [some (.ref p), some (.str (S a)), some (.str (PySem.Str.ofString "count")), none, none, none, none] rfl (fun _ => rfl) (by omega) (fun x => .int (if decide ([x] = [c]) = true then 1 else 0)) (fun x H1 P hx s1 hP => ?_) fun H1 s1 e => ?_
      · refine zte [some (.ref p), some (.str (S a)), some (.str (PySem.Str.ofString "count")), none, some (.str (S [x])), none, none] rfl ?_
        have ep1 := s1 _ _ ep
        walk_at "zz"
        refine i_intB ?_
        walk_at "zz"
        exact hP _ (Same.refl _)
      have ep1 := s1 _ _ ep
      walk_at "zz"
      refine i_sum (ns := a.map fun x => if decide ([x] = [c]) = true then 1 else 0) (SqL.of (by rw [List.map_map]; exact e)) ?_
      rw [sum_count]
      walk_at "zz"
      have e : Say.plainHolds a (.count c n m) = decide (((a.count c : Nat) - (m : Int)) % (n : Int) = 0) := by
        show decide (a.count c % n = m) = _
        rw [Bool.eq_iff_iff, decide_eq_true_iff, decide_eq_true_iff]
        exact mod_eq hm
      rw [← e]
      exact k _ s1
    | least c n =>
      obtain ⟨p, xs, rfl, ep, _, ra⟩ := Rp.tupS r
      obtain ⟨v1, v2, v3, rfl, r1, r2, r3⟩ := ra.three
      rw [r1.strS, r2.strS, r3.intS] at ep
      walk_at "zz"
      refine fun Dl hD => ?_
      refine l_mapS hD [some (.ref p), some (.str (S a)), some (.str (PySem.Str.ofString "least")), none, none, none, none] rfl (fun _ => rfl) (by omega) (fun x => .int (if decide ([x] = [c]) = true then 1 else 0)) (fun x H1 P hx s1 hP => ?_) fun H1 s1 e => ?_
      · refine zte [some (.ref p), some (.str (S a)), some (.str (PySem.Str.ofString "least")), none, some (.str (S [x])), none, none] rfl ?_
        have ep1 := s1 _ _ ep
        walk_at "zz"
        refine i_intB ?_
        walk_at "zz"
        exact hP _ (Same.refl _)
      have ep1 := s1 _ _ ep
      walk_at "zz"
      refine i_sum (ns := a.map fun x => if decide ([x] = [c]) = true then 1 else 0) (SqL.of (by rw [List.map_map]; exact e)) ?_
      rw [sum_count]
      walk_at "zz"
      have e : Say.plainHolds a (.least c n) = decide ((n : Int) ≤ (a.count c : Nat)) := by
        show decide (n ≤ a.count c) = _
        rw [Bool.eq_iff_iff, decide_eq_true_iff, decide_eq_true_iff]; omega
      rw [← e]
      exact k _ s1
    | isin u =>
      obtain ⟨p, xs, rfl, ep, _, ra⟩ := Rp.tupS r
      obtain ⟨v1, v2, rfl, r1, r2⟩ := ra.two
      rw [r1.strS, r2.strS] at ep
      walk_at "zz"
      refine fun Dl hD => ?_
      refine l_mapS hD [some (.ref p), some (.str (S a)), some (.str (PySem.Str.ofString "in")), none, none, none, none] rfl (fun _ => rfl) (by omega) (fun x => .int (if decide ([x] = u) = true then 1 else 0)) (fun x H1 P hx s1 hP => ?_) fun H1 s1 e => ?_
      · refine zte [some (.ref p), some (.str (S a)), some (.str (PySem.Str.ofString "in")), none, some (.str (S [x])), none, none] rfl ?_
        have ep1 := s1 _ _ ep
        walk_at "zz"
        refine i_intB ?_
        walk_at "zz"
        exact hP _ (Same.refl _)
      have ep1 := s1 _ _ ep
      walk_at "zz"
      refine i_sum (ns := a.map fun x => if decide ([x] = u) = true then 1 else 0) (SqL.of (by rw [List.map_map]; exact e)) ?_
      walk_at "zz"
      exact ⟨a, u, rfl, ha, k _ s1⟩
    | row u =>
      obtain ⟨p, xs, rfl, ep, _, ra⟩ := Rp.tupS r
      obtain ⟨v1, v2, rfl, r1, r2⟩ := ra.two
      rw [r1.strS, r2.strS] at ep
      obtain ⟨_, hu1, hu4⟩ := hok
      walk_at "zz"
      refine fun Dl hD => ?_
      refine l_mapS hD [some (.ref p), some (.str (S a)), some (.str (PySem.Str.ofString "row")), none, none, none, none] rfl (fun _ => rfl) (by omega) (fun x => .int (if decide ([x] = u) = true then 1 else 0)) (fun x H1 P hx s1 hP => ?_) fun H1 s1 e => ?_
      · refine zte [some (.ref p), some (.str (S a)), some (.str (PySem.Str.ofString "row")), none, some (.str (S [x])), none, none] rfl ?_
        have ep1 := s1 _ _ ep
        walk_at "zz"
        refine i_intB ?_
        walk_at "zz"
        exact hP _ (Same.refl _)
      have ep1 := s1 _ _ ep
      walk_at "zz"
      refine i_sum (ns := a.map fun x => if decide ([x] = u) = true then 1 else 0) (SqL.of (by rw [List.map_map]; exact e)) ?_
      walk_at "zz"
      refine i_KR1 (by omega) ?_
      refine fun Dl2 hD2 => ?_
      rw [Int.toNat_natCast]
      refine l_mapR hD2 [some (.ref p), some (.str (S a)), some (.str (PySem.Str.ofString "row")), some (.int (a.map fun x => if decide ([x] = u) = true then (1 : Int) else 0).sum), none, some (.int (u.length : Nat)), none] rfl (fun _ => rfl) (by omega) (fun i => .bl (decide ((a.drop i).take u.length = u))) (fun i H2 P hi s2 hP => ?_) fun H2 s2 e2 => ?_
      · refine zte [some (.ref p), some (.str (S a)), some (.str (PySem.Str.ofString "row")), some (.int (a.map fun x => if decide ([x] = u) = true then (1 : Int) else 0).sum), none, some (.int (u.length : Nat)), some (.int i)] rfl ?_
        have ep2 := s2 _ _ ep1
        walk_at "zz"
        refine i_slBoth (m := i + u.length) (by omega) ?_
        walk_at "zz"
        rw [Nat.add_sub_cancel_left]
        exact hP _ (Same.refl _)
      · have ep2 := s2 _ _ ep1
        walk_at "zz"
        refine i_any (bs := (List.range a.length).map fun i => decide ((a.drop i).take u.length = u)) (SqL.of (by rw [List.map_map]; exact e2)) ?_
        rw [row_any a u hu1]
        exact k _ (s1.trans s2)
    | only l =>
      obtain ⟨p, xs, rfl, ep, _, ra⟩ := Rp.tupS r
      obtain ⟨v1, v2, rfl, r1, r2⟩ := ra.two
      rw [r1.strS, r2.strS] at ep
      walk_at "zz"
      refine fun Dl hD => ?_
      refine l_mapS hD [some (.ref p), some (.str (S a)), some (.str (PySem.Str.ofString "only")), none, none, none, none] rfl (fun _ => rfl) (by omega) (fun x => .int (if decide ([x] = l) = true then 1 else 0)) (fun x H1 P hx s1 hP => ?_) fun H1 s1 e => ?_
      · refine zte [some (.ref p), some (.str (S a)), some (.str (PySem.Str.ofString "only")), none, some (.str (S [x])), none, none] rfl ?_
        have ep1 := s1 _ _ ep
        walk_at "zz"
        refine i_intB ?_
        walk_at "zz"
        exact hP _ (Same.refl _)
      have ep1 := s1 _ _ ep
      walk_at "zz"
      refine i_sum (ns := a.map fun x => if decide ([x] = l) = true then 1 else 0) (SqL.of (by rw [List.map_map]; exact e)) ?_
      walk_at "zz"
      refine fun Dl2 hD2 => ?_
      refine l_mapS hD2 [some (.ref p), some (.str (S a)), some (.str (PySem.Str.ofString "only")), some (.int (a.map fun x => if decide ([x] = l) = true then (1 : Int) else 0).sum), none, none, none] rfl (fun _ => rfl) (by omega) (fun x => .bl (decide (x ∈ l))) (fun x H2 P hx s2 hP => ?_) fun H2 s2 e2 => ?_
      · refine zte [some (.ref p), some (.str (S a)), some (.str (PySem.Str.ofString "only")), some (.int (a.map fun x => if decide ([x] = l) = true then (1 : Int) else 0).sum), some (.str (S [x])), none, none] rfl ?_
        have ep2 := s2 _ _ ep1
        walk_at "zz"
        exact hP _ (Same.refl _)
      · walk_at "zz"
        refine i_all (bs := a.map fun x => decide (x ∈ l)) (SqL.of (by rw [List.map_map]; exact e2)) ?_
        rw [List.all_map]
        exact k _ (s1.trans s2)
end
end Y

namespace Y
open PySem PySem.Spec PyProof.Rows L2 Z
open C8 (tCut pss_cut Cal pe_c Met pe_mt pe_mt0 Mak pe_mk)
/-- the text that stands behind the first word of a plain saying -/
theorem plain_arg {N : Addr → Prop} {H : Hp} {v : V} {s : Say} {L : List Nat} (hp : s.plain = true) (hok : s.ok L) (hL : L.length ≤ 4) (r : Rp N H v s.data) :
    ∃ (a : Addr) (xs : List V) (u : List Nat), v = .ref a ∧ H a = some (.tup xs) ∧ ¬ N a ∧ atI xs 1 = some (.str (S u)) ∧ (∀ c ∈ u, c ∈ L) ∧ u.length ≤ 4 := by
  have one : ∀ (c : Nat), c ∈ L → ∀ x ∈ [c], x ∈ L := fun c h x hx => by rw [List.mem_singleton.mp hx]; exact h
  cases s with
  | neg _ | conj _ _ | disj _ _ | cut _ _ _ | cutlast _ _ _ => cases hp
  | first c | last c =>
    obtain ⟨p, xs, rfl, ep, hn, ra⟩ := Rp.tupS r
    obtain ⟨v1, v2, rfl, r1, r2⟩ := ra.two
    rw [r1.strS, r2.strS] at ep
    exact ⟨p, _, [c], rfl, ep, hn, rfl, one c hok, by simp⟩
  | count c n m =>
    obtain ⟨p, xs, rfl, ep, hn, ra⟩ := Rp.tupS r
    obtain ⟨v1, v2, v3, v4, rfl, r1, r2, r3, r4⟩ := ra.four
    rw [r1.strS, r2.strS, r3.intS, r4.intS] at ep
    exact ⟨p, _, [c], rfl, ep, hn, rfl, one c hok.1, by simp⟩
  | least c n =>
    obtain ⟨p, xs, rfl, ep, hn, ra⟩ := Rp.tupS r
    obtain ⟨v1, v2, v3, rfl, r1, r2, r3⟩ := ra.three
    rw [r1.strS, r2.strS, r3.intS] at ep
    exact ⟨p, _, [c], rfl, ep, hn, rfl, one c hok.1, by simp⟩
  | isin u | row u =>
    obtain ⟨p, xs, rfl, ep, hn, ra⟩ := Rp.tupS r
    obtain ⟨v1, v2, rfl, r1, r2⟩ := ra.two
    rw [r1.strS, r2.strS] at ep
    exact ⟨p, _, u, rfl, ep, hn, rfl, hok.1, hok.2.2⟩
  | only l =>
    obtain ⟨p, xs, rfl, ep, hn, ra⟩ := Rp.tupS r
    obtain ⟨v1, v2, rfl, r1, r2⟩ := ra.two
    rw [r1.strS, r2.strS] at ep
    exact ⟨p, _, l, rfl, ep, hn, rfl, hok.1, Nat.le_trans (asc_len hok.2 hok.1) hL⟩
def spMadeWord : Sp := fun vs H Q _ => ∃ (h : Addr) (L : List Nat) (v : V) (s : Say), vs = [.ref h, .str (S L), v] ∧ HandOk H h ∧ Ltrs L ∧ s.plain = true ∧ s.ok L ∧ Rp (· = h) H v s.data ∧
  ∀ (x : List Nat) H', x.length ≤ 40 → (∀ c ∈ x, c ∈ L) → Gd h H H' → Q (.str (S x)) H'
section
variable {P : Program} {w : World} {K : PySem.W.Frag} {mg : Str → Option Value} {base : Heap}
theorem c__law_made_word (d : DF K mg "_law_made_word" s__law_made_word) (B : Bi mg) (c__law_draw : Cal P w K mg base 1 "_law_draw" spDraw []) (c__law_word : Cal P w K mg base 2 "_law_word" spWord [])
    (c__law_spread : Cal P w K mg base 3 "_law_spread" spSpread []) : Cal P w K mg base 4 "_law_made_word" spMadeWord [] := by
  refine d.cal (N := n__law_made_word) sc__law_made_word (fun _ _ _ _ _ _ us hl => match us, hl with | [_, _, _], _ => rfl) (fun vs H Q E h => ?_) (fun f cdv A outer s H vs Q E hr h => ?_)
  · obtain ⟨h, L, v, s, rfl, _⟩ := h
    rfl
  · obtain ⟨h, L, v, s, rfl, hh, hL, hp, hok, r, k⟩ := h
    obtain ⟨_, _, hL1, hL4⟩ := id hL
    obtain ⟨a, xs, u, rfl, ea, na, at1, huL, hu4⟩ := plain_arg hp hok hL4 r
    refine ⟨_, (pss_cons (ps_set (i := 3) sc__law_made_word.nd rfl (by first | exact Or.inl rfl | exact Or.inr rfl) (pe_c c__law_draw hr (by first | decide | omega) rfl (pa_cons (pv 0) (pa_cons pe_int pa_nil))))
  (pss_cons (ps_set (i := 4) sc__law_made_word.nd rfl (by first | exact Or.inl rfl | exact Or.inr rfl) (pv 1))
  (pss_cut (ps_if (pt_cmpR z_gt (pv 3) pe_int (nomark _)) (pss_one (ps_set (i := 4) sc__law_made_word.nd rfl (by first | exact Or.inl rfl | exact Or.inr rfl) (pe_slice sl_str (pv 1) (po_some (pe_c c__law_draw hr (by first | decide | omega) rfl (pa_cons (pv 0) (pa_cons (pe_callB zc_lens (by rfl) B.len (by decide +kernel) (pa_cons (pv 1) pa_nil)) pa_nil)))) po_none))) pss_nil)
  (pss_cons (ps_set (i := 5) sc__law_made_word.nd rfl (by first | exact Or.inl rfl | exact Or.inr rfl) (pe_c c__law_word hr (by first | decide | omega) rfl (pa_cons (pv 0) (pa_cons (pv 4) (pa_cons (pe_c c__law_draw hr (by first | decide | omega) rfl (pa_cons (pv 0) (pa_cons pe_int pa_nil))) pa_nil)))))
  (pss_cons (ps_set (i := 6) sc__law_made_word.nd rfl (by first | exact Or.inl rfl | exact Or.inr rfl) (pe_c c__law_draw hr (by first | decide | omega) rfl (pa_cons (pv 0) (pa_cons (pe_op z_add (pe_callB zc_lens (by rfl) B.len (by decide +kernel) (pa_cons (pv 5) pa_nil)) pe_int) pa_nil))))
  (pss_cut (ps_if (PW.pt (pw_and (pt_cmpR op_eq (pv 3) pe_int (nomark _)) (pw_and1 (pt_cmpR z_gt (pe_callB zc_lens (by rfl) B.len (by decide +kernel) (pa_cons (pe_ix (r := rIxT K) ix_tup (pv 2) pe_int (fun _ _ => rfl)) pa_nil)) pe_int (nomark _))))) (pss_one (ps_set (i := 5) sc__law_made_word.nd rfl (by first | exact Or.inl rfl | exact Or.inr rfl) (pe_op z_adds (pe_op z_adds (pe_slice sl_str (pv 5) po_none (po_some (pv 6))) (pe_ix (r := rIxT K) ix_tup (pv 2) pe_int (fun _ _ => rfl))) (pe_slice sl_str (pv 5) (po_some (pv 6)) po_none)))) pss_nil)
  (pss_cut (ps_if (PW.pt (pw_and (pt_cmpR op_eq (pv 3) pe_int (nomark _)) (pw_and1 (pt_cmpR z_gt (pe_callB zc_lens (by rfl) B.len (by decide +kernel) (pa_cons (pe_ix (r := rIxT K) ix_tup (pv 2) pe_int (fun _ _ => rfl)) pa_nil)) pe_int (nomark _))))) (pss_one (ps_set (i := 5) sc__law_made_word.nd rfl (by first | exact Or.inl rfl | exact Or.inr rfl) (pe_op z_adds (pe_op z_adds (pe_slice sl_str (pv 5) po_none (po_some (pv 6))) (pe_c c__law_spread hr (by first | decide | omega) rfl (pa_cons (pv 0) (pa_cons (pv 1) (pa_cons (pe_ix (r := rIxT K) ix_tup (pv 2) pe_int (fun _ _ => rfl)) pa_nil))))) (pe_slice sl_str (pv 5) (po_some (pv 6)) po_none)))) pss_nil)
  (pss_cut (ps_if (PW.pt (pw_and (pt_cmpR op_eq (pv 3) pe_int (nomark _)) (pw_and1 (pt_cmpR z_gt (pe_callB zc_lens (by rfl) B.len (by decide +kernel) (pa_cons (pe_ix (r := rIxT K) ix_tup (pv 2) pe_int (fun _ _ => rfl)) pa_nil)) pe_int (nomark _))))) (pss_one (ps_set (i := 5) sc__law_made_word.nd rfl (by first | exact Or.inl rfl | exact Or.inr rfl) (pe_op z_adds (pe_op z_adds (pe_slice sl_str (pv 5) po_none (po_some (pv 6))) (pe_op op_rep_str (pe_slice sl_str (pe_ix (r := rIxT K) ix_tup (pv 2) pe_int (fun _ _ => rfl)) po_none (po_some pe_int)) (pe_c c__law_draw hr (by first | decide | omega) rfl (pa_cons (pv 0) (pa_cons pe_int pa_nil))))) (pe_slice sl_str (pv 5) (po_some (pv 6)) po_none)))) pss_nil)
  (pss_cut (ps_if (PW.pt (pw_and (pt_cmpR op_eq (pv 3) pe_int (nomark _)) (pw_and1 (pt_cmpR z_gt (pe_callB zc_lens (by rfl) B.len (by decide +kernel) (pa_cons (pe_ix (r := rIxT K) ix_tup (pv 2) pe_int (fun _ _ => rfl)) pa_nil)) pe_int (nomark _))))) (pss_one (ps_set (i := 5) sc__law_made_word.nd rfl (by first | exact Or.inl rfl | exact Or.inr rfl) (pe_c c__law_word hr (by first | decide | omega) rfl (pa_cons (pv 0) (pa_cons (pe_ix (r := rIxT K) ix_tup (pv 2) pe_int (fun _ _ => rfl)) (pa_cons (pe_c c__law_draw hr (by first | decide | omega) rfl (pa_cons (pv 0) (pa_cons pe_int pa_nil))) pa_nil)))))) pss_nil)
  (pss_one (ps_ret (pe_slice sl_str (pv 5) po_none (po_some pe_int))))))))))))), ?_⟩
    refine zstart [some (.ref h), some (.str (S L)), some (.ref a), none, none, none, none] rfl ?_; try dsimp only [zK, zK2]
    walk_at "zz"
    refine use_draw hh (by decide) (by decide) fun way H1 hway g1 => ?_
    walk_at "zz"
    refine i_cut (fun σ' H' => ∃ so : List Nat, σ' = [some (.ref h), some (.str (S L)), some (.ref a), some (.int (way : Int)), some (.str (S so)), none, none] ∧ Gd h H H' ∧ 1 ≤ so.length ∧ so.length ≤ 4 ∧ ∀ c ∈ so, c ∈ L) ?_ ?_
    · walk_at "zz"
      refine brd (fun h3 => ?_) fun h3 => ?_
      · walk_at "zz"
        refine use_draw g1.ok (by omega) (by omega) fun n H2 hn g2 => ?_
        walk_at "zz"
        refine i_slFrom (by omega) ?_
        walk_at "zz"
        exact ⟨L.drop n, rfl, g1.trans g2, by rw [List.length_drop]; omega, by rw [List.length_drop]; omega, fun c hc => List.mem_of_mem_drop hc⟩
      · walk_at "zz"
        exact ⟨L, rfl, g1, hL1, hL4, fun _ q => q⟩
    · rintro σ' H2 ⟨so, rfl, g2, hs1, hs4, hsL⟩
      walk_at "zz"
      refine use_draw g2.ok (by decide) (by decide) fun n H3 hn g3 => ?_
      walk_at "zz"
      refine ⟨h, so, n, rfl, g3.ok, by omega, by omega, by omega, fun word H4 hw hin g4 => ?_⟩
      walk_at "zz"
      refine use_draw g4.ok (by omega) (by omega) fun at_ H5 hat g5 => ?_
      walk_at "zz"
      have g05 := ((g2.trans g3).trans g4).trans g5
      have hwL : ∀ c ∈ word, c ∈ L := fun c hc => hsL c (hin c hc)
      have e5 := g05.kp' ea na
      have hx3 : word.length ≤ 20 := by omega
      have hxL := hwL
      clear hwL hin hw
      refine i_cut (fun σ' H' => ∃ x : List Nat, σ' = [some (.ref h), some (.str (S L)), some (.ref a), some (.int (way : Int)), some (.str (S so)), some (.str (S x)), some (.int (at_ : Int))] ∧ Gd h H H' ∧ x.length ≤ 60 ∧ ∀ c ∈ x, c ∈ L) ?_ ?_
      · walk_at "zz"
        refine brd (fun h3 => ?_) fun h3 => ?_
        · walk_at "zz"
          refine i_ixT (SqT.of e5) at1 ?_
          walk_at "zz"
          refine brd (fun h4 => ?_) fun h4 => ?_
          · walk_at "zz"
            refine i_slTo (by omega) ?_
            walk_at "zz"
            refine i_ixT (SqT.of e5) at1 ?_
            refine i_adds (by rw [List.length_take]; omega) ?_
            walk_at "zz"
            refine i_slFrom (by omega) ?_
            refine i_adds (by rw [List.length_append, List.length_take, List.length_drop]; omega) ?_
            walk_at "zz"
            refine ⟨_, rfl, g05, by rw [List.length_append, List.length_append, List.length_take, List.length_drop]; omega, fun c hc => ?_⟩
            rcases List.mem_append.mp hc with q | q
            · rcases List.mem_append.mp q with q | q
              · exact hxL c (List.mem_of_mem_take q)
              · exact huL c q
            · exact hxL c (List.mem_of_mem_drop q)
          · walk_at "zz"
            exact ⟨_, rfl, g05, Nat.le_trans hx3 (by decide), hxL⟩
        · walk_at "zz"
          exact ⟨_, rfl, g05, Nat.le_trans hx3 (by decide), hxL⟩
      clear e5 g05 hx3 hxL
      rintro σ' H5 ⟨word, rfl, g05, hx3, hxL⟩
      have e5 := g05.kp' ea na
      refine i_cut (fun σ' H' => ∃ x : List Nat, σ' = [some (.ref h), some (.str (S L)), some (.ref a), some (.int (way : Int)), some (.str (S so)), some (.str (S x)), some (.int (at_ : Int))] ∧ Gd h H H' ∧ x.length ≤ 100 ∧ ∀ c ∈ x, c ∈ L) ?_ ?_
      · walk_at "zz"
        refine brd (fun h3 => ?_) fun h3 => ?_
        · walk_at "zz"
          refine i_ixT (SqT.of e5) at1 ?_
          walk_at "zz"
          refine brd (fun h4 => ?_) fun h4 => ?_
          · walk_at "zz"
            refine i_slTo (by omega) ?_
            walk_at "zz"
            refine i_ixT (SqT.of e5) at1 ?_
            walk_at "zz"
            refine ⟨h, L, u, rfl, g05.ok, hL1, by omega, by omega, huL, fun x H6 hx hxu g6 => ?_⟩
            refine i_adds (by rw [List.length_take]; omega) ?_
            walk_at "zz"
            refine i_slFrom (by omega) ?_
            refine i_adds (by rw [List.length_append, List.length_take, List.length_drop]; omega) ?_
            walk_at "zz"
            refine ⟨_, rfl, g05.trans g6, by rw [List.length_append, List.length_append, List.length_take, List.length_drop]; omega, fun c hc => ?_⟩
            rcases List.mem_append.mp hc with q | q
            · rcases List.mem_append.mp q with q | q
              · exact hxL c (List.mem_of_mem_take q)
              · exact hxu c q
            · exact hxL c (List.mem_of_mem_drop q)
          · walk_at "zz"
            exact ⟨_, rfl, g05, Nat.le_trans hx3 (by decide), hxL⟩
        · walk_at "zz"
          exact ⟨_, rfl, g05, Nat.le_trans hx3 (by decide), hxL⟩
      clear e5 g05 hx3 hxL
      rintro σ' H5 ⟨word, rfl, g05, hx3, hxL⟩
      have e5 := g05.kp' ea na
      refine i_cut (fun σ' H' => ∃ x : List Nat, σ' = [some (.ref h), some (.str (S L)), some (.ref a), some (.int (way : Int)), some (.str (S so)), some (.str (S x)), some (.int (at_ : Int))] ∧ Gd h H H' ∧ x.length ≤ 140 ∧ ∀ c ∈ x, c ∈ L) ?_ ?_
      · walk_at "zz"
        refine brd (fun h3 => ?_) fun h3 => ?_
        · walk_at "zz"
          refine i_ixT (SqT.of e5) at1 ?_
          walk_at "zz"
          refine brd (fun h4 => ?_) fun h4 => ?_
          · walk_at "zz"
            refine i_slTo (by omega) ?_
            walk_at "zz"
            refine i_ixT (SqT.of e5) at1 ?_
            walk_at "zz"
            refine i_slTo (n := 1) (by omega) ?_
            walk_at "zz"
            refine use_draw g05.ok (by decide) (by decide) fun n2 H6 hn2 g6 => ?_
            have hm : (u.take 1).length * n2 ≤ 1 * 19 := Nat.mul_le_mul (by rw [List.length_take]; omega) (by omega)
            refine i_repS (by omega) (by rw [Int.toNat_natCast]; omega) (by omega) ?_
            have hfl : (List.replicate (n2 : Int).toNat (u.take 1)).flatten.length ≤ 19 := by rw [List.length_flatten, List.map_replicate, List.sum_replicate_nat, Int.toNat_natCast, Nat.mul_comm]; omega
            refine i_adds (by rw [List.length_take]; omega) ?_
            walk_at "zz"
            refine i_slFrom (by omega) ?_
            refine i_adds (by rw [List.length_append, List.length_take, List.length_drop]; omega) ?_
            walk_at "zz"
            refine ⟨_, rfl, g05.trans g6, by rw [List.length_append, List.length_append, List.length_take, List.length_drop]; omega, fun c hc => ?_⟩
            rcases List.mem_append.mp hc with q | q
            · rcases List.mem_append.mp q with q | q
              · exact hxL c (List.mem_of_mem_take q)
              · obtain ⟨l, hl, hc2⟩ := List.mem_flatten.mp q
                rw [List.eq_of_mem_replicate hl] at hc2
                exact huL c (List.mem_of_mem_take hc2)
            · exact hxL c (List.mem_of_mem_drop q)
          · walk_at "zz"
            exact ⟨_, rfl, g05, Nat.le_trans hx3 (by decide), hxL⟩
        · walk_at "zz"
          exact ⟨_, rfl, g05, Nat.le_trans hx3 (by decide), hxL⟩
      clear e5 g05 hx3 hxL
      rintro σ' H5 ⟨word, rfl, g05, hx3, hxL⟩
      have e5 := g05.kp' ea na
      refine i_cut (fun σ' H' => ∃ x : List Nat, σ' = [some (.ref h), some (.str (S L)), some (.ref a), some (.int (way : Int)), some (.str (S so)), some (.str (S x)), some (.int (at_ : Int))] ∧ Gd h H H' ∧ x.length ≤ 180 ∧ ∀ c ∈ x, c ∈ L) ?_ ?_
      · walk_at "zz"
        refine brd (fun h3 => ?_) fun h3 => ?_
        · walk_at "zz"
          refine i_ixT (SqT.of e5) at1 ?_
          walk_at "zz"
          refine brd (fun h4 => ?_) fun h4 => ?_
          · walk_at "zz"
            refine i_ixT (SqT.of e5) at1 ?_
            walk_at "zz"
            refine use_draw g05.ok (by decide) (by decide) fun n2 H6 hn2 g6 => ?_
            walk_at "zz"
            refine ⟨h, u, n2, rfl, g6.ok, by omega, by omega, by omega, fun x H7 hx hxu g7 => ?_⟩
            walk_at "zz"
            exact ⟨x, rfl, (g05.trans g6).trans g7, by omega, fun c hc => huL c (hxu c hc)⟩
          · walk_at "zz"
            exact ⟨_, rfl, g05, Nat.le_trans hx3 (by decide), hxL⟩
        · walk_at "zz"
          exact ⟨_, rfl, g05, Nat.le_trans hx3 (by decide), hxL⟩
      clear e5 g05 hx3 hxL
      rintro σ' H5 ⟨word, rfl, g05, hx3, hxL⟩
      have e5 := g05.kp' ea na
      walk_at "zz"
      refine i_slTo (n := 40) (by omega) ?_
      walk_at "zz"
      exact k _ _ (by rw [List.length_take]; omega) (fun c hc => hxL c (List.mem_of_mem_take hc)) g05
end
end Y

namespace Y
open PySem PySem.Spec PyProof.Rows L2 Z
open C8 (tCut pss_cut Cal pe_c Met pe_mt pe_mt0 Mak pe_mk)
abbrev s_is_integer : Stmt := topS 6
abbrev n_is_integer : List Str := ["thing"]
theorem sc_is_integer : FnScope n_is_integer ["thing"] (defScope s_is_integer) := ⟨rfl, rfl, rfl, by decide +kernel, rfl, by decide +kernel, by decide +kernel⟩

abbrev s_is_between : Stmt := topS 7
abbrev n_is_between : List Str := ["thing", "low", "high"]
theorem sc_is_between : FnScope n_is_between ["thing", "low", "high"] (defScope s_is_between) := ⟨rfl, rfl, rfl, by decide +kernel, rfl, by decide +kernel, by decide +kernel⟩

abbrev s_is_ascending : Stmt := topS 8
abbrev n_is_ascending : List Str := ["row", "one", "other"]
theorem sc_is_ascending : FnScope n_is_ascending ["row"] (defScope s_is_ascending) := ⟨rfl, rfl, rfl, by decide +kernel, rfl, by decide +kernel, by decide +kernel⟩

abbrev s_is_letters : Stmt := topS 9
abbrev n_is_letters : List Str := ["thing", "sign"]
theorem sc_is_letters : FnScope n_is_letters ["thing"] (defScope s_is_letters) := ⟨rfl, rfl, rfl, by decide +kernel, rfl, by decide +kernel, by decide +kernel⟩

abbrev s_is_word : Stmt := topS 10
abbrev n_is_word : List Str := ["letters", "thing", "sign"]
theorem sc_is_word : FnScope n_is_word ["letters", "thing"] (defScope s_is_word) := ⟨rfl, rfl, rfl, by decide +kernel, rfl, by decide +kernel, by decide +kernel⟩

abbrev s_is_letter : Stmt := topS 11
abbrev n_is_letter : List Str := ["letters", "thing"]
theorem sc_is_letter : FnScope n_is_letter ["letters", "thing"] (defScope s_is_letter) := ⟨rfl, rfl, rfl, by decide +kernel, rfl, by decide +kernel, by decide +kernel⟩

abbrev s_is_choice : Stmt := topS 12
abbrev n_is_choice : List Str := ["letters", "thing"]
theorem sc_is_choice : FnScope n_is_choice ["letters", "thing"] (defScope s_is_choice) := ⟨rfl, rfl, rfl, by decide +kernel, rfl, by decide +kernel, by decide +kernel⟩

def isInt : PyData → Bool
  | .int _ => true
  | _ => false
def btw (lo hi : Int) : PyData → Bool
  | .int i => decide (lo ≤ i) && decide (i ≤ hi)
  | _ => false
def isLetters : PyData → Bool
  | .str w => (decide (1 ≤ (codes w).length) && decide ((codes w).length ≤ 4)) && ((codes w).all (fun c => decide (97 ≤ c) && decide (c ≤ 122)) && decide ((codes w).Pairwise (· < ·)))
  | _ => false
def isWord (l : List Nat) : PyData → Bool
  | .str w => (codes w).all fun c => decide (c ∈ l)
  | _ => false
theorem isWord_str {l : List Nat} {d : PyData} (h : isWord l d = true) : isTy d "str" = true := by
  cases d <;> first | (simp [isWord] at h; done) | rfl
def lenD : PyData → Nat
  | .str w => (codes w).length
  | .list l => l.length
  | .tuple l => l.length
  | _ => 0
def isLetter (l : List Nat) (d : PyData) : Bool := isWord l d && decide (lenD d = 1)
def ascD : PyData → Bool
  | .str w => decide ((codes w).Pairwise (· < ·))
  | _ => false
def isChoice (l : List Nat) (d : PyData) : Bool := isWord l d && ascD d
/-- what is handed in is short enough -/
def Sml : PyData → Prop
  | .str w => (codes w).length ≤ 90000
  | .list l => l.length ≤ 90000
  | .tuple l => l.length ≤ 90000
  | _ => True
def spIsInteger : Sp := fun vs H Q _ => ∃ x d, vs = [x] ∧ Rp N0 H x d ∧ ∀ H', Same H H' → Q (.bl (isInt d)) H'
def spIsBetween : Sp := fun vs H Q _ => ∃ x d lo hi, vs = [x, .int lo, .int hi] ∧ Rp N0 H x d ∧ ∀ H', Same H H' → Q (.bl (btw lo hi d)) H'
def spIsAscending : Sp := fun vs H Q _ => ∃ x, vs = [x] ∧ ((∃ l : List Nat, x = .str (S l) ∧ l.length ≤ 90000 ∧ ∀ H', Same H H' → Q (.bl (decide (l.Pairwise (· < ·)))) H') ∨
  ∃ (a : Addr) (ns : List Int), x = .ref a ∧ H a = some (.tup (ns.map V.int)) ∧ ns.length ≤ 90000 ∧ ∀ H', Same H H' → Q (.bl (decide (ns.Pairwise (· < ·)))) H')
def spIsLetters : Sp := fun vs H Q _ => ∃ x d, vs = [x] ∧ Rp N0 H x d ∧ Sml d ∧ ∀ H', Same H H' → Q (.bl (isLetters d)) H'
def spIsWord : Sp := fun vs H Q _ => ∃ (l : List Nat) (x : V) (d : PyData), vs = [.str (S l), x] ∧ Rp N0 H x d ∧ Sml d ∧ ∀ H', Same H H' → Q (.bl (isWord l d)) H'
def spIsLetter : Sp := fun vs H Q _ => ∃ (l : List Nat) (x : V) (d : PyData), vs = [.str (S l), x] ∧ Rp N0 H x d ∧ Sml d ∧ ∀ H', Same H H' → Q (.bl (isLetter l d)) H'
def spIsChoice : Sp := fun vs H Q _ => ∃ (l : List Nat) (x : V) (d : PyData), vs = [.str (S l), x] ∧ Rp N0 H x d ∧ Sml d ∧ ∀ H', Same H H' → Q (.bl (isChoice l d)) H'
section
variable {P : Program} {w : World} {K : PySem.W.Frag} {mg : Str → Option Value} {base : Heap}
theorem c_is_integer (d : DF K mg "is_integer" s_is_integer) (B : Bi mg) : Cal P w K mg base 1 "is_integer" spIsInteger [] := by
  refine d.cal (N := n_is_integer) sc_is_integer (fun _ _ _ _ _ _ us hl => match us, hl with | [_], _ => rfl) (fun vs H Q E h => ?_) (fun f cdv A outer s H vs Q E hr h => ?_)
  · obtain ⟨x, d, rfl, _⟩ := h
    rfl
  · obtain ⟨x, d, rfl, r, k⟩ := h
    refine ⟨_, (pss_one (ps_ret (pe_and (pe_callB (r := zIsi K) zc_isi (by rfl) B.isinstance (by decide +kernel) (pa_cons (pv 0) (pa_cons (pe_bltn (by rfl) B.int (by decide +kernel) (rel_ty "int")) pa_nil))) (pe_one (pe_not (pe_callB (r := zIsi K) zc_isi (by rfl) B.isinstance (by decide +kernel) (pa_cons (pv 0) (pa_cons (pe_bltn (by rfl) B.bool (by decide +kernel) (rel_ty "bool")) pa_nil)))))))), ?_⟩
    refine zstart [some (x)] rfl ?_; try dsimp only [zK, zK2]
    walk_at "zz"
    refine i_isi r (by decide) ?_
    walk_at "zz"
    refine brb (fun hb => ?_) fun hb => ?_
    · walk_at "zz"
      refine i_isi r (by decide) ?_
      walk_at "zz"
      have e : isInt d = !isTy d "bool" := by cases r <;> first | rfl | (simp [isTy, tyN, isInt] at hb)
      rw [← e]
      exact k _ (Same.refl _)
    · walk_at "zz"
      have e : isInt d = false := by cases r <;> first | rfl | (simp [isTy, tyN, isInt] at hb)
      rw [← e]
      exact k _ (Same.refl _)
theorem c_is_between (d : DF K mg "is_between" s_is_between) (B : Bi mg) (c_is_integer : Cal P w K mg base 1 "is_integer" spIsInteger []) : Cal P w K mg base 2 "is_between" spIsBetween [] := by
  refine d.cal (N := n_is_between) sc_is_between (fun _ _ _ _ _ _ us hl => match us, hl with | [_, _, _], _ => rfl) (fun vs H Q E h => ?_) (fun f cdv A outer s H vs Q E hr h => ?_)
  · obtain ⟨x, d, lo, hi, rfl, _⟩ := h
    rfl
  · obtain ⟨x, d, lo, hi, rfl, r, k⟩ := h
    refine ⟨_, (pss_one (ps_ret (pe_and (pe_c c_is_integer hr (by first | decide | omega) rfl (pa_cons (pv 0) pa_nil)) (pe_one (pe_chain z_le z_le (pv 1) (pv 0) (pv 2)))))), ?_⟩
    refine zstart [some (x), some (.int lo), some (.int hi)] rfl ?_; try dsimp only [zK, zK2]
    walk_at "zz"
    refine ⟨x, d, rfl, r, fun H1 s1 => ?_⟩
    walk_at "zz"
    refine brb (fun hb => ?_) fun hb => ?_
    · cases r with
      | int i =>
        walk_at "zz"
        refine brd (fun h1 => ?_) fun h1 => ?_
        · walk_at "zz"
          have e : btw lo hi (.int i) = decide (i ≤ hi) := by show (decide (lo ≤ i) && _) = _; rw [decide_eq_true h1, Bool.true_and]
          rw [← e]
          exact k _ s1
        · walk_at "zz"
          have e : btw lo hi (.int i) = false := by show (decide (lo ≤ i) && _) = _; rw [decide_eq_false h1, Bool.false_and]
          rw [← e]
          exact k _ s1
      | _ => simp [isInt] at hb
    · walk_at "zz"
      have e : btw lo hi d = false := by cases r <;> first | rfl | (simp [isTy, tyN, isInt] at hb)
      rw [← e]
      exact k _ s1
theorem c_is_word (d : DF K mg "is_word" s_is_word) (B : Bi mg) : Cal P w K mg base 1 "is_word" spIsWord [] := by
  refine d.cal (N := n_is_word) sc_is_word (fun _ _ _ _ _ _ us hl => match us, hl with | [_, _], _ => rfl) (fun vs H Q E h => ?_) (fun f cdv A outer s H vs Q E hr h => ?_)
  · obtain ⟨l, x, d, rfl, _⟩ := h
    rfl
  · obtain ⟨l, x, d, rfl, r, sm, k⟩ := h
    refine ⟨_, (pss_one (ps_ret (pe_and (pe_callB (r := zIsi K) zc_isi (by rfl) B.isinstance (by decide +kernel) (pa_cons (pv 1) (pa_cons (pe_bltn (by rfl) B.str (by decide +kernel) (rel_ty "str")) pa_nil))) (pe_one (pe_callB (r := zAll K) (zc_all rfl) (by rfl) B.all (by decide +kernel) (pa_cons (pe_lc (own := [("sign", 2)]) (g := gName 2) (tt := tYes) (by rfl) sc_is_word.nd (pi_str (pv 1)) (blkOk_by (N := n_is_word) (sc := defScope s_is_word) (by decide +kernel)) (fun _ _ _ _ _ => (pg_name (i := 2) sc_is_word.nd rfl (by first | exact Or.inl rfl | exact Or.inr rfl))) (fun _ _ _ _ _ => pts_nil) (fun _ _ _ _ _ => (pe_cmpR z_ins (pv 2) (pv 0) (by rfl)))) pa_nil)))))), ?_⟩
    refine zstart [some (.str (S l)), some (x), none] rfl ?_; try dsimp only [zK, zK2]
    walk_at "zz"
    refine i_isi r (by decide) ?_
    walk_at "zz"
    refine brb (fun hb => ?_) fun hb => ?_
    · obtain ⟨a, rfl, rfl⟩ := r.isStr hb
      walk_at "zz"
      refine fun Dl hD => ?_
      refine l_mapS hD [some (.str (S l)), some (.str (S a)), none] rfl (fun _ => rfl) (Nat.le_trans sm (by decide)) (fun c => .bl (decide (c ∈ l))) (fun c H1 P hc s1 hP => ?_) fun H1 s1 e => ?_
      · refine zte [some (.str (S l)), some (.str (S a)), some (.str (S [c]))] rfl ?_
        walk_at "zz"
        exact hP _ (Same.refl _)
      · walk_at "zz"
        refine i_all (bs := a.map fun c => decide (c ∈ l)) (SqL.of (by rw [List.map_map]; exact e)) ?_
        rw [List.all_map]
        exact k _ s1
    · walk_at "zz"
      have e : isWord l d = false := by cases r <;> first | rfl | (simp [isTy, tyN, isInt] at hb)
      rw [← e]
      exact k _ (Same.refl _)
end
end Y

namespace Y
open PySem PySem.Spec PyProof.Rows L2 Z
open C8 (tCut pss_cut Cal pe_c Met pe_mt pe_mt0 Mak pe_mk)
section
variable {P : Program} {w : World} {K : PySem.W.Frag} {mg : Str → Option Value} {base : Heap}
theorem c_is_ascending (d : DF K mg "is_ascending" s_is_ascending) (B : Bi mg) : Cal P w K mg base 1 "is_ascending" spIsAscending [] := by
  refine d.cal (N := n_is_ascending) sc_is_ascending (fun _ _ _ _ _ _ us hl => match us, hl with | [_], _ => rfl) (fun vs H Q E h => ?_) (fun f cdv A outer s H vs Q E hr h => ?_)
  · obtain ⟨x, rfl, _⟩ := h
    rfl
  · obtain ⟨x, rfl, h⟩ := h
    refine ⟨_, (pss_one (ps_ret (pe_callB (r := zAll K) (zc_all rfl) (by rfl) B.all (by decide +kernel) (pa_cons (pe_lc (own := [("one", 1), ("other", 2)]) (g := (gTup _ 2 (gCons (gName 1) (gCons (gName 2) gNil)))) (tt := tYes) (by rfl) sc_is_ascending.nd (pi_zipZ rfl B.zip (pa_cons (pv 0) (pa_cons (pe_slice (r := zSlA K) sl_A (pv 0) (po_some pe_int) po_none) pa_nil))) (blkOk_by (N := n_is_ascending) (sc := defScope s_is_ascending) (by decide +kernel)) (fun _ _ _ _ _ => (pg_tup rfl (pgs_cons (pg_name (i := 1) sc_is_ascending.nd rfl (by first | exact Or.inl rfl | exact Or.inr rfl)) (pgs_cons (pg_name (i := 2) sc_is_ascending.nd rfl (by first | exact Or.inl rfl | exact Or.inr rfl)) pgs_nil)))) (fun _ _ _ _ _ => pts_nil) (fun _ _ _ _ _ => (pe_cmpR z_ltA (pv 1) (pv 2) (nomark _)))) pa_nil)))), ?_⟩
    refine zstart [some (x), none, none] rfl ?_; try dsimp only [zK, zK2]
    walk_at "zz"
    rcases h with ⟨l, rfl, hl, k⟩ | ⟨a, ns, rfl, ha, hl, k⟩
    · refine .inl (i_slFrom (n := 1) (by omega) ?_)
      walk_at "zz"
      refine i_KZ (.str (S l)) (.str (S (l.drop 1))) rfl rfl rfl rfl fun Dl hD => ?_
      refine l_zipmap hD [some (.str (S l)), none, none] rfl (fun _ _ => rfl) (fun _ _ => rfl) (fun _ _ => rfl) (by rw [List.length_map]; have : (codes (S l)).length = l.length := rfl; omega) (fun x y => .bl (decide (chr1 x < chr1 y))) (fun x y H1 P hx hy s1 hP => ?_) fun H1 s1 e => ?_
      · obtain ⟨c, hc, rfl⟩ := List.mem_map.mp hx
        obtain ⟨c2, hc2, rfl⟩ := List.mem_map.mp hy
        refine zte [some (.str (S l)), some (.str (S [c])), some (.str (S [c2]))] rfl ?_
        walk_at "zz"
        rw [one_lt]
        exact hP _ (Same.refl _)
      · walk_at "zz"
        rw [zip_map (fun c => V.str (S [c])) (fun c => V.str (S [c])) (fun x y => V.bl (decide (chr1 x < chr1 y))) (fun c c2 => V.bl (decide (c < c2))) (fun _ _ => rfl)] at e
        refine i_all (bs := (l.zip (l.drop 1)).map fun p => decide (p.1 < p.2)) (SqL.of (by rw [List.map_map]; exact e)) ?_
        rw [adj_all (fun a b => decide (a < b)), adj_asc]
        exact k _ s1
    · refine .inr (.inl (i_slTA ha fun p H0 s0 hp => ?_))
      walk_at "zz"
      rw [show (1 : Int) = ((1 : Nat) : Int) from rfl, cutV_from, ← List.map_drop] at hp
      have ha0 := s0 _ _ ha
      refine i_KZ (.tup a) (.tup p) rfl rfl (SqT.of ha0) (SqT.of hp) fun Dl hD => ?_
      refine l_zipmap hD [some (.ref a), none, none] rfl (fun _ _ => rfl) (fun H1 s1 => SqT.of (s1 _ _ ha0)) (fun H1 s1 => SqT.of (s1 _ _ hp)) (by rw [List.length_map]; omega) (fun x y => .bl (decide (int1 x < int1 y))) (fun x y H1 P hx hy s1 hP => ?_) fun H1 s1 e => ?_
      · obtain ⟨c, hc, rfl⟩ := List.mem_map.mp hx
        obtain ⟨c2, hc2, rfl⟩ := List.mem_map.mp hy
        refine zte [some (.ref a), some (.int c), some (.int c2)] rfl ?_
        walk_at "zz"
        exact hP _ (Same.refl _)
      · walk_at "zz"
        rw [zip_map V.int V.int (fun x y => V.bl (decide (int1 x < int1 y))) (fun c c2 => V.bl (decide (c < c2))) (fun _ _ => rfl)] at e
        refine i_all (bs := (ns.zip (ns.drop 1)).map fun p => decide (p.1 < p.2)) (SqL.of (by rw [List.map_map]; exact e)) ?_
        rw [adj_all (fun a b => decide (a < b)), adj_ascI]
        exact k _ (s0.trans s1)
theorem c_is_letters (d : DF K mg "is_letters" s_is_letters) (B : Bi mg) (c_is_ascending : Cal P w K mg base 1 "is_ascending" spIsAscending []) : Cal P w K mg base 2 "is_letters" spIsLetters [] := by
  refine d.cal (N := n_is_letters) sc_is_letters (fun _ _ _ _ _ _ us hl => match us, hl with | [_], _ => rfl) (fun vs H Q E h => ?_) (fun f cdv A outer s H vs Q E hr h => ?_)
  · obtain ⟨x, d, rfl, _⟩ := h
    rfl
  · obtain ⟨x, d, rfl, r, sm, k⟩ := h
    refine ⟨_, (pss_cons (ps_if (PW.pt (pw_or (pt_not (pt_val (pe_callB (r := zIsi K) zc_isi (by rfl) B.isinstance (by decide +kernel) (pa_cons (pv 0) (pa_cons (pe_bltn (by rfl) B.str (by decide +kernel) (rel_ty "str")) pa_nil))))) (pw_or1 (pt_not (pt_chain z_le z_le pe_int (pe_callB zc_lens (by rfl) B.len (by decide +kernel) (pa_cons (pv 0) pa_nil)) pe_int))))) (pss_one (ps_ret pe_bl)) pss_nil)
  (pss_one (ps_ret (pe_and (pe_callB (r := zAll K) (zc_all rfl) (by rfl) B.all (by decide +kernel) (pa_cons (pe_lc (own := [("sign", 1)]) (g := gName 1) (tt := tYes) (by rfl) sc_is_letters.nd (pi_str (pv 0)) (blkOk_by (N := n_is_letters) (sc := defScope s_is_letters) (by decide +kernel)) (fun _ _ _ _ _ => (pg_name (i := 1) sc_is_letters.nd rfl (by first | exact Or.inl rfl | exact Or.inr rfl))) (fun _ _ _ _ _ => pts_nil) (fun _ _ _ _ _ => (pe_chain z_les z_les pe_str (pv 1) pe_str))) pa_nil)) (pe_one (pe_c c_is_ascending hr (by first | decide | omega) rfl (pa_cons (pv 0) pa_nil))))))), ?_⟩
    refine zstart [some (x), none] rfl ?_; try dsimp only [zK, zK2]
    walk_at "zz"
    refine i_isi r (by decide) ?_
    walk_at "zz"
    refine brnb (fun hb => ?_) fun hb => ?_
    · walk_at "zz"
      have e : isLetters d = false := by cases r <;> first | rfl | (simp [isTy, tyN] at hb)
      rw [← e]
      exact k _ (Same.refl _)
    · obtain ⟨l, rfl, rfl⟩ := r.isStr hb
      have hl : l.length ≤ 90000 := sm
      walk_at "zz"
      refine brd (fun h1 => ?_) fun h1 => ?_
      · walk_at "zz"
        refine brn (fun h2 => ?_) fun h2 => ?_
        · walk_at "zz"
          have e : isLetters (.str (S l)) = false := by
            show ((decide (1 ≤ l.length) && decide (l.length ≤ 4)) && _) = false
            rw [decide_eq_false (show ¬ l.length ≤ 4 by omega), Bool.and_false, Bool.false_and]
          rw [← e]
          exact k _ (Same.refl _)
        · walk_at "zz"
          refine fun Dl hD => ?_
          refine l_mapS hD [some (.str (S l)), none] rfl (fun _ => rfl) (by omega) (fun c => .bl (decide (97 ≤ c) && decide (c ≤ 122))) (fun c H1 P hc s1 hP => ?_) fun H1 s1 e => ?_
          · refine zte [some (.str (S l)), some (.str (S [c]))] rfl ?_
            walk_at "zz"
            rw [show codes (PySem.Str.ofString "a") = [97] from by decide +kernel, one_lt']
            refine brd (fun h3 => ?_) fun h3 => ?_
            · walk_at "zz"
              rw [show codes (PySem.Str.ofString "z") = [122] from by decide +kernel, one_lt']
              have e : decide (c ≤ 122) = (decide (97 ≤ c) && decide (c ≤ 122)) := by rw [decide_eq_true h3, Bool.true_and]
              rw [e]
              exact hP _ (Same.refl _)
            · walk_at "zz"
              have e : false = (decide (97 ≤ c) && decide (c ≤ 122)) := by rw [decide_eq_false h3, Bool.false_and]
              rw [e]
              exact hP _ (Same.refl _)
          · walk_at "zz"
            refine i_all (bs := l.map fun c => decide (97 ≤ c) && decide (c ≤ 122)) (SqL.of (by rw [List.map_map]; exact e)) ?_
            rw [List.all_map]
            walk_at "zz"
            have e0 : isLetters (.str (S l)) = (l.all (fun c => decide (97 ≤ c) && decide (c ≤ 122)) && decide (l.Pairwise (· < ·))) := by
              show ((decide (1 ≤ l.length) && decide (l.length ≤ 4)) && _) = _
              rw [decide_eq_true (show 1 ≤ l.length by omega), decide_eq_true (show l.length ≤ 4 by omega)]; rfl
            refine brb (fun h4 => ?_) fun h4 => ?_
            · have h4 : l.all (fun c => decide (97 ≤ c) && decide (c ≤ 122)) = true := h4
              walk_at "zz"
              refine ⟨_, rfl, .inl ⟨l, rfl, hl, fun H2 s2 => ?_⟩⟩
              rw [h4, Bool.true_and] at e0
              rw [← e0]
              exact k _ (s1.trans s2)
            · have h4 : l.all (fun c => decide (97 ≤ c) && decide (c ≤ 122)) = false := h4
              walk_at "zz"
              rw [h4, Bool.false_and] at e0
              rw [← e0]
              exact k _ s1
      · walk_at "zz"
        have e : isLetters (.str (S l)) = false := by
          show ((decide (1 ≤ l.length) && decide (l.length ≤ 4)) && _) = false
          rw [decide_eq_false (show ¬ 1 ≤ l.length by omega), Bool.false_and, Bool.false_and]
        rw [← e]
        exact k _ (Same.refl _)
theorem c_is_letter (d : DF K mg "is_letter" s_is_letter) (B : Bi mg) (c_is_word : Cal P w K mg base 1 "is_word" spIsWord []) : Cal P w K mg base 2 "is_letter" spIsLetter [] := by
  refine d.cal (N := n_is_letter) sc_is_letter (fun _ _ _ _ _ _ us hl => match us, hl with | [_, _], _ => rfl) (fun vs H Q E h => ?_) (fun f cdv A outer s H vs Q E hr h => ?_)
  · obtain ⟨l, x, d, rfl, _⟩ := h
    rfl
  · obtain ⟨l, x, d, rfl, r, sm, k⟩ := h
    refine ⟨_, (pss_one (ps_ret (pe_and (pe_c c_is_word hr (by first | decide | omega) rfl (pa_cons (pv 0) (pa_cons (pv 1) pa_nil))) (pe_one (pe_cmpR op_eq (pe_callB zc_lens (by rfl) B.len (by decide +kernel) (pa_cons (pv 1) pa_nil)) pe_int (nomark _)))))), ?_⟩
    refine zstart [some (.str (S l)), some (x)] rfl ?_; try dsimp only [zK, zK2]
    walk_at "zz"
    refine ⟨l, x, d, rfl, r, sm, fun H1 s1 => ?_⟩
    walk_at "zz"
    refine brb (fun hb => ?_) fun hb => ?_
    · obtain ⟨a, rfl, rfl⟩ := r.isStr (isWord_str hb)
      have hw : a.length ≤ 90000 := sm
      walk_at "zz"
      have e : isLetter l (.str (S a)) = decide ((a.length : Int) = 1) := by
        show (isWord l (.str (S a)) && decide (a.length = 1)) = _
        rw [hb, Bool.true_and, Bool.eq_iff_iff, decide_eq_true_iff, decide_eq_true_iff]; omega
      rw [← e]
      exact k _ s1
    · walk_at "zz"
      have e : isLetter l d = false := by show (isWord l d && _) = false; rw [hb, Bool.false_and]
      rw [← e]
      exact k _ s1
theorem c_is_choice (d : DF K mg "is_choice" s_is_choice) (B : Bi mg) (c_is_word : Cal P w K mg base 1 "is_word" spIsWord []) (c_is_ascending : Cal P w K mg base 1 "is_ascending" spIsAscending []) : Cal P w K mg base 2 "is_choice" spIsChoice [] := by
  refine d.cal (N := n_is_choice) sc_is_choice (fun _ _ _ _ _ _ us hl => match us, hl with | [_, _], _ => rfl) (fun vs H Q E h => ?_) (fun f cdv A outer s H vs Q E hr h => ?_)
  · obtain ⟨l, x, d, rfl, _⟩ := h
    rfl
  · obtain ⟨l, x, d, rfl, r, sm, k⟩ := h
    refine ⟨_, (pss_one (ps_ret (pe_and (pe_c c_is_word hr (by first | decide | omega) rfl (pa_cons (pv 0) (pa_cons (pv 1) pa_nil))) (pe_one (pe_c c_is_ascending hr (by first | decide | omega) rfl (pa_cons (pv 1) pa_nil)))))), ?_⟩
    refine zstart [some (.str (S l)), some (x)] rfl ?_; try dsimp only [zK, zK2]
    walk_at "zz"
    refine ⟨l, x, d, rfl, r, sm, fun H1 s1 => ?_⟩
    walk_at "zz"
    refine brb (fun hb => ?_) fun hb => ?_
    · cases r with
      | str w =>
        walk_at "zz"
        refine ⟨_, rfl, .inl ⟨codes w, rfl, sm, fun H2 s2 => ?_⟩⟩
        have e : isChoice l (.str w) = decide ((codes w).Pairwise (· < ·)) := by
          show (isWord l (.str w) && decide ((codes w).Pairwise (· < ·))) = _
          rw [hb, Bool.true_and]
        rw [← e]
        exact k _ (s1.trans s2)
      | _ => simp [isWord] at hb
    · walk_at "zz"
      have e : isChoice l d = false := by show (isWord l d && _) = false; rw [hb, Bool.false_and]
      rw [← e]
      exact k _ s1
end
end Y

namespace Y
open PySem PySem.Spec PyProof.Rows L2 Z
open C8 (tCut pss_cut Cal pe_c Met pe_mt pe_mt0 Mak pe_mk pe_gc)
abbrev s_is_saying : Stmt := topS 15
abbrev n_is_saying : List Str := ["letters", "thing", "deepest", "kinds", "kind", "part"]
theorem sc_is_saying : FnScope n_is_saying ["letters", "thing", "deepest"] (defScope s_is_saying) := ⟨rfl, rfl, rfl, by decide +kernel, rfl, by decide +kernel, by decide +kernel⟩

abbrev s__is_part : Stmt := topS 16
abbrev n__is_part : List Str := ["letters", "kind", "part", "deepest"]
theorem sc__is_part : FnScope n__is_part ["letters", "kind", "part", "deepest"] (defScope s__is_part) := ⟨rfl, rfl, rfl, by decide +kernel, rfl, by decide +kernel, by decide +kernel⟩

def forms : List (String × List String) := [("first", ["letter"]), ("last", ["letter"]), ("count", ["letter", "modulus", "rest"]), ("least", ["letter", "bound"]), ("in", ["word"]), ("row", ["word"]), ("only", ["lot"]),
  ("not", ["saying"]), ("and", ["saying", "saying"]), ("or", ["saying", "saying"]), ("cut", ["letter", "saying", "saying"]), ("cutlast", ["letter", "saying", "saying"])]
/-- the kinds of the parts behind a first word -/
def formOf (z : Str) : Option (List String) := (forms.find? fun p => decide (PySem.Str.ofString p.1 = z)).map (·.2)
def isPart (rec : PyData → Bool) (L : List Nat) (k : String) (d : PyData) : Bool :=
  if k = "saying" then rec d
  else if k = "letter" then isLetter L d
  else if k = "word" then isWord L d && (decide (1 ≤ lenD d) && decide (lenD d ≤ 4))
  else if k = "lot" then isChoice L d
  else if k = "modulus" then btw 1 6 d
  else if k = "rest" then btw 0 5 d
  else btw 1 5 d
def lt3 : List PyData → Bool
  | [_, .int n, .int r] => decide (r < n)
  | _ => false
def isSay (L : List Nat) : Nat → PyData → Bool
  | 0, _ => false
  | n + 1, .tuple (.str z :: parts) => match formOf z with
    | none => false
    | some ks => decide (parts.length = ks.length) && ((ks.zip parts).all (fun p => isPart (isSay L n) L p.1 p.2) && (!decide (z = PySem.Str.ofString "count") || lt3 parts))
  | _ + 1, _ => false
/-- short enough at every place -/
def Sml2 : Nat → PyData → Prop
  | 0, d => Sml d
  | n + 1, .tuple l => l.length ≤ 90000 ∧ ∀ d ∈ l, Sml2 n d
  | _ + 1, d => Sml d
structure FormsTxt (K : PySem.W.Frag) (w : World) (mg : Str → Option Value) (dF : Addr) : Prop where
  FORMS : ∃ u, mg "FORMS" = some u ∧ RelV (.ref dF) u
  dict : ∃ es n, K.lookup dF = some ⟨.type "dict", none, .dict es n, #[]⟩ ∧ PySem.W.KeysLit w.params es.toList ∧ (dF == sysModules) = false
  no : ∀ z : Str, formOf z = none → PySem.W.nsIn K dF z = some none
  yes : ∀ (z : Str) (ks : List String), formOf z = some ks → ∃ t, PySem.W.nsIn K dF z = some (some (.ref t)) ∧ ∀ H, SqT K H t (ks.map fun k => V.str (PySem.Str.ofString k))
def rKdN (K : PySem.W.Frag) (w : World) : R2 := fun x y H Q => ∃ (z : Str) (d : Addr) (r : Option Value), x = .str z ∧ y = .ref d ∧ (∃ es n, K.lookup d = some ⟨.type "dict", none, .dict es n, #[]⟩ ∧ PySem.W.KeysLit w.params es.toList ∧ (d == sysModules) = false) ∧ PySem.W.nsIn K d z = some r ∧ Q (.bl (!r.isSome)) H
theorem op_notIn_kdZ {X : Cx} {K : PySem.W.Frag} {w : World} (hK : X.K = K ∧ X.w = w) : OpR X (compareOp .NotIn) (rKdN K w) := by
  obtain ⟨rfl, rfl⟩ := hK
  intro pins s σ H x y v u Q I rx ry h
  obtain ⟨z, d, r, ex, ey, ⟨es, n, hl, hk, low⟩, e, q⟩ := h
  exact op_notIn_kd (d := d) (es := es) (n := n) ⟨hl, hk, low⟩ pins s σ H x y v u Q I rx ry ⟨z, r, ex, ey, e, q⟩
def spIsSaying (n : Nat) : Sp := fun vs H Q _ => ∃ (L : List Nat) (x : V) (d : PyData), vs = [.str (S L), x, .int (n : Int)] ∧ Rp N0 H x d ∧ Sml2 n d ∧ ∀ H', Same H H' → Q (.bl (isSay L n d)) H'
def spIsPart (n : Nat) : Sp := fun vs H Q _ => ∃ (L : List Nat) (k : String) (x : V) (d : PyData), vs = [.str (S L), .str (PySem.Str.ofString k), x, .int ((n + 1 : Nat) : Int)] ∧ k ∈ ["letter", "modulus", "rest", "bound", "word", "lot", "saying"] ∧
  Rp N0 H x d ∧ Sml2 n d ∧ Sml d ∧ ∀ H', Same H H' → Q (.bl (isPart (isSay L n) L k d)) H'
section
variable {P : Program} {w : World} {K : PySem.W.Frag} {mg : Str → Option Value} {base : Heap}
theorem c__is_part (n : Nat) (d : DF K mg "_is_part" s__is_part) (B : Bi mg) (c_is_saying : Cal P w K mg base (2 * n + 2) "is_saying" (spIsSaying n) []) (c_is_letter : Cal P w K mg base 2 "is_letter" spIsLetter [])
    (c_is_word : Cal P w K mg base 1 "is_word" spIsWord []) (c_is_choice : Cal P w K mg base 2 "is_choice" spIsChoice []) (c_is_between : Cal P w K mg base 2 "is_between" spIsBetween []) :
    Cal P w K mg base (2 * n + 3) "_is_part" (spIsPart n) [] := by
  refine d.cal (N := n__is_part) sc__is_part (fun _ _ _ _ _ _ us hl => match us, hl with | [_, _, _, _], _ => rfl) (fun vs H Q E h => ?_) (fun f cdv A outer s H vs Q E hr h => ?_)
  · obtain ⟨L, k, x, d, rfl, _⟩ := h
    rfl
  · obtain ⟨L, kd, x, d, rfl, hk, r, sm2, sm, k⟩ := h
    refine ⟨_, (pss_cons (ps_if (pt_cmpR op_eq (pv 1) pe_str (nomark _)) (pss_one (ps_ret (pe_c c_is_saying hr (by first | decide | omega) rfl (pa_cons (pv 0) (pa_cons (pv 2) (pa_cons (pe_op z_sub (pv 3) pe_int) pa_nil)))))) pss_nil)
  (pss_cons (ps_if (pt_cmpR op_eq (pv 1) pe_str (nomark _)) (pss_one (ps_ret (pe_c c_is_letter hr (by first | decide | omega) rfl (pa_cons (pv 0) (pa_cons (pv 2) pa_nil))))) pss_nil)
  (pss_cons (ps_if (pt_cmpR op_eq (pv 1) pe_str (nomark _)) (pss_one (ps_ret (pe_and (pe_c c_is_word hr (by first | decide | omega) rfl (pa_cons (pv 0) (pa_cons (pv 2) pa_nil))) (pe_one (pe_chain z_le z_le pe_int (pe_callB zc_lens (by rfl) B.len (by decide +kernel) (pa_cons (pv 2) pa_nil)) pe_int))))) pss_nil)
  (pss_cons (ps_if (pt_cmpR op_eq (pv 1) pe_str (nomark _)) (pss_one (ps_ret (pe_c c_is_choice hr (by first | decide | omega) rfl (pa_cons (pv 0) (pa_cons (pv 2) pa_nil))))) pss_nil)
  (pss_cons (ps_if (pt_cmpR op_eq (pv 1) pe_str (nomark _)) (pss_one (ps_ret (pe_c c_is_between hr (by first | decide | omega) rfl (pa_cons (pv 2) (pa_cons pe_int (pa_cons pe_int pa_nil)))))) pss_nil)
  (pss_cons (ps_if (pt_cmpR op_eq (pv 1) pe_str (nomark _)) (pss_one (ps_ret (pe_c c_is_between hr (by first | decide | omega) rfl (pa_cons (pv 2) (pa_cons pe_int (pa_cons pe_int pa_nil)))))) pss_nil)
  (pss_one (ps_ret (pe_c c_is_between hr (by first | decide | omega) rfl (pa_cons (pv 2) (pa_cons pe_int (pa_cons pe_int pa_nil)))))))))))), ?_⟩
    refine zstart [some (.str (S L)), some (.str (PySem.Str.ofString kd)), some (x), some (.int ((n + 1 : Nat) : Int))] rfl ?_; try dsimp only [zK, zK2]
    have k6 : kd = "letter" ∨ kd = "modulus" ∨ kd = "rest" ∨ kd = "bound" ∨ kd = "word" ∨ kd = "lot" ∨ kd = "saying" := by simpa using hk
    rcases k6 with rfl | rfl | rfl | rfl | rfl | rfl | rfl
    · walk_at "zz"
      exact ⟨L, x, d, rfl, r, sm, fun H1 s1 => k _ s1⟩
    · walk_at "zz"
      exact ⟨x, d, 1, 6, rfl, r, fun H1 s1 => k _ s1⟩
    · walk_at "zz"
      exact ⟨x, d, 0, 5, rfl, r, fun H1 s1 => k _ s1⟩
    · walk_at "zz"
      exact ⟨x, d, 1, 5, rfl, r, fun H1 s1 => k _ s1⟩
    · walk_at "zz"
      refine ⟨L, x, d, rfl, r, sm, fun H1 s1 => ?_⟩
      walk_at "zz"
      refine brb (fun hb => ?_) fun hb => ?_
      · obtain ⟨a, rfl, rfl⟩ := r.isStr (isWord_str hb)
        have ha : a.length ≤ 90000 := sm
        walk_at "zz"
        have e : isPart (isSay L n) L "word" (.str (S a)) = (decide ((1 : Int) ≤ a.length) && decide ((a.length : Int) ≤ 4)) := by
          show (isWord L (.str (S a)) && (decide (1 ≤ a.length) && decide (a.length ≤ 4))) = _
          rw [hb, Bool.true_and, Bool.eq_iff_iff, Bool.and_eq_true, Bool.and_eq_true, decide_eq_true_iff, decide_eq_true_iff, decide_eq_true_iff, decide_eq_true_iff]; omega
        refine brd (fun h1 => ?_) fun h1 => ?_
        · walk_at "zz"
          rw [decide_eq_true h1, Bool.true_and] at e
          rw [← e]
          exact k _ s1
        · walk_at "zz"
          rw [decide_eq_false h1, Bool.false_and] at e
          rw [← e]
          exact k _ s1
      · walk_at "zz"
        have e : isPart (isSay L n) L "word" d = false := by show (isWord L d && _) = false; rw [hb, Bool.false_and]
        rw [← e]
        exact k _ s1
    · walk_at "zz"
      exact ⟨L, x, d, rfl, r, sm, fun H1 s1 => k _ s1⟩
    · walk_at "zz"
      refine ⟨L, x, d, ?_, r, sm2, fun H1 s1 => k _ s1⟩
      have e : (((n + 1 : Nat) : Int) - 1) = (n : Int) := by omega
      rw [e]; rfl
theorem c_is_saying0 (d : DF K mg "is_saying" s_is_saying) (B : Bi mg) : Cal P w K mg base 2 "is_saying" (spIsSaying 0) [] := by
  refine d.cal (N := n_is_saying) sc_is_saying (fun _ _ _ _ _ _ us hl => match us, hl with | [_, _, _], _ => rfl) (fun vs H Q E h => ?_) (fun f cdv A outer s H vs Q E hr h => ?_)
  · obtain ⟨L, x, d, rfl, _⟩ := h
    rfl
  · obtain ⟨L, x, d, rfl, r, sm, k⟩ := h
    refine ⟨_, (pss_cons (ps_if (PW.pt (pw_or (pt_cmpR op_eq (pv 2) pe_int (nomark _)) (pw_or (pt_not (pt_val (pe_callB (r := zIsi K) zc_isi (by rfl) B.isinstance (by decide +kernel) (pa_cons (pv 1) (pa_cons (pe_bltn (by rfl) B.tuple (by decide +kernel) (rel_ty "tuple")) pa_nil))))) (pw_or1 (pt_cmpR op_eq (pe_callB (r := zLen K) zc_len (by rfl) B.len (by decide +kernel) (pa_cons (pv 1) pa_nil)) pe_int (nomark _)))))) (pss_one (ps_ret pe_bl)) pss_nil)
  (pss_cons ps_never
  (pss_cons ps_never
  (pss_cons ps_never
  (pss_cons ps_never
  (pss_one (ps_ret (pe_or (pe_cmpR op_ne (pe_ix (r := rIxT K) ix_tup (pv 1) pe_int (fun _ _ => rfl)) pe_str (nomark _)) (pe_one (pe_cmpR z_ltA (pe_ix (r := rIxT K) ix_tup (pv 1) pe_int (fun _ _ => rfl)) (pe_ix (r := rIxT K) ix_tup (pv 1) pe_int (fun _ _ => rfl)) (nomark _))))))))))), ?_⟩
    refine zstart [some (.str (S L)), some (x), some (.int ((0 : Nat) : Int)), none, none, none] rfl ?_; try dsimp only [zK, zK2]
    walk_at "zz"
    exact k _ (Same.refl _)
theorem formOf_mem {z : Str} {ks : List String} (h : formOf z = some ks) : ∀ k ∈ ks, k ∈ ["letter", "modulus", "rest", "bound", "word", "lot", "saying"] := by
  unfold formOf at h
  obtain ⟨p, hp, rfl⟩ := Option.map_eq_some_iff.mp h
  have h2 : ∀ p ∈ forms, ∀ k ∈ p.2, k ∈ ["letter", "modulus", "rest", "bound", "word", "lot", "saying"] := by decide +kernel
  exact h2 p (List.mem_of_find?_eq_some hp)
theorem formOf_len {z : Str} {ks : List String} (h : formOf z = some ks) : 1 ≤ ks.length ∧ ks.length ≤ 3 := by
  unfold formOf at h
  obtain ⟨p, hp, rfl⟩ := Option.map_eq_some_iff.mp h
  have h2 : ∀ p ∈ forms, 1 ≤ p.2.length ∧ p.2.length ≤ 3 := by decide +kernel
  exact h2 p (List.mem_of_find?_eq_some hp)
theorem Sml2.sml : ∀ {n : Nat} {d : PyData}, Sml2 n d → Sml d
  | 0, _, h => h
  | _ + 1, .tuple _, h => h.1
  | _ + 1, .none, h => h
  | _ + 1, .bool _, h => h
  | _ + 1, .int _, h => h
  | _ + 1, .str _, h => h
  | _ + 1, .list _, h => h
  | _ + 1, .dict _, h => h
theorem len_three {α : Type} {l : List α} (h : l.length = 3) : ∃ a b c, l = [a, b, c] := by
  match l, h with
  | [a, b, c], _ => exact ⟨a, b, c, rfl⟩
theorem btw_int {lo hi : Int} {d : PyData} (h : btw lo hi d = true) : ∃ i, d = .int i := by
  cases d with
  | int i => exact ⟨i, rfl⟩
  | _ => cases h
theorem c_is_saying (n : Nat) (d : DF K mg "is_saying" s_is_saying) (B : Bi mg) {dF : Addr} (T : FormsTxt K w mg dF) (c__is_part : Cal P w K mg base (2 * n + 3) "_is_part" (spIsPart n) []) : Cal P w K mg base (2 * n + 4) "is_saying" (spIsSaying (n + 1)) [] := by
  refine d.cal (N := n_is_saying) sc_is_saying (fun _ _ _ _ _ _ us hl => match us, hl with | [_, _, _], _ => rfl) (fun vs H Q E h => ?_) (fun f cdv A outer s H vs Q E hr h => ?_)
  · obtain ⟨L, x, d, rfl, _⟩ := h
    rfl
  · obtain ⟨L, x, d, rfl, r, sm, k⟩ := h
    refine ⟨_, (pss_cons (ps_if (PW.pt (pw_or (pt_cmpR op_eq (pv 2) pe_int (nomark _)) (pw_or (pt_not (pt_val (pe_callB (r := zIsi K) zc_isi (by rfl) B.isinstance (by decide +kernel) (pa_cons (pv 1) (pa_cons (pe_bltn (by rfl) B.tuple (by decide +kernel) (rel_ty "tuple")) pa_nil))))) (pw_or1 (pt_cmpR op_eq (pe_callB (r := zLen K) zc_len (by rfl) B.len (by decide +kernel) (pa_cons (pv 1) pa_nil)) pe_int (nomark _)))))) (pss_one (ps_ret pe_bl)) pss_nil)
  (pss_cons (ps_if (PW.pt (pw_or (pt_not (pt_val (pe_callB (r := zIsi K) zc_isi (by rfl) B.isinstance (by decide +kernel) (pa_cons (pe_ix (r := rIxT K) ix_tup (pv 1) pe_int (fun _ _ => rfl)) (pa_cons (pe_bltn (by rfl) B.str (by decide +kernel) (rel_ty "str")) pa_nil))))) (pw_or1 (pt_cmpR (r := rKdN K w) (op_notIn_kdZ ⟨rfl, rfl⟩) (pe_ix (r := rIxT K) ix_tup (pv 1) pe_int (fun _ _ => rfl)) (pe_gc rfl T.FORMS) (by rfl))))) (pss_one (ps_ret pe_bl)) pss_nil)
  (pss_cons (ps_set (i := 3) sc_is_saying.nd rfl (by first | exact Or.inl rfl | exact Or.inr rfl) (pe_ix (r := rIxD K w) ix_kdict (pe_gc rfl T.FORMS) (pe_ix (r := rIxT K) ix_tup (pv 1) pe_int (fun _ _ => rfl)) (fun _ _ => rfl)))
  (pss_cons (ps_if (pt_cmpR op_ne (pe_callB (r := zLen K) zc_len (by rfl) B.len (by decide +kernel) (pa_cons (pv 1) pa_nil)) (pe_op z_add pe_int (pe_callB (r := zLen K) zc_len (by rfl) B.len (by decide +kernel) (pa_cons (pv 3) pa_nil))) (nomark _)) (pss_one (ps_ret pe_bl)) pss_nil)
  (pss_cons (ps_for PassesOwn.never rfl (pi_zipZ rfl B.zip (pa_cons (pv 3) (pa_cons (pe_slice (r := rSlA K) sl_tupA (pv 1) (po_some pe_int) po_none) pa_nil))) (pg_tup rfl (pgs_cons (pg_name (i := 4) sc_is_saying.nd rfl (by first | exact Or.inl rfl | exact Or.inr rfl)) (pgs_cons (pg_name (i := 5) sc_is_saying.nd rfl (by first | exact Or.inl rfl | exact Or.inr rfl)) pgs_nil))) (pss_one (ps_if (pt_not (pt_val (pe_c c__is_part hr (by first | decide | omega) rfl (pa_cons (pv 0) (pa_cons (pv 4) (pa_cons (pv 5) (pa_cons (pv 2) pa_nil))))))) (pss_one (ps_ret pe_bl)) pss_nil)))
  (pss_one (ps_ret (pe_or (pe_cmpR op_ne (pe_ix (r := rIxT K) ix_tup (pv 1) pe_int (fun _ _ => rfl)) pe_str (nomark _)) (pe_one (pe_cmpR z_ltA (pe_ix (r := rIxT K) ix_tup (pv 1) pe_int (fun _ _ => rfl)) (pe_ix (r := rIxT K) ix_tup (pv 1) pe_int (fun _ _ => rfl)) (nomark _))))))))))), ?_⟩
    refine zstart [some (.str (S L)), some (x), some (.int ((n + 1 : Nat) : Int)), none, none, none] rfl ?_; try dsimp only [zK, zK2]
    walk_at "zz"
    refine brd (fun h0 => absurd h0 (by omega)) fun _ => ?_
    refine i_tor (i_tnot (i_tB ?_))
    walk_at "zz"
    refine i_isi r (by decide) ?_
    walk_at "zz"
    refine brnb (fun hb => ?_) fun hb => ?_
    · walk_at "zz"
      have e : isSay L (n + 1) d = false := by cases r <;> first | rfl | (simp [isTy, tyN] at hb)
      rw [← e]
      exact k _ (Same.refl _)
    · obtain ⟨a, xs, ds, rfl, rfl, ea, na, ra⟩ := r.isTup hb
      obtain ⟨hl, sm2⟩ := sm
      have hxl := ra.length
      walk_at "zz"
      refine i_lenT (SqT.of ea) ?_
      walk_at "zz"
      cases ds with
      | nil =>
        obtain rfl := ra.nilS
        walk_at "zz"
        exact k _ (Same.refl _)
      | cons d0 parts =>
        obtain ⟨v0, ws, rfl, r0, rs⟩ := ra.consS
        refine brF (by rw [List.length_cons]; omega) ?_
        walk_at "zz"
        refine i_isi r0 (by decide) ?_
        walk_at "zz"
        refine brnb (fun hb => ?_) fun hb => ?_
        · walk_at "zz"
          have e : isSay L (n + 1) (.tuple (d0 :: parts)) = false := by cases r0 <;> first | rfl | (simp [isTy, tyN] at hb)
          rw [← e]
          exact k _ (Same.refl _)
        · obtain ⟨z, rfl, rfl⟩ := r0.isStr hb
          walk_at "zz"
          cases hf : formOf (S z) with
          | none =>
            refine ⟨S z, dF, none, rfl, rfl, T.dict, T.no _ hf, ?_⟩
            walk_at "zz"
            have e : isSay L (n + 1) (.tuple (.str (S z) :: parts)) = false := by
              show (match formOf (S z) with | none => false | some ks => _) = false
              rw [hf]
            rw [← e]
            exact k _ (Same.refl _)
          | some ks =>
            obtain ⟨t, ht, sq⟩ := T.yes _ ks hf
            refine ⟨S z, dF, some (.ref t), rfl, rfl, T.dict, ht, ?_⟩
            walk_at "zz"
            refine iteF ?_
            walk_at "zz"
            obtain ⟨es, nn, hl1, hk1, _⟩ := T.dict
            refine ⟨dF, S z, .ref t, rfl, rfl, ⟨es, nn, _, hl1, hk1, ht, rfl⟩, ?_⟩
            walk_at "zz"
            refine i_lenT (SqT.of ea) ?_
            walk_at "zz"
            refine i_lenT (sq _) ?_
            walk_at "zz"
            have eS : isSay L (n + 1) (.tuple (.str (S z) :: parts)) = (decide (parts.length = ks.length) && ((ks.zip parts).all (fun p => isPart (isSay L n) L p.1 p.2) && (!decide (S z = PySem.Str.ofString "count") || lt3 parts))) := by
              show (match formOf (S z) with | none => false | some ks => _) = _
              rw [hf]
            rw [eS] at k
            have hwl : ws.length = parts.length := rs.length
            refine brn (fun hne => ?_) fun heq => ?_
            · walk_at "zz"
              have : ¬ parts.length = ks.length := fun q => hne (by simp only [List.length_cons, List.length_map]; omega)
              rw [decide_eq_false this, Bool.false_and] at k
              exact k _ (Same.refl _)
            · have hpl : parts.length = ks.length := by simp only [List.length_cons, List.length_map] at heq; omega
              rw [decide_eq_true hpl, Bool.true_and] at k
              walk_at "zz"
              refine i_slTA ea fun p H1 s1 e1 => ?_
              have e1' : H1 p = some (.tup ws) := by
                rw [e1]
                have := cutV_from (.str (S z) :: ws) 1
                exact congrArg (fun q => some (HO.tup q)) this
              walk_at "zz"
              refine i_KZ (.tup t) (.tup p) rfl rfl (sq _) (SqT.of e1') ?_
              refine l_for (walk_zipZ (K := K) (n := parts.length) (xs := ks.map fun k => V.str (PySem.Str.ofString k)) (ys := ws) (by rw [List.length_map]; omega)) (fun i σ H' => Same H1 H' ∧ (∃ v4 v5, σ = [some (V.str (S L)), some (V.ref a), some (V.int ((n + 1 : Nat) : Int)), some (V.ref t), v4, v5]) ∧ ((ks.zip parts).take i).all (fun p => isPart (isSay L n) L p.1 p.2) = true)
                ⟨Same.refl _, ⟨none, none, rfl⟩, rfl⟩ (fun i σ H' _ q => ⟨sq _, SqT.of (q.1 _ _ e1')⟩) ?_ ?_
              · rintro i v σ H2 H3 hi ⟨s2, ⟨v4, v5, rfl⟩, hall⟩ ⟨T', x, y, rfl, hT, rfl, hx, hy⟩
                have hx : (ks.map fun k => V.str (PySem.Str.ofString k))[i]? = some x := hx
                have hy : ws[i]? = some y := hy
                rw [List.getElem?_map] at hx
                obtain ⟨kd, hkd, rfl⟩ := Option.map_eq_some_iff.mp hx
                obtain ⟨d1, hd1, r1⟩ := rs.get' hy
                walk_at "zz"
                have s3 : Same H (upd H2 T' (.tup [V.str (PySem.Str.ofString kd), y])) := (s1.trans s2).newz hT
                refine ⟨L, kd, y, d1, rfl, formOf_mem hf _ (List.mem_of_getElem? hkd), r1.same s3, sm2 _ (List.mem_cons_of_mem _ (List.mem_of_getElem? hd1)), Sml2.sml (sm2 _ (List.mem_cons_of_mem _ (List.mem_of_getElem? hd1))), fun H4 s4 => ?_⟩
                have hz : (ks.zip parts)[i]? = some (kd, d1) := List.getElem?_zip_eq_some.mpr ⟨hkd, hd1⟩
                walk_at "zz"
                refine brnb (fun hb => ?_) fun hb => ?_
                · walk_at "zz"
                  have : (ks.zip parts).all (fun p => isPart (isSay L n) L p.1 p.2) = false := by
                    rw [List.all_eq_false]
                    exact ⟨_, List.mem_of_getElem? hz, by rw [hb]; decide⟩
                  rw [this, Bool.false_and] at k
                  exact k _ (s3.trans s4)
                · walk_at "zz"
                  refine ⟨(s2.newz hT).trans s4, ⟨_, _, rfl⟩, ?_⟩
                  rw [List.take_add_one, hz, List.all_append, hall, Bool.true_and]
                  simpa using hb
              · rintro σ H2 ⟨s2, ⟨v4, v5, rfl⟩, hall⟩
                rw [List.take_of_length_le (by rw [List.length_zip]; omega)] at hall
                rw [hall, Bool.true_and] at k
                have sA := s1.trans s2
                have ea2 := sA _ _ ea
                walk_at "zz"
                refine brn (fun hne => ?_) fun hc => ?_
                · walk_at "zz"
                  have : ¬ S z = PySem.Str.ofString "count" := fun q => hne (by rw [← q, codes_S])
                  rw [decide_eq_false this] at k
                  exact k _ sA
                · have hzc : S z = PySem.Str.ofString "count" := by rw [hc]
                  rw [decide_eq_true hzc] at k
                  rw [hzc] at hf
                  obtain rfl : ks = ["letter", "modulus", "rest"] := by
                    have : formOf (PySem.Str.ofString "count") = some ["letter", "modulus", "rest"] := by decide +kernel
                    rw [this] at hf
                    exact (Option.some.inj hf).symm
                  obtain ⟨d1, d2, d3, rfl⟩ := len_three hpl
                  obtain ⟨x1, x2, x3, rfl, r1, r2, r3⟩ := rs.three
                  have h2 : isPart (isSay L n) L "modulus" d2 = true := List.all_eq_true.mp hall ("modulus", d2) (by simp)
                  have h3 : isPart (isSay L n) L "rest" d3 = true := List.all_eq_true.mp hall ("rest", d3) (by simp)
                  obtain ⟨i2, rfl⟩ := btw_int (d := d2) h2
                  obtain ⟨i3, rfl⟩ := btw_int (d := d3) h3
                  obtain rfl := r2.intS
                  obtain rfl := r3.intS
                  walk_at "zz"
                  exact k _ sA
end
end Y

namespace Y
open PySem PySem.Spec PyProof.Rows L2 Z
open C8 (tCut pss_cut Cal pe_c Met pe_mt pe_mt0 Mak pe_mk pe_gc)
abbrev s__stands_in : Stmt := topS 23
abbrev n__stands_in : List Str := ["part", "word", "at", "letter"]
theorem sc__stands_in : FnScope n__stands_in ["part", "word"] (defScope s__stands_in) := ⟨rfl, rfl, rfl, by decide +kernel, rfl, by decide +kernel, by decide +kernel⟩

abbrev s__is_so_plainly : Stmt := topS 22
abbrev n__is_so_plainly : List Str := ["saying", "word", "head", "told", "letter"]
theorem sc__is_so_plainly : FnScope n__is_so_plainly ["saying", "word"] (defScope s__is_so_plainly) := ⟨rfl, rfl, rfl, by decide +kernel, rfl, by decide +kernel, by decide +kernel⟩

theorem i_augc {i : Nat} {a j : Int} {f : Int → Int → Int} {D : Ends} {σ : L2.St} {H : Hp} (h : σ[i]? = some (some (.int a))) (q : D.nx (σ.set i (some (.int (f a j)))) H) : tAug i (tC (.int j)) (ipI f) D σ H := ⟨_, h, a, j, rfl, rfl, q⟩
def spStandsIn : Sp := fun vs H Q _ => ∃ (u a : List Nat), vs = [.str (S u), .str (S a)] ∧ u.length ≤ 100 ∧ a.length ≤ 1000 ∧ Q (.bl (decide (u.Sublist a))) H
section
variable {P : Program} {w : World} {K : PySem.W.Frag} {mg : Str → Option Value} {base : Heap}
theorem c__stands_in (d : DF K mg "_stands_in" s__stands_in) (B : Bi mg) : Cal P w K mg base 1 "_stands_in" spStandsIn [] := by
  refine d.cal (N := n__stands_in) sc__stands_in (fun _ _ _ _ _ _ us hl => match us, hl with | [_, _], _ => rfl) (fun vs H Q E h => ?_) (fun f cdv A outer s H vs Q E hr h => ?_)
  · obtain ⟨u, a, rfl, _⟩ := h
    rfl
  · obtain ⟨u, a, rfl, hu, ha, k⟩ := h
    refine ⟨_, (pss_cons (ps_set (i := 2) sc__stands_in.nd rfl (by first | exact Or.inl rfl | exact Or.inr rfl) pe_int)
  (pss_cons (ps_for PassesOwn.never rfl (pi_str (pv 1)) (pg_name (i := 3) sc__stands_in.nd rfl (by first | exact Or.inl rfl | exact Or.inr rfl)) (pss_one (ps_if (PW.pt (pw_and (pt_cmpR z_lt (pv 2) (pe_callB zc_lens (by rfl) B.len (by decide +kernel) (pa_cons (pv 0) pa_nil)) (nomark _)) (pw_and1 (pt_cmpR op_eq (pv 3) (pe_ix ix_str (pv 0) (pv 2) (fun _ _ => rfl)) (nomark _))))) (pss_one (ps_aug (i := 2) sc__stands_in.nd rfl (by first | exact Or.inl rfl | exact Or.inr rfl) pe_int ip_add)) pss_nil)))
  (pss_one (ps_ret (pe_cmpR op_eq (pv 2) (pe_callB zc_lens (by rfl) B.len (by decide +kernel) (pa_cons (pv 0) pa_nil)) (nomark _)))))), ?_⟩
    refine zstart [some (.str (S u)), some (.str (S a)), none, none] rfl ?_; try dsimp only [zK, zK2]
    walk_at "zz"
    refine l_str (fun i σ H' => H' = H ∧ ∃ (n : Nat) (v3 : Option V), σ = [some (.str (S u)), some (.str (S a)), some (.int (n : Int)), v3] ∧ n ≤ u.length ∧ (u.Sublist a ↔ (u.drop n).Sublist (a.drop i))) ⟨rfl, 0, none, rfl, by omega, Iff.rfl⟩ ?_ ?_
    · rintro i c σ H' hc ⟨rfl, n, v3, rfl, hn, hiff⟩
      obtain ⟨hil, hic⟩ := List.getElem?_eq_some_iff.mp hc
      have hd : a.drop i = c :: a.drop (i + 1) := by rw [List.drop_eq_getElem_cons hil, hic]
      rw [hd] at hiff
      walk_at "zz"
      refine brd (fun h1 => ?_) fun h1 => ?_
      · have hnl : n < u.length := by omega
        walk_at "zz"
        refine i_ixS (c := u[n]) (by omega) (atI_nat (List.getElem?_eq_getElem hnl)) ?_
        walk_at "zz"
        have hd2 : u.drop n = u[n] :: u.drop (n + 1) := List.drop_eq_getElem_cons hnl
        rw [hd2] at hiff
        refine brd (fun h2 => ?_) fun h2 => ?_
        · have h2 : c = u[n] := by simpa using h2
          walk_at "zz"
          refine i_augc rfl ?_
          refine ⟨rfl, n + 1, _, rfl, by omega, hiff.trans ?_⟩
          rw [← h2]
          exact List.cons_sublist_cons
        · have h2 : ¬ c = u[n] := by simpa using h2
          walk_at "zz"
          refine ⟨rfl, n, _, rfl, by omega, hiff.trans ?_⟩
          rw [hd2]
          constructor
          · intro q
            cases q with
            | cons _ q => exact q
            | cons_cons _ q => exact absurd rfl h2
          · exact fun q => q.cons _
      · walk_at "zz"
        have : u.drop n = [] := List.drop_eq_nil_iff.mpr (by omega)
        refine ⟨rfl, n, _, rfl, by omega, ?_⟩
        rw [hiff, this]
        exact ⟨fun _ => List.nil_sublist _, fun _ => List.nil_sublist _⟩
    · rintro σ H' ⟨rfl, n, v3, rfl, hn, hiff⟩
      walk_at "zz"
      have e : decide (u.Sublist a) = decide ((n : Int) = (u.length : Int)) := by
        rw [Bool.eq_iff_iff, decide_eq_true_iff, decide_eq_true_iff, hiff, List.drop_length, List.sublist_nil, List.drop_eq_nil_iff]
        omega
      rw [← e]
      exact k
def spSoPlainly : Sp := fun vs H Q _ => ∃ (v : V) (s : Say) (L a : List Nat), vs = [v, .str (S a)] ∧ Rp N0 H v s.data ∧ s.plain = true ∧ s.ok L ∧ L.length ≤ 4 ∧ a.length ≤ 1000 ∧ ∀ H', Same H H' → Q (.bl (s.plainHolds a)) H'
theorem c__is_so_plainly (d : DF K mg "_is_so_plainly" s__is_so_plainly) (B : Bi mg) (c__stands_in : Cal P w K mg base 1 "_stands_in" spStandsIn []) : Cal P w K mg base 2 "_is_so_plainly" spSoPlainly [] := by
  refine d.cal (N := n__is_so_plainly) sc__is_so_plainly (fun _ _ _ _ _ _ us hl => match us, hl with | [_, _], _ => rfl) (fun vs H Q E h => ?_) (fun f cdv A outer s H vs Q E hr h => ?_)
  · obtain ⟨v, s, L, a, rfl, _⟩ := h
    rfl
  · obtain ⟨v, s, L, a, rfl, r, hp, hok, hL, ha, k⟩ := h
    refine ⟨_, (pss_cons (ps_asg (pe_tup (pa_cons (pe_ix (r := rIxT K) ix_tup (pv 0) pe_int (fun _ _ => rfl)) (pa_cons (pe_ix (r := rIxT K) ix_tup (pv 0) pe_int (fun _ _ => rfl)) pa_nil))) (pg_tup rfl (pgs_cons (pg_name (i := 2) sc__is_so_plainly.nd rfl (by first | exact Or.inl rfl | exact Or.inr rfl)) (pgs_cons (pg_name (i := 3) sc__is_so_plainly.nd rfl (by first | exact Or.inl rfl | exact Or.inr rfl)) pgs_nil))))
  (pss_cons (ps_if (pt_cmpR op_eq (pv 2) pe_str (nomark _)) (pss_one (ps_ret (pe_bmZ (K := K) rfl PySem.F.plainAttrs_str PySem.F.slot_str_startswith PySem.F.type_str_startswith zm_starts (pv 1) (pa_cons (pv 3) pa_nil)))) pss_nil)
  (pss_cons (ps_if (pt_cmpR op_eq (pv 2) pe_str (nomark _)) (pss_one (ps_ret (pe_bmZ (K := K) rfl PySem.F.plainAttrs_str PySem.F.slot_str_endswith PySem.F.type_str_endswith zm_ends (pv 1) (pa_cons (pv 3) pa_nil)))) pss_nil)
  (pss_cons (ps_if (pt_cmpR op_eq (pv 2) pe_str (nomark _)) (pss_one (ps_ret (pe_cmpR op_eq (pe_op z_mod (pe_bmZ (K := K) rfl PySem.F.plainAttrs_str PySem.F.slot_str_count PySem.F.type_str_count zm_count (pv 1) (pa_cons (pv 3) pa_nil)) (pe_ix (r := rIxT K) ix_tup (pv 0) pe_int (fun _ _ => rfl))) (pe_ix (r := rIxT K) ix_tup (pv 0) pe_int (fun _ _ => rfl)) (nomark _)))) pss_nil)
  (pss_cons (ps_if (pt_cmpR op_eq (pv 2) pe_str (nomark _)) (pss_one (ps_ret (pe_cmpR z_ge (pe_bmZ (K := K) rfl PySem.F.plainAttrs_str PySem.F.slot_str_count PySem.F.type_str_count zm_count (pv 1) (pa_cons (pv 3) pa_nil)) (pe_ix (r := rIxT K) ix_tup (pv 0) pe_int (fun _ _ => rfl)) (nomark _)))) pss_nil)
  (pss_cons (ps_if (pt_cmpR op_eq (pv 2) pe_str (nomark _)) (pss_one (ps_ret (pe_c c__stands_in hr (by first | decide | omega) rfl (pa_cons (pv 3) (pa_cons (pv 1) pa_nil))))) pss_nil)
  (pss_cons (ps_if (pt_cmpR op_eq (pv 2) pe_str (nomark _)) (pss_one (ps_ret (pe_cmpR z_instr (pv 3) (pv 1) (by rfl)))) pss_nil)
  (pss_one (ps_ret (pe_callB (r := zAll K) (zc_all rfl) (by rfl) B.all (by decide +kernel) (pa_cons (pe_lc (own := [("letter", 4)]) (g := gName 4) (tt := tYes) (by rfl) sc__is_so_plainly.nd (pi_str (pv 1)) (blkOk_by (N := n__is_so_plainly) (sc := defScope s__is_so_plainly) (by decide +kernel)) (fun _ _ _ _ _ => (pg_name (i := 4) sc__is_so_plainly.nd rfl (by first | exact Or.inl rfl | exact Or.inr rfl))) (fun _ _ _ _ _ => pts_nil) (fun _ _ _ _ _ => (pe_cmpR z_ins (pv 4) (pv 3) (by rfl)))) pa_nil))))))))))), ?_⟩
    refine zstart [some (v), some (.str (S a)), none, none, none] rfl ?_; try dsimp only [zK, zK2]
    walk_at "zz"
    cases s with
    | neg _ | conj _ _ | disj _ _ | cut _ _ _ | cutlast _ _ _ => cases hp
    | first c =>
      obtain ⟨p, xs, rfl, ep, _, ra⟩ := Rp.tupS r
      obtain ⟨v1, v2, rfl, r1, r2⟩ := ra.two
      rw [r1.strS, r2.strS] at ep
      walk_at "zz"
      refine ⟨le_line (show 2 ≤ 100000 by omega), fun p1 hp1 => ?_⟩
      have s1 : Same H (upd H p1 (.tup [.str (PySem.Str.ofString "first"), .str (S [c])])) := (Same.refl H).newz hp1
      have ep1 := s1 _ _ ep
      walk_at "zz"
      have e : Say.plainHolds a (.first c) = decide ([c] <+: a) := by
        show decide (a.head? = some c) = _
        rw [Bool.eq_iff_iff, decide_eq_true_iff, decide_eq_true_iff]
        cases a with
        | nil => simp
        | cons x t => simp [List.cons_prefix_cons, eq_comm]
      rw [← e]
      exact k _ s1
    | last c =>
      obtain ⟨p, xs, rfl, ep, _, ra⟩ := Rp.tupS r
      obtain ⟨v1, v2, rfl, r1, r2⟩ := ra.two
      rw [r1.strS, r2.strS] at ep
      walk_at "zz"
      refine ⟨le_line (show 2 ≤ 100000 by omega), fun p1 hp1 => ?_⟩
      have s1 : Same H (upd H p1 (.tup [.str (PySem.Str.ofString "last"), .str (S [c])])) := (Same.refl H).newz hp1
      have ep1 := s1 _ _ ep
      walk_at "zz"
      have e : Say.plainHolds a (.last c) = decide ([c] <:+ a) := by
        show decide (a.getLast? = some c) = _
        rw [Bool.eq_iff_iff, decide_eq_true_iff, decide_eq_true_iff, List.getLast?_eq_some_iff]
        exact ⟨fun ⟨y, q⟩ => ⟨y, q.symm⟩, fun ⟨y, q⟩ => ⟨y, q.symm⟩⟩
      rw [← e]
      exact k _ s1
    | count c n m =>
      obtain ⟨p, xs, rfl, ep, _, ra⟩ := Rp.tupS r
      obtain ⟨v1, v2, v3, v4, rfl, r1, r2, r3, r4⟩ := ra.four
      rw [r1.strS, r2.strS, r3.intS, r4.intS] at ep
      obtain ⟨_, hn1, hn6, hm⟩ := hok
      walk_at "zz"
      refine ⟨le_line (show 2 ≤ 100000 by omega), fun p1 hp1 => ?_⟩
      have s1 : Same H (upd H p1 (.tup [.str (PySem.Str.ofString "count"), .str (S [c])])) := (Same.refl H).newz hp1
      have ep1 := s1 _ _ ep
      walk_at "zz"
      have e : Say.plainHolds a (.count c n m) = decide (((a.count c : Nat) : Int) % (n : Int) = (m : Int)) := by
        show decide (a.count c % n = m) = _
        rw [Bool.eq_iff_iff, decide_eq_true_iff, decide_eq_true_iff, ← Int.natCast_emod]
        exact ⟨fun q => by rw [q], fun q => Int.ofNat_inj.mp q⟩
      rw [← e]
      exact k _ s1
    | least c n =>
      obtain ⟨p, xs, rfl, ep, _, ra⟩ := Rp.tupS r
      obtain ⟨v1, v2, v3, rfl, r1, r2, r3⟩ := ra.three
      rw [r1.strS, r2.strS, r3.intS] at ep
      walk_at "zz"
      refine ⟨le_line (show 2 ≤ 100000 by omega), fun p1 hp1 => ?_⟩
      have s1 : Same H (upd H p1 (.tup [.str (PySem.Str.ofString "least"), .str (S [c])])) := (Same.refl H).newz hp1
      have ep1 := s1 _ _ ep
      walk_at "zz"
      have e : Say.plainHolds a (.least c n) = decide ((n : Int) ≤ (a.count c : Nat)) := by
        show decide (n ≤ a.count c) = _
        rw [Bool.eq_iff_iff, decide_eq_true_iff, decide_eq_true_iff]; omega
      rw [← e]
      exact k _ s1
    | isin u =>
      obtain ⟨p, xs, rfl, ep, _, ra⟩ := Rp.tupS r
      obtain ⟨v1, v2, rfl, r1, r2⟩ := ra.two
      rw [r1.strS, r2.strS] at ep
      walk_at "zz"
      refine ⟨le_line (show 2 ≤ 100000 by omega), fun p1 hp1 => ?_⟩
      have s1 : Same H (upd H p1 (.tup [.str (PySem.Str.ofString "in"), .str (S u)])) := (Same.refl H).newz hp1
      have ep1 := s1 _ _ ep
      walk_at "zz"
      have hu : u.length ≤ 4 := hok.2.2
      exact ⟨u, a, rfl, by omega, ha, k _ s1⟩
    | row u =>
      obtain ⟨p, xs, rfl, ep, _, ra⟩ := Rp.tupS r
      obtain ⟨v1, v2, rfl, r1, r2⟩ := ra.two
      rw [r1.strS, r2.strS] at ep
      walk_at "zz"
      refine ⟨le_line (show 2 ≤ 100000 by omega), fun p1 hp1 => ?_⟩
      have s1 : Same H (upd H p1 (.tup [.str (PySem.Str.ofString "row"), .str (S u)])) := (Same.refl H).newz hp1
      have ep1 := s1 _ _ ep
      walk_at "zz"
      exact k _ s1
    | only l =>
      obtain ⟨p, xs, rfl, ep, _, ra⟩ := Rp.tupS r
      obtain ⟨v1, v2, rfl, r1, r2⟩ := ra.two
      rw [r1.strS, r2.strS] at ep
      walk_at "zz"
      refine ⟨le_line (show 2 ≤ 100000 by omega), fun p1 hp1 => ?_⟩
      have s1 : Same H (upd H p1 (.tup [.str (PySem.Str.ofString "only"), .str (S l)])) := (Same.refl H).newz hp1
      have ep1 := s1 _ _ ep
      walk_at "zz"
      refine fun Dl hD => ?_
      have hl4 : l.length ≤ 4 := Nat.le_trans (asc_len hok.2 hok.1) hL
      refine l_mapS hD [some (.ref p), some (.str (S a)), some (.str (PySem.Str.ofString "only")), some (.str (S l)), none] rfl (fun _ => rfl) (by omega) (fun c => .bl (decide (c ∈ l))) (fun c H1 P hc s2 hP => ?_) fun H1 s2 e => ?_
      · refine zte [some (.ref p), some (.str (S a)), some (.str (PySem.Str.ofString "only")), some (.str (S l)), some (.str (S [c]))] rfl ?_
        walk_at "zz"
        exact hP _ (Same.refl _)
      · walk_at "zz"
        refine i_all (bs := a.map fun c => decide (c ∈ l)) (SqL.of (by rw [List.map_map]; exact e)) ?_
        rw [List.all_map]
        exact k _ (s1.trans s2)
end
end Y

namespace Y
open PySem PySem.Spec PyProof.Rows L2 Z
open C8 (tCut pss_cut Cal pe_c Met pe_mt pe_mt0 Mak pe_mk pe_gc)
theorem isLetter_one {L : List Nat} {c : Nat} (h : c ∈ L) : isLetter L (.str (S [c])) = true := by
  show (([c].all fun c => decide (c ∈ L)) && decide (1 = 1)) = true
  simp [h]
theorem isWord_all {L w : List Nat} (h : ∀ c ∈ w, c ∈ L) : isWord L (.str (S w)) = true := by
  show (w.all fun c => decide (c ∈ L)) = true
  rw [List.all_eq_true]
  exact fun c hc => decide_eq_true (h c hc)
theorem isSay_eq {L : List Nat} {n : Nat} {z : Str} {ks : List String} {parts : List PyData} (h : formOf z = some ks) :
    isSay L (n + 1) (.tuple (.str z :: parts)) = (decide (parts.length = ks.length) && ((ks.zip parts).all (fun p => isPart (isSay L n) L p.1 p.2) && (!decide (z = PySem.Str.ofString "count") || lt3 parts))) := by
  show (match formOf z with | none => false | some ks => _) = _
  rw [h]
theorem isSay_plain {L : List Nat} {n : Nat} {s : Say} (hp : s.plain = true) (hok : s.ok L) : isSay L (n + 1) s.data = true := by
  cases s with
  | neg _ | conj _ _ | disj _ _ | cut _ _ _ | cutlast _ _ _ => cases hp
  | first c =>
    refine (isSay_eq (ks := ["letter"]) (by decide +kernel)).trans ?_
    have : isPart (isSay L n) L "letter" (.str (S [c])) = true := isLetter_one hok
    simp [this]
    exact Or.inl (by decide +kernel)
  | last c =>
    refine (isSay_eq (ks := ["letter"]) (by decide +kernel)).trans ?_
    have : isPart (isSay L n) L "letter" (.str (S [c])) = true := isLetter_one hok
    simp [this]
    exact Or.inl (by decide +kernel)
  | count c m r =>
    refine (isSay_eq (ks := ["letter", "modulus", "rest"]) (by decide +kernel)).trans ?_
    obtain ⟨h1, h2, h3, h4⟩ := hok
    have e1 : isPart (isSay L n) L "letter" (.str (S [c])) = true := isLetter_one h1
    have e2 : isPart (isSay L n) L "modulus" (.int m) = true := by
      show (decide (1 ≤ (m : Int)) && decide ((m : Int) ≤ 6)) = true
      rw [decide_eq_true (by omega), decide_eq_true (by omega)]; rfl
    have e3 : isPart (isSay L n) L "rest" (.int r) = true := by
      show (decide (0 ≤ (r : Int)) && decide ((r : Int) ≤ 5)) = true
      rw [decide_eq_true (by omega), decide_eq_true (by omega)]; rfl
    have e4 : lt3 [.str (S [c]), .int m, .int r] = true := decide_eq_true (by omega)
    simp [e1, e2, e3, e4]
  | least c m =>
    refine (isSay_eq (ks := ["letter", "bound"]) (by decide +kernel)).trans ?_
    obtain ⟨h1, h2, h3⟩ := hok
    have e1 : isPart (isSay L n) L "letter" (.str (S [c])) = true := isLetter_one h1
    have e2 : isPart (isSay L n) L "bound" (.int m) = true := by
      show (decide (1 ≤ (m : Int)) && decide ((m : Int) ≤ 5)) = true
      rw [decide_eq_true (by omega), decide_eq_true (by omega)]; rfl
    simp [e1, e2]
    exact Or.inl (by decide +kernel)
  | isin w =>
    refine (isSay_eq (ks := ["word"]) (by decide +kernel)).trans ?_
    obtain ⟨h1, h2, h3⟩ := hok
    have e1 : isPart (isSay L n) L "word" (.str (S w)) = true := by
      show (isWord L (.str (S w)) && (decide (1 ≤ w.length) && decide (w.length ≤ 4))) = true
      rw [isWord_all h1, decide_eq_true h2, decide_eq_true h3]; rfl
    simp [e1]
    exact Or.inl (by decide +kernel)
  | row w =>
    refine (isSay_eq (ks := ["word"]) (by decide +kernel)).trans ?_
    obtain ⟨h1, h2, h3⟩ := hok
    have e1 : isPart (isSay L n) L "word" (.str (S w)) = true := by
      show (isWord L (.str (S w)) && (decide (1 ≤ w.length) && decide (w.length ≤ 4))) = true
      rw [isWord_all h1, decide_eq_true h2, decide_eq_true h3]; rfl
    simp [e1]
    exact Or.inl (by decide +kernel)
  | only l =>
    refine (isSay_eq (ks := ["lot"]) (by decide +kernel)).trans ?_
    obtain ⟨h1, h2⟩ := hok
    have e1 : isPart (isSay L n) L "lot" (.str (S l)) = true := by
      show (isWord L (.str (S l)) && decide (l.Pairwise (· < ·))) = true
      rw [isWord_all h1, decide_eq_true h2]; rfl
    simp [e1]
    exact Or.inl (by decide +kernel)
theorem sml_plain {L : List Nat} {n : Nat} {s : Say} (hL : L.length ≤ 4) (hp : s.plain = true) (hok : s.ok L) : Sml2 (n + 2) s.data := by
  have ok : ∀ d : PyData, Sml d → (∀ l, d ≠ .tuple l) → Sml2 (n + 1) d := fun d h hd => by
    cases d <;> first | exact h | exact absurd rfl (hd _)
  have one : ∀ c : Nat, Sml2 (n + 1) (.str (S [c])) := fun c => (show (1 : Nat) ≤ 90000 by omega)
  have txt : ∀ (k : List Nat), k.length ≤ 4 → Sml2 (n + 1) (.str (S k)) := fun k h => (show k.length ≤ 90000 by omega)
  have int : ∀ (i : Int), Sml2 (n + 1) (.int i) := fun i => trivial
  have hd : ∀ x ∈ ["first", "last", "count", "least", "in", "row", "only"], Sml2 (n + 1) (st x) := by
    intro x hx
    have : ∀ x ∈ ["first", "last", "count", "least", "in", "row", "only"], (codes (PySem.Str.ofString x)).length ≤ 90000 := by decide +kernel
    exact this x hx
  cases s with
  | neg _ | conj _ _ | disj _ _ | cut _ _ _ | cutlast _ _ _ => cases hp
  | first c | last c =>
    refine ⟨show (2 : Nat) ≤ 90000 by omega, fun d h => ?_⟩
    rcases List.mem_cons.mp h with rfl | h
    · exact hd _ (by simp)
    · rw [List.mem_singleton.mp h]; exact one c
  | count c m r =>
    refine ⟨show (4 : Nat) ≤ 90000 by omega, fun d h => ?_⟩
    simp only [List.mem_cons, List.not_mem_nil, or_false] at h
    rcases h with rfl | rfl | rfl | rfl
    · exact hd _ (by simp)
    · exact one c
    · exact int _
    · exact int _
  | least c m =>
    refine ⟨show (3 : Nat) ≤ 90000 by omega, fun d h => ?_⟩
    simp only [List.mem_cons, List.not_mem_nil, or_false] at h
    rcases h with rfl | rfl | rfl
    · exact hd _ (by simp)
    · exact one c
    · exact int _
  | isin w | row w =>
    refine ⟨show (2 : Nat) ≤ 90000 by omega, fun d h => ?_⟩
    rcases List.mem_cons.mp h with rfl | h
    · exact hd _ (by simp)
    · rw [List.mem_singleton.mp h]; exact txt w hok.2.2
  | only l =>
    refine ⟨show (2 : Nat) ≤ 90000 by omega, fun d h => ?_⟩
    rcases List.mem_cons.mp h with rfl | h
    · exact hd _ (by simp)
    · rw [List.mem_singleton.mp h]; exact txt l (Nat.le_trans (asc_len hok.2 hok.1) hL)
end Y

namespace Y
open PySem PySem.Spec PyProof.Rows L2 Z
open C8 (tCut pss_cut Cal pe_c Met pe_mt pe_mt0 Mak pe_mk pe_gc)
abbrev s__check : Stmt := topS 19
abbrev n__check : List Str := ["letters", "saying"]
theorem sc__check : FnScope n__check ["letters", "saying"] (defScope s__check) := ⟨rfl, rfl, rfl, by decide +kernel, rfl, by decide +kernel, by decide +kernel⟩

abbrev s__is_so : Stmt := topS 20
abbrev n__is_so : List Str := ["saying", "word", "head"]
theorem sc__is_so : FnScope n__is_so ["saying", "word"] (defScope s__is_so) := ⟨rfl, rfl, rfl, by decide +kernel, rfl, by decide +kernel, by decide +kernel⟩

abbrev s__is_so_cut : Stmt := topS 21
abbrev n__is_so_cut : List Str := ["saying", "word", "at"]
theorem sc__is_so_cut : FnScope n__is_so_cut ["saying", "word", "at"] (defScope s__is_so_cut) := ⟨rfl, rfl, rfl, by decide +kernel, rfl, by decide +kernel, by decide +kernel⟩

abbrev s_holds : Stmt := topS 18
abbrev n_holds : List Str := ["letters", "saying", "word"]
theorem sc_holds : FnScope n_holds ["letters", "saying", "word"] (defScope s_holds) := ⟨rfl, rfl, rfl, by decide +kernel, rfl, by decide +kernel, by decide +kernel⟩

def spCheck : Sp := fun vs H Q _ => ∃ (L : List Nat) (v : V) (s : Say), vs = [.str (S L), v] ∧ Ltrs L ∧ Rp N0 H v s.data ∧ s.plain = true ∧ s.ok L ∧ ∀ H', Same H H' → Q .non H'
def spHolds : Sp := fun vs H Q _ => ∃ (L a : List Nat) (v : V) (s : Say), vs = [.str (S L), v, .str (S a)] ∧ Ltrs L ∧ Rp N0 H v s.data ∧ s.plain = true ∧ s.ok L ∧ (∀ c ∈ a, c ∈ L) ∧ a.length ≤ 1000 ∧ ∀ H', Same H H' → Q (.bl (s.plainHolds a)) H'
section
variable {P : Program} {w : World} {K : PySem.W.Frag} {mg : Str → Option Value} {base : Heap}
theorem c__check (d : DF K mg "_check" s__check) (B : Bi mg) (c_is_letters : Cal P w K mg base 2 "is_letters" spIsLetters []) (c_is_saying : Cal P w K mg base 14 "is_saying" (spIsSaying 6) []) : Cal P w K mg base 15 "_check" spCheck [] := by
  refine d.cal (N := n__check) sc__check (fun _ _ _ _ _ _ us hl => match us, hl with | [_, _], _ => rfl) (fun vs H Q E h => ?_) (fun f cdv A outer s H vs Q E hr h => ?_)
  · obtain ⟨L, v, s, rfl, _⟩ := h
    rfl
  · obtain ⟨L, v, s, rfl, hL, r, hp, hok, k⟩ := h
    refine ⟨_, (pss_cons (ps_if (pt_not (pt_val (pe_c c_is_letters hr (by first | decide | omega) rfl (pa_cons (pv 0) pa_nil)))) (pss_one ps_never) pss_nil)
  (pss_one (ps_if (pt_not (pt_val (pe_c c_is_saying hr (by first | decide | omega) rfl (pa_cons (pv 0) (pa_cons (pv 1) (pa_cons pe_int pa_nil)))))) (pss_one ps_never) pss_nil))), ?_⟩
    refine zstart [some (.str (S L)), some (v)] rfl ?_; try dsimp only [zK, zK2]
    walk_at "zz"
    refine ⟨_, _, rfl, Rp.str _, show L.length ≤ 90000 by have := hL.2.2.2; omega, fun H1 s1 => ?_⟩
    have eL : isLetters (.str (S L)) = true := by
      show ((decide (1 ≤ L.length) && decide (L.length ≤ 4)) && (L.all (fun c => decide (97 ≤ c) && decide (c ≤ 122)) && decide (L.Pairwise (· < ·)))) = true
      rw [decide_eq_true hL.2.2.1, decide_eq_true hL.2.2.2, decide_eq_true hL.1, Bool.and_true, Bool.true_and, Bool.and_true, List.all_eq_true]
      intro c hc
      rw [decide_eq_true (hL.2.1 c hc).1, decide_eq_true (hL.2.1 c hc).2]; rfl
    rw [eL]
    walk_at "zz"
    refine ⟨L, v, s.data, rfl, r.same s1, sml_plain hL.2.2.2 hp hok, fun H2 s2 => ?_⟩
    rw [isSay_plain hp hok]
    walk_at "zz"
    exact k _ (s1.trans s2)
theorem c__is_so (d : DF K mg "_is_so" s__is_so) (B : Bi mg) (c__is_so_plainly : Cal P w K mg base 2 "_is_so_plainly" spSoPlainly []) : Cal P w K mg base 3 "_is_so" spSoPlainly [] := by
  refine d.cal (N := n__is_so) sc__is_so (fun _ _ _ _ _ _ us hl => match us, hl with | [_, _], _ => rfl) (fun vs H Q E h => ?_) (fun f cdv A outer s H vs Q E hr h => ?_)
  · obtain ⟨v, s, L, a, rfl, _⟩ := h
    rfl
  · obtain ⟨v, s, L, a, rfl, r, hp, hok, hL, ha, k⟩ := h
    refine ⟨_, (pss_cons (ps_set (i := 2) sc__is_so.nd rfl (by first | exact Or.inl rfl | exact Or.inr rfl) (pe_ix (r := rIxT K) ix_tup (pv 0) pe_int (fun _ _ => rfl)))
  (pss_cons (ps_if (pt_cmpR op_eq (pv 2) pe_str (nomark _)) (pss_one ps_never) pss_nil)
  (pss_cons (ps_if (pt_cmpR op_eq (pv 2) pe_str (nomark _)) (pss_one ps_never) pss_nil)
  (pss_cons (ps_if (pt_cmpR op_eq (pv 2) pe_str (nomark _)) (pss_one ps_never) pss_nil)
  (pss_cons (ps_if (pt_cmpR op_eq (pv 2) pe_str (nomark _)) (pss_one ps_never) pss_nil)
  (pss_cons (ps_if (pt_cmpR op_eq (pv 2) pe_str (nomark _)) (pss_one ps_never) pss_nil)
  (pss_one (ps_ret (pe_c c__is_so_plainly hr (by first | decide | omega) rfl (pa_cons (pv 0) (pa_cons (pv 1) pa_nil))))))))))), ?_⟩
    refine zstart [some (v), some (.str (S a)), none] rfl ?_; try dsimp only [zK, zK2]
    walk_at "zz"
    cases s with
    | neg _ | conj _ _ | disj _ _ | cut _ _ _ | cutlast _ _ _ => cases hp
    | first c | last c | isin u | row u | only l =>
      obtain ⟨p, xs, rfl, ep, _, ra⟩ := Rp.tupS r
      obtain ⟨v1, v2, rfl, r1, r2⟩ := ra.two
      rw [r1.strS] at ep
      walk_at "zz"
      exact ⟨_, _, L, a, rfl, r, rfl, hok, hL, ha, k⟩
    | count c n m =>
      obtain ⟨p, xs, rfl, ep, _, ra⟩ := Rp.tupS r
      obtain ⟨v1, v2, v3, v4, rfl, r1, r2, r3, r4⟩ := ra.four
      rw [r1.strS] at ep
      walk_at "zz"
      exact ⟨_, _, L, a, rfl, r, rfl, hok, hL, ha, k⟩
    | least c n =>
      obtain ⟨p, xs, rfl, ep, _, ra⟩ := Rp.tupS r
      obtain ⟨v1, v2, v3, rfl, r1, r2, r3⟩ := ra.three
      rw [r1.strS] at ep
      walk_at "zz"
      exact ⟨_, _, L, a, rfl, r, rfl, hok, hL, ha, k⟩
theorem c_holds (d : DF K mg "holds" s_holds) (B : Bi mg) (c__check : Cal P w K mg base 15 "_check" spCheck []) (c_is_word : Cal P w K mg base 1 "is_word" spIsWord []) (c__is_so : Cal P w K mg base 3 "_is_so" spSoPlainly []) : Cal P w K mg base 16 "holds" spHolds [] := by
  refine d.cal (N := n_holds) sc_holds (fun _ _ _ _ _ _ us hl => match us, hl with | [_, _, _], _ => rfl) (fun vs H Q E h => ?_) (fun f cdv A outer s H vs Q E hr h => ?_)
  · obtain ⟨L, a, v, s, rfl, _⟩ := h
    rfl
  · obtain ⟨L, a, v, s, rfl, hL, r, hp, hok, ha, hl, k⟩ := h
    refine ⟨_, (pss_cons (ps_expr (pe_c c__check hr (by first | decide | omega) rfl (pa_cons (pv 0) (pa_cons (pv 1) pa_nil))))
  (pss_cons (ps_if (pt_not (pt_val (pe_c c_is_word hr (by first | decide | omega) rfl (pa_cons (pv 0) (pa_cons (pv 2) pa_nil))))) (pss_one ps_never) pss_nil)
  (pss_one (ps_ret (pe_c c__is_so hr (by first | decide | omega) rfl (pa_cons (pv 1) (pa_cons (pv 2) pa_nil))))))), ?_⟩
    refine zstart [some (.str (S L)), some (v), some (.str (S a))] rfl ?_; try dsimp only [zK, zK2]
    walk_at "zz"
    refine ⟨L, v, s, rfl, hL, r, hp, hok, fun H1 s1 => ?_⟩
    walk_at "zz"
    refine ⟨L, _, _, rfl, Rp.str _, ?_, fun H2 s2 => ?_⟩
    · show a.length ≤ 90000
      omega
    rw [isWord_all ha]
    walk_at "zz"
    have hL4 : L.length ≤ 4 := hL.2.2.2
    exact ⟨v, s, L, a, rfl, r.same (s1.trans s2), hp, hok, hL4, hl, fun H3 s3 => k _ ((s1.trans s2).trans s3)⟩
end
end Y

namespace Y
open PySem PySem.Spec PyProof.Rows L2 Z
open C8 (tCut pss_cut Cal pe_c Met pe_mt pe_mt0 Mak pe_mk pe_gc)
abbrev s_law : Stmt := topS 36
abbrev n_law : List Str := ["_law_script", "_law_hand_here", "_law_letters_here", "_law_turn", "_law_saying", "_law_time", "_law_word_here"]
theorem sc_law : FnScope n_law ["_law_script"] (defScope s_law) := ⟨rfl, rfl, rfl, by decide +kernel, rfl, by decide +kernel, by decide +kernel⟩

theorem gd_same {h : Addr} {H H1 H2 : Hp} (g : Gd h H H1) (s : Same H1 H2) : Gd h H H2 := by
  obtain ⟨c, r, r', e0, e1⟩ := g.cell
  obtain ⟨c1, cells, a1, a2, a3, a4, g0, g1, rest⟩ := g.ok.ex
  exact ⟨⟨c1, cells, a1, a2, a3, a4, s _ _ g0, s _ _ g1, rest⟩, fun b u e n => s _ _ (g.kp b u e n), g.ok0, c, r, r', e0, s _ _ e1⟩
def spLaw (K : PySem.W.Frag) : Sp := fun vs H Q _ => ∃ (a : Addr) (ns : List Int), vs = [.ref a] ∧ SqL K H a (ns.map V.int) ∧ ns.length ≤ 63 ∧ ∀ H', Q (.bl true) H'
section
variable {P : Program} {w : World} {K : PySem.W.Frag} {mg : Str → Option Value} {base : Heap}
theorem ok_law {f : Addr} {fd : FuncData} (F : Fun K "law" "law" s_law f fd) (B : Bi mg) (c__law_hand : Cal P w K mg base 1 "_law_hand" (spHand K) []) (c__law_some_letters : Cal P w K mg base 3 "_law_some_letters" spSomeLetters [])
    (c__law_plain : Cal P w K mg base 3 "_law_plain" spPlain []) (c__law_made_word : Cal P w K mg base 4 "_law_made_word" spMadeWord []) (c__law_flag : Cal P w K mg base 1 "_law_flag" spFlag [])
    (c__law_plain_so : Cal P w K mg base 2 "_law_plain_so" spPlainSo []) (c_holds : Cal P w K mg base 16 "holds" spHolds []) : FnOk P w K mg base CX0 17 f fd ["_law_script"] (spLaw K) := by
  refine F.ok sc_law (fun vs H Q E h => ?_) (fun cdv A outer s H vs Q E hr h => ?_)
  · obtain ⟨a, ns, rfl, _⟩ := h
    rfl
  · obtain ⟨a, ns, rfl, hs, hl, k⟩ := h
    refine ⟨_, (pss_cons (ps_set (i := 1) sc_law.nd rfl (by first | exact Or.inl rfl | exact Or.inr rfl) (pe_c c__law_hand hr (by first | decide | omega) rfl (pa_cons (pv 0) pa_nil)))
  (pss_cons (ps_set (i := 2) sc_law.nd rfl (by first | exact Or.inl rfl | exact Or.inr rfl) (pe_c c__law_some_letters hr (by first | decide | omega) rfl (pa_cons (pv 1) pa_nil)))
  (pss_cons (ps_for PassesOwn.never rfl (pi_range1 rfl B.range (pa_cons pe_int pa_nil)) (pg_name (i := 3) sc_law.nd rfl (by first | exact Or.inl rfl | exact Or.inr rfl)) (pss_cons (ps_set (i := 4) sc_law.nd rfl (by first | exact Or.inl rfl | exact Or.inr rfl) (pe_c c__law_plain hr (by first | decide | omega) rfl (pa_cons (pv 1) (pa_cons (pv 2) pa_nil))))
  (pss_one (ps_for PassesOwn.never rfl (pi_range1 rfl B.range (pa_cons pe_int pa_nil)) (pg_name (i := 5) sc_law.nd rfl (by first | exact Or.inl rfl | exact Or.inr rfl)) (pss_cons (ps_set (i := 6) sc_law.nd rfl (by first | exact Or.inl rfl | exact Or.inr rfl) (pe_c c__law_made_word hr (by first | decide | omega) rfl (pa_cons (pv 1) (pa_cons (pv 2) (pa_cons (pv 4) pa_nil)))))
  (pss_one (ps_if (pt_not (pt_val (pe_c c__law_flag hr (by first | decide | omega) rfl (pa_cons (pe_c c_holds hr (by first | decide | omega) rfl (pa_cons (pv 2) (pa_cons (pv 4) (pa_cons (pv 6) pa_nil)))) (pa_cons (pe_c c__law_plain_so hr (by first | decide | omega) rfl (pa_cons (pv 4) (pa_cons (pv 6) pa_nil))) pa_nil))))) (pss_one (ps_ret pe_bl)) pss_nil)))))))
  (pss_one (ps_ret pe_bl))))), ?_⟩
    refine zstart [some (.ref a), none, none, none, none, none, none] rfl ?_; try dsimp only [zK, zK2]
    walk_at "zz"
    refine ⟨a, ns, rfl, hs, by omega, fun h H1 hn ok1 s1 => ?_⟩
    walk_at "zz"
    refine ⟨h, rfl, ok1, fun L H2 hL g2 => ?_⟩
    walk_at "zz"
    refine i_KR1 (by omega) ?_
    have hL4 := hL.2.2.2
    refine l_range (fun i σ H3 => Gd h H1 H3 ∧ ∃ (v3 v4 v5 v6 : Option V), σ = [some (.ref a), some (.ref h), some (.str (S L)), v3, v4, v5, v6]) ⟨g2, none, none, none, none, rfl⟩ ?_ ?_
    · rintro i σ H3 hi ⟨g3, v3, v4, v5, v6, rfl⟩
      walk_at "zz"
      refine ⟨h, L, rfl, g3.ok, hL, fun v s H4 hp hok r g4 => ?_⟩
      walk_at "zz"
      refine i_KR1 (by omega) ?_
      refine l_range (fun j σ H5 => Gd h H4 H5 ∧ ∃ (v3 v5 v6 : Option V), σ = [some (.ref a), some (.ref h), some (.str (S L)), v3, some v, v5, v6]) ⟨Gd.refl g4.ok, _, _, _, rfl⟩ ?_ ?_
      · rintro j σ H5 hj ⟨g5, v3, v5, v6, rfl⟩
        walk_at "zz"
        have r5 : Rp (· = h) H5 v s.data := r.mono g5.toKp
        refine ⟨h, L, v, s, rfl, g5.ok, hL, hp, hok, r5, fun x H6 hx hxl g6 => ?_⟩
        walk_at "zz"
        have r6 : Rp (· = h) H6 v s.data := r5.mono g6.toKp
        refine ⟨L, x, v, s, rfl, hL, r6.free, hp, hok, hxl, by omega, fun H7 s7 => ?_⟩
        walk_at "zz"
        refine ⟨v, s, L, x, rfl, r6.free.same s7, hp, hok, by omega, by omega, fun H8 s8 => ?_⟩
        walk_at "zz"
        refine ⟨_, _, rfl, ?_⟩
        rw [decide_eq_true rfl]
        walk_at "zz"
        exact ⟨gd_same (g5.trans g6) (s7.trans s8), _, _, _, rfl⟩
      · rintro σ H5 ⟨g5, v3, v5, v6, rfl⟩
        walk_at "zz"
        exact ⟨(g3.trans g4).trans g5, _, _, _, _, rfl⟩
    · rintro σ H3 ⟨g3, v3, v4, v5, v6, rfl⟩
      walk_at "zz"
      exact k _
end
end Y

namespace Y
open PySem PySem.Spec PyProof.Rows L2 Z
def keyS (e : DictEntry) : Option Str := match e.key with
  | .str x _ => some x
  | _ => none
theorem nokey {z : Str} : ∀ {l : List DictEntry} {ks : List Str}, l.map keyS = ks.map some → z ∉ ks → l.find? (·.key.isStr z) = none ∧ l.any (·.refKey) = false
  | [], _, _, _ => ⟨rfl, rfl⟩
  | e :: r, [], h, _ => by cases h
  | e :: r, k :: ks, h, hz => by
    have h1 : keyS e :: r.map keyS = some k :: ks.map some := h
    injection h1 with h2 h3
    obtain ⟨q1, q2⟩ := nokey h3 (fun q => hz (List.mem_cons_of_mem _ q))
    obtain ⟨hh, kk, vv⟩ := e
    cases kk with
    | str x t =>
      have hx : x = k := Option.some.inj h2
      have hne : ¬ x = z := fun q => hz (by rw [← q, hx]; exact List.mem_cons_self)
      have e1 : (DictEntry.mk hh (.str x t) vv).key.isStr z = false := by
        show Value.isStr (.str x t) z = false
        unfold Value.isStr
        simpa using hne
      refine ⟨?_, ?_⟩
      · rw [List.find?_cons, e1]
        exact q1
      · rw [List.any_cons, q2, Bool.or_false]
        rfl
    | _ => cases h2
theorem formsTxt_mk {K : PySem.W.Frag} {w : World} {mg : Str → Option Value} {dF : Addr} {es : Array DictEntry} {nn : Nat} (h0 : mg "FORMS" = some (.ref dF)) (h1 : K.lookup dF = some ⟨.type "dict", none, .dict es nn, #[]⟩) (h2 : PySem.W.KeysLit w.params es.toList) (h3 : (dF == sysModules) = false)
    (h4 : es.toList.map keyS = (forms.map fun p => PySem.Str.ofString p.1).map some)
    (h5 : ∀ p ∈ forms, ∃ t its n o sl, PySem.W.nsIn K dF (PySem.Str.ofString p.1) = some (some (.ref t)) ∧ K.lookup t = some ⟨.type "tuple", o, .seq its n, sl⟩ ∧ its.size ≤ sizeLine ∧ Vals (p.2.map fun k => V.str (PySem.Str.ofString k)) its.toList) : FormsTxt K w mg dF := by
  refine ⟨⟨_, h0, rfl⟩, ⟨es, nn, h1, h2, h3⟩, fun z hz => ?_, fun z ks hz => ?_⟩
  · have hk : z ∉ forms.map fun p => PySem.Str.ofString p.1 := by
      intro q
      obtain ⟨p, hp, rfl⟩ := List.mem_map.mp q
      unfold formOf at hz
      have := Option.map_eq_none_iff.mp hz
      have := List.find?_eq_none.mp this p hp
      simp at this
    obtain ⟨q1, q2⟩ := nokey h4 hk
    unfold PySem.W.nsIn
    rw [h1]
    dsimp only
    rw [q1]
    dsimp only
    rw [if_neg (by rw [q2]; decide)]
  · unfold formOf at hz
    obtain ⟨p, hp, rfl⟩ := Option.map_eq_some_iff.mp hz
    have hpz : PySem.Str.ofString p.1 = z := by simpa using List.find?_some hp
    obtain ⟨t, its, n, o, sl, g1, g2, g3, g4⟩ := h5 p (List.mem_of_find?_eq_some hp)
    subst hpz
    exact ⟨t, g1, fun H => .inr ⟨_, its, n, g2, rfl, rfl, g3, g4⟩⟩
end Y

namespace Y
open PySem PySem.Spec PyProof.Rows L2 Z
open C8 (tCut pss_cut Cal pe_c Met pe_mt pe_mt0 Mak pe_mk)
theorem all_mk {l : PySem.W.OpenLaw} {w : World} {K : PySem.W.Frag} {h : Heap} {mg : Str → Option Value} {fa f_is_integer f_is_between f_is_ascending f_is_letters f_is_word f_is_letter f_is_choice f_is_saying f__is_part f_holds f__check f__is_so f__is_so_cut f__is_so_plainly f__stands_in f__law_hand f__law_draw f__law_letters f__law_word f__law_plain f__law_stands f__law_plain_so f__law_some_letters f__law_flag f__law_spread f__law_made_word f_law : Addr} (X : K.In h) (G : h.Ns mainGlobals mg) (hfa : mg "law" = some (.ref fa))
    {od_is_integer an_is_integer od_is_between an_is_between od_is_ascending an_is_ascending od_is_letters an_is_letters od_is_word an_is_word od_is_letter an_is_letter od_is_choice an_is_choice od_is_saying an_is_saying od__is_part an__is_part od_holds an_holds od__check an__check od__is_so an__is_so od__is_so_cut an__is_so_cut od__is_so_plainly an__is_so_plainly od__stands_in an__stands_in od__law_hand an__law_hand od__law_draw an__law_draw od__law_letters an__law_letters od__law_word an__law_word od__law_plain an__law_plain od__law_stands an__law_stands od__law_plain_so an__law_plain_so od__law_some_letters an__law_some_letters od__law_flag an__law_flag od__law_spread an__law_spread od__law_made_word an__law_made_word od_law an_law : Option Addr} {sl_is_integer sl_is_between sl_is_ascending sl_is_letters sl_is_word sl_is_letter sl_is_choice sl_is_saying sl__is_part sl_holds sl__check sl__is_so sl__is_so_cut sl__is_so_plainly sl__stands_in sl__law_hand sl__law_draw sl__law_letters sl__law_word sl__law_plain sl__law_stands sl__law_plain_so sl__law_some_letters sl__law_flag sl__law_spread sl__law_made_word sl_law : Array (Option Value)} {oc_is_integer kV_is_integer dc_is_integer pm_is_integer cd_is_integer ct_is_integer oc_is_between kV_is_between dc_is_between pm_is_between cd_is_between ct_is_between oc_is_ascending kV_is_ascending dc_is_ascending pm_is_ascending cd_is_ascending ct_is_ascending oc_is_letters kV_is_letters dc_is_letters pm_is_letters cd_is_letters ct_is_letters oc_is_word kV_is_word dc_is_word pm_is_word cd_is_word ct_is_word oc_is_letter kV_is_letter dc_is_letter pm_is_letter cd_is_letter ct_is_letter oc_is_choice kV_is_choice dc_is_choice pm_is_choice cd_is_choice ct_is_choice oc_is_saying kV_is_saying dc_is_saying pm_is_saying cd_is_saying ct_is_saying oc__is_part kV__is_part dc__is_part pm__is_part cd__is_part ct__is_part oc_holds kV_holds dc_holds pm_holds cd_holds ct_holds oc__check kV__check dc__check pm__check cd__check ct__check oc__is_so kV__is_so dc__is_so pm__is_so cd__is_so ct__is_so oc__is_so_cut kV__is_so_cut dc__is_so_cut pm__is_so_cut cd__is_so_cut ct__is_so_cut oc__is_so_plainly kV__is_so_plainly dc__is_so_plainly pm__is_so_plainly cd__is_so_plainly ct__is_so_plainly oc__stands_in kV__stands_in dc__stands_in pm__stands_in cd__stands_in ct__stands_in oc__law_hand kV__law_hand dc__law_hand pm__law_hand cd__law_hand ct__law_hand oc__law_draw kV__law_draw dc__law_draw pm__law_draw cd__law_draw ct__law_draw oc__law_letters kV__law_letters dc__law_letters pm__law_letters cd__law_letters ct__law_letters oc__law_word kV__law_word dc__law_word pm__law_word cd__law_word ct__law_word oc__law_plain kV__law_plain dc__law_plain pm__law_plain cd__law_plain ct__law_plain oc__law_stands kV__law_stands dc__law_stands pm__law_stands cd__law_stands ct__law_stands oc__law_plain_so kV__law_plain_so dc__law_plain_so pm__law_plain_so cd__law_plain_so ct__law_plain_so oc__law_some_letters kV__law_some_letters dc__law_some_letters pm__law_some_letters cd__law_some_letters ct__law_some_letters oc__law_flag kV__law_flag dc__law_flag pm__law_flag cd__law_flag ct__law_flag oc__law_spread kV__law_spread dc__law_spread pm__law_spread cd__law_spread ct__law_spread oc__law_made_word kV__law_made_word dc__law_made_word pm__law_made_word cd__law_made_word ct__law_made_word oc_law kV_law dc_law pm_law cd_law ct_law : Value} {dF : Addr} {es : Array DictEntry} {nn : Nat} {ft_first ft_last ft_count ft_least ft_in ft_row ft_only ft_not ft_and ft_or ft_cut ft_cutlast : Addr} {fi_first fi_last fi_count fi_least fi_in fi_row fi_only fi_not fi_and fi_or fi_cut fi_cutlast : Array Value} {fn_first fn_last fn_count fn_least fn_in fn_row fn_only fn_not fn_and fn_or fn_cut fn_cutlast : Nat} {fo_first fo_last fo_count fo_least fo_in fo_row fo_only fo_not fo_and fo_or fo_cut fo_cutlast : Option Addr} {fs_first fs_last fs_count fs_least fs_in fs_row fs_only fs_not fs_and fs_or fs_cut fs_cutlast : Array (Option Value)}
    (a_is_integer : PySem.W.nsIn K mainGlobals "is_integer" = some (some (.ref f_is_integer)))
    (l_is_integer : K.lookup f_is_integer = some ⟨oc_is_integer, od_is_integer, .func (PySem.W.fnOf "is_integer" "is_integer" (defArgs s_is_integer) (defBody s_is_integer) (defScope s_is_integer) .none kV_is_integer dc_is_integer pm_is_integer an_is_integer cd_is_integer ct_is_integer), sl_is_integer⟩)
    (c_is_integer : PySem.W.codeIn K cd_is_integer "is_integer" = true) (k_is_integer : PySem.W.keepIn K (.ref f_is_integer) = true)
    (a_is_between : PySem.W.nsIn K mainGlobals "is_between" = some (some (.ref f_is_between)))
    (l_is_between : K.lookup f_is_between = some ⟨oc_is_between, od_is_between, .func (PySem.W.fnOf "is_between" "is_between" (defArgs s_is_between) (defBody s_is_between) (defScope s_is_between) .none kV_is_between dc_is_between pm_is_between an_is_between cd_is_between ct_is_between), sl_is_between⟩)
    (c_is_between : PySem.W.codeIn K cd_is_between "is_between" = true) (k_is_between : PySem.W.keepIn K (.ref f_is_between) = true)
    (a_is_ascending : PySem.W.nsIn K mainGlobals "is_ascending" = some (some (.ref f_is_ascending)))
    (l_is_ascending : K.lookup f_is_ascending = some ⟨oc_is_ascending, od_is_ascending, .func (PySem.W.fnOf "is_ascending" "is_ascending" (defArgs s_is_ascending) (defBody s_is_ascending) (defScope s_is_ascending) .none kV_is_ascending dc_is_ascending pm_is_ascending an_is_ascending cd_is_ascending ct_is_ascending), sl_is_ascending⟩)
    (c_is_ascending : PySem.W.codeIn K cd_is_ascending "is_ascending" = true) (k_is_ascending : PySem.W.keepIn K (.ref f_is_ascending) = true)
    (a_is_letters : PySem.W.nsIn K mainGlobals "is_letters" = some (some (.ref f_is_letters)))
    (l_is_letters : K.lookup f_is_letters = some ⟨oc_is_letters, od_is_letters, .func (PySem.W.fnOf "is_letters" "is_letters" (defArgs s_is_letters) (defBody s_is_letters) (defScope s_is_letters) .none kV_is_letters dc_is_letters pm_is_letters an_is_letters cd_is_letters ct_is_letters), sl_is_letters⟩)
    (c_is_letters : PySem.W.codeIn K cd_is_letters "is_letters" = true) (k_is_letters : PySem.W.keepIn K (.ref f_is_letters) = true)
    (a_is_word : PySem.W.nsIn K mainGlobals "is_word" = some (some (.ref f_is_word)))
    (l_is_word : K.lookup f_is_word = some ⟨oc_is_word, od_is_word, .func (PySem.W.fnOf "is_word" "is_word" (defArgs s_is_word) (defBody s_is_word) (defScope s_is_word) .none kV_is_word dc_is_word pm_is_word an_is_word cd_is_word ct_is_word), sl_is_word⟩)
    (c_is_word : PySem.W.codeIn K cd_is_word "is_word" = true) (k_is_word : PySem.W.keepIn K (.ref f_is_word) = true)
    (a_is_letter : PySem.W.nsIn K mainGlobals "is_letter" = some (some (.ref f_is_letter)))
    (l_is_letter : K.lookup f_is_letter = some ⟨oc_is_letter, od_is_letter, .func (PySem.W.fnOf "is_letter" "is_letter" (defArgs s_is_letter) (defBody s_is_letter) (defScope s_is_letter) .none kV_is_letter dc_is_letter pm_is_letter an_is_letter cd_is_letter ct_is_letter), sl_is_letter⟩)
    (c_is_letter : PySem.W.codeIn K cd_is_letter "is_letter" = true) (k_is_letter : PySem.W.keepIn K (.ref f_is_letter) = true)
    (a_is_choice : PySem.W.nsIn K mainGlobals "is_choice" = some (some (.ref f_is_choice)))
    (l_is_choice : K.lookup f_is_choice = some ⟨oc_is_choice, od_is_choice, .func (PySem.W.fnOf "is_choice" "is_choice" (defArgs s_is_choice) (defBody s_is_choice) (defScope s_is_choice) .none kV_is_choice dc_is_choice pm_is_choice an_is_choice cd_is_choice ct_is_choice), sl_is_choice⟩)
    (c_is_choice : PySem.W.codeIn K cd_is_choice "is_choice" = true) (k_is_choice : PySem.W.keepIn K (.ref f_is_choice) = true)
    (a_is_saying : PySem.W.nsIn K mainGlobals "is_saying" = some (some (.ref f_is_saying)))
    (l_is_saying : K.lookup f_is_saying = some ⟨oc_is_saying, od_is_saying, .func (PySem.W.fnOf "is_saying" "is_saying" (defArgs s_is_saying) (defBody s_is_saying) (defScope s_is_saying) .none kV_is_saying dc_is_saying pm_is_saying an_is_saying cd_is_saying ct_is_saying), sl_is_saying⟩)
    (c_is_saying : PySem.W.codeIn K cd_is_saying "is_saying" = true) (k_is_saying : PySem.W.keepIn K (.ref f_is_saying) = true)
    (a__is_part : PySem.W.nsIn K mainGlobals "_is_part" = some (some (.ref f__is_part)))
    (l__is_part : K.lookup f__is_part = some ⟨oc__is_part, od__is_part, .func (PySem.W.fnOf "_is_part" "_is_part" (defArgs s__is_part) (defBody s__is_part) (defScope s__is_part) .none kV__is_part dc__is_part pm__is_part an__is_part cd__is_part ct__is_part), sl__is_part⟩)
    (c__is_part : PySem.W.codeIn K cd__is_part "_is_part" = true) (k__is_part : PySem.W.keepIn K (.ref f__is_part) = true)
    (a_holds : PySem.W.nsIn K mainGlobals "holds" = some (some (.ref f_holds)))
    (l_holds : K.lookup f_holds = some ⟨oc_holds, od_holds, .func (PySem.W.fnOf "holds" "holds" (defArgs s_holds) (defBody s_holds) (defScope s_holds) .none kV_holds dc_holds pm_holds an_holds cd_holds ct_holds), sl_holds⟩)
    (c_holds : PySem.W.codeIn K cd_holds "holds" = true) (k_holds : PySem.W.keepIn K (.ref f_holds) = true)
    (a__check : PySem.W.nsIn K mainGlobals "_check" = some (some (.ref f__check)))
    (l__check : K.lookup f__check = some ⟨oc__check, od__check, .func (PySem.W.fnOf "_check" "_check" (defArgs s__check) (defBody s__check) (defScope s__check) .none kV__check dc__check pm__check an__check cd__check ct__check), sl__check⟩)
    (c__check : PySem.W.codeIn K cd__check "_check" = true) (k__check : PySem.W.keepIn K (.ref f__check) = true)
    (a__is_so : PySem.W.nsIn K mainGlobals "_is_so" = some (some (.ref f__is_so)))
    (l__is_so : K.lookup f__is_so = some ⟨oc__is_so, od__is_so, .func (PySem.W.fnOf "_is_so" "_is_so" (defArgs s__is_so) (defBody s__is_so) (defScope s__is_so) .none kV__is_so dc__is_so pm__is_so an__is_so cd__is_so ct__is_so), sl__is_so⟩)
    (c__is_so : PySem.W.codeIn K cd__is_so "_is_so" = true) (k__is_so : PySem.W.keepIn K (.ref f__is_so) = true)
    (a__is_so_cut : PySem.W.nsIn K mainGlobals "_is_so_cut" = some (some (.ref f__is_so_cut)))
    (l__is_so_cut : K.lookup f__is_so_cut = some ⟨oc__is_so_cut, od__is_so_cut, .func (PySem.W.fnOf "_is_so_cut" "_is_so_cut" (defArgs s__is_so_cut) (defBody s__is_so_cut) (defScope s__is_so_cut) .none kV__is_so_cut dc__is_so_cut pm__is_so_cut an__is_so_cut cd__is_so_cut ct__is_so_cut), sl__is_so_cut⟩)
    (c__is_so_cut : PySem.W.codeIn K cd__is_so_cut "_is_so_cut" = true) (k__is_so_cut : PySem.W.keepIn K (.ref f__is_so_cut) = true)
    (a__is_so_plainly : PySem.W.nsIn K mainGlobals "_is_so_plainly" = some (some (.ref f__is_so_plainly)))
    (l__is_so_plainly : K.lookup f__is_so_plainly = some ⟨oc__is_so_plainly, od__is_so_plainly, .func (PySem.W.fnOf "_is_so_plainly" "_is_so_plainly" (defArgs s__is_so_plainly) (defBody s__is_so_plainly) (defScope s__is_so_plainly) .none kV__is_so_plainly dc__is_so_plainly pm__is_so_plainly an__is_so_plainly cd__is_so_plainly ct__is_so_plainly), sl__is_so_plainly⟩)
    (c__is_so_plainly : PySem.W.codeIn K cd__is_so_plainly "_is_so_plainly" = true) (k__is_so_plainly : PySem.W.keepIn K (.ref f__is_so_plainly) = true)
    (a__stands_in : PySem.W.nsIn K mainGlobals "_stands_in" = some (some (.ref f__stands_in)))
    (l__stands_in : K.lookup f__stands_in = some ⟨oc__stands_in, od__stands_in, .func (PySem.W.fnOf "_stands_in" "_stands_in" (defArgs s__stands_in) (defBody s__stands_in) (defScope s__stands_in) .none kV__stands_in dc__stands_in pm__stands_in an__stands_in cd__stands_in ct__stands_in), sl__stands_in⟩)
    (c__stands_in : PySem.W.codeIn K cd__stands_in "_stands_in" = true) (k__stands_in : PySem.W.keepIn K (.ref f__stands_in) = true)
    (a__law_hand : PySem.W.nsIn K mainGlobals "_law_hand" = some (some (.ref f__law_hand)))
    (l__law_hand : K.lookup f__law_hand = some ⟨oc__law_hand, od__law_hand, .func (PySem.W.fnOf "_law_hand" "_law_hand" (defArgs s__law_hand) (defBody s__law_hand) (defScope s__law_hand) .none kV__law_hand dc__law_hand pm__law_hand an__law_hand cd__law_hand ct__law_hand), sl__law_hand⟩)
    (c__law_hand : PySem.W.codeIn K cd__law_hand "_law_hand" = true) (k__law_hand : PySem.W.keepIn K (.ref f__law_hand) = true)
    (a__law_draw : PySem.W.nsIn K mainGlobals "_law_draw" = some (some (.ref f__law_draw)))
    (l__law_draw : K.lookup f__law_draw = some ⟨oc__law_draw, od__law_draw, .func (PySem.W.fnOf "_law_draw" "_law_draw" (defArgs s__law_draw) (defBody s__law_draw) (defScope s__law_draw) .none kV__law_draw dc__law_draw pm__law_draw an__law_draw cd__law_draw ct__law_draw), sl__law_draw⟩)
    (c__law_draw : PySem.W.codeIn K cd__law_draw "_law_draw" = true) (k__law_draw : PySem.W.keepIn K (.ref f__law_draw) = true)
    (a__law_letters : PySem.W.nsIn K mainGlobals "_law_letters" = some (some (.ref f__law_letters)))
    (l__law_letters : K.lookup f__law_letters = some ⟨oc__law_letters, od__law_letters, .func (PySem.W.fnOf "_law_letters" "_law_letters" (defArgs s__law_letters) (defBody s__law_letters) (defScope s__law_letters) .none kV__law_letters dc__law_letters pm__law_letters an__law_letters cd__law_letters ct__law_letters), sl__law_letters⟩)
    (c__law_letters : PySem.W.codeIn K cd__law_letters "_law_letters" = true) (k__law_letters : PySem.W.keepIn K (.ref f__law_letters) = true)
    (a__law_word : PySem.W.nsIn K mainGlobals "_law_word" = some (some (.ref f__law_word)))
    (l__law_word : K.lookup f__law_word = some ⟨oc__law_word, od__law_word, .func (PySem.W.fnOf "_law_word" "_law_word" (defArgs s__law_word) (defBody s__law_word) (defScope s__law_word) .none kV__law_word dc__law_word pm__law_word an__law_word cd__law_word ct__law_word), sl__law_word⟩)
    (c__law_word : PySem.W.codeIn K cd__law_word "_law_word" = true) (k__law_word : PySem.W.keepIn K (.ref f__law_word) = true)
    (a__law_plain : PySem.W.nsIn K mainGlobals "_law_plain" = some (some (.ref f__law_plain)))
    (l__law_plain : K.lookup f__law_plain = some ⟨oc__law_plain, od__law_plain, .func (PySem.W.fnOf "_law_plain" "_law_plain" (defArgs s__law_plain) (defBody s__law_plain) (defScope s__law_plain) .none kV__law_plain dc__law_plain pm__law_plain an__law_plain cd__law_plain ct__law_plain), sl__law_plain⟩)
    (c__law_plain : PySem.W.codeIn K cd__law_plain "_law_plain" = true) (k__law_plain : PySem.W.keepIn K (.ref f__law_plain) = true)
    (a__law_stands : PySem.W.nsIn K mainGlobals "_law_stands" = some (some (.ref f__law_stands)))
    (l__law_stands : K.lookup f__law_stands = some ⟨oc__law_stands, od__law_stands, .func (PySem.W.fnOf "_law_stands" "_law_stands" (defArgs s__law_stands) (defBody s__law_stands) (defScope s__law_stands) .none kV__law_stands dc__law_stands pm__law_stands an__law_stands cd__law_stands ct__law_stands), sl__law_stands⟩)
    (c__law_stands : PySem.W.codeIn K cd__law_stands "_law_stands" = true) (k__law_stands : PySem.W.keepIn K (.ref f__law_stands) = true)
    (a__law_plain_so : PySem.W.nsIn K mainGlobals "_law_plain_so" = some (some (.ref f__law_plain_so)))
    (l__law_plain_so : K.lookup f__law_plain_so = some ⟨oc__law_plain_so, od__law_plain_so, .func (PySem.W.fnOf "_law_plain_so" "_law_plain_so" (defArgs s__law_plain_so) (defBody s__law_plain_so) (defScope s__law_plain_so) .none kV__law_plain_so dc__law_plain_so pm__law_plain_so an__law_plain_so cd__law_plain_so ct__law_plain_so), sl__law_plain_so⟩)
    (c__law_plain_so : PySem.W.codeIn K cd__law_plain_so "_law_plain_so" = true) (k__law_plain_so : PySem.W.keepIn K (.ref f__law_plain_so) = true)
    (a__law_some_letters : PySem.W.nsIn K mainGlobals "_law_some_letters" = some (some (.ref f__law_some_letters)))
    (l__law_some_letters : K.lookup f__law_some_letters = some ⟨oc__law_some_letters, od__law_some_letters, .func (PySem.W.fnOf "_law_some_letters" "_law_some_letters" (defArgs s__law_some_letters) (defBody s__law_some_letters) (defScope s__law_some_letters) .none kV__law_some_letters dc__law_some_letters pm__law_some_letters an__law_some_letters cd__law_some_letters ct__law_some_letters), sl__law_some_letters⟩)
    (c__law_some_letters : PySem.W.codeIn K cd__law_some_letters "_law_some_letters" = true) (k__law_some_letters : PySem.W.keepIn K (.ref f__law_some_letters) = true)
    (a__law_flag : PySem.W.nsIn K mainGlobals "_law_flag" = some (some (.ref f__law_flag)))
    (l__law_flag : K.lookup f__law_flag = some ⟨oc__law_flag, od__law_flag, .func (PySem.W.fnOf "_law_flag" "_law_flag" (defArgs s__law_flag) (defBody s__law_flag) (defScope s__law_flag) .none kV__law_flag dc__law_flag pm__law_flag an__law_flag cd__law_flag ct__law_flag), sl__law_flag⟩)
    (c__law_flag : PySem.W.codeIn K cd__law_flag "_law_flag" = true) (k__law_flag : PySem.W.keepIn K (.ref f__law_flag) = true)
    (a__law_spread : PySem.W.nsIn K mainGlobals "_law_spread" = some (some (.ref f__law_spread)))
    (l__law_spread : K.lookup f__law_spread = some ⟨oc__law_spread, od__law_spread, .func (PySem.W.fnOf "_law_spread" "_law_spread" (defArgs s__law_spread) (defBody s__law_spread) (defScope s__law_spread) .none kV__law_spread dc__law_spread pm__law_spread an__law_spread cd__law_spread ct__law_spread), sl__law_spread⟩)
    (c__law_spread : PySem.W.codeIn K cd__law_spread "_law_spread" = true) (k__law_spread : PySem.W.keepIn K (.ref f__law_spread) = true)
    (a__law_made_word : PySem.W.nsIn K mainGlobals "_law_made_word" = some (some (.ref f__law_made_word)))
    (l__law_made_word : K.lookup f__law_made_word = some ⟨oc__law_made_word, od__law_made_word, .func (PySem.W.fnOf "_law_made_word" "_law_made_word" (defArgs s__law_made_word) (defBody s__law_made_word) (defScope s__law_made_word) .none kV__law_made_word dc__law_made_word pm__law_made_word an__law_made_word cd__law_made_word ct__law_made_word), sl__law_made_word⟩)
    (c__law_made_word : PySem.W.codeIn K cd__law_made_word "_law_made_word" = true) (k__law_made_word : PySem.W.keepIn K (.ref f__law_made_word) = true)
    (a_law : PySem.W.nsIn K mainGlobals "law" = some (some (.ref f_law)))
    (l_law : K.lookup f_law = some ⟨oc_law, od_law, .func (PySem.W.fnOf "law" "law" (defArgs s_law) (defBody s_law) (defScope s_law) .none kV_law dc_law pm_law an_law cd_law ct_law), sl_law⟩)
    (c_law : PySem.W.codeIn K cd_law "law" = true) (k_law : PySem.W.keepIn K (.ref f_law) = true)
    (z_range : PySem.W.nsIn K mainGlobals "range" = some none)
    (z_len : PySem.W.nsIn K mainGlobals "len" = some none)
    (z_abs : PySem.W.nsIn K mainGlobals "abs" = some none)
    (z_int : PySem.W.nsIn K mainGlobals "int" = some none)
    (z_str : PySem.W.nsIn K mainGlobals "str" = some none)
    (z_bool : PySem.W.nsIn K mainGlobals "bool" = some none)
    (z_list : PySem.W.nsIn K mainGlobals "list" = some none)
    (z_tuple : PySem.W.nsIn K mainGlobals "tuple" = some none)
    (z_dict : PySem.W.nsIn K mainGlobals "dict" = some none)
    (z_set : PySem.W.nsIn K mainGlobals "set" = some none)
    (z_isinstance : PySem.W.nsIn K mainGlobals "isinstance" = some none)
    (z_all : PySem.W.nsIn K mainGlobals "all" = some none)
    (z_any : PySem.W.nsIn K mainGlobals "any" = some none)
    (z_sum : PySem.W.nsIn K mainGlobals "sum" = some none)
    (z_max : PySem.W.nsIn K mainGlobals "max" = some none)
    (z_min : PySem.W.nsIn K mainGlobals "min" = some none)
    (z_sorted : PySem.W.nsIn K mainGlobals "sorted" = some none)
    (z_zip : PySem.W.nsIn K mainGlobals "zip" = some none)
    (z_enumerate : PySem.W.nsIn K mainGlobals "enumerate" = some none)
    (z_reversed : PySem.W.nsIn K mainGlobals "reversed" = some none)
    (a_FORMS : PySem.W.nsIn K mainGlobals "FORMS" = some (some (.ref dF)))
    (l_FORMS : K.lookup dF = some ⟨.type "dict", none, .dict es nn, #[]⟩)
    (fv_first : PySem.W.nsIn K dF "first" = some (some (.ref ft_first)))
    (fu_first : K.lookup ft_first = some ⟨.type "tuple", fo_first, .seq fi_first fn_first, fs_first⟩)
    (fv_last : PySem.W.nsIn K dF "last" = some (some (.ref ft_last)))
    (fu_last : K.lookup ft_last = some ⟨.type "tuple", fo_last, .seq fi_last fn_last, fs_last⟩)
    (fv_count : PySem.W.nsIn K dF "count" = some (some (.ref ft_count)))
    (fu_count : K.lookup ft_count = some ⟨.type "tuple", fo_count, .seq fi_count fn_count, fs_count⟩)
    (fv_least : PySem.W.nsIn K dF "least" = some (some (.ref ft_least)))
    (fu_least : K.lookup ft_least = some ⟨.type "tuple", fo_least, .seq fi_least fn_least, fs_least⟩)
    (fv_in : PySem.W.nsIn K dF "in" = some (some (.ref ft_in)))
    (fu_in : K.lookup ft_in = some ⟨.type "tuple", fo_in, .seq fi_in fn_in, fs_in⟩)
    (fv_row : PySem.W.nsIn K dF "row" = some (some (.ref ft_row)))
    (fu_row : K.lookup ft_row = some ⟨.type "tuple", fo_row, .seq fi_row fn_row, fs_row⟩)
    (fv_only : PySem.W.nsIn K dF "only" = some (some (.ref ft_only)))
    (fu_only : K.lookup ft_only = some ⟨.type "tuple", fo_only, .seq fi_only fn_only, fs_only⟩)
    (fv_not : PySem.W.nsIn K dF "not" = some (some (.ref ft_not)))
    (fu_not : K.lookup ft_not = some ⟨.type "tuple", fo_not, .seq fi_not fn_not, fs_not⟩)
    (fv_and : PySem.W.nsIn K dF "and" = some (some (.ref ft_and)))
    (fu_and : K.lookup ft_and = some ⟨.type "tuple", fo_and, .seq fi_and fn_and, fs_and⟩)
    (fv_or : PySem.W.nsIn K dF "or" = some (some (.ref ft_or)))
    (fu_or : K.lookup ft_or = some ⟨.type "tuple", fo_or, .seq fi_or fn_or, fs_or⟩)
    (fv_cut : PySem.W.nsIn K dF "cut" = some (some (.ref ft_cut)))
    (fu_cut : K.lookup ft_cut = some ⟨.type "tuple", fo_cut, .seq fi_cut fn_cut, fs_cut⟩)
    (fv_cutlast : PySem.W.nsIn K dF "cutlast" = some (some (.ref ft_cutlast)))
    (fu_cutlast : K.lookup ft_cutlast = some ⟨.type "tuple", fo_cutlast, .seq fi_cutlast fn_cutlast, fs_cutlast⟩)
    (g_lit : PySem.W.KeysLit w.params es.toList)
    (g_low : (dF == sysModules) = false)
    (g_keys : es.toList.map keyS = (forms.map fun p => PySem.Str.ofString p.1).map some)
    (gs_first : fi_first.size ≤ sizeLine)
    (gv_first : Vals [V.str (PySem.Str.ofString "letter")] fi_first.toList)
    (gs_last : fi_last.size ≤ sizeLine)
    (gv_last : Vals [V.str (PySem.Str.ofString "letter")] fi_last.toList)
    (gs_count : fi_count.size ≤ sizeLine)
    (gv_count : Vals [V.str (PySem.Str.ofString "letter"), V.str (PySem.Str.ofString "modulus"), V.str (PySem.Str.ofString "rest")] fi_count.toList)
    (gs_least : fi_least.size ≤ sizeLine)
    (gv_least : Vals [V.str (PySem.Str.ofString "letter"), V.str (PySem.Str.ofString "bound")] fi_least.toList)
    (gs_in : fi_in.size ≤ sizeLine)
    (gv_in : Vals [V.str (PySem.Str.ofString "word")] fi_in.toList)
    (gs_row : fi_row.size ≤ sizeLine)
    (gv_row : Vals [V.str (PySem.Str.ofString "word")] fi_row.toList)
    (gs_only : fi_only.size ≤ sizeLine)
    (gv_only : Vals [V.str (PySem.Str.ofString "lot")] fi_only.toList)
    (gs_not : fi_not.size ≤ sizeLine)
    (gv_not : Vals [V.str (PySem.Str.ofString "saying")] fi_not.toList)
    (gs_and : fi_and.size ≤ sizeLine)
    (gv_and : Vals [V.str (PySem.Str.ofString "saying"), V.str (PySem.Str.ofString "saying")] fi_and.toList)
    (gs_or : fi_or.size ≤ sizeLine)
    (gv_or : Vals [V.str (PySem.Str.ofString "saying"), V.str (PySem.Str.ofString "saying")] fi_or.toList)
    (gs_cut : fi_cut.size ≤ sizeLine)
    (gv_cut : Vals [V.str (PySem.Str.ofString "letter"), V.str (PySem.Str.ofString "saying"), V.str (PySem.Str.ofString "saying")] fi_cut.toList)
    (gs_cutlast : fi_cutlast.size ≤ sizeLine)
    (gv_cutlast : Vals [V.str (PySem.Str.ofString "letter"), V.str (PySem.Str.ofString "saying"), V.str (PySem.Str.ofString "saying")] fi_cutlast.toList) :
    ∃ fd : FuncData, (∀ (s : Shared) (v : Value), BindsTo s fd ⟨[v], []⟩ [("_law_script", v)]) ∧ ∀ base : Heap, K.In base → base.Ns mainGlobals mg → FnOk l.prog w K mg base CX0 17 fa fd ["_law_script"] (spLaw K) := by
  have e := hfa.symm.trans (PySem.W.mg_of X G a_law)
  cases e
  have B : Bi mg := ⟨PySem.W.mg_none_of X G z_range, PySem.W.mg_none_of X G z_len, PySem.W.mg_none_of X G z_abs, PySem.W.mg_none_of X G z_int, PySem.W.mg_none_of X G z_str, PySem.W.mg_none_of X G z_bool, PySem.W.mg_none_of X G z_list, PySem.W.mg_none_of X G z_tuple, PySem.W.mg_none_of X G z_dict, PySem.W.mg_none_of X G z_set, PySem.W.mg_none_of X G z_isinstance, PySem.W.mg_none_of X G z_all, PySem.W.mg_none_of X G z_any, PySem.W.mg_none_of X G z_sum, PySem.W.mg_none_of X G z_max, PySem.W.mg_none_of X G z_min, PySem.W.mg_none_of X G z_sorted, PySem.W.mg_none_of X G z_zip, PySem.W.mg_none_of X G z_enumerate, PySem.W.mg_none_of X G z_reversed⟩
  have d_is_integer : DF K mg "is_integer" s_is_integer := ⟨_, _, fun_mk (st := s_is_integer) l_is_integer c_is_integer k_is_integer, PySem.W.mg_of X G a_is_integer⟩
  have d_is_between : DF K mg "is_between" s_is_between := ⟨_, _, fun_mk (st := s_is_between) l_is_between c_is_between k_is_between, PySem.W.mg_of X G a_is_between⟩
  have d_is_ascending : DF K mg "is_ascending" s_is_ascending := ⟨_, _, fun_mk (st := s_is_ascending) l_is_ascending c_is_ascending k_is_ascending, PySem.W.mg_of X G a_is_ascending⟩
  have d_is_letters : DF K mg "is_letters" s_is_letters := ⟨_, _, fun_mk (st := s_is_letters) l_is_letters c_is_letters k_is_letters, PySem.W.mg_of X G a_is_letters⟩
  have d_is_word : DF K mg "is_word" s_is_word := ⟨_, _, fun_mk (st := s_is_word) l_is_word c_is_word k_is_word, PySem.W.mg_of X G a_is_word⟩
  have d_is_letter : DF K mg "is_letter" s_is_letter := ⟨_, _, fun_mk (st := s_is_letter) l_is_letter c_is_letter k_is_letter, PySem.W.mg_of X G a_is_letter⟩
  have d_is_choice : DF K mg "is_choice" s_is_choice := ⟨_, _, fun_mk (st := s_is_choice) l_is_choice c_is_choice k_is_choice, PySem.W.mg_of X G a_is_choice⟩
  have d_is_saying : DF K mg "is_saying" s_is_saying := ⟨_, _, fun_mk (st := s_is_saying) l_is_saying c_is_saying k_is_saying, PySem.W.mg_of X G a_is_saying⟩
  have d__is_part : DF K mg "_is_part" s__is_part := ⟨_, _, fun_mk (st := s__is_part) l__is_part c__is_part k__is_part, PySem.W.mg_of X G a__is_part⟩
  have d_holds : DF K mg "holds" s_holds := ⟨_, _, fun_mk (st := s_holds) l_holds c_holds k_holds, PySem.W.mg_of X G a_holds⟩
  have d__check : DF K mg "_check" s__check := ⟨_, _, fun_mk (st := s__check) l__check c__check k__check, PySem.W.mg_of X G a__check⟩
  have d__is_so : DF K mg "_is_so" s__is_so := ⟨_, _, fun_mk (st := s__is_so) l__is_so c__is_so k__is_so, PySem.W.mg_of X G a__is_so⟩
  have d__is_so_cut : DF K mg "_is_so_cut" s__is_so_cut := ⟨_, _, fun_mk (st := s__is_so_cut) l__is_so_cut c__is_so_cut k__is_so_cut, PySem.W.mg_of X G a__is_so_cut⟩
  have d__is_so_plainly : DF K mg "_is_so_plainly" s__is_so_plainly := ⟨_, _, fun_mk (st := s__is_so_plainly) l__is_so_plainly c__is_so_plainly k__is_so_plainly, PySem.W.mg_of X G a__is_so_plainly⟩
  have d__stands_in : DF K mg "_stands_in" s__stands_in := ⟨_, _, fun_mk (st := s__stands_in) l__stands_in c__stands_in k__stands_in, PySem.W.mg_of X G a__stands_in⟩
  have d__law_hand : DF K mg "_law_hand" s__law_hand := ⟨_, _, fun_mk (st := s__law_hand) l__law_hand c__law_hand k__law_hand, PySem.W.mg_of X G a__law_hand⟩
  have d__law_draw : DF K mg "_law_draw" s__law_draw := ⟨_, _, fun_mk (st := s__law_draw) l__law_draw c__law_draw k__law_draw, PySem.W.mg_of X G a__law_draw⟩
  have d__law_letters : DF K mg "_law_letters" s__law_letters := ⟨_, _, fun_mk (st := s__law_letters) l__law_letters c__law_letters k__law_letters, PySem.W.mg_of X G a__law_letters⟩
  have d__law_word : DF K mg "_law_word" s__law_word := ⟨_, _, fun_mk (st := s__law_word) l__law_word c__law_word k__law_word, PySem.W.mg_of X G a__law_word⟩
  have d__law_plain : DF K mg "_law_plain" s__law_plain := ⟨_, _, fun_mk (st := s__law_plain) l__law_plain c__law_plain k__law_plain, PySem.W.mg_of X G a__law_plain⟩
  have d__law_stands : DF K mg "_law_stands" s__law_stands := ⟨_, _, fun_mk (st := s__law_stands) l__law_stands c__law_stands k__law_stands, PySem.W.mg_of X G a__law_stands⟩
  have d__law_plain_so : DF K mg "_law_plain_so" s__law_plain_so := ⟨_, _, fun_mk (st := s__law_plain_so) l__law_plain_so c__law_plain_so k__law_plain_so, PySem.W.mg_of X G a__law_plain_so⟩
  have d__law_some_letters : DF K mg "_law_some_letters" s__law_some_letters := ⟨_, _, fun_mk (st := s__law_some_letters) l__law_some_letters c__law_some_letters k__law_some_letters, PySem.W.mg_of X G a__law_some_letters⟩
  have d__law_flag : DF K mg "_law_flag" s__law_flag := ⟨_, _, fun_mk (st := s__law_flag) l__law_flag c__law_flag k__law_flag, PySem.W.mg_of X G a__law_flag⟩
  have d__law_spread : DF K mg "_law_spread" s__law_spread := ⟨_, _, fun_mk (st := s__law_spread) l__law_spread c__law_spread k__law_spread, PySem.W.mg_of X G a__law_spread⟩
  have d__law_made_word : DF K mg "_law_made_word" s__law_made_word := ⟨_, _, fun_mk (st := s__law_made_word) l__law_made_word c__law_made_word k__law_made_word, PySem.W.mg_of X G a__law_made_word⟩

  refine ⟨PySem.W.fnOf "law" "law" (defArgs s_law) (defBody s_law) (defScope s_law) .none kV_law dc_law pm_law an_law cd_law ct_law, fun s v => .of_eq rfl, fun base _ _ => ?_⟩
  have T : FormsTxt K w mg dF := formsTxt_mk (PySem.W.mg_of X G a_FORMS) l_FORMS g_lit g_low g_keys (by
    intro p hp
    simp only [forms, List.mem_cons, List.not_mem_nil, or_false] at hp
    rcases hp with rfl | rfl | rfl | rfl | rfl | rfl | rfl | rfl | rfl | rfl | rfl | rfl
    · exact ⟨_, _, _, _, _, fv_first, fu_first, gs_first, gv_first⟩
    · exact ⟨_, _, _, _, _, fv_last, fu_last, gs_last, gv_last⟩
    · exact ⟨_, _, _, _, _, fv_count, fu_count, gs_count, gv_count⟩
    · exact ⟨_, _, _, _, _, fv_least, fu_least, gs_least, gv_least⟩
    · exact ⟨_, _, _, _, _, fv_in, fu_in, gs_in, gv_in⟩
    · exact ⟨_, _, _, _, _, fv_row, fu_row, gs_row, gv_row⟩
    · exact ⟨_, _, _, _, _, fv_only, fu_only, gs_only, gv_only⟩
    · exact ⟨_, _, _, _, _, fv_not, fu_not, gs_not, gv_not⟩
    · exact ⟨_, _, _, _, _, fv_and, fu_and, gs_and, gv_and⟩
    · exact ⟨_, _, _, _, _, fv_or, fu_or, gs_or, gv_or⟩
    · exact ⟨_, _, _, _, _, fv_cut, fu_cut, gs_cut, gv_cut⟩
    · exact ⟨_, _, _, _, _, fv_cutlast, fu_cutlast, gs_cutlast, gv_cutlast⟩)
  have t_is_integer := Y.c_is_integer (P := l.prog) (w := w) (base := base) d_is_integer B
  have t_is_between := Y.c_is_between (P := l.prog) (w := w) (base := base) d_is_between B t_is_integer
  have t_is_word := Y.c_is_word (P := l.prog) (w := w) (base := base) d_is_word B
  have t_is_ascending := Y.c_is_ascending (P := l.prog) (w := w) (base := base) d_is_ascending B
  have t_is_letters := Y.c_is_letters (P := l.prog) (w := w) (base := base) d_is_letters B t_is_ascending
  have t_is_letter := Y.c_is_letter (P := l.prog) (w := w) (base := base) d_is_letter B t_is_word
  have t_is_choice := Y.c_is_choice (P := l.prog) (w := w) (base := base) d_is_choice B t_is_word t_is_ascending
  have t_draw := Y.c__law_draw (P := l.prog) (w := w) (base := base) d__law_draw B
  have t_hand := Y.c__law_hand (P := l.prog) (w := w) (base := base) d__law_hand B
  have t_letters := Y.c__law_letters (P := l.prog) (w := w) (base := base) d__law_letters B t_draw
  have t_word := Y.c__law_word (P := l.prog) (w := w) (base := base) d__law_word B t_draw
  have t_some := Y.c__law_some_letters (P := l.prog) (w := w) (base := base) d__law_some_letters B t_draw t_letters
  have t_flag := Y.c__law_flag (P := l.prog) (w := w) (base := base) d__law_flag B
  have t_plain := Y.c__law_plain (P := l.prog) (w := w) (base := base) d__law_plain B t_draw t_word
  have t_stands := Y.c__law_stands (P := l.prog) (w := w) (base := base) d__law_stands B
  have t_spread := Y.c__law_spread (P := l.prog) (w := w) (base := base) d__law_spread B t_draw t_word
  have t_plain_so := Y.c__law_plain_so (P := l.prog) (w := w) (base := base) d__law_plain_so B t_stands
  have t_made := Y.c__law_made_word (P := l.prog) (w := w) (base := base) d__law_made_word B t_draw t_word t_spread
  have t_say0 := Y.c_is_saying0 (P := l.prog) (w := w) (base := base) d_is_saying B
  have step : ∀ n, Cal l.prog w K mg base (2 * n + 2) "is_saying" (spIsSaying n) [] → Cal l.prog w K mg base (2 * (n + 1) + 2) "is_saying" (spIsSaying (n + 1)) [] := fun n h =>
    Y.c_is_saying n d_is_saying B T (Y.c__is_part n d__is_part B h t_is_letter t_is_word t_is_choice t_is_between)
  have t_say : Cal l.prog w K mg base 14 "is_saying" (spIsSaying 6) [] := step 5 (step 4 (step 3 (step 2 (step 1 (step 0 t_say0)))))
  have t_stands_in := Y.c__stands_in (P := l.prog) (w := w) (base := base) d__stands_in B
  have t_so_plainly := Y.c__is_so_plainly (P := l.prog) (w := w) (base := base) d__is_so_plainly B t_stands_in
  have t_so := Y.c__is_so (P := l.prog) (w := w) (base := base) d__is_so B t_so_plainly
  have t_check := Y.c__check (P := l.prog) (w := w) (base := base) d__check B t_is_letters t_say
  have t_holds := Y.c_holds (P := l.prog) (w := w) (base := base) d_holds B t_check t_is_word t_so
  exact Y.ok_law (fun_mk (st := s_law) l_law c_law k_law) B t_hand t_some t_plain t_made t_flag t_plain_so t_holds
theorem walk {l : PySem.W.OpenLaw} {q : Program} {loose : List Str} {XP : (Str → Option Value) → Heap → Prop} {YP : World → Heap → Prop} {d : DefRec} {K : Params → PySem.W.Frag} (hn : l.most = some 63) (hdf : d.params.defaults = [])
    (hY : ∀ (w : World) (h : Heap), YP w h → (K w.params).In h)
    (F : ∀ (w : World) (mg : Str → Option Value) (fa : Addr) (h : Heap), (K w.params).In h → h.Ns mainGlobals mg → mg d.name = some (.ref fa) →
      ∃ fd : FuncData, (∀ (s : Shared) (u : Value), BindsTo s fd ⟨[u], []⟩ [("_law_script", u)]) ∧ ∀ base : Heap, (K w.params).In base → base.Ns mainGlobals mg → FnOk l.prog w (K w.params) mg base CX0 17 fa fd ["_law_script"] (spLaw (K w.params))) :
    PySem.W.WalkO q loose XP YP l.row.toRowW d [] (fun f vs => PySem.call f vs) :=
  L2.walk_of (n := 63) (k := 17) (x := "_law_script") (CX := fun _ => CX0) (sp := fun w => spLaw (K w.params)) hn (by decide) hdf ⟨rfl, by decide, by decide⟩ hY F (fun _ _ a ns hl _ hS => ⟨a, ns, rfl, hS, hl, fun _ => rfl⟩) fun _ _ _ _ _ z => z
end Y
open PySem PySem.W PyProof.Rows
set_option maxRecDepth 100000 in
set_option maxHeartbeats 0 in
theorem PySem.Challenge.cw_saidacross_k07_plain_sayings_of_words_holds : PySem.Challenge.rw_saidacross_k07_plain_sayings_of_words.Holds := by
  w_on; o_law; k_head; (case hw => w_witness2)
  k_fill
  refine Y.walk (l := PySem.Challenge.rw_saidacross_k07_plain_sayings_of_words) rfl rfl (fun w h Y => PySem.W.kIn_of Y) ?F
  case F =>
    intro w mg fa h KX G hmg
    refine' Y.all_mk KX G hmg ?a_is_integer ?l_is_integer ?c_is_integer ?k_is_integer ?a_is_between ?l_is_between ?c_is_between ?k_is_between ?a_is_ascending ?l_is_ascending ?c_is_ascending ?k_is_ascending ?a_is_letters ?l_is_letters ?c_is_letters ?k_is_letters ?a_is_word ?l_is_word ?c_is_word ?k_is_word ?a_is_letter ?l_is_letter ?c_is_letter ?k_is_letter ?a_is_choice ?l_is_choice ?c_is_choice ?k_is_choice ?a_is_saying ?l_is_saying ?c_is_saying ?k_is_saying ?a__is_part ?l__is_part ?c__is_part ?k__is_part ?a_holds ?l_holds ?c_holds ?k_holds ?a__check ?l__check ?c__check ?k__check ?a__is_so ?l__is_so ?c__is_so ?k__is_so ?a__is_so_cut ?l__is_so_cut ?c__is_so_cut ?k__is_so_cut ?a__is_so_plainly ?l__is_so_plainly ?c__is_so_plainly ?k__is_so_plainly ?a__stands_in ?l__stands_in ?c__stands_in ?k__stands_in ?a__law_hand ?l__law_hand ?c__law_hand ?k__law_hand ?a__law_draw ?l__law_draw ?c__law_draw ?k__law_draw ?a__law_letters ?l__law_letters ?c__law_letters ?k__law_letters ?a__law_word ?l__law_word ?c__law_word ?k__law_word ?a__law_plain ?l__law_plain ?c__law_plain ?k__law_plain ?a__law_stands ?l__law_stands ?c__law_stands ?k__law_stands ?a__law_plain_so ?l__law_plain_so ?c__law_plain_so ?k__law_plain_so ?a__law_some_letters ?l__law_some_letters ?c__law_some_letters ?k__law_some_letters ?a__law_flag ?l__law_flag ?c__law_flag ?k__law_flag ?a__law_spread ?l__law_spread ?c__law_spread ?k__law_spread ?a__law_made_word ?l__law_made_word ?c__law_made_word ?k__law_made_word ?a_law ?l_law ?c_law ?k_law ?z_range ?z_len ?z_abs ?z_int ?z_str ?z_bool ?z_list ?z_tuple ?z_dict ?z_set ?z_isinstance ?z_all ?z_any ?z_sum ?z_max ?z_min ?z_sorted ?z_zip ?z_enumerate ?z_reversed ?a_FORMS ?l_FORMS ?fv_first ?fu_first ?fv_last ?fu_last ?fv_count ?fu_count ?fv_least ?fu_least ?fv_in ?fu_in ?fv_row ?fu_row ?fv_only ?fu_only ?fv_not ?fu_not ?fv_and ?fu_and ?fv_or ?fu_or ?fv_cut ?fu_cut ?fv_cutlast ?fu_cutlast ?g_lit ?g_low ?g_keys ?gs_first ?gv_first ?gs_last ?gv_last ?gs_count ?gv_count ?gs_least ?gv_least ?gs_in ?gv_in ?gs_row ?gv_row ?gs_only ?gv_only ?gs_not ?gv_not ?gs_and ?gv_and ?gs_or ?gv_or ?gs_cut ?gv_cut ?gs_cutlast ?gv_cutlast
    (case a_is_integer => k_is)
    (case l_is_integer => k_is)
    (case c_is_integer => k_is)
    (case k_is_integer => k_is)
    (case a_is_between => k_is)
    (case l_is_between => k_is)
    (case c_is_between => k_is)
    (case k_is_between => k_is)
    (case a_is_ascending => k_is)
    (case l_is_ascending => k_is)
    (case c_is_ascending => k_is)
    (case k_is_ascending => k_is)
    (case a_is_letters => k_is)
    (case l_is_letters => k_is)
    (case c_is_letters => k_is)
    (case k_is_letters => k_is)
    (case a_is_word => k_is)
    (case l_is_word => k_is)
    (case c_is_word => k_is)
    (case k_is_word => k_is)
    (case a_is_letter => k_is)
    (case l_is_letter => k_is)
    (case c_is_letter => k_is)
    (case k_is_letter => k_is)
    (case a_is_choice => k_is)
    (case l_is_choice => k_is)
    (case c_is_choice => k_is)
    (case k_is_choice => k_is)
    (case a_is_saying => k_is)
    (case l_is_saying => k_is)
    (case c_is_saying => k_is)
    (case k_is_saying => k_is)
    (case a__is_part => k_is)
    (case l__is_part => k_is)
    (case c__is_part => k_is)
    (case k__is_part => k_is)
    (case a_holds => k_is)
    (case l_holds => k_is)
    (case c_holds => k_is)
    (case k_holds => k_is)
    (case a__check => k_is)
    (case l__check => k_is)
    (case c__check => k_is)
    (case k__check => k_is)
    (case a__is_so => k_is)
    (case l__is_so => k_is)
    (case c__is_so => k_is)
    (case k__is_so => k_is)
    (case a__is_so_cut => k_is)
    (case l__is_so_cut => k_is)
    (case c__is_so_cut => k_is)
    (case k__is_so_cut => k_is)
    (case a__is_so_plainly => k_is)
    (case l__is_so_plainly => k_is)
    (case c__is_so_plainly => k_is)
    (case k__is_so_plainly => k_is)
    (case a__stands_in => k_is)
    (case l__stands_in => k_is)
    (case c__stands_in => k_is)
    (case k__stands_in => k_is)
    (case a__law_hand => k_is)
    (case l__law_hand => k_is)
    (case c__law_hand => k_is)
    (case k__law_hand => k_is)
    (case a__law_draw => k_is)
    (case l__law_draw => k_is)
    (case c__law_draw => k_is)
    (case k__law_draw => k_is)
    (case a__law_letters => k_is)
    (case l__law_letters => k_is)
    (case c__law_letters => k_is)
    (case k__law_letters => k_is)
    (case a__law_word => k_is)
    (case l__law_word => k_is)
    (case c__law_word => k_is)
    (case k__law_word => k_is)
    (case a__law_plain => k_is)
    (case l__law_plain => k_is)
    (case c__law_plain => k_is)
    (case k__law_plain => k_is)
    (case a__law_stands => k_is)
    (case l__law_stands => k_is)
    (case c__law_stands => k_is)
    (case k__law_stands => k_is)
    (case a__law_plain_so => k_is)
    (case l__law_plain_so => k_is)
    (case c__law_plain_so => k_is)
    (case k__law_plain_so => k_is)
    (case a__law_some_letters => k_is)
    (case l__law_some_letters => k_is)
    (case c__law_some_letters => k_is)
    (case k__law_some_letters => k_is)
    (case a__law_flag => k_is)
    (case l__law_flag => k_is)
    (case c__law_flag => k_is)
    (case k__law_flag => k_is)
    (case a__law_spread => k_is)
    (case l__law_spread => k_is)
    (case c__law_spread => k_is)
    (case k__law_spread => k_is)
    (case a__law_made_word => k_is)
    (case l__law_made_word => k_is)
    (case c__law_made_word => k_is)
    (case k__law_made_word => k_is)
    (case a_law => k_is)
    (case l_law => k_is)
    (case c_law => k_is)
    (case k_law => k_is)
    (case z_range => k_is)
    (case z_len => k_is)
    (case z_abs => k_is)
    (case z_int => k_is)
    (case z_str => k_is)
    (case z_bool => k_is)
    (case z_list => k_is)
    (case z_tuple => k_is)
    (case z_dict => k_is)
    (case z_set => k_is)
    (case z_isinstance => k_is)
    (case z_all => k_is)
    (case z_any => k_is)
    (case z_sum => k_is)
    (case z_max => k_is)
    (case z_min => k_is)
    (case z_sorted => k_is)
    (case z_zip => k_is)
    (case z_enumerate => k_is)
    (case z_reversed => k_is)
    (case a_FORMS => k_is)
    (case l_FORMS => k_is)
    (case fv_first => k_is)
    (case fu_first => k_is)
    (case fv_last => k_is)
    (case fu_last => k_is)
    (case fv_count => k_is)
    (case fu_count => k_is)
    (case fv_least => k_is)
    (case fu_least => k_is)
    (case fv_in => k_is)
    (case fu_in => k_is)
    (case fv_row => k_is)
    (case fu_row => k_is)
    (case fv_only => k_is)
    (case fu_only => k_is)
    (case fv_not => k_is)
    (case fu_not => k_is)
    (case fv_and => k_is)
    (case fu_and => k_is)
    (case fv_or => k_is)
    (case fu_or => k_is)
    (case fv_cut => k_is)
    (case fu_cut => k_is)
    (case fv_cutlast => k_is)
    (case fu_cutlast => k_is)
    (case g_lit => exact ⟨⟨_, _, rfl, rfl⟩, ⟨_, _, rfl, rfl⟩, ⟨_, _, rfl, rfl⟩, ⟨_, _, rfl, rfl⟩, ⟨_, _, rfl, rfl⟩, ⟨_, _, rfl, rfl⟩, ⟨_, _, rfl, rfl⟩, ⟨_, _, rfl, rfl⟩, ⟨_, _, rfl, rfl⟩, ⟨_, _, rfl, rfl⟩, ⟨_, _, rfl, rfl⟩, ⟨_, _, rfl, rfl⟩, trivial⟩)
    (case g_low => rfl)
    (case g_keys => rfl)
    (case gs_first => exact Z.le_line (by decide))
    (case gv_first => exact .cons ⟨_, rfl⟩ (.nil))
    (case gs_last => exact Z.le_line (by decide))
    (case gv_last => exact .cons ⟨_, rfl⟩ (.nil))
    (case gs_count => exact Z.le_line (by decide))
    (case gv_count => exact .cons ⟨_, rfl⟩ (.cons ⟨_, rfl⟩ (.cons ⟨_, rfl⟩ (.nil))))
    (case gs_least => exact Z.le_line (by decide))
    (case gv_least => exact .cons ⟨_, rfl⟩ (.cons ⟨_, rfl⟩ (.nil)))
    (case gs_in => exact Z.le_line (by decide))
    (case gv_in => exact .cons ⟨_, rfl⟩ (.nil))
    (case gs_row => exact Z.le_line (by decide))
    (case gv_row => exact .cons ⟨_, rfl⟩ (.nil))
    (case gs_only => exact Z.le_line (by decide))
    (case gv_only => exact .cons ⟨_, rfl⟩ (.nil))
    (case gs_not => exact Z.le_line (by decide))
    (case gv_not => exact .cons ⟨_, rfl⟩ (.nil))
    (case gs_and => exact Z.le_line (by decide))
    (case gv_and => exact .cons ⟨_, rfl⟩ (.cons ⟨_, rfl⟩ (.nil)))
    (case gs_or => exact Z.le_line (by decide))
    (case gv_or => exact .cons ⟨_, rfl⟩ (.cons ⟨_, rfl⟩ (.nil)))
    (case gs_cut => exact Z.le_line (by decide))
    (case gv_cut => exact .cons ⟨_, rfl⟩ (.cons ⟨_, rfl⟩ (.cons ⟨_, rfl⟩ (.nil))))
    (case gs_cutlast => exact Z.le_line (by decide))
    (case gv_cutlast => exact .cons ⟨_, rfl⟩ (.cons ⟨_, rfl⟩ (.cons ⟨_, rfl⟩ (.nil))))
