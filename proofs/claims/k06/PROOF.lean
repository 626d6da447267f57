import PyProof.Rows.All
import Wide.All
import OpenK.AllK
import Wide.FinOn
import HandS.ForMost
import HandS.ForExc
import HandS.StrMore
import HandS.Zip
import HandS.IsInst
import HandS.Conv
import HandS.Codes
import HandS.Evl
import HandS.Wide
import HandS.Replace
import HandS.Walk
import HandS.More
import HandS.TupAny
import KE.GoesZip
import KE.GoesMore
import PySem.Challenge.RW_saidacross_k06_whole_words_said_far
import HandS.Small
import HandS.TryMany
import HandS.Style
set_option Elab.async false
set_option linter.all false
set_option maxRecDepth 100000
set_option maxHeartbeats 4000000
namespace Z
open PySem PySem.Spec PyProof.Rows L2
open C8 (tCut pss_cut Cal pe_c Met pe_mt pe_mt0 Mak pe_mk)
/-! ### texts as lists of codes -/
abbrev S (l : List Nat) : Str := ⟨l.toArray⟩
abbrev codes (w : Str) : List Nat := w.cps.toList
theorem S_codes (w : Str) : S (codes w) = w := rfl
theorem codes_S (l : List Nat) : codes (S l) = l := rfl
theorem S_len (l : List Nat) : (S l).length = l.length := by show l.toArray.size = _; simp
theorem S_inj {a b : List Nat} (h : S a = S b) : a = b := by
  have := congrArg codes h
  simpa using this
theorem S_app (a b : List Nat) : S a ++ S b = S (a ++ b) := by
  show (⟨a.toArray ++ b.toArray⟩ : Str) = _
  simp [S]
/-! ### readings under names, and how one goes into them -/
def zAdd : R2 := rI0 fun i j => .int (i + j)
def zSub : R2 := rI0 fun i j => .int (i - j)
def zMul : R2 := rI CMul fun i j => .int (i * j)
def zMod : R2 := rI (fun _ j => 0 < j) fun i j => .int (i % j)
def zDiv : R2 := rI CDivW fun i j => .int (i / j)
def zPow : R2 := rI CPow fun i j => .int (i ^ Int.toNat j)
def zAddS : R2 := fun x y H Q => ∃ i j : Str, x = V.str i ∧ y = V.str j ∧ i.length + j.length ≤ sizeLine ∧ Q (V.str (i ++ j)) H
def zLt : R2 := rI0 fun i j => .bl (decide (i < j))
def zLe : R2 := rI0 fun i j => .bl (decide (i ≤ j))
def zGt : R2 := rI0 fun i j => .bl (decide (j < i))
def zGe : R2 := rI0 fun i j => .bl (decide (j ≤ i))
def zLtS : R2 := fun x y H Q => ∃ i j : Str, x = V.str i ∧ y = V.str j ∧ Q (V.bl (decide (i.cps.toList < j.cps.toList))) H
def zLeS : R2 := fun x y H Q => ∃ i j : Str, x = V.str i ∧ y = V.str j ∧ Q (V.bl (!decide (j.cps.toList < i.cps.toList))) H
def zInS : R2 := fun x y H Q => ∃ (c : Nat) (z : Str), x = V.str ⟨#[c]⟩ ∧ y = V.str z ∧ Q (V.bl (decide (c ∈ z.cps.toList))) H
def zNInS : R2 := fun x y H Q => ∃ (c : Nat) (z : Str), x = V.str ⟨#[c]⟩ ∧ y = V.str z ∧ Q (V.bl (!decide (c ∈ z.cps.toList))) H
section
variable {X : Cx}
theorem z_add : OpR X (binaryOp .Add) zAdd := op_add
theorem z_sub : OpR X (binaryOp .Sub) zSub := op_sub
theorem z_mul : OpR X (binaryOp .Mult) zMul := op_mul
theorem z_mod : OpR X (binaryOp .Mod) zMod := op_mod
theorem z_div : OpR X (binaryOp .FloorDiv) zDiv := op_fdivW
theorem z_pow : OpR X (binaryOp .Pow) zPow := op_pow
theorem z_adds : OpR X (binaryOp .Add) zAddS := op_add_str
theorem z_lt : OpR X (compareOp .Lt) zLt := op_lt
theorem z_le : OpR X (compareOp .LtE) zLe := op_le
theorem z_gt : OpR X (compareOp .Gt) zGt := op_gt
theorem z_ge : OpR X (compareOp .GtE) zGe := op_ge
theorem z_lts : OpR X (compareOp .Lt) zLtS := op_lt_str
theorem z_les : OpR X (compareOp .LtE) zLeS := op_le_str
theorem z_ins : OpR X (compareOp .In) zInS := op_in_sign
theorem z_nins : OpR X (compareOp .NotIn) zNInS := op_notIn_sign
end
/-- what a boolean value is for what follows -/
def KB (x : V) (P : Bool → Prop) : Prop := ∃ c, x = V.bl c ∧ P c
theorem i_KB {b : Bool} {P : Bool → Prop} (h : P b) : KB (.bl b) P := ⟨b, rfl, h⟩
section
variable {σ : L2.St} {H : Hp} {Q : VK} {D : Ends} {K : PySem.W.Frag} {ta tb tc te : TE} {t u : TS} {r r' : R2} {i j : Int} {a b : List Nat} {x y v : V} {P : V → Hp → Prop}
theorem i_var {n : Nat} (h : σ[n]? = some (some v)) (q : Q v H) : tVar n σ H Q := ⟨v, h, q⟩
theorem i_c (q : Q v H) : tC v σ H Q := q
theorem i_cs {w : Str} (q : Q (.str (S (codes w))) H) : tC (.str w) σ H Q := q
theorem i_op (q : ta σ H fun x H1 => tb σ H1 fun y H2 => r x y H2 Q) : tOp r ta tb σ H Q := q
theorem i_un {r : V → Hp → VK → Prop} (q : ta σ H fun x H1 => r x H1 Q) : tUn r ta σ H Q := q
theorem i_add (q : Q (.int (i + j)) H) : zAdd (.int i) (.int j) H Q := ⟨i, j, rfl, rfl, q⟩
theorem i_sub (q : Q (.int (i - j)) H) : zSub (.int i) (.int j) H Q := ⟨i, j, rfl, rfl, q⟩
theorem i_mul (h : -2 ^ 64 < i ∧ i < 2 ^ 64 ∨ -2 ^ 64 < j ∧ j < 2 ^ 64) (q : Q (.int (i * j)) H) : zMul (.int i) (.int j) H Q := ⟨i, j, rfl, rfl, h, q⟩
theorem i_mod (h : 0 < j) (q : Q (.int (i % j)) H) : zMod (.int i) (.int j) H Q := ⟨i, j, rfl, rfl, h, q⟩
theorem i_div (h : CDivW i j) (q : Q (.int (i / j)) H) : zDiv (.int i) (.int j) H Q := ⟨i, j, rfl, rfl, h, q⟩
theorem i_pow (h : CPow i j) (q : Q (.int (i ^ Int.toNat j)) H) : zPow (.int i) (.int j) H Q := ⟨i, j, rfl, rfl, h, q⟩
theorem i_adds (h : a.length + b.length ≤ 100000) (q : Q (.str (S (a ++ b))) H) : zAddS (.str (S a)) (.str (S b)) H Q :=
  ⟨_, _, rfl, rfl, by rw [S_len, S_len]; exact Nat.le_trans h (by decide), by rw [S_app]; exact q⟩
theorem i_lt (q : Q (.bl (decide (i < j))) H) : zLt (.int i) (.int j) H Q := ⟨i, j, rfl, rfl, q⟩
theorem i_le (q : Q (.bl (decide (i ≤ j))) H) : zLe (.int i) (.int j) H Q := ⟨i, j, rfl, rfl, q⟩
theorem i_gt (q : Q (.bl (decide (j < i))) H) : zGt (.int i) (.int j) H Q := ⟨i, j, rfl, rfl, q⟩
theorem i_ge (q : Q (.bl (decide (j ≤ i))) H) : zGe (.int i) (.int j) H Q := ⟨i, j, rfl, rfl, q⟩
theorem i_lts (q : Q (.bl (decide (a < b))) H) : zLtS (.str (S a)) (.str (S b)) H Q := ⟨_, _, rfl, rfl, q⟩
theorem i_les (q : Q (.bl (!decide (b < a))) H) : zLeS (.str (S a)) (.str (S b)) H Q := ⟨_, _, rfl, rfl, q⟩
theorem i_ins {c : Nat} (q : Q (.bl (decide (c ∈ a))) H) : zInS (.str (S [c])) (.str (S a)) H Q := ⟨c, S a, rfl, rfl, q⟩
theorem i_nins {c : Nat} (q : Q (.bl (!decide (c ∈ a))) H) : zNInS (.str (S [c])) (.str (S a)) H Q := ⟨c, S a, rfl, rfl, q⟩
theorem i_eqI (q : Q (.bl (decide (i = j))) H) : rEq (.int i) (.int j) H Q := ⟨rfl, by have e : decide (V.int i = V.int j) = decide (i = j) := by simp
                                                                                       rw [e]; exact q⟩
theorem i_neI (q : Q (.bl (!decide (i = j))) H) : rNe (.int i) (.int j) H Q := ⟨rfl, by have e : decide (V.int i = V.int j) = decide (i = j) := by simp
                                                                                        rw [e]; exact q⟩
theorem eq_S : decide (V.str (S a) = V.str (S b)) = decide (a = b) := by
  by_cases h : a = b
  · subst h; simp
  · rw [decide_eq_false h]; exact decide_eq_false fun e => h (S_inj (V.str.inj e))
theorem i_eqS (q : Q (.bl (decide (a = b))) H) : rEq (.str (S a)) (.str (S b)) H Q := ⟨rfl, by rw [eq_S]; exact q⟩
theorem i_neS (q : Q (.bl (!decide (a = b))) H) : rNe (.str (S a)) (.str (S b)) H Q := ⟨rfl, by rw [eq_S]; exact q⟩
theorem i_eqB {c d : Bool} (q : Q (.bl (decide (c = d))) H) : rEq (.bl c) (.bl d) H Q := ⟨rfl, by have e : decide (V.bl c = V.bl d) = decide (c = d) := by simp
                                                                                                  rw [e]; exact q⟩
theorem i_neg (q : Q (.int (-i)) H) : rU (fun i => V.int (-i)) (.int i) H Q := ⟨i, rfl, q⟩
/-! booleans as values -/
theorem i_and (q : ta σ H fun x H1 => KB x fun c => if c = true then tb σ H1 Q else Q (.bl false) H1) : tAndV ta tb σ H Q := q
theorem i_or (q : ta σ H fun x H1 => KB x fun c => if c = true then Q (.bl true) H1 else tb σ H1 Q) : tOrV ta tb σ H Q := q
theorem i_not (q : ta σ H fun x H1 => KB x fun c => Q (.bl (!c)) H1) : tNotV ta σ H Q := q
theorem i_chain (q : ta σ H fun x H1 => tb σ H1 fun y H2 => r x y H2 fun z H3 => KB z fun k => if k = true then tc σ H3 fun w' H4 => r' y w' H4 Q else Q (.bl false) H3) : tChain r r' ta tb tc σ H Q := q
theorem i_tB {R : Bool → Hp → Prop} (q : te σ H fun x H1 => KB x fun c => R c H1) : tB te σ H R := q
theorem i_ifS {c : TT} (q : c σ H fun b H1 => if b = true then t D σ H1 else u D σ H1) : tIfS c t u D σ H := q
theorem i_if {c : TT} (q : c σ H fun b H1 => if b = true then ta σ H1 Q else tb σ H1 Q) : tIf c ta tb σ H Q := q
theorem i_test {R : Bool → Hp → Prop} (q : te σ H fun x H1 => KB x fun c => R c H1) : tTest te σ H R := q
theorem i_tand {c d : TT} {R : Bool → Hp → Prop} (q : c σ H fun b H1 => if b = true then d σ H1 R else R false H1) : tAnd c d σ H R := q
theorem i_tor {c d : TT} {R : Bool → Hp → Prop} (q : c σ H fun b H1 => if b = true then R true H1 else d σ H1 R) : tOr c d σ H R := q
theorem i_tnot {c : TT} {R : Bool → Hp → Prop} (q : c σ H fun b H1 => R (!b) H1) : tNot c σ H R := q
theorem brb {c : Bool} {A B : Prop} (h1 : c = true → A) (h2 : c = false → B) : if c = true then A else B := by
  cases c
  · exact iteF (h2 rfl)
  · exact iteT (h1 rfl)
theorem brd {p : Prop} [Decidable p] {A B : Prop} (h1 : p → A) (h2 : ¬ p → B) : if decide p = true then A else B := by
  by_cases h : p
  · rw [decide_eq_true h]; exact iteT (h1 h)
  · rw [decide_eq_false h]; exact iteF (h2 h)
theorem brn {p : Prop} [Decidable p] {A B : Prop} (h1 : ¬ p → A) (h2 : p → B) : if (!decide p) = true then A else B := by
  by_cases h : p
  · rw [decide_eq_true h]; exact iteF (h2 h)
  · rw [decide_eq_false h]; exact iteT (h1 h)
/-! arguments, calls, displays -/
theorem i_nil {R : List V → Hp → Prop} (q : R [] H) : tNil σ H R := q
theorem i_cons {tr : TA} {R : List V → Hp → Prop} (q : ta σ H fun x H1 => tr σ H1 fun xs H2 => R (x :: xs) H2) : tCons ta tr σ H R := q
theorem i_call {sp : Sp} {dvs : List V} {E : XK} {t : TA} (q : t σ H fun vs H1 => sp (vs ++ dvs) H1 Q E) : tCall sp dvs E t σ H Q := q
theorem i_cb {r : List V → Hp → VK → Prop} {t : TA} (q : t σ H fun vs H1 => r vs H1 Q) : tCB r t σ H Q := q
theorem i_tup {t : TA} (q : t σ H fun xs H1 => xs.length ≤ sizeLine ∧ ∀ p, H1 p = none → Q (.ref p) (upd H1 p (.tup xs))) : tTup t σ H Q := q
theorem i_lst {t : TA} (q : t σ H fun xs H1 => xs.length ≤ sizeLine ∧ ∀ p, H1 p = none → Q (.ref p) (upd H1 p (.lst xs))) : tLst t σ H Q := q
theorem i_bm {T : String} {r : V → List V → Hp → VK → Prop} {t : TA} (q : ta σ H fun x H1 => tyV K T x H1 ∧ t σ H1 fun xs H2 => r x xs H2 Q) : tBM K T r ta t σ H Q := q
theorem i_bm0 {T : String} {r : V → List V → Hp → VK → Prop} (q : ta σ H fun x H1 => tyV K T x H1 ∧ r x [] H1 Q) : tBM0 K T r ta σ H Q := q
theorem i_sl {r : V → Option Int → Option Int → Hp → VK → Prop} {tl th : TO} (q : te σ H fun x H1 => tl σ H1 fun l H2 => th σ H2 fun u H3 => r x l u H3 Q) : L2.tSl r te tl th σ H Q := q
theorem i_po0 {R : Option Int → Hp → Prop} (q : R none H) : tNoPart σ H R := q
def KI (x : V) (P : Int → Prop) : Prop := ∃ i, x = V.int i ∧ P i
theorem i_KI {P : Int → Prop} (h : P i) : KI (.int i) P := ⟨i, rfl, h⟩
theorem i_po1 {R : Option Int → Hp → Prop} (q : te σ H fun x H1 => KI x fun i => R (some i) H1) : tPart te σ H R := q
/-! statements -/
theorem i_seq (q : t { D with nx := u D } σ H) : tSeq t u D σ H := q
theorem i_next (q : D.nx σ H) : tNext D σ H := q
theorem i_asg {g : TG} (q : te σ H fun x H1 => g x σ H1 D.nx) : tAsg te g D σ H := q
theorem i_gname {n : Nat} {R : L2.St → Hp → Prop} (q : R (σ.set n (some v)) H) : gName n v σ H R := q
theorem i_ret (q : te σ H D.rt) : tRet te D σ H := q
theorem i_retN (q : D.rt .non H) : tRetN D σ H := q
theorem i_drop (q : te σ H fun _ H1 => D.nx σ H1) : tDrop te D σ H := q
theorem i_brk (q : D.bk σ H) : tBreak D σ H := q
theorem i_cont (q : D.ct σ H) : tCont D σ H := q
theorem i_gsub {to ti : TE} {s : TSet} {R : L2.St → Hp → Prop} (q : to σ H fun o H1 => ti σ H1 fun i H2 => s o i v H2 fun H3 => R σ H3) : gSub to ti s v σ H R := q
/-! loops -/
def FOR (J : It) (g : TG) (tb : TS) (D : Ends) (σ : L2.St) (H : Hp) : Prop := ∃ W : Nat → Nat → L2.St → Hp → Prop, (∃ m, W 0 m σ H) ∧ ∀ i m σ H, W i m σ H →
  (J.stop i H ∧ D.nx σ H) ∨ (J.go i H ∧ ∃ N : L2.St → Hp → Prop, (∀ σ' H', N σ' H' → ∃ m', m' < m ∧ W (i + 1) m' σ' H') ∧ ∀ x H', J.yld i H x H' → g x σ H' fun σ2 H2 => tb { D with nx := N, ct := N, bk := D.nx } σ2 H2)
theorem i_for {wi : TI} {g : TG} {tb : TS} (q : wi σ H fun J H1 => FOR J g tb D σ H1) : tFor wi g tb D σ H := q
def LC (J : It) (g : TG) (tt : TT) (te : TE) (vs : List Nat) (σ : L2.St) (H1 : Hp) (Q : VK) (D : Addr) : Prop := ∃ W : Nat → Nat → Hp → Prop, (∃ m, W 0 m (upd H1 D (.lst []))) ∧ ∀ i m H, W i m H →
  (J.stop i H ∧ Q (.ref D) H) ∨ (J.go i H ∧ ∃ Nx : Hp → Prop, (∀ H', Nx H' → ∃ m', m' < m ∧ W (i + 1) m' H') ∧ ∀ x H', J.yld i H x H' → g x (wipe σ vs) H' fun σ2 H2 => wipe σ2 vs = wipe σ vs ∧ tt σ2 H2 fun b H3 =>
    if b = true then te σ2 H3 fun y H4 => ∃ acc, H4 D = some (.lst acc) ∧ acc.length < sizeLine ∧ Nx (upd H4 D (.lst (acc ++ [y]))) else Nx H3)
theorem i_lc {wi : TI} {g : TG} {tt : TT} {vs : List Nat} (q : wi σ H fun J H1 => ∀ D, H1 D = none → LC J g tt te vs σ H1 Q D) : tLc wi g tt te vs σ H Q := q
theorem i_yes {R : Bool → Hp → Prop} (q : R true H) : tYes σ H R := q
def KR1 (vs : List V) (P : Int → Prop) : Prop := ∃ j : Int, vs = [.int j] ∧ -(2 ^ 62) ≤ j ∧ j < 2 ^ 62 ∧ P j
theorem i_r1 {ta : TA} {R : It → Hp → Prop} (q : ta σ H fun vs H1 => KR1 vs fun j => R (Itr 0 j.toNat) H1) : iRng1 ta σ H R := q
theorem i_KR1 {P : Int → Prop} (h : -100000 ≤ j ∧ j ≤ 100000) (q : P j) : KR1 [.int j] P := ⟨j, rfl, by omega, by omega, q⟩
def KS (x : V) (P : Str → Prop) : Prop := ∃ z, x = V.str z ∧ P z
theorem i_KS {P : Str → Prop} (q : P (S a)) : KS (.str (S a)) P := ⟨_, rfl, q⟩
theorem i_istr {R : It → Hp → Prop} (q : te σ H fun x H1 => KS x fun z => R (Its z) H1) : iStr te σ H R := q
def KL (K : PySem.W.Frag) (x : V) (H1 : Hp) (P : Addr → Prop) : Prop := ∃ a, x = V.ref a ∧ (∃ xs, SqL K H1 a xs) ∧ P a
theorem i_ilist {R : It → Hp → Prop} (q : te σ H fun x H1 => KL K x H1 fun a => R (Itl K a) H1) : iList K te σ H R := q
theorem i_KL {a : Addr} {xs : List V} {P : Addr → Prop} (h : SqL K H a xs) (q : P a) : KL K (.ref a) H P := ⟨a, rfl, ⟨xs, h⟩, q⟩
def KT (K : PySem.W.Frag) (x : V) (H1 : Hp) (P : Addr → Prop) : Prop := ∃ a, x = V.ref a ∧ (∃ xs, SqT K H1 a xs) ∧ P a
theorem i_itup {R : It → Hp → Prop} (q : te σ H fun x H1 => KT K x H1 fun a => R (Itt K a) H1) : iTup K te σ H R := q
theorem i_KT {a : Addr} {xs : List V} {P : Addr → Prop} (h : SqT K H a xs) (q : P a) : KT K (.ref a) H P := ⟨a, rfl, ⟨xs, h⟩, q⟩
theorem l_for {J : It} {n : Nat} {G : Hp → Prop} {Y : Nat → Hp → V → Hp → Prop} (w : Walk J n G Y) {g : TG} {tb : TS} (Pv : Nat → L2.St → Hp → Prop) (h0 : Pv 0 σ H) (hG : ∀ i σ H, i ≤ n → Pv i σ H → G H)
    (hs : ∀ i x σ H H', i < n → Pv i σ H → Y i H x H' → g x σ H' fun σ2 H2 => tb { D with nx := Pv (i + 1), ct := Pv (i + 1), bk := D.nx } σ2 H2) (hd : ∀ σ H, Pv n σ H → D.nx σ H) : FOR J g tb D σ H :=
  for_it w Pv h0 hG hs hd
theorem l_range {n : Nat} {g : TG} {tb : TS} (Pv : Nat → L2.St → Hp → Prop) (h0 : Pv 0 σ H)
    (hs : ∀ i σ H, i < n → Pv i σ H → g (.int i) σ H fun σ2 H2 => tb { D with nx := Pv (i + 1), ct := Pv (i + 1), bk := D.nx } σ2 H2) (hd : ∀ σ H, Pv n σ H → D.nx σ H) : FOR (Itr 0 n) g tb D σ H :=
  for_range (lo := 0) Pv h0 (fun i σ H hi p => by rw [Int.zero_add]; exact hs i σ H hi p) hd
theorem l_str {g : TG} {tb : TS} (Pv : Nat → L2.St → Hp → Prop) (h0 : Pv 0 σ H)
    (hs : ∀ i c σ H, a[i]? = some c → Pv i σ H → g (.str (S [c])) σ H fun σ2 H2 => tb { D with nx := Pv (i + 1), ct := Pv (i + 1), bk := D.nx } σ2 H2) (hd : ∀ σ H, Pv a.length σ H → D.nx σ H) : FOR (Its (S a)) g tb D σ H :=
  for_it walk_str Pv h0 (fun _ _ _ _ _ => trivial) (fun i x σ H H' hi p y => by
    obtain ⟨e, c, hc, ex⟩ := y
    subst e; subst ex
    exact hs i c σ _ (by simpa using hc) p) fun σ H p => hd σ H (by simpa using p)
theorem l_lc {J : It} {n : Nat} {G : Hp → Prop} {Y : Nat → Hp → V → Hp → Prop} (w : Walk J n G Y) {g : TG} {tt : TT} {te : TE} {vs : List Nat} {Dl : Addr} (Pv : Nat → Hp → Prop) (h0 : Pv 0 (upd H Dl (.lst []))) (hG : ∀ i H, i ≤ n → Pv i H → G H)
    (hs : ∀ i x H H', i < n → Pv i H → Y i H x H' → g x (wipe σ vs) H' fun σ2 H2 => wipe σ2 vs = wipe σ vs ∧ tt σ2 H2 fun b H3 =>
      if b = true then te σ2 H3 fun y H4 => ∃ acc, H4 Dl = some (.lst acc) ∧ acc.length < sizeLine ∧ Pv (i + 1) (upd H4 Dl (.lst (acc ++ [y]))) else Pv (i + 1) H3) (hd : ∀ H, Pv n H → Q (.ref Dl) H) : LC J g tt te vs σ H Q Dl :=
  lc_it w Pv h0 hG hs hd
theorem l_lcstr {g : TG} {tt : TT} {te : TE} {vs : List Nat} {Dl : Addr} (Pv : Nat → Hp → Prop) (h0 : Pv 0 (upd H Dl (.lst [])))
    (hs : ∀ i c H, a[i]? = some c → Pv i H → g (.str (S [c])) (wipe σ vs) H fun σ2 H2 => wipe σ2 vs = wipe σ vs ∧ tt σ2 H2 fun b H3 =>
      if b = true then te σ2 H3 fun y H4 => ∃ acc, H4 Dl = some (.lst acc) ∧ acc.length < sizeLine ∧ Pv (i + 1) (upd H4 Dl (.lst (acc ++ [y]))) else Pv (i + 1) H3) (hd : ∀ H, Pv a.length H → Q (.ref Dl) H) : LC (Its (S a)) g tt te vs σ H Q Dl :=
  lc_it walk_str Pv h0 (fun _ _ _ _ => trivial) (fun i x H H' hi p y => by
    obtain ⟨e, c, hc, ex⟩ := y
    subst e; subst ex
    exact hs i c _ (by simpa using hc) p) fun H p => hd H (by simpa using p)
end
end Z
namespace Z
open PySem PySem.Spec PyProof.Rows L2
open C8 (tCut pss_cut Cal pe_c Met pe_mt pe_mt0 Mak pe_mk)
section
variable {H : Hp} {Q : VK} {v : V} {R : L2.St → Hp → Prop} {y : Option V} {r : L2.St}
theorem i_v0 (q : Q v H) : tVar 0 (some v :: r) H Q := ⟨v, rfl, q⟩
theorem i_g0 (q : R (some v :: r) H) : gName 0 v (y :: r) H R := q
theorem i_v1 {x0 : Option V} (q : Q v H) : tVar 1 (x0 :: some v :: r) H Q := ⟨v, rfl, q⟩
theorem i_g1 {x0 : Option V} (q : R (x0 :: some v :: r) H) : gName 1 v (x0 :: y :: r) H R := q
theorem i_v2 {x0 x1 : Option V} (q : Q v H) : tVar 2 (x0 :: x1 :: some v :: r) H Q := ⟨v, rfl, q⟩
theorem i_g2 {x0 x1 : Option V} (q : R (x0 :: x1 :: some v :: r) H) : gName 2 v (x0 :: x1 :: y :: r) H R := q
theorem i_v3 {x0 x1 x2 : Option V} (q : Q v H) : tVar 3 (x0 :: x1 :: x2 :: some v :: r) H Q := ⟨v, rfl, q⟩
theorem i_g3 {x0 x1 x2 : Option V} (q : R (x0 :: x1 :: x2 :: some v :: r) H) : gName 3 v (x0 :: x1 :: x2 :: y :: r) H R := q
theorem i_v4 {x0 x1 x2 x3 : Option V} (q : Q v H) : tVar 4 (x0 :: x1 :: x2 :: x3 :: some v :: r) H Q := ⟨v, rfl, q⟩
theorem i_g4 {x0 x1 x2 x3 : Option V} (q : R (x0 :: x1 :: x2 :: x3 :: some v :: r) H) : gName 4 v (x0 :: x1 :: x2 :: x3 :: y :: r) H R := q
theorem i_v5 {x0 x1 x2 x3 x4 : Option V} (q : Q v H) : tVar 5 (x0 :: x1 :: x2 :: x3 :: x4 :: some v :: r) H Q := ⟨v, rfl, q⟩
theorem i_g5 {x0 x1 x2 x3 x4 : Option V} (q : R (x0 :: x1 :: x2 :: x3 :: x4 :: some v :: r) H) : gName 5 v (x0 :: x1 :: x2 :: x3 :: x4 :: y :: r) H R := q
theorem i_v6 {x0 x1 x2 x3 x4 x5 : Option V} (q : Q v H) : tVar 6 (x0 :: x1 :: x2 :: x3 :: x4 :: x5 :: some v :: r) H Q := ⟨v, rfl, q⟩
theorem i_g6 {x0 x1 x2 x3 x4 x5 : Option V} (q : R (x0 :: x1 :: x2 :: x3 :: x4 :: x5 :: some v :: r) H) : gName 6 v (x0 :: x1 :: x2 :: x3 :: x4 :: x5 :: y :: r) H R := q
theorem i_v7 {x0 x1 x2 x3 x4 x5 x6 : Option V} (q : Q v H) : tVar 7 (x0 :: x1 :: x2 :: x3 :: x4 :: x5 :: x6 :: some v :: r) H Q := ⟨v, rfl, q⟩
theorem i_g7 {x0 x1 x2 x3 x4 x5 x6 : Option V} (q : R (x0 :: x1 :: x2 :: x3 :: x4 :: x5 :: x6 :: some v :: r) H) : gName 7 v (x0 :: x1 :: x2 :: x3 :: x4 :: x5 :: x6 :: y :: r) H R := q
theorem i_v8 {x0 x1 x2 x3 x4 x5 x6 x7 : Option V} (q : Q v H) : tVar 8 (x0 :: x1 :: x2 :: x3 :: x4 :: x5 :: x6 :: x7 :: some v :: r) H Q := ⟨v, rfl, q⟩
theorem i_g8 {x0 x1 x2 x3 x4 x5 x6 x7 : Option V} (q : R (x0 :: x1 :: x2 :: x3 :: x4 :: x5 :: x6 :: x7 :: some v :: r) H) : gName 8 v (x0 :: x1 :: x2 :: x3 :: x4 :: x5 :: x6 :: x7 :: y :: r) H R := q
theorem i_v9 {x0 x1 x2 x3 x4 x5 x6 x7 x8 : Option V} (q : Q v H) : tVar 9 (x0 :: x1 :: x2 :: x3 :: x4 :: x5 :: x6 :: x7 :: x8 :: some v :: r) H Q := ⟨v, rfl, q⟩
theorem i_g9 {x0 x1 x2 x3 x4 x5 x6 x7 x8 : Option V} (q : R (x0 :: x1 :: x2 :: x3 :: x4 :: x5 :: x6 :: x7 :: x8 :: some v :: r) H) : gName 9 v (x0 :: x1 :: x2 :: x3 :: x4 :: x5 :: x6 :: x7 :: x8 :: y :: r) H R := q
theorem i_v10 {x0 x1 x2 x3 x4 x5 x6 x7 x8 x9 : Option V} (q : Q v H) : tVar 10 (x0 :: x1 :: x2 :: x3 :: x4 :: x5 :: x6 :: x7 :: x8 :: x9 :: some v :: r) H Q := ⟨v, rfl, q⟩
theorem i_g10 {x0 x1 x2 x3 x4 x5 x6 x7 x8 x9 : Option V} (q : R (x0 :: x1 :: x2 :: x3 :: x4 :: x5 :: x6 :: x7 :: x8 :: x9 :: some v :: r) H) : gName 10 v (x0 :: x1 :: x2 :: x3 :: x4 :: x5 :: x6 :: x7 :: x8 :: x9 :: y :: r) H R := q
theorem i_v11 {x0 x1 x2 x3 x4 x5 x6 x7 x8 x9 x10 : Option V} (q : Q v H) : tVar 11 (x0 :: x1 :: x2 :: x3 :: x4 :: x5 :: x6 :: x7 :: x8 :: x9 :: x10 :: some v :: r) H Q := ⟨v, rfl, q⟩
theorem i_g11 {x0 x1 x2 x3 x4 x5 x6 x7 x8 x9 x10 : Option V} (q : R (x0 :: x1 :: x2 :: x3 :: x4 :: x5 :: x6 :: x7 :: x8 :: x9 :: x10 :: some v :: r) H) : gName 11 v (x0 :: x1 :: x2 :: x3 :: x4 :: x5 :: x6 :: x7 :: x8 :: x9 :: x10 :: y :: r) H R := q
theorem i_v12 {x0 x1 x2 x3 x4 x5 x6 x7 x8 x9 x10 x11 : Option V} (q : Q v H) : tVar 12 (x0 :: x1 :: x2 :: x3 :: x4 :: x5 :: x6 :: x7 :: x8 :: x9 :: x10 :: x11 :: some v :: r) H Q := ⟨v, rfl, q⟩
theorem i_g12 {x0 x1 x2 x3 x4 x5 x6 x7 x8 x9 x10 x11 : Option V} (q : R (x0 :: x1 :: x2 :: x3 :: x4 :: x5 :: x6 :: x7 :: x8 :: x9 :: x10 :: x11 :: some v :: r) H) : gName 12 v (x0 :: x1 :: x2 :: x3 :: x4 :: x5 :: x6 :: x7 :: x8 :: x9 :: x10 :: x11 :: y :: r) H R := q
theorem i_v13 {x0 x1 x2 x3 x4 x5 x6 x7 x8 x9 x10 x11 x12 : Option V} (q : Q v H) : tVar 13 (x0 :: x1 :: x2 :: x3 :: x4 :: x5 :: x6 :: x7 :: x8 :: x9 :: x10 :: x11 :: x12 :: some v :: r) H Q := ⟨v, rfl, q⟩
theorem i_g13 {x0 x1 x2 x3 x4 x5 x6 x7 x8 x9 x10 x11 x12 : Option V} (q : R (x0 :: x1 :: x2 :: x3 :: x4 :: x5 :: x6 :: x7 :: x8 :: x9 :: x10 :: x11 :: x12 :: some v :: r) H) : gName 13 v (x0 :: x1 :: x2 :: x3 :: x4 :: x5 :: x6 :: x7 :: x8 :: x9 :: x10 :: x11 :: x12 :: y :: r) H R := q
theorem i_v14 {x0 x1 x2 x3 x4 x5 x6 x7 x8 x9 x10 x11 x12 x13 : Option V} (q : Q v H) : tVar 14 (x0 :: x1 :: x2 :: x3 :: x4 :: x5 :: x6 :: x7 :: x8 :: x9 :: x10 :: x11 :: x12 :: x13 :: some v :: r) H Q := ⟨v, rfl, q⟩
theorem i_g14 {x0 x1 x2 x3 x4 x5 x6 x7 x8 x9 x10 x11 x12 x13 : Option V} (q : R (x0 :: x1 :: x2 :: x3 :: x4 :: x5 :: x6 :: x7 :: x8 :: x9 :: x10 :: x11 :: x12 :: x13 :: some v :: r) H) : gName 14 v (x0 :: x1 :: x2 :: x3 :: x4 :: x5 :: x6 :: x7 :: x8 :: x9 :: x10 :: x11 :: x12 :: x13 :: y :: r) H R := q
theorem i_v15 {x0 x1 x2 x3 x4 x5 x6 x7 x8 x9 x10 x11 x12 x13 x14 : Option V} (q : Q v H) : tVar 15 (x0 :: x1 :: x2 :: x3 :: x4 :: x5 :: x6 :: x7 :: x8 :: x9 :: x10 :: x11 :: x12 :: x13 :: x14 :: some v :: r) H Q := ⟨v, rfl, q⟩
theorem i_g15 {x0 x1 x2 x3 x4 x5 x6 x7 x8 x9 x10 x11 x12 x13 x14 : Option V} (q : R (x0 :: x1 :: x2 :: x3 :: x4 :: x5 :: x6 :: x7 :: x8 :: x9 :: x10 :: x11 :: x12 :: x13 :: x14 :: some v :: r) H) : gName 15 v (x0 :: x1 :: x2 :: x3 :: x4 :: x5 :: x6 :: x7 :: x8 :: x9 :: x10 :: x11 :: x12 :: x13 :: x14 :: y :: r) H R := q
theorem i_v16 {x0 x1 x2 x3 x4 x5 x6 x7 x8 x9 x10 x11 x12 x13 x14 x15 : Option V} (q : Q v H) : tVar 16 (x0 :: x1 :: x2 :: x3 :: x4 :: x5 :: x6 :: x7 :: x8 :: x9 :: x10 :: x11 :: x12 :: x13 :: x14 :: x15 :: some v :: r) H Q := ⟨v, rfl, q⟩
theorem i_g16 {x0 x1 x2 x3 x4 x5 x6 x7 x8 x9 x10 x11 x12 x13 x14 x15 : Option V} (q : R (x0 :: x1 :: x2 :: x3 :: x4 :: x5 :: x6 :: x7 :: x8 :: x9 :: x10 :: x11 :: x12 :: x13 :: x14 :: x15 :: some v :: r) H) : gName 16 v (x0 :: x1 :: x2 :: x3 :: x4 :: x5 :: x6 :: x7 :: x8 :: x9 :: x10 :: x11 :: x12 :: x13 :: x14 :: x15 :: y :: r) H R := q
theorem i_v17 {x0 x1 x2 x3 x4 x5 x6 x7 x8 x9 x10 x11 x12 x13 x14 x15 x16 : Option V} (q : Q v H) : tVar 17 (x0 :: x1 :: x2 :: x3 :: x4 :: x5 :: x6 :: x7 :: x8 :: x9 :: x10 :: x11 :: x12 :: x13 :: x14 :: x15 :: x16 :: some v :: r) H Q := ⟨v, rfl, q⟩
theorem i_g17 {x0 x1 x2 x3 x4 x5 x6 x7 x8 x9 x10 x11 x12 x13 x14 x15 x16 : Option V} (q : R (x0 :: x1 :: x2 :: x3 :: x4 :: x5 :: x6 :: x7 :: x8 :: x9 :: x10 :: x11 :: x12 :: x13 :: x14 :: x15 :: x16 :: some v :: r) H) : gName 17 v (x0 :: x1 :: x2 :: x3 :: x4 :: x5 :: x6 :: x7 :: x8 :: x9 :: x10 :: x11 :: x12 :: x13 :: x14 :: x15 :: x16 :: y :: r) H R := q
theorem i_v18 {x0 x1 x2 x3 x4 x5 x6 x7 x8 x9 x10 x11 x12 x13 x14 x15 x16 x17 : Option V} (q : Q v H) : tVar 18 (x0 :: x1 :: x2 :: x3 :: x4 :: x5 :: x6 :: x7 :: x8 :: x9 :: x10 :: x11 :: x12 :: x13 :: x14 :: x15 :: x16 :: x17 :: some v :: r) H Q := ⟨v, rfl, q⟩
theorem i_g18 {x0 x1 x2 x3 x4 x5 x6 x7 x8 x9 x10 x11 x12 x13 x14 x15 x16 x17 : Option V} (q : R (x0 :: x1 :: x2 :: x3 :: x4 :: x5 :: x6 :: x7 :: x8 :: x9 :: x10 :: x11 :: x12 :: x13 :: x14 :: x15 :: x16 :: x17 :: some v :: r) H) : gName 18 v (x0 :: x1 :: x2 :: x3 :: x4 :: x5 :: x6 :: x7 :: x8 :: x9 :: x10 :: x11 :: x12 :: x13 :: x14 :: x15 :: x16 :: x17 :: y :: r) H R := q
theorem i_v19 {x0 x1 x2 x3 x4 x5 x6 x7 x8 x9 x10 x11 x12 x13 x14 x15 x16 x17 x18 : Option V} (q : Q v H) : tVar 19 (x0 :: x1 :: x2 :: x3 :: x4 :: x5 :: x6 :: x7 :: x8 :: x9 :: x10 :: x11 :: x12 :: x13 :: x14 :: x15 :: x16 :: x17 :: x18 :: some v :: r) H Q := ⟨v, rfl, q⟩
theorem i_g19 {x0 x1 x2 x3 x4 x5 x6 x7 x8 x9 x10 x11 x12 x13 x14 x15 x16 x17 x18 : Option V} (q : R (x0 :: x1 :: x2 :: x3 :: x4 :: x5 :: x6 :: x7 :: x8 :: x9 :: x10 :: x11 :: x12 :: x13 :: x14 :: x15 :: x16 :: x17 :: x18 :: some v :: r) H) : gName 19 v (x0 :: x1 :: x2 :: x3 :: x4 :: x5 :: x6 :: x7 :: x8 :: x9 :: x10 :: x11 :: x12 :: x13 :: x14 :: x15 :: x16 :: x17 :: x18 :: y :: r) H R := q
theorem i_v20 {x0 x1 x2 x3 x4 x5 x6 x7 x8 x9 x10 x11 x12 x13 x14 x15 x16 x17 x18 x19 : Option V} (q : Q v H) : tVar 20 (x0 :: x1 :: x2 :: x3 :: x4 :: x5 :: x6 :: x7 :: x8 :: x9 :: x10 :: x11 :: x12 :: x13 :: x14 :: x15 :: x16 :: x17 :: x18 :: x19 :: some v :: r) H Q := ⟨v, rfl, q⟩
theorem i_g20 {x0 x1 x2 x3 x4 x5 x6 x7 x8 x9 x10 x11 x12 x13 x14 x15 x16 x17 x18 x19 : Option V} (q : R (x0 :: x1 :: x2 :: x3 :: x4 :: x5 :: x6 :: x7 :: x8 :: x9 :: x10 :: x11 :: x12 :: x13 :: x14 :: x15 :: x16 :: x17 :: x18 :: x19 :: some v :: r) H) : gName 20 v (x0 :: x1 :: x2 :: x3 :: x4 :: x5 :: x6 :: x7 :: x8 :: x9 :: x10 :: x11 :: x12 :: x13 :: x14 :: x15 :: x16 :: x17 :: x18 :: x19 :: y :: r) H R := q
theorem i_v21 {x0 x1 x2 x3 x4 x5 x6 x7 x8 x9 x10 x11 x12 x13 x14 x15 x16 x17 x18 x19 x20 : Option V} (q : Q v H) : tVar 21 (x0 :: x1 :: x2 :: x3 :: x4 :: x5 :: x6 :: x7 :: x8 :: x9 :: x10 :: x11 :: x12 :: x13 :: x14 :: x15 :: x16 :: x17 :: x18 :: x19 :: x20 :: some v :: r) H Q := ⟨v, rfl, q⟩
theorem i_g21 {x0 x1 x2 x3 x4 x5 x6 x7 x8 x9 x10 x11 x12 x13 x14 x15 x16 x17 x18 x19 x20 : Option V} (q : R (x0 :: x1 :: x2 :: x3 :: x4 :: x5 :: x6 :: x7 :: x8 :: x9 :: x10 :: x11 :: x12 :: x13 :: x14 :: x15 :: x16 :: x17 :: x18 :: x19 :: x20 :: some v :: r) H) : gName 21 v (x0 :: x1 :: x2 :: x3 :: x4 :: x5 :: x6 :: x7 :: x8 :: x9 :: x10 :: x11 :: x12 :: x13 :: x14 :: x15 :: x16 :: x17 :: x18 :: x19 :: x20 :: y :: r) H R := q
theorem i_v22 {x0 x1 x2 x3 x4 x5 x6 x7 x8 x9 x10 x11 x12 x13 x14 x15 x16 x17 x18 x19 x20 x21 : Option V} (q : Q v H) : tVar 22 (x0 :: x1 :: x2 :: x3 :: x4 :: x5 :: x6 :: x7 :: x8 :: x9 :: x10 :: x11 :: x12 :: x13 :: x14 :: x15 :: x16 :: x17 :: x18 :: x19 :: x20 :: x21 :: some v :: r) H Q := ⟨v, rfl, q⟩
theorem i_g22 {x0 x1 x2 x3 x4 x5 x6 x7 x8 x9 x10 x11 x12 x13 x14 x15 x16 x17 x18 x19 x20 x21 : Option V} (q : R (x0 :: x1 :: x2 :: x3 :: x4 :: x5 :: x6 :: x7 :: x8 :: x9 :: x10 :: x11 :: x12 :: x13 :: x14 :: x15 :: x16 :: x17 :: x18 :: x19 :: x20 :: x21 :: some v :: r) H) : gName 22 v (x0 :: x1 :: x2 :: x3 :: x4 :: x5 :: x6 :: x7 :: x8 :: x9 :: x10 :: x11 :: x12 :: x13 :: x14 :: x15 :: x16 :: x17 :: x18 :: x19 :: x20 :: x21 :: y :: r) H R := q
theorem i_v23 {x0 x1 x2 x3 x4 x5 x6 x7 x8 x9 x10 x11 x12 x13 x14 x15 x16 x17 x18 x19 x20 x21 x22 : Option V} (q : Q v H) : tVar 23 (x0 :: x1 :: x2 :: x3 :: x4 :: x5 :: x6 :: x7 :: x8 :: x9 :: x10 :: x11 :: x12 :: x13 :: x14 :: x15 :: x16 :: x17 :: x18 :: x19 :: x20 :: x21 :: x22 :: some v :: r) H Q := ⟨v, rfl, q⟩
theorem i_g23 {x0 x1 x2 x3 x4 x5 x6 x7 x8 x9 x10 x11 x12 x13 x14 x15 x16 x17 x18 x19 x20 x21 x22 : Option V} (q : R (x0 :: x1 :: x2 :: x3 :: x4 :: x5 :: x6 :: x7 :: x8 :: x9 :: x10 :: x11 :: x12 :: x13 :: x14 :: x15 :: x16 :: x17 :: x18 :: x19 :: x20 :: x21 :: x22 :: some v :: r) H) : gName 23 v (x0 :: x1 :: x2 :: x3 :: x4 :: x5 :: x6 :: x7 :: x8 :: x9 :: x10 :: x11 :: x12 :: x13 :: x14 :: x15 :: x16 :: x17 :: x18 :: x19 :: x20 :: x21 :: x22 :: y :: r) H R := q
end
section
variable {σ : L2.St} {H : Hp} {v : V} {a c d : L2.St → Hp → Prop} {b : VK}
theorem i_nx (q : a σ H) : Ends.nx ⟨a, b, c, d⟩ σ H := q
theorem i_rt (q : b v H) : Ends.rt ⟨a, b, c, d⟩ v H := q
theorem i_bk (q : c σ H) : Ends.bk ⟨a, b, c, d⟩ σ H := q
theorem i_ct (q : d σ H) : Ends.ct ⟨a, b, c, d⟩ σ H := q
end
end Z
namespace Z
open PySem PySem.Spec PyProof.Rows L2
open C8 (tCut pss_cut Cal pe_c Met pe_mt pe_mt0 Mak pe_mk)
/-! ### calls of built-ins, items, methods, by names -/
def zInt : List V → Hp → VK → Prop := fun xs H Q => (∃ i, xs = [.int i] ∧ Q (.int i) H) ∨ ∃ k, xs = [.bl k] ∧ Q (.int (if k = true then 1 else 0)) H
def zLenS : List V → Hp → VK → Prop := fun xs H Q => ∃ z : Str, xs = [.str z] ∧ z.length ≤ sizeLine ∧ Q (.int z.length) H
def zLen (K : PySem.W.Frag) : List V → Hp → VK → Prop := fun xs H Q => ∃ p ys, xs = [.ref p] ∧ (SqL K H p ys ∨ SqT K H p ys) ∧ Q (.int ys.length) H
def zAbs : List V → Hp → VK → Prop := fun xs H Q => ∃ i : Int, xs = [.int i] ∧ Q (.int (if i < 0 then -i else i)) H
def zMax : List V → Hp → VK → Prop := fun xs H Q => ∃ i j : Int, xs = [.int i, .int j] ∧ Q (.int (if j > i then j else i)) H
def zMin : List V → Hp → VK → Prop := fun xs H Q => ∃ i j : Int, xs = [.int i, .int j] ∧ Q (.int (if j < i then j else i)) H
def zList (K : PySem.W.Frag) : List V → Hp → VK → Prop := fun xs H Q => ∃ p ys, xs = [.ref p] ∧ (SqL K H p ys ∨ SqT K H p ys) ∧ ∀ l, H l = none → Q (.ref l) (upd H l (.lst ys))
def zTuple (K : PySem.W.Frag) : List V → Hp → VK → Prop := fun xs H Q => ∃ p ys, xs = [.ref p] ∧ ((SqL K H p ys ∧ ∀ l, H l = none → Q (.ref l) (upd H l (.tup ys))) ∨ SqT K H p ys ∧ Q (.ref p) H)
section
variable {X : Cx}
theorem zc_int : CallR X (.type "int") zInt := call_int1
theorem zc_lens : CallR X (.builtin "len") zLenS := call_len_str
theorem zc_len : CallR X (.builtin "len") (zLen X.K) := call_len_seq
theorem zc_abs : CallR X (.builtin "abs") zAbs := call_abs
theorem zc_max (hc : X.calm = true) : CallR X (.builtin "max") zMax := call_max2 hc
theorem zc_min (hc : X.calm = true) : CallR X (.builtin "min") zMin := call_min2 hc
theorem zc_list : CallR X (.type "list") (zList X.K) := call_list_of
theorem zc_tuple : CallR X (.type "tuple") (zTuple X.K) := call_tuple_of
end
section
variable {σ : L2.St} {H : Hp} {Q : VK} {D : Ends} {K : PySem.W.Frag} {i j : Int} {a b : List Nat} {x y v : V} {p : Addr} {xs : List V}
theorem i_int (q : Q (.int i) H) : zInt [.int i] H Q := .inl ⟨i, rfl, q⟩
theorem i_intB {k : Bool} (q : Q (.int (if k = true then 1 else 0)) H) : zInt [.bl k] H Q := .inr ⟨k, rfl, q⟩
theorem le_line {n : Nat} (h : n ≤ 100000) : n ≤ sizeLine := Nat.le_trans h (by decide)
theorem lt_line {n : Nat} (h : n < 100000) : n < sizeLine := Nat.lt_of_lt_of_le h (by decide)
theorem i_lens (h : a.length ≤ 100000) (q : Q (.int (a.length : Int)) H) : zLenS [.str (S a)] H Q := ⟨_, rfl, by rw [S_len]; exact le_line h, by rw [S_len]; exact q⟩
theorem i_lenL (h : SqL K H p xs) (q : Q (.int (xs.length : Int)) H) : zLen K [.ref p] H Q := ⟨p, xs, rfl, .inl h, q⟩
theorem i_lenT (h : SqT K H p xs) (q : Q (.int (xs.length : Int)) H) : zLen K [.ref p] H Q := ⟨p, xs, rfl, .inr h, q⟩
theorem i_abs (q : Q (.int (if i < 0 then -i else i)) H) : zAbs [.int i] H Q := ⟨i, rfl, q⟩
theorem i_max (q : Q (.int (if j > i then j else i)) H) : zMax [.int i, .int j] H Q := ⟨i, j, rfl, q⟩
theorem i_min (q : Q (.int (if j < i then j else i)) H) : zMin [.int i, .int j] H Q := ⟨i, j, rfl, q⟩
theorem i_listL (h : SqL K H p xs) (q : ∀ l, H l = none → Q (.ref l) (upd H l (.lst xs))) : zList K [.ref p] H Q := ⟨p, xs, rfl, .inl h, q⟩
theorem i_tupleL (h : SqL K H p xs) (q : ∀ l, H l = none → Q (.ref l) (upd H l (.tup xs))) : zTuple K [.ref p] H Q := ⟨p, xs, rfl, .inl ⟨h, q⟩⟩
theorem i_ixL (h : SqL K H p xs) (ha : atI xs i = some v) (q : Q v H) : rIxL K (.ref p) (.int i) H Q := ⟨p, xs, i, v, rfl, rfl, h, ha, q⟩
theorem i_ixT (h : SqT K H p xs) (ha : atI xs i = some v) (q : Q v H) : rIxT K (.ref p) (.int i) H Q := ⟨p, xs, i, v, rfl, rfl, h, ha, q⟩
theorem i_ixS {c : Nat} (hz : a.length ≤ 100000) (ha : atI a i = some c) (q : Q (.str (S [c])) H) : rIxS (.str (S a)) (.int i) H Q :=
  ⟨S a, i, c, rfl, rfl, by rw [S_len]; exact le_line hz, ha, q⟩
theorem i_setL {k : Int} {n : Nat} {R : Hp → Prop} (h : H p = some (.lst xs)) (hn : ixN xs.length k = some n) (q : R (upd H p (.lst (xs.set n v)))) : rSetL (.ref p) (.int k) v H R := ⟨p, xs, k, n, rfl, rfl, h, hn, q⟩
theorem at_nat {α : Type} {xs : List α} {i : Int} {v : α} (h0 : 0 ≤ i) (h : xs[i.toNat]? = some v) : atI xs i = some v := by
  obtain ⟨n, rfl⟩ : ∃ n : Nat, i = n := ⟨i.toNat, by omega⟩
  exact atI_nat (by simpa using h)
theorem at_lt {α : Type} {xs : List α} {i : Int} (h0 : 0 ≤ i) (h1 : i < xs.length) : atI xs i = some (xs[i.toNat]'(by omega)) :=
  at_nat h0 (List.getElem?_eq_getElem (by omega))
theorem i_cut {t u : TS} (Mid : L2.St → Hp → Prop) (h1 : t { D with nx := Mid } σ H) (h2 : ∀ σ' H', Mid σ' H' → u D σ' H') : tCut t u D σ H := ⟨Mid, h1, h2⟩
theorem cdivw (h0 : 0 < j) (h : j < 2 ^ 200) : CDivW i j := by
  refine ⟨h0, ?_⟩
  have h2 : j.natAbs < 2 ^ 200 := by omega
  have h3 : j.natAbs ≠ 0 := by omega
  have h4 : Nat.log2 j.natAbs < 200 := (Nat.log2_lt h3).2 h2
  omega
end
/-! ### what the hand of a law is, and what a draw leaves -/
structure HandOk (H : Hp) (h : Addr) : Prop where
  ex : ∃ (c : Addr) (cells : List Int) (a1 a2 a3 a4 : Int), H h = some (.lst [.ref c, .int a1, .int a2, .int a3, .int a4]) ∧ H c = some (.lst (cells.map V.int)) ∧ (∀ x ∈ cells, 0 ≤ x) ∧ 0 ≤ a1 ∧ 0 ≤ a2 ∧ 0 ≤ a3 ∧ a3 < 2147483647 ∧ 0 ≤ a4
/-- all but the hand is as it was, the hand is one, over the same cells -/
structure Gd (h : Addr) (H H' : Hp) : Prop where
  ok : HandOk H' h
  kp : ∀ b o, H b = some o → b ≠ h → H' b = some o
  ok0 : HandOk H h
  cell : ∃ (c : Addr) (r r' : List V), H h = some (.lst (.ref c :: r)) ∧ H' h = some (.lst (.ref c :: r'))
theorem Gd.of {h c : Addr} {H H' : Hp} {r r' : List V} (k0 : HandOk H h) (e0 : H h = some (.lst (.ref c :: r))) (e1 : H' h = some (.lst (.ref c :: r'))) (k : HandOk H' h) (kp : ∀ b o, H b = some o → b ≠ h → H' b = some o) : Gd h H H' :=
  ⟨k, kp, k0, c, r, r', e0, e1⟩
theorem Gd.refl {h : Addr} {H : Hp} (k : HandOk H h) : Gd h H H := by
  obtain ⟨c, _, _, _, _, _, e, _⟩ := k.ex
  exact ⟨k, fun _ _ e _ => e, k, c, _, _, e, e⟩
theorem Gd.trans {h : Addr} {H H1 H2 : Hp} (a : Gd h H H1) (b : Gd h H1 H2) : Gd h H H2 := by
  obtain ⟨c, r, r1, e0, e1⟩ := a.cell
  obtain ⟨c', r1', r2, e1', e2⟩ := b.cell
  have q := Option.some.inj (e1.symm.trans e1')
  have q2 : c = c' := by
    have := (List.cons.inj (HO.lst.inj q)).1
    exact V.ref.inj this
  subst q2
  exact ⟨b.ok, fun c o e n => b.kp c o (a.kp c o e n) n, a.ok0, c, r, r2, e0, e2⟩
theorem HandOk.some {h : Addr} {H : Hp} (k : HandOk H h) : ∃ o, H h = some o := by obtain ⟨_, _, _, _, _, _, e, _⟩ := k.ex; exact ⟨_, e⟩
theorem map_int_ne {c : Addr} {cells : List Int} {r : List V} : HO.lst (.ref c :: r) ≠ HO.lst (cells.map V.int) := fun e => by
  cases cells with
  | nil => cases e
  | cons a l =>
    have e2 := (List.cons.inj (HO.lst.inj e)).1
    cases e2
theorem HandOk.new {h p : Addr} {o : HO} {H : Hp} (k : HandOk H h) (hp : H p = none) : HandOk (upd H p o) h := by
  obtain ⟨c, cells, a1, a2, a3, a4, e1, e2, r⟩ := k.ex
  exact ⟨c, cells, a1, a2, a3, a4, by rw [upd_ne (ne_of_none e1 hp)]; exact e1, by rw [upd_ne (ne_of_none e2 hp)]; exact e2, r⟩
theorem Gd.new {h p : Addr} {o : HO} {H H' : Hp} (g : Gd h H H') (hp : H' p = none) : Gd h H (upd H' p o) := by
  obtain ⟨c, r, r', e0, e1⟩ := g.cell
  exact ⟨g.ok.new hp, fun b u e n => by have := g.kp b u e n; rw [upd_ne (ne_of_none this hp)]; exact this, g.ok0, c, r, r', e0, by rw [upd_ne (ne_of_none e1 hp)]; exact e1⟩
theorem Gd.mutz {h p : Addr} {o : HO} {H H' : Hp} (g : Gd h H H') (hp : H p = none) : Gd h H (upd H' p o) := by
  obtain ⟨c, r, r', e0, e1⟩ := g.cell
  obtain ⟨c0, cells0, _, _, _, _, f0, f1, _⟩ := g.ok0.ex
  obtain ⟨c1, cells, a1, a2, a3, a4, g0, g1, rest⟩ := g.ok.ex
  have q0 : c = c0 := by
    have := (List.cons.inj (HO.lst.inj (Option.some.inj (e0.symm.trans f0)))).1
    exact V.ref.inj this
  have q1 : c = c1 := by
    have := (List.cons.inj (HO.lst.inj (Option.some.inj (e1.symm.trans g0)))).1
    exact V.ref.inj this
  subst q0 q1
  have n1 : h ≠ p := ne_of_none e0 hp
  have n2 : c ≠ p := ne_of_none f1 hp
  exact ⟨⟨c, cells, a1, a2, a3, a4, by rw [upd_ne n1]; exact g0, by rw [upd_ne n2]; exact g1, rest⟩, fun b u e n => by rw [upd_ne (ne_of_none e hp)]; exact g.kp b u e n, g.ok0, c, r, r', e0, by rw [upd_ne n1]; exact e1⟩
end Z
namespace Z
open PySem PySem.Spec PyProof.Rows L2
theorem i_setH {H : Hp} {p : Addr} {xs : List V} {k : Int} {n : Nat} {v : V} {R : Hp → Prop} (h : H p = some (.lst xs)) (hn : ixN xs.length k = some n) (L : List V) (hL : xs.set n v = L) (q : ∀ H1, H1 = upd H p (.lst L) → R H1) : rSetL (.ref p) (.int k) v H R := by
  subst hL
  exact ⟨p, xs, k, n, rfl, rfl, h, hn, q _ rfl⟩
theorem hstep {h c : Addr} {H0 H H1 : Hp} {L : List V} {cells : List Int} (e : H1 = upd H h (.lst L)) (hne : c ≠ h) (e2 : H c = some (.lst (cells.map V.int))) (kp : ∀ b o, H0 b = some o → b ≠ h → H b = some o) :
    H1 h = some (.lst L) ∧ H1 c = some (.lst (cells.map V.int)) ∧ (∀ b o, H0 b = some o → b ≠ h → H1 b = some o) := by
  subst e
  exact ⟨upd_same, by rw [upd_ne hne]; exact e2, fun b o e n => by rw [upd_ne n]; exact kp b o e n⟩
end Z
namespace Z
open PySem PySem.Spec PyProof.Rows L2
open C8 (tCut pss_cut Cal pe_c Met pe_mt pe_mt0 Mak pe_mk)
/-! ### defs of the text -/
structure DF (K : PySem.W.Frag) (mg : Str → Option Value) (x : Str) (st : Stmt) : Prop where
  ex : ∃ (f : Addr) (fd : FuncData), Fun K x x st f fd ∧ mg x = some (.ref f)
section
variable {P : Program} {w : World} {K : PySem.W.Frag} {mg : Str → Option Value} {base : Heap}
theorem DF.cal {x : Str} {st : Stmt} {N ps : List Str} {k : Nat} {sp : Sp} (d : DF K mg x st) (S : FnScope N ps (defScope st))
    (hb : ∀ (kV doc pm : Value) (an : Option Addr) (cdv ct : Value) (us : List Value), us.length = ps.length → bindArgs (PySem.W.fnOf x x (defArgs st) (defBody st) (defScope st) .none kV doc pm an cdv ct) ⟨us, []⟩ = pure (ps.zip us))
    (len : ∀ vs H Q E, sp vs H Q E → vs.length = ps.length)
    (hbody : ∀ (f : Addr) (cdv : Value) (A : Around) (outer : List Env) (s : Shared) (H : Hp) (vs : List V) (Q : VK) (E : XK), Room k (A.deeper (envOfC x (defScope st) s.heap.objs.size f cdv)) → sp vs H Q E →
      ∃ t, PSs (cxOf CX0 P w K mg base N x (defScope st) f cdv A outer s H E).nox (defBody st) t ∧ t { nx := fun _ H' => Q .non H', rt := Q } (start N vs) H) : Cal P w K mg base (k + 1) x sp [] := by
  obtain ⟨f, fd, F, hm⟩ := d.ex
  exact ⟨f, fd, ps, [], F.ok S len (hbody f), hm, F.kp, F.binds hb, .nil⟩
end
/-- the built-ins stand as they are -/
structure Bi (mg : Str → Option Value) : Prop where
  range : mg "range" = none
  len : mg "len" = none
  abs : mg "abs" = none
  int : mg "int" = none
  str : mg "str" = none
  bool : mg "bool" = none
  list : mg "list" = none
  tuple : mg "tuple" = none
  dict : mg "dict" = none
  set : mg "set" = none
  isinstance : mg "isinstance" = none
  all : mg "all" = none
  any : mg "any" = none
  sum : mg "sum" = none
  max : mg "max" = none
  min : mg "min" = none
  sorted : mg "sorted" = none
  zip : mg "zip" = none
  enumerate : mg "enumerate" = none
  reversed : mg "reversed" = none
/-! ### the promises of the hand -/
def spHand (K : PySem.W.Frag) : Sp := fun vs H Q _ => ∃ (a : Addr) (ns : List Int), vs = [.ref a] ∧ SqL K H a (ns.map V.int) ∧ ns.length ≤ 1000 ∧ ∀ h H', H h = none → HandOk H' h → Same H H' → Q (.ref h) H'
def spDraw : Sp := fun vs H Q _ => ∃ (h : Addr) (m : Int), vs = [.ref h, .int m] ∧ HandOk H h ∧ 0 < m ∧ m < 2 ^ 200 ∧ ∀ (r : Nat) H', (r : Int) < m → Gd h H H' → Q (.int (r : Int)) H'
theorem use_draw {h : Addr} {m : Int} {H : Hp} {Q : VK} {E : XK} (hh : HandOk H h) (h0 : 0 < m) (h1 : m < 2 ^ 200) (k : ∀ (r : Nat) H', (r : Int) < m → Gd h H H' → Q (.int (r : Int)) H') : spDraw ([.ref h, .int m] ++ []) H Q E :=
  ⟨h, m, rfl, hh, h0, h1, k⟩
theorem draw_k {h : Addr} {m r : Int} {H H' : Hp} {Q : VK} (k : ∀ (r : Nat) H', (r : Int) < m → Gd h H H' → Q (.int (r : Int)) H') (h0 : 0 ≤ r) (h1 : r < m) (g : Gd h H H') : Q (.int r) H' := by
  obtain ⟨n, rfl⟩ := Int.eq_ofNat_of_zero_le h0
  exact k n H' h1 g
end Z
namespace Z
open PySem PySem.Spec PyProof.Rows L2
theorem zstart {t : TS} {D : Ends} {σ : L2.St} {H : Hp} (L : L2.St) (h : σ = L) (q : t D L H) : t D σ H := h ▸ q
end Z
namespace Z
open PySem PySem.Spec PyProof.Rows L2
theorem zK {CX : CXT} {P : Program} {w : World} {K : PySem.W.Frag} {mg : Str → Option Value} {base : Heap} {N : List Str} {qual : Str} {scope : Scope} {f : Addr} {cd : Value} {A : Around} {outer : List Env} {s : Shared} {H : Hp} {E : XK} :
    (cxOf CX P w K mg base N qual scope f cd A outer s H E).nox.K = K := rfl
theorem zK2 {CX : CXT} {P : Program} {w : World} {K : PySem.W.Frag} {mg : Str → Option Value} {base : Heap} {N : List Str} {qual : Str} {scope : Scope} {f : Addr} {cd : Value} {A : Around} {outer : List Env} {s : Shared} {H : Hp} {E : XK} :
    (cxOf CX P w K mg base N qual scope f cd A outer s H E).K = K := rfl
end Z
namespace Z
open PySem PySem.Spec PyProof.Rows L2
open PySem.Sem (wp)
/-! ### zip over texts, lists, tuples, in any mixture -/
inductive Sd where
  | str (z : Str) | lst (a : Addr) | tup (a : Addr)
def Sd.is (K : PySem.W.Frag) (H : Hp) : Sd → List V → Prop
  | .str z, xs => xs = (codes z).map fun c => V.str (S [c])
  | .lst a, xs => SqL K H a xs
  | .tup a, xs => SqT K H a xs
def Sd.cell (it : Addr) (i : Nat) (h : Heap) : Sd → Prop
  | .str z => ∃ t, h.IsStrIter it (strIterType z) z t i
  | .lst a => h.IsListIter it a i
  | .tup a => h.IsTupleIter it a i
def Sd.off (b : Addr) : Sd → Prop
  | .str _ => True
  | .lst a => a ≠ b
  | .tup a => a ≠ b
def Sd.val : V → Sd → Prop
  | v, .str z => v = .str z
  | v, .lst a => v = .ref a
  | v, .tup a => v = .ref a
theorem Draws.tuple {prog : Program} {w : World} {A : Around} (hh : A.handled = none) (it l : Addr) (hne : l ≠ it) (items : Array Value) :
    Draws prog w A it [it, l] items.size (fun i v => items[i]? = some v) (fun i h => h.IsTupleIter it l i ∧ h.IsTuple l items) where
  live := fun _ _ st => let ⟨o, ho, _⟩ := st.1; ⟨o, ho⟩
  frame := fun _ _ _ st hk => ⟨st.1.at fun o e => hk it (by simp) o e, st.2.at fun o e => hk l (by simp) o e⟩
  item := fun i s Q E hi st hQ => by
    refine RZ.nextOf_tuple_item st.1 st.2 (x := items[i]) (by simp [hi]) fun h' hit' hs' => ?_
    exact hQ _ h' s.toks (by simp [hi]) ⟨hit', st.2.at fun o e => hs'.extBut _ _ hne e⟩ hs'
  done := fun s Q E st hE => RZ.nextOf_tuple_end hh st.1 st.2 (by simp) hE
section
variable {X : Cx} {pins : List (Addr × Obj)} {σ : L2.St} {H : Hp} {s : Shared}
theorem Sd.cell_keep {c : Sd} {it : Addr} {i : Nat} {h h' : Heap} (st : c.cell it i h) (k : ∀ o, h.get? it = some o → h'.get? it = some o) : c.cell it i h' := by
  cases c with
  | str z => obtain ⟨t, o, ho, r⟩ := st; exact ⟨t, o, k o ho, r⟩
  | lst a => exact Heap.IsListIter.at st k
  | tup a => exact Heap.IsTupleIter.at st k
theorem Sd.cell_obj {c : Sd} {it : Addr} {i : Nat} {h : Heap} (st : c.cell it i h) : ∃ o, h.get? it = some o ∧ ∀ v, o.data ≠ .cell v := by
  cases c with
  | str z => obtain ⟨t, o, ho, _, d⟩ := st; exact ⟨o, ho, fun v q => by rw [d] at q; cases q⟩
  | lst a => obtain ⟨o, ho, _, d⟩ := st; exact ⟨o, ho, fun v q => by rw [d] at q; cases q⟩
  | tup a => obtain ⟨o, ho, _, d⟩ := st; exact ⟨o, ho, fun v q => by rw [d] at q; cases q⟩
/-- one side of a zip as an iterator that draws -/
theorem Sd.draws {A : Around} (hh : A.handled = none) {c : Sd} {it : Addr} {i : Nat} {xs : List V} (I : Inv X pins σ H s) (st : c.cell it i s.heap) (hx : c.is X.K H xs) (ho : c.off it) :
    ∃ fp P St, Draws X.prog X.w A it fp xs.length P St ∧ St i s.heap ∧ it ∈ fp ∧ (∀ b, b ∈ fp → b = it ∨ ¬ c.off b) ∧ (∀ j v, P j v → ∃ x, xs[j]? = some x ∧ RelV x v) ∧ ∀ j h, St j h → c.cell it j h := by
  cases c with
  | str z =>
    obtain ⟨t, st⟩ := st
    have hx : xs = (codes z).map fun c => V.str (S [c]) := hx
    have hl : xs.length = z.cps.size := by rw [hx]; simp
    have hP : ∀ (j : Nat) (v : Value), (∃ c u, z.cps[j]? = some c ∧ v = .str ⟨#[c]⟩ u) → ∃ x, xs[j]? = some x ∧ RelV x v := by
      rintro j v ⟨c, u, hc, rfl⟩
      refine ⟨.str (S [c]), ?_, ⟨u, rfl⟩⟩
      rw [hx, List.getElem?_map]
      have : (codes z)[j]? = some c := by simpa using hc
      rw [this]; rfl
    rw [hl]
    by_cases ha : z.cps.all (· < 128) = true
    · have e : strIterType z = "str_ascii_iterator" := if_pos ha
      rw [e] at st
      refine ⟨_, _, _, Draws.strAscii hh it z t, st, by simp, fun b hb => .inl (by simpa using hb), hP, fun j h q => ⟨t, ?_⟩⟩
      rw [e]; exact q
    · have e : strIterType z = "str_iterator" := if_neg ha
      rw [e] at st
      refine ⟨_, _, _, Draws.strWide hh it z t, st, by simp, fun b hb => .inl (by simpa using hb), hP, fun j h q => ⟨t, ?_⟩⟩
      rw [e]; exact q
  | lst a =>
    obtain ⟨its, rv, p, _⟩ := I.list hx
    have hl : xs.length = its.toArray.size := by rw [rv.length]; simp
    rw [hl]
    refine ⟨_, _, _, Draws.list hh it a ho its.toArray, ⟨st, p.isList⟩, by simp, fun b hb => ?_, fun j v hv => ?_, fun j h q => q.1⟩
    · rcases List.mem_cons.mp hb with q | q
      · exact .inl q
      · exact .inr fun o => o (List.mem_singleton.mp q).symm
    · have hv' : its[j]? = some v := by simpa using hv
      cases e : xs[j]? with
      | none => rw [rv.none_of e] at hv'; cases hv'
      | some x => obtain ⟨u, hu, ru⟩ := rv.get e; rw [hu] at hv'; cases hv'; exact ⟨x, rfl, ru⟩
  | tup a =>
    obtain ⟨its, rv, p, _⟩ := I.tuple hx
    have hl : xs.length = its.toArray.size := by rw [rv.length]; simp
    rw [hl]
    refine ⟨_, _, _, Draws.tuple hh it a ho its.toArray, ⟨st, p⟩, by simp, fun b hb => ?_, fun j v hv => ?_, fun j h q => q.1⟩
    · rcases List.mem_cons.mp hb with q | q
      · exact .inl q
      · exact .inr fun o => o (List.mem_singleton.mp q).symm
    · have hv' : its[j]? = some v := by simpa using hv
      cases e : xs[j]? with
      | none => rw [rv.none_of e] at hv'; cases hv'
      | some x => obtain ⟨u, hu, ru⟩ := rv.get e; rw [hu] at hv'; cases hv'; exact ⟨x, rfl, ru⟩
theorem Sd.is_inj {c : Sd} {xs ys : List V} (I : Inv X pins σ H s) (a : c.is X.K H xs) (b : c.is X.K H ys) : xs = ys := by
  cases c with
  | str z => exact a.trans b.symm
  | lst p => exact I.list_inj a b
  | tup p => exact I.tuple_inj a b
theorem Sd.is_new {K : PySem.W.Frag} {c : Sd} {xs : List V} {p : Addr} {o : HO} {H : Hp} (hp : H p = none) (a : c.is K H xs) : c.is K (upd H p o) xs := by
  have e : Same H (upd H p o) := fun b u q => by rw [upd_ne (ne_of_none q hp)]; exact q
  cases c with
  | str z => exact a
  | lst q => exact e.seq a
  | tup q =>
    rcases a with (h | ⟨u, h⟩) | h
    · exact .inl (.inl (e _ _ h))
    · exact .inl (.inr ⟨u, e _ _ h⟩)
    · exact .inr h
end
def ItZ (K : PySem.W.Frag) (c d : Sd) : It :=
  ⟨fun i H => ∃ (xs ys : List V), c.is K H xs ∧ d.is K H ys ∧ i < xs.length ∧ i < ys.length,
    fun i H v H' => ∃ T x y, v = .ref T ∧ H T = none ∧ H' = upd H T (.tup [x, y]) ∧ (∀ xs, c.is K H xs → xs[i]? = some x) ∧ ∀ ys, d.is K H ys → ys[i]? = some y,
    fun i H => ∃ xs ys : List V, c.is K H xs ∧ d.is K H ys ∧ i ≤ xs.length ∧ i ≤ ys.length ∧ (i = xs.length ∨ i = ys.length)⟩
structure ZApart (z TI TO i1 i2 : Addr) (c d : Sd) : Prop where
  TIz : TI ≠ z
  TOz : TO ≠ z
  TITO : TI ≠ TO
  TIi1 : TI ≠ i1
  TIi2 : TI ≠ i2
  i1z : i1 ≠ z
  i2z : i2 ≠ z
  i1T : i1 ≠ TO
  i2T : i2 ≠ TO
  i12 : i1 ≠ i2
  cf : ∀ b, b ∈ [z, TI, TO, i1, i2] → c.off b
  df : ∀ b, b ∈ [z, TI, TO, i1, i2] → d.off b
theorem turn_zipZ {P : Program} {w : World} {K : PySem.W.Frag} {elts : List Expr} {kk : Nat} {tpos : Pos} {c d : Sd} {z TI TO i1 i2 : Addr} (D : ZApart z TI TO i1 i2 c d) :
    Turn P w K (.Tuple elts kk tpos) (ItZ K c d) [z, TI, TO, i1, i2] z (fun i h => IsZip h z TI TO .none ∧ IsTupOf2 h TI (.ref i1) (.ref i2) ∧ (∃ x y, IsTupOf2 h TO x y) ∧ c.cell i1 i h ∧ d.cell i2 i h) where
  mem := by simp
  obj := fun i h st b hb => by
    obtain ⟨hz, hTI, ⟨x, y, hTO⟩, h1, h2⟩ := st
    have e' : b = z ∨ b = TI ∨ b = TO ∨ b = i1 ∨ b = i2 := by simpa using hb
    rcases e' with q | q | q | q | q
    · rw [q]; exact ⟨_, hz, fun v q => nomatch q⟩
    · rw [q]; exact ⟨_, hTI, fun v q => nomatch q⟩
    · rw [q]; exact ⟨_, hTO, fun v q => nomatch q⟩
    · rw [q]; exact Sd.cell_obj h1
    · rw [q]; exact Sd.cell_obj h2
  keep := fun i h h' st k => by
    obtain ⟨hz, hTI, ⟨x, y, hTO⟩, h1, h2⟩ := st
    exact ⟨k z (by simp) _ hz, k TI (by simp) _ hTI, ⟨x, y, k TO (by simp) _ hTO⟩, Sd.cell_keep h1 fun o q => k i1 (by simp) o q, Sd.cell_keep h2 fun o q => k i2 (by simp) o q⟩
  item := by
    intro X hP hw hK hc i pins s σ H E I hf st hg
    subst hP hw hK
    obtain ⟨hz, hTI, ⟨x0, y0, hTO⟩, h1, h2⟩ := st
    obtain ⟨xs, ys, hx, hy, li, lj⟩ := hg
    have hh : X.A.in1.handled = none := I.ok.hd hc
    obtain ⟨fp1, P1, St1, D1, s1, m1, f1, r1, b1⟩ := Sd.draws hh I h1 hx (D.cf i1 (by simp))
    obtain ⟨fp2, P2, St2, D2, s2, m2, f2, r2, b2⟩ := Sd.draws hh I h2 hy (D.df i2 (by simp))
    have nin : ∀ b, b ∈ [z, TI, TO, i1, i2] → b ≠ i1 → b ∉ fp1 := fun b hb n hm => by
      rcases f1 b hm with q | q
      · exact n q
      · exact q (D.cf b hb)
    have nin2 : ∀ b, b ∈ [z, TI, TO, i1, i2] → b ≠ i2 → b ∉ fp2 := fun b hb n hm => by
      rcases f2 b hm with q | q
      · exact n q
      · exact q (D.df b hb)
    have Zs : ZipSep2 z TI TO i1 i2 fp1 fp2 := ⟨D.TIz, D.TOz, D.TITO, D.TIi1, m1, nin z (by simp) D.i1z.symm, nin TO (by simp) D.i1T.symm, D.TIi2, m2, nin2 z (by simp) D.i2z.symm, nin2 TO (by simp) D.i2T.symm, nin2 i1 (by simp) D.i12, nin i2 (by simp) D.i12.symm⟩
    have hzl : z < s.heap.objs.size := Heap.lt_size hz
    refine wpAny_pyNext_zipD2_item Zs D1 D2 hz hTI hTO s1 s2 li lj fun u u2 h' tk p1 p2 z' TO' t1 t2 hT hsz hk => ?_
    obtain ⟨x, hxi, ru⟩ := r1 i u p1
    obtain ⟨y, hyi, ru2⟩ := r2 i u2 p2
    refine ⟨_, rfl, wpAny_letOwnedTupleGo_zip (s := { s with heap := h', toks := tk }) z' fun h'' z'' sb => ?_⟩
    have hT2 : h''.get? s.heap.objs.size = some { cls := .type "tuple", data := .seq #[u, u2] } := (sb.2 _ (Nat.ne_of_gt hzl)).trans hT
    have new : ObjOk X.prog X.w (upd H s.heap.objs.size (.tup [x, y])) h'' s.heap.objs.size (.tup [x, y]) :=
      ⟨by show 2 ≤ sizeLine; decide, [u, u2], .cons ru (.cons ru2 .nil), ⟨_, hT2, rfl, _, rfl⟩⟩
    have I1 : Inv X pins σ (upd H s.heap.objs.size (.tup [x, y])) { s with heap := h'', toks := tk } :=
      I.turnedNew (t' := tk) (ch := [z, TI, TO, i1, i2]) (fun c o hb q => (sb.2 c (fun q' => hb (by simp [q']))).trans (hk c o (fun q' => hb (by simp [q'])) (fun q' => hb (by simp [q'])) (fun q' => hb (by simp [q'])) (fun q' => hb (by simp [q'])) q)) hf (Nat.le_refl _) new
    refine ⟨.ref s.heap.objs.size, _, I1, rfl, ⟨_, x, y, rfl, I.hok.fresh (Nat.le_refl _), rfl, fun l hl => by rw [Sd.is_inj I hl hx]; exact hxi, fun l hl => by rw [Sd.is_inj I hl hy]; exact hyi⟩, ⟨z'', ?_, ⟨u, u2, ?_⟩, ?_, ?_⟩, fun c hcm => ?_⟩
    · exact (sb.2 _ D.TIz).trans (hk _ _ D.TIz D.TITO D.TIi1 D.TIi2 hTI)
    · exact (sb.2 _ D.TOz).trans TO'
    · exact Sd.cell_keep (b1 _ _ t1) fun o q => (sb.2 _ D.i1z).trans q
    · exact Sd.cell_keep (b2 _ _ t2) fun o q => (sb.2 _ D.i2z).trans q
    · have hlt : c < s.heap.objs.size := by
        have e' : c = z ∨ c = TI ∨ c = TO ∨ c = i1 ∨ c = i2 := by simpa using hcm
        rcases e' with q | q | q | q | q
        · rw [q]; exact hzl
        · rw [q]; exact Heap.lt_size hTI
        · rw [q]; exact Heap.lt_size hTO
        · rw [q]; obtain ⟨_, e1, _⟩ := Sd.cell_obj h1; exact Heap.lt_size e1
        · rw [q]; obtain ⟨_, e1, _⟩ := Sd.cell_obj h2; exact Heap.lt_size e1
      rw [upd_ne (Nat.ne_of_lt hlt)]
      exact (hf c hcm).1
  done := by
    intro X hP hw hK hc i pins s σ H E I hf st hg
    subst hP hw hK
    obtain ⟨hz, hTI, ⟨x0, y0, hTO⟩, h1, h2⟩ := st
    obtain ⟨xs, ys, hx, hy, li, lj, hend⟩ := hg
    have hh : X.A.in1.handled = none := I.ok.hd hc
    obtain ⟨fp1, P1, St1, D1, s1, m1, f1, r1, b1⟩ := Sd.draws hh I h1 hx (D.cf i1 (by simp))
    obtain ⟨fp2, P2, St2, D2, s2, m2, f2, r2, b2⟩ := Sd.draws hh I h2 hy (D.df i2 (by simp))
    have nin : ∀ b, b ∈ [z, TI, TO, i1, i2] → b ≠ i1 → b ∉ fp1 := fun b hb n hm => by
      rcases f1 b hm with q | q
      · exact n q
      · exact q (D.cf b hb)
    have nin2 : ∀ b, b ∈ [z, TI, TO, i1, i2] → b ≠ i2 → b ∉ fp2 := fun b hb n hm => by
      rcases f2 b hm with q | q
      · exact n q
      · exact q (D.df b hb)
    have Zs : ZipSep2 z TI TO i1 i2 fp1 fp2 := ⟨D.TIz, D.TOz, D.TITO, D.TIi1, m1, nin z (by simp) D.i1z.symm, nin TO (by simp) D.i1T.symm, D.TIi2, m2, nin2 z (by simp) D.i2z.symm, nin2 TO (by simp) D.i2T.symm, nin2 i1 (by simp) D.i12, nin i2 (by simp) D.i12.symm⟩
    exact wpAny_pyNext_zipD2_end Zs D1 D2 hz hTI hTO s1 s2 li lj hend fun h' tk hk => ⟨rfl, I.turnedL (t' := tk) (ch := [z, TI, TO, i1, i2]) (fun c o hb q =>
      hk c o (fun q' => hb (by simp [q'])) (fun q' => hb (by simp [q'])) (fun q' => hb (by simp [q'])) (fun q' => hb (by simp [q'])) q) hf⟩
  self := fun A i s Q E st h => wpAny_pyIter_zip st.1 h
/-- how a side begins -/
def Sd.hh (its : List Value) : Sd → Heap → Prop
  | .str _, _ => True
  | .lst a, h => h.IsList a its.toArray
  | .tup a, h => h.IsTuple a its.toArray
theorem Sd.begins {X : Cx} {pins : List (Addr × Obj)} {σ : L2.St} {H : Hp} {s : Shared} {c : Sd} {v : V} {u : Value} {xs : List V} (I : Inv X pins σ H s) (hv : c.val v) (r : RelV v u) (hx : c.is X.K H xs) :
    ∃ (o : Obj) (its : List Value), Begins u o (c.hh its) ∧ c.hh its s.heap ∧ (∀ b, s.heap.objs.size ≤ b → c.off b) ∧ ∀ (it : Addr) (h : Heap), h.get? it = some o → c.cell it 0 h := by
  cases c with
  | str z =>
    have e : v = .str z := hv
    subst e
    obtain ⟨t, rfl⟩ := r
    exact ⟨_, [], begins_text z t, trivial, fun _ _ => trivial, fun it h e => ⟨t, _, e, rfl, rfl⟩⟩
  | lst a =>
    have e : v = .ref a := hv
    subst e
    cases r
    obtain ⟨its, rv, p, _⟩ := I.list hx
    exact ⟨_, its, begins_list a its.toArray, p.isList, fun b hb => Nat.ne_of_lt (Nat.lt_of_lt_of_le p.lt hb), fun it h e => ⟨_, e, rfl, rfl⟩⟩
  | tup a =>
    have e : v = .ref a := hv
    subst e
    cases r
    obtain ⟨its, rv, p, _⟩ := I.tuple hx
    exact ⟨_, its, begins_tuple a its.toArray, p, fun b hb => Nat.ne_of_lt (Nat.lt_of_lt_of_le p.lt hb), fun it h e => ⟨_, e, rfl, rfl⟩⟩
theorem nadd {N i j : Nat} (h : i ≠ j) : (N + i : Nat) ≠ N + j := by omega
theorem nad0 {N i : Nat} (h : i ≠ 0) : (N + i : Nat) ≠ N := by omega
theorem zap (N : Nat) (c d : Sd) (h1 : ∀ b, b ∈ [N + 4, N + 2, N + 3, N, N + 1] → c.off b) (h2 : ∀ b, b ∈ [N + 4, N + 2, N + 3, N, N + 1] → d.off b) : ZApart (N + 4) (N + 2) (N + 3) N (N + 1) c d :=
  ⟨nadd (by decide), nadd (by decide), nadd (by decide), nad0 (by decide), nadd (by decide), (nad0 (by decide)).symm, nadd (by decide), (nad0 (by decide)).symm, nadd (by decide), (nad0 (by decide)).symm, h1, h2⟩
def KZ (K : PySem.W.Frag) (vs : List V) (H : Hp) (R : It → Prop) : Prop := ∃ (x y : V) (c d : Sd) (xs ys : List V), vs = [x, y] ∧ c.val x ∧ d.val y ∧ c.is K H xs ∧ d.is K H ys ∧ R (ItZ K c d)
def iZipZ (K : PySem.W.Frag) (ta : TA) : TI := fun σ H R => ta σ H fun vs H1 => KZ K vs H1 fun J => R J H1
theorem pi_zipZ {X : Cx} {e e2 : Expr} {ta : TA} {p pos tpos : Pos} {elts : List Expr} {kk : Nat} (hg : Gl X "zip") (hm : X.mg "zip" = none) (ha : PA X [e, e2] ta)
    (hs : starEach [e, e2] X.env = (false, eval e X.env) :: starEach [e2] X.env := by rfl) (hpl : (backTo pos (starEach [e2] X.env)).any (·.1) = false := by rfl) :
    PI X (.Tuple elts kk tpos) (.Call (.Name "zip" p) [e, e2] [] pos) (iZipZ X.K ta) := by
  refine ⟨fun pins s σ H R I h => ?_⟩
  refine PyProof.Rows.Call_ (ld_blt I hg hm PyProof.Rows.boot_zip (PyProof.Rows.callWith_type1 (thn (ha.run pos pins s σ H _ I h) fun us s1 ⟨vs, H1, I1, r1, q1⟩ => ?_) hs hpl))
  obtain ⟨x, y, c, d, xs, ys, ex, vc, vd, hx, hy, q⟩ := q1
  subst ex
  cases r1 with
  | cons r rr =>
    cases rr with
    | cons r' rr =>
      cases rr
      obtain ⟨o1, its1, B1, g1, off1, cell1⟩ := Sd.begins I1 vc r hx
      obtain ⟨o2, its2, B2, g2, off2, cell2⟩ := Sd.begins I1 vd r' hy
      have fresh5 : ∀ c, c ∈ [s1.heap.objs.size + 4, s1.heap.objs.size + 2, s1.heap.objs.size + 3, s1.heap.objs.size, s1.heap.objs.size + 1] → s1.heap.objs.size ≤ c := fun c hcm => by
        have e' : c = s1.heap.objs.size + 4 ∨ c = s1.heap.objs.size + 2 ∨ c = s1.heap.objs.size + 3 ∨ c = s1.heap.objs.size ∨ c = s1.heap.objs.size + 1 := by simpa using hcm
        rcases e' with z | z | z | z | z
        · rw [z]; exact Nat.le_add_right _ _
        · rw [z]; exact Nat.le_add_right _ _
        · rw [z]; exact Nat.le_add_right _ _
        · rw [z]; exact Nat.le_refl _
        · rw [z]; exact Nat.le_add_right _ _
      refine zip_begins2 B1 B2 g1 g2 fun h' hz hTI hTO h1 h2 hsz hk => wpAny_pyIter_zip hz ?_
      have I2 : Inv X pins σ H1 { s1 with heap := h' } := I1.kept (t' := s1.toks) hk
      have ap : ZApart (s1.heap.objs.size + 4) (s1.heap.objs.size + 2) (s1.heap.objs.size + 3) s1.heap.objs.size (s1.heap.objs.size + 1) c d :=
        zap s1.heap.objs.size c d (fun b hb => off1 b (fresh5 b hb)) (fun b hb => off2 b (fresh5 b hb))
      exact ⟨s1.heap.objs.size + 4, [s1.heap.objs.size + 4, s1.heap.objs.size + 2, s1.heap.objs.size + 3, s1.heap.objs.size, s1.heap.objs.size + 1], _, _, H1, rfl, I2, turn_zipZ ap, ⟨hz, hTI, ⟨_, _, hTO⟩, cell1 _ _ h1, cell2 _ _ h2⟩, fun c hc => I1.fpOk (fresh5 c hc) (I1.hok.fresh (fresh5 c hc)), q⟩
theorem walk_zipZ {K : PySem.W.Frag} {c d : Sd} {xs ys : List V} {n : Nat} (hn : n = min xs.length ys.length) :
    Walk (ItZ K c d) n (fun H => c.is K H xs ∧ d.is K H ys) (YPair (fun i => xs[i]?) (fun i => ys[i]?)) := by
  subst hn
  refine ⟨fun i _ hi q => ⟨xs, ys, q.1, q.2, by omega, by omega⟩, fun _ q => ⟨xs, ys, q.1, q.2, by omega, by omega, by omega⟩, fun i H v H' hi q y => ?_⟩
  obtain ⟨T, x, z, h1, h2, h3, h4, h5⟩ := y
  exact ⟨T, x, z, h1, h2, h3, h4 xs q.1, h5 ys q.2⟩
end Z
namespace Z
open PySem PySem.Spec PyProof.Rows L2
open PySem.Sem (wp)
/-! ### sorted of a text, a text times a number -/
theorem strs_of_signs : ∀ (l : List Nat) (vs : List Value), vs.length = l.length → (∀ (j : Nat) (v : Value), vs[j]? = some v → ∃ c u, l[j]? = some c ∧ v = .str ⟨#[c]⟩ u) → StrsAre vs (l.map fun c => S [c])
  | [], [], _, _ => .nil
  | [], _ :: _, h, _ => by simp at h
  | _ :: _, [], h, _ => by simp at h
  | c :: l, v :: vs, h, q => by
    obtain ⟨c', u, e1, e2⟩ := q 0 v (by simp)
    have : c = c' := by simpa using e1
    subst this
    subst e2
    exact .cons _ u (strs_of_signs l vs (by simpa using h) fun j w hw => by
      have := q (j + 1) w (by simpa using hw)
      simpa using this)
theorem rising_pw : ∀ (p : Nat) (l : List Nat), risingS (S [p]) (l.map fun c => S [c]) = true → (p :: l).Pairwise (· ≤ ·)
  | p, [], _ => by simp
  | p, c :: l, h => by
    have h' : (!ltCps [c] [p] && risingS (S [c]) (l.map fun c => S [c])) = true := h
    rw [Bool.and_eq_true] at h'
    obtain ⟨h1, h2⟩ := h'
    have ih := rising_pw c l h2
    have hpc : p ≤ c := by
      have e : ltCps [c] [p] = false := by simpa using h1
      rw [ltCps_eq] at e
      have : ¬ ([c] < [p]) := by simpa using e
      have h3 : ¬ c < p := fun q => this (List.Lex.rel q)
      omega
    refine List.pairwise_cons.mpr ⟨fun d hd => ?_, ih⟩
    rcases List.mem_cons.mp hd with q | q
    · rw [q]; exact hpc
    · exact Nat.le_trans hpc (List.rel_of_pairwise_cons ih q)
theorem sorted_pw : ∀ (l : List Nat), sortedS (l.map fun c => S [c]) = true → l.Pairwise (· ≤ ·)
  | [], _ => by simp
  | p :: l, h => rising_pw p l h
theorem unmap_S : ∀ {l : List Nat} {ys : List Str}, ys.Perm (l.map fun c => S [c]) → ∃ zs : List Nat, ys = zs.map (fun c => S [c]) ∧ zs.Perm l := fun {l ys} h => by
  have e : ys = (ys.map fun y => (codes y).headD 0).map fun c => S [c] := by
    rw [List.map_map]
    refine (List.map_congr_left (fun y hy => ?_)).symm.trans (List.map_id _) |>.symm
    obtain ⟨c, _, rfl⟩ := List.mem_map.mp (h.mem_iff.mp hy)
    rfl
  refine ⟨ys.map fun y => (codes y).headD 0, e, ?_⟩
  have := h.map fun y => (codes y).headD 0
  rw [List.map_map] at this
  refine this.trans (List.Perm.of_eq ?_)
  exact (List.map_congr_left (g := id) fun c _ => rfl).trans (List.map_id _)
def zSortedC : List V → Hp → VK → Prop := fun vs H Q => ∃ z : List Nat, vs = [.str (S z)] ∧ z.length < 64 ∧ ∀ (ys : List Nat) (p : Addr), ys.Perm z → ys.Pairwise (· ≤ ·) → H p = none → Q (.ref p) (upd H p (.lst (ys.map fun c => V.str (S [c]))))
theorem zc_sortedC {X : Cx} (hc : X.calm = true) : CallR X (.builtin "sorted") zSortedC := by
  intro pins s σ H vs us Q I r h
  obtain ⟨z, rfl, h64, q⟩ := h
  obtain ⟨u, rfl, rx⟩ := vals1 r
  obtain ⟨t, rfl⟩ := rx
  refine Calls.call_function_entry kind_sorted plain_sorted entry_sorted (args_sorted1 _) ?_
  unfold Builtin.«sorted»
  refine wpAny_bind (m := checkCount "sorted" 1 1 _) (wpAny_pure ?_)
  have h64' : (S z).cps.size = z.length := by simp
  have hh : X.A.in1.handled = none := I.ok.hd hc
  refine wpAny_bind (wpAny_collect_str (A := X.A.in1) hh (S z) t (fun s1 acc k g dr os it => ?_) (by rw [h64']; exact Nat.le_trans (Nat.le_of_lt h64) (by decide)))
  obtain ⟨h1, g1, d1, t1, o1⟩ := s1
  subst g dr os
  replace k : ∀ b o, s.heap.get? b = some o → h1.get? b = some o := k
  have hl64 : acc.toList.length < 64 := by rw [Array.length_toList, it.1, h64']; exact h64
  refine wpAny_bind (wpAny_newList ?_ (by exact Nat.le_trans (Nat.le_of_lt hl64) (by decide)))
  have hS : StrsAre acc.toList (z.map fun c => S [c]) := strs_of_signs z acc.toList (by rw [Array.length_toList, it.1, h64']) fun j v hv => by
    obtain ⟨c, u, e1, e2⟩ := it.2 j v (by simpa using hv)
    exact ⟨c, u, by simpa using e1, e2⟩
  have hoL : (h1.push (seqObj "list" acc.toList.toArray 0)).get? h1.objs.size = some (seqObj "list" acc.toList.toArray 0) := Heap.get?_push_size _ rfl
  refine wpAny_bind (wpAny_holding (wpAny_call_entry slot_list_sort ⟨_, hoL, rfl⟩ entry_list_sort (list_sort_treeK strKind_oneLt hoL hS.keysOf (fun v₁ v₂ rest e => keyKind_strs (by rw [← e]; exact hS)) hl64 fun st' a1 a2 => ⟨_, rfl, ?_⟩) (args_list_sort _)))
  refine wpAny_pure ⟨_, rfl, ?_⟩
  obtain ⟨ss', b1, b2, b3⟩ := sorted_out_str hS a1 a2
  obtain ⟨zs, rfl, pz⟩ := unmap_S b2
  obtain ⟨ep, he'⟩ := PyProof.Rows.sortedHeap_at (vs := acc.toList) (out := (arrOf st').map (·.2)) hoL
  have hlen : (zs.map fun c => V.str (S [c])).length ≤ sizeLine := by rw [List.length_map, pz.length_eq]; exact Nat.le_trans (Nat.le_of_lt h64) (by decide)
  have I1 : Inv X pins σ H ⟨h1, s.gens, s.drawn, t1, s.os⟩ := I.kept (t' := t1) k
  refine ⟨.ref _, upd H h1.objs.size (.lst (zs.map fun c => V.str (S [c]))), I1.laid (t' := t1) (fun b u e => ?_) (Nat.le_refl _) ⟨hlen, _, ep, ?_, he'⟩, rfl, q zs _ pz (sorted_pw zs b3) (I1.hok.fresh (Nat.le_refl _))⟩
  · have hb : b ≠ h1.objs.size := Nat.ne_of_lt (Heap.lt_size e)
    exact PyProof.Rows.sortedHeap_old hb (Heap.lt_size (Heap.get?_push_of_some _ e)) |>.trans (Heap.get?_push_of_some _ e)
  · have := vals_of_strs b1
    rwa [List.map_map] at this
end Z
namespace Z
open PySem PySem.Spec PyProof.Rows L2
open PySem.Sem (wp)
def zRepS : R2 := fun x y H Q => ∃ (z : List Nat) (n : Int), x = .str (S z) ∧ y = .int n ∧ 0 ≤ n ∧ z.length * n.toNat ≤ 100000 ∧ n ≤ 100000 ∧ Q (.str (S (List.replicate n.toNat z).flatten)) H
theorem foldl_app : ∀ (k : Nat) (z : Array Nat) (a : Array Nat), ((List.replicate k z).foldl (· ++ ·) a).toList = a.toList ++ (List.replicate k z.toList).flatten
  | 0, z, a => by simp
  | k + 1, z, a => by
    rw [List.replicate_succ, List.foldl_cons, foldl_app k z (a ++ z), List.replicate_succ, List.flatten_cons, Array.toList_append, List.append_assoc]
theorem mul_S (z : List Nat) (n : Int) (h0 : 0 ≤ n) : Txt.mul (S z) n = S (List.replicate n.toNat z).flatten := by
  unfold Txt.mul
  by_cases h1 : n < 1
  · rw [if_pos h1]
    have : n = 0 := by omega
    subst this
    rfl
  · rw [if_neg h1]
    by_cases h2 : (n == 1 || (S z).length == 0) = true
    · rw [if_pos h2]
      rcases (Bool.or_eq_true _ _).mp h2 with h3 | h3
      · have : n = 1 := by simpa using h3
        subst this
        simp
      · have : z = [] := by
          have h4 : (S z).length = 0 := by simpa using h3
          rw [S_len] at h4
          exact List.eq_nil_of_length_eq_zero h4
        subst this
        simp
    · rw [if_neg h2]
      have := foldl_app n.toNat z.toArray #[]
      rw [List.nil_append] at this
      show (⟨_⟩ : Str) = ⟨_⟩
      rw [← Array.toArray_toList (xs := (List.replicate n.toNat (S z).cps).foldl (· ++ ·) #[])]
      exact congrArg (fun l : List Nat => (⟨l.toArray⟩ : Str)) this
theorem op_rep_str {X : Cx} : OpR X (binaryOp .Mult) zRepS := by
  intro pins s σ H x y v u Q I rx ry h
  obtain ⟨z, n, rfl, rfl, h0, hl, hn, q⟩ := h
  obtain ⟨t, rfl⟩ := rx
  obtain ⟨t', rfl⟩ := ry
  have hmul : MulOk (S z) n := by
    refine ⟨?_, fun h1 h2 => ?_, fun h1 h2 => ?_⟩
    · rw [Bool.or_eq_false_iff]
      exact ⟨decide_eq_false (by omega), decide_eq_false (by omega)⟩
    · have e : ((S z).length : Int) = z.length := by rw [S_len]
      have hz : z.length ≤ 100000 := by
        have : 1 ≤ n.toNat := by omega
        exact Nat.le_trans (Nat.le_mul_of_pos_right _ this) hl
      have h3 : (100000 : Int) ≤ (2 ^ 63 - 1) / n := by
        rw [Int.le_ediv_iff_mul_le (by omega)]
        have : (100000 : Int) * n ≤ 100000 * 100000 := Int.mul_le_mul_of_nonneg_left hn (by decide)
        omega
      omega
    · unfold Builtin.Str.tooLong
      rw [S_len]
      exact decide_eq_false (Nat.not_lt.mpr (Nat.le_trans hl (by decide)))
  refine SB.mul hmul fun tk k => ?_
  rw [mul_S z n h0]
  exact ⟨.str (S (List.replicate n.toNat z).flatten), H, I.tok k, ⟨tk, rfl⟩, q⟩
theorem i_repS {a : List Nat} {n : Int} {H : Hp} {Q : VK} (h0 : 0 ≤ n) (hl : a.length * n.toNat ≤ 100000) (hn : n ≤ 100000) (q : Q (.str (S (List.replicate n.toNat a).flatten)) H) : zRepS (.str (S a)) (.int n) H Q := ⟨a, n, rfl, rfl, h0, hl, hn, q⟩
end Z
namespace Z
open PySem PySem.Spec PyProof.Rows L2
open PySem.Builtin.Str (occurrences subAt lastOccurrence)
/-! ### texts: what find, count and their kin are on lists of codes -/
theorem cutS_S (a : List Nat) (lo hi : Option Int) : cutS (S a) lo hi = S ((a.drop (HT.sIx a.length 0 lo)).take (HT.sIx a.length a.length hi - HT.sIx a.length 0 lo)) := by
  unfold cutS
  rw [S_len]
theorem sub_iff (a b : List Nat) (i : Nat) : subAt (S a) (S b) i = true ↔ (a.drop i).take b.length = b := by
  unfold subAt
  have e : ((S a).cps.extract i (i + (S b).length)) = ((a.drop i).take b.length).toArray := by
    rw [S_len]
    show a.toArray.extract i (i + b.length) = _
    rw [List.extract_toArray, List.extract_eq_take_drop]
    have : i + b.length - i = b.length := by omega
    rw [this]
  rw [e]
  constructor
  · intro h
    have := eq_of_beq h
    exact congrArg Array.toList this
  · intro h
    rw [h]
    exact beq_self_eq_true _
def idx (c : Nat) : List Nat → Nat → List Nat
  | [], _ => []
  | x :: r, i => if x = c then i :: idx c r (i + 1) else idx c r (i + 1)
theorem idx_len (c : Nat) : ∀ (l : List Nat) (i : Nat), (idx c l i).length = l.count c
  | [], _ => rfl
  | x :: r, i => by
    unfold idx
    by_cases h : x = c
    · subst h; rw [if_pos rfl, List.length_cons, idx_len x r, List.count_cons_self]
    · rw [if_neg h, idx_len c r, List.count_cons_of_ne h]
theorem idx_lo (c : Nat) : ∀ (l : List Nat) (i j : Nat), j ∈ idx c l i → i ≤ j
  | [], _, _, h => by simp [idx] at h
  | x :: r, i, j, h => by
    unfold idx at h
    split at h
    · rcases List.mem_cons.mp h with e | h
      · omega
      · have := idx_lo c r (i + 1) j h; omega
    · have := idx_lo c r (i + 1) j h; omega
theorem take1 (c : Nat) (a : List Nat) (i : Nat) : ((a.drop i).take 1 = [c]) ↔ a[i]? = some c := by
  rcases h : a[i]? with _ | x
  · have : a.drop i = [] := List.drop_eq_nil_iff.mpr (List.getElem?_eq_none_iff.mp h)
    rw [this]; simp
  · obtain ⟨hl, e⟩ := List.getElem?_eq_some_iff.mp h
    have : a.drop i = x :: a.drop (i + 1) := by rw [List.drop_eq_getElem_cons hl, e]
    rw [this]; simp
theorem occ_loop (a : List Nat) (c lim : Nat) : ∀ (k i : Nat) (st : Array Nat × Nat), i + k = a.length + 1 → st.2 ≤ i →
    (forIn (List.range' i k) st (StrLaws.occBody (S a) (S [c]) a.length lim)).run.fst.toList = st.1.toList ++ (idx c (a.drop i) i).take (lim - st.1.size)
  | 0, i, st, hk, _ => by
    have : a.drop i = [] := List.drop_eq_nil_iff.mpr (by omega)
    rw [this]
    simp [idx]
  | k + 1, i, st, hk, hf => by
    rw [List.range'_succ, List.forIn_cons]
    unfold StrLaws.occBody
    have hS : (S [c]).length = 1 := S_len [c]
    by_cases hc : ((st.fst.size < lim ∧ st.snd ≤ i) ∧ i + (S [c]).length ≤ a.length) ∧ subAt (S a) (S [c]) i = true
    · rw [if_pos hc]
      have h1 : a[i]? = some c := (take1 c a i).mp ((sub_iff a [c] i).mp hc.2)
      obtain ⟨hl, e⟩ := List.getElem?_eq_some_iff.mp h1
      have hd : a.drop i = c :: a.drop (i + 1) := by rw [List.drop_eq_getElem_cons hl, e]
      have ih := occ_loop a c lim k (i + 1) (st.fst.push i, i + (S [c]).length) (by omega) (by rw [hS]; exact Nat.le_refl _)
      refine ih.trans ?_
      rw [hd, show idx c (c :: a.drop (i + 1)) i = i :: idx c (a.drop (i + 1)) (i + 1) from if_pos rfl]
      have hlt := hc.1.1.1
      obtain ⟨n, hn⟩ : ∃ n, lim - st.fst.size = n + 1 := ⟨lim - st.fst.size - 1, by omega⟩
      have hn2 : lim - (st.fst.push i).size = n := by rw [Array.size_push]; omega
      rw [hn, List.take_succ_cons, Array.toList_push, List.append_assoc]
      show _ ++ ([i] ++ _) = _
      rw [hn2]
      rfl
    · rw [if_neg hc]
      have ih := occ_loop a c lim k (i + 1) st (by omega) (by omega)
      refine ih.trans ?_
      by_cases hz : lim - st.fst.size = 0
      · rw [hz]; simp
      · have hne : ¬ a[i]? = some c := fun h1 => hc ⟨⟨⟨by omega, hf⟩, by obtain ⟨hl, _⟩ := List.getElem?_eq_some_iff.mp h1; rw [hS]; omega⟩, (sub_iff a [c] i).mpr ((take1 c a i).mpr h1)⟩
        rcases h : a[i]? with _ | x
        · have e0 : a.drop i = [] := List.drop_eq_nil_iff.mpr (List.getElem?_eq_none_iff.mp h)
          have e1 : a.drop (i + 1) = [] := List.drop_eq_nil_iff.mpr (by have := List.getElem?_eq_none_iff.mp h; omega)
          rw [e0, e1]; simp [idx]
        · obtain ⟨hl, e⟩ := List.getElem?_eq_some_iff.mp h
          have hd : a.drop i = x :: a.drop (i + 1) := by rw [List.drop_eq_getElem_cons hl, e]
          rw [hd]
          have hx : ¬ x = c := fun q => hne (by rw [h, q])
          show _ = _ ++ List.take _ (idx c (x :: a.drop (i + 1)) i)
          rw [show idx c (x :: a.drop (i + 1)) i = idx c (a.drop (i + 1)) (i + 1) from if_neg hx]
theorem occ_idx (a : List Nat) (c lo lim : Nat) (h : lo ≤ a.length) : occurrences (S a) (S [c]) lo a.length lim = (idx c (a.drop lo) lo).take lim := by
  rw [StrLaws.occ_eq, occ_loop a c lim (a.length + 1 - lo) lo (#[], lo) (by omega) (Nat.le_refl _)]
  simp
theorem find_S (a : List Nat) (c : Nat) : Txt.find (S a) (S [c]) = match idx c a 0 with | i :: _ => (i : Int) | [] => -1 := by
  unfold Txt.find
  rw [S_len, occ_idx a c 0 1 (Nat.zero_le _), List.drop_zero]
  cases idx c a 0 <;> rfl
theorem count_S (a : List Nat) (c : Nat) : Txt.count (S a) (S [c]) = (a.count c : Nat) := by
  unfold Txt.count
  rw [S_len, occ_idx a c 0 (a.length + 1) (Nat.zero_le _), List.drop_zero, List.take_of_length_le (by rw [idx_len]; have := List.count_le_length (a := c) (l := a); omega), idx_len]
theorem starts_S (a b : List Nat) : Txt.startswith (S a) (S b) = decide (b <+: a) := by
  unfold Txt.startswith
  rw [S_len, S_len]
  by_cases h : b <+: a
  · rw [decide_eq_true h]
    obtain ⟨r, rfl⟩ := h
    have h1 : subAt (S (b ++ r)) (S b) 0 = true := (sub_iff _ _ _).mpr (by simp)
    rw [h1]; simp
  · rw [decide_eq_false h]
    rw [Bool.and_eq_false_iff]
    refine .inr ?_
    cases q : subAt (S a) (S b) 0 with
    | false => rfl
    | true =>
      have := (sub_iff a b 0).mp q
      rw [List.drop_zero] at this
      exact absurd (by rw [← this]; exact List.take_prefix _ _) h
theorem ends_S (a b : List Nat) : Txt.endswith (S a) (S b) = decide (b <:+ a) := by
  unfold Txt.endswith
  rw [S_len, S_len]
  by_cases h : b <:+ a
  · rw [decide_eq_true h]
    obtain ⟨r, rfl⟩ := h
    have h1 : subAt (S (r ++ b)) (S b) ((r ++ b).length - b.length) = true := (sub_iff _ _ _).mpr (by simp)
    rw [h1]; simp
  · rw [decide_eq_false h]
    cases q : (decide (0 + b.length ≤ a.length) && subAt (S a) (S b) (a.length - b.length)) with
    | false => rfl
    | true =>
      obtain ⟨q1, q2⟩ := (Bool.and_eq_true _ _).mp q
      have q1 : 0 + b.length ≤ a.length := of_decide_eq_true q1
      have := (sub_iff a b _).mp q2
      have hl : (a.drop (a.length - b.length)).length = b.length := by rw [List.length_drop]; omega
      rw [List.take_of_length_le (by omega)] at this
      exact absurd (by rw [← this]; exact List.drop_suffix _ _) h
theorem in_S (a b : List Nat) : (!(occurrences (S a) (S b) 0 (S a).length 1).isEmpty) = decide (b <:+: a) := by
  rw [Bool.eq_iff_iff, StrLaws.found_iff, decide_eq_true_iff]
  constructor
  · rintro ⟨i, h1, h2⟩
    have := (sub_iff a b i).mp h2
    rw [← this]
    exact (List.take_prefix _ _).isInfix.trans (List.drop_suffix _ _).isInfix
  · rintro ⟨r, t, rfl⟩
    refine ⟨r.length, by rw [S_len, S_len, List.length_append, List.length_append]; omega, (sub_iff _ _ _).mpr (by simp)⟩
end Z
namespace Z
open PySem PySem.Spec PyProof.Rows L2
open PySem.Builtin.Str (occurrences subAt lastOccurrence)
/-! ### methods of texts by name -/
def find1 (c : Nat) (a : List Nat) : Int := match idx c a 0 with | i :: _ => (i : Int) | [] => -1
def zJoin0 (K : PySem.W.Frag) : V → List V → Hp → VK → Prop := fun x xs H Q => ∃ a p, ∃ ys : List Str, x = V.str a ∧ xs = [.ref p] ∧ (SqL K H p (ys.map V.str) ∨ SqT K H p (ys.map V.str)) ∧ (ys.map (·.length)).sum + ys.length * a.length ≤ 16777216 ∧ Q (.str (Txt.join a ys)) H
def zFind : V → List V → Hp → VK → Prop := fun x xs H Q => ∃ a b : Str, x = V.str a ∧ xs = [.str b] ∧ Q (.int (Txt.find a b)) H
def zFind3 : V → List V → Hp → VK → Prop := fun x xs H Q => ∃ (a b : Str) (i : Int), x = V.str a ∧ xs = [.str b, .int i] ∧ Q (.int (Txt.find3 a b i)) H
def zCount : V → List V → Hp → VK → Prop := fun x xs H Q => ∃ a b : Str, x = V.str a ∧ xs = [.str b] ∧ Q (.int (Txt.count a b)) H
def zStarts : V → List V → Hp → VK → Prop := fun x xs H Q => ∃ a b : Str, x = V.str a ∧ xs = [.str b] ∧ Q (.bl (Txt.startswith a b)) H
def zEnds : V → List V → Hp → VK → Prop := fun x xs H Q => ∃ a b : Str, x = V.str a ∧ xs = [.str b] ∧ Q (.bl (Txt.endswith a b)) H
def zIndex : V → List V → Hp → VK → Prop := fun x xs H Q => ∃ (a b : Str) (i : Nat) (rest : List Nat), x = V.str a ∧ xs = [.str b] ∧ occurrences a b 0 a.length 1 = i :: rest ∧ Q (.int (i : Nat)) H
def zUpper : V → List V → Hp → VK → Prop := fun x xs H Q => ∃ a : Str, x = V.str a ∧ xs = [] ∧ a.length ≤ 5592405 ∧ Q (.str (Txt.upper a)) H
def zInStr : R2 := fun x y H Q => ∃ i j : Str, x = V.str i ∧ y = V.str j ∧ Q (V.bl (!(occurrences j i 0 j.length 1).isEmpty)) H
def zAppend : V → List V → Hp → VK → Prop := fun x vs H Q => ∃ l xs y, x = V.ref l ∧ vs = [y] ∧ H l = some (.lst xs) ∧ xs.length < sizeLine ∧ Q .non (upd H l (.lst (xs ++ [y])))
def zPopAt : V → List V → Hp → VK → Prop := fun x vs H Q => ∃ l xs i k y, x = V.ref l ∧ vs = [.int i] ∧ H l = some (.lst xs) ∧ -(2 ^ 63) ≤ i ∧ i < 2 ^ 63 ∧ seqIndex? i xs.length = some k ∧ xs[k]? = some y ∧ Q y (upd H l (.lst (xs.eraseIdx k)))
section
variable {X : Cx}
theorem zm_find : MtR X "str.find" zFind := mt_find
theorem zm_find3 : MtR X "str.find" zFind3 := mt_find3
theorem zm_count : MtR X "str.count" zCount := mt_count
theorem zm_starts : MtR X "str.startswith" zStarts := mt_startswith
theorem zm_ends : MtR X "str.endswith" zEnds := mt_endswith
theorem zm_index : MtR X "str.index" zIndex := mt_sindex
theorem zm_upper : MtR X "str.upper" zUpper := mt_upper
theorem zm_append : MtR X "list.append" zAppend := mt_append
theorem zm_popAt : MtR X "list.pop" zPopAt := mt_popAt
theorem z_instr : OpR X (compareOp .In) zInStr := op_in_str
theorem pe_joinZ {K : PySem.W.Frag} {o e : Expr} {to te : TE} {apos pos : Pos} (hK : X.K = K) (ho : PE X o to) (he : PE X e te) (h1 : starEach [e] X.env = [(false, eval e X.env)] := by rfl)
    (h2 : attributeBase o "join" X.env (eval o X.env) = eval o X.env := by rfl) (h3 : (apos.endLine == pos.line) = true := by rfl) :
    PE X (.Call (.Attribute o "join" apos) [e] [] pos) (tM1 (zJoin0 K) to te) := hK ▸ pe_join ho he h1 h2 h3
theorem pe_bmZ {K : PySem.W.Frag} {o e : Expr} {es : List Expr} {to : TE} {t : TA} {name : Str} {apos cpos : Pos} {T id : String} {r : V → List V → Hp → VK → Prop} (hK : X.K = K)
    (pa : PlainAttrs T) (slot : Slot T name id) (hty : typeOf (.builtin id) = pure (.type "method_descriptor")) (hm : MtR X id r) (ho : PE X o to) (ha : PA X (e :: es) t)
    (h1 : attributeBase o name X.env (eval o X.env) = eval o X.env := by rfl)
    (h2 : ((((backTo cpos (starEach (e :: es) X.env)).all fun x => !x.1) && (backToKw cpos (keywordEach [] X.env)).all fun x => x.1.isSome) && decide (((e :: es).length + ([] : List Keyword).length + if ([] : List Keyword).isEmpty = true then 0 else 1) < 30)) = true := by rfl)
    (h3 : (apos.endLine == cpos.line) = true := by rfl) (h4 : starEach (e :: es) X.env = (false, eval e X.env) :: starEach es X.env := by rfl) (h5 : (backTo cpos (starEach es X.env)).any (fun x => x.1) = false := by rfl) :
    PE X (.Call (.Attribute o name apos) (e :: es) [] cpos) (tBM K T r to t) := hK ▸ pe_bm pa slot hty hm ho ha h1 h2 h3 h4 h5
theorem pe_bm0Z {K : PySem.W.Frag} {o : Expr} {to : TE} {name : Str} {apos cpos : Pos} {T id : String} {r : V → List V → Hp → VK → Prop} (hK : X.K = K)
    (pa : PlainAttrs T) (slot : Slot T name id) (hty : typeOf (.builtin id) = pure (.type "method_descriptor")) (hm : MtR X id r) (ho : PE X o to)
    (h1 : attributeBase o name X.env (eval o X.env) = eval o X.env := by rfl) (h3 : (apos.endLine == cpos.line) = true := by rfl) :
    PE X (.Call (.Attribute o name apos) [] [] cpos) (tBM0 K T r to) := hK ▸ pe_bm0 pa slot hty hm ho h1 h3
theorem pe_fldZ {K : PySem.W.Frag} {e : Expr} {f : Str} {pos : Pos} {ta : TE} (hK : X.K = K) (he : PE X e ta) (hb : attributeBase e f X.env (eval e X.env) = eval e X.env) : PE X (.Attribute e f pos) (tFld K ta f) := hK ▸ pe_fld he hb
end
section
variable {σ : L2.St} {H : Hp} {Q : VK} {D : Ends} {K : PySem.W.Frag} {i j : Int} {a b : List Nat} {x y v : V} {p : Addr} {xs : List V} {te : TE}
theorem i_m1 {r : V → List V → Hp → VK → Prop} {to : TE} (q : to σ H fun x H1 => KS x fun z => te σ H1 fun y H2 => r (.str z) [y] H2 Q) : tM1 r to te σ H Q := by
  have e : (fun (x : V) (H1 : Hp) => KS x fun z => te σ H1 fun y H2 => r (.str z) [y] H2 Q) = fun x H1 => (∃ a, x = V.str a) ∧ te σ H1 fun y H2 => r x [y] H2 Q := by
    funext x H1
    refine propext ⟨?_, ?_⟩
    · rintro ⟨z, rfl, h⟩; exact ⟨⟨z, rfl⟩, h⟩
    · rintro ⟨⟨z, rfl⟩, h⟩; exact ⟨z, rfl, h⟩
  rw [e] at q
  exact q
theorem i_tyS {t : TA} {R : List V → Hp → Prop} (q : t σ H R) : tyV K "str" (.str (S a)) H ∧ t σ H R := ⟨rfl, q⟩
theorem i_tyS0 {A : Prop} (q : A) : tyV K "str" (.str (S a)) H ∧ A := ⟨rfl, q⟩
theorem i_tyL {A : Prop} (h : SqL K H p xs) (q : A) : tyV K "list" (.ref p) H ∧ A := ⟨.inl ⟨rfl, xs, h⟩, q⟩
theorem i_find {c : Nat} (q : Q (.int (find1 c a)) H) : zFind (.str (S a)) [.str (S [c])] H Q := ⟨_, _, rfl, rfl, by rw [find_S]; exact q⟩
theorem i_count {c : Nat} (q : Q (.int (a.count c : Nat)) H) : zCount (.str (S a)) [.str (S [c])] H Q := ⟨_, _, rfl, rfl, by rw [count_S]; exact q⟩
theorem i_starts (q : Q (.bl (decide (b <+: a))) H) : zStarts (.str (S a)) [.str (S b)] H Q := ⟨_, _, rfl, rfl, by rw [starts_S]; exact q⟩
theorem i_ends (q : Q (.bl (decide (b <:+ a))) H) : zEnds (.str (S a)) [.str (S b)] H Q := ⟨_, _, rfl, rfl, by rw [ends_S]; exact q⟩
theorem i_instr (q : Q (.bl (decide (b <:+: a))) H) : zInStr (.str (S b)) (.str (S a)) H Q := ⟨_, _, rfl, rfl, by rw [in_S]; exact q⟩
theorem i_index {c n : Nat} (h : (idx c a 0).head? = some n) (q : Q (.int (n : Nat)) H) : zIndex (.str (S a)) [.str (S [c])] H Q := by
  cases e : idx c a 0 with
  | nil => rw [e] at h; cases h
  | cons m r =>
    rw [e] at h; cases h
    exact ⟨_, _, n, [], rfl, rfl, by rw [S_len, occ_idx a c 0 1 (Nat.zero_le _), List.drop_zero, e]; rfl, q⟩
theorem placed_len (x : Str) (f : Nat → Nat → Array Nat) : True := trivial
theorem i_append (h : H p = some (.lst xs)) (hl : xs.length < 100000) (q : Q .non (upd H p (.lst (xs ++ [v])))) : zAppend (.ref p) [v] H Q := ⟨p, xs, v, rfl, rfl, h, lt_line hl, q⟩
theorem i_slS {lo hi : Option Int} (hl : a.length ≤ 100000) (q : Q (.str (S ((a.drop (HT.sIx a.length 0 lo)).take (HT.sIx a.length a.length hi - HT.sIx a.length 0 lo)))) H) : rSlS (.str (S a)) lo hi H Q :=
  ⟨S a, rfl, by rw [S_len]; exact le_line hl, by rw [cutS_S]; exact q⟩
/-- the slices that a text is cut by: [:i], [i:], [i:j] with places in it -/
theorem i_slTo {n : Nat} (hl : a.length ≤ 100000) (q : Q (.str (S (a.take n))) H) : rSlS (.str (S a)) none (some (n : Int)) H Q := by
  refine i_slS hl ?_
  rw [HT.sIx_none, HT.sIx_nat, List.drop_zero, Nat.sub_zero]
  have : a.take (min n a.length) = a.take n := by
    rcases Nat.le_total n a.length with h | h
    · rw [Nat.min_eq_left h]
    · rw [Nat.min_eq_right h, List.take_of_length_le (Nat.le_refl _), List.take_of_length_le h]
  rw [this]; exact q
theorem i_slFrom {n : Nat} (hl : a.length ≤ 100000) (q : Q (.str (S (a.drop n))) H) : rSlS (.str (S a)) (some (n : Int)) none H Q := by
  refine i_slS hl ?_
  rw [HT.sIx_none, HT.sIx_nat]
  have : (a.drop (min n a.length)).take (a.length - min n a.length) = a.drop n := by
    rcases Nat.le_total n a.length with h | h
    · rw [Nat.min_eq_left h, List.take_of_length_le (by rw [List.length_drop]; exact Nat.le_refl _)]
    · rw [Nat.min_eq_right h, Nat.sub_self, List.take_zero, List.drop_of_length_le h]
  rw [this]; exact q
theorem i_slBoth {n m : Nat} (hl : a.length ≤ 100000) (q : Q (.str (S ((a.drop n).take (m - n)))) H) : rSlS (.str (S a)) (some (n : Int)) (some (m : Int)) H Q := by
  refine i_slS hl ?_
  rw [HT.sIx_nat, HT.sIx_nat]
  have e : (a.drop (min n a.length)).take (min m a.length - min n a.length) = (a.drop n).take (m - n) := by
    rcases Nat.le_total n a.length with h | h
    · rw [Nat.min_eq_left h]
      rcases Nat.le_total m a.length with h2 | h2
      · rw [Nat.min_eq_left h2]
      · rw [Nat.min_eq_right h2, List.take_of_length_le (by rw [List.length_drop]; exact Nat.le_refl _), List.take_of_length_le (by rw [List.length_drop]; omega)]
    · rw [Nat.min_eq_right h, List.drop_length, List.drop_of_length_le h, List.take_nil, List.take_nil]
  rw [e]; exact q
theorem glued_nil : ∀ (l : List (List Nat)) (acc : Array Nat), ((l.map S).foldl (fun (acc : Array Nat) (p : Str) => acc ++ (S []).cps ++ p.cps) acc).toList = acc.toList ++ l.flatten
  | [], acc => by simp
  | x :: l, acc => by
    rw [List.map_cons, List.foldl_cons, glued_nil l]
    simp
theorem join_nil (l : List (List Nat)) : Txt.join (S []) (l.map S) = S l.flatten := by
  cases l with
  | nil => rfl
  | cons x l =>
    have := glued_nil l x.toArray
    show (⟨_⟩ : Str) = ⟨_⟩
    refine congrArg Str.mk ?_
    rw [← Array.toArray_toList (xs := List.foldl _ _ _)]
    exact congrArg List.toArray this
theorem i_join0 {l : List (List Nat)} (h : SqL K H p (l.map fun x => V.str (S x)) ∨ SqT K H p (l.map fun x => V.str (S x))) (hl : l.flatten.length ≤ 100000) (q : Q (.str (S l.flatten)) H) : zJoin0 K (.str (S [])) [.ref p] H Q := by
  refine ⟨S [], p, l.map S, rfl, rfl, ?_, ?_, by rw [join_nil]; exact q⟩
  · rw [List.map_map]; exact h
  · have e : ((l.map S).map (·.length)).sum = l.flatten.length := by
      rw [List.map_map, List.length_flatten]
      exact congrArg List.sum (List.map_congr_left fun x _ => S_len x)
    have e0 : (S []).length = 0 := rfl
    rw [e, e0]; omega
end
end Z
namespace Z
open PySem PySem.Spec PyProof.Rows L2
/-! ### comprehensions by an invariant over what is made so far -/
section
variable {σ : L2.St} {H : Hp} {Q : VK} {K : PySem.W.Frag}
/-- the list at D is acc, and I speaks of it -/
def LcI (Dl : Addr) (I : Nat → List V → Hp → Prop) (i : Nat) (H : Hp) : Prop := ∃ acc, H Dl = some (.lst acc) ∧ acc.length ≤ i ∧ I i acc H
def CEnd (Dl : Addr) (P : Hp → Prop) (y : V) (H4 : Hp) : Prop := ∃ acc, H4 Dl = some (.lst acc) ∧ acc.length < sizeLine ∧ P (upd H4 Dl (.lst (acc ++ [y])))
def LcT (Dl : Addr) (I : Nat → List V → Hp → Prop) (i : Nat) (te : TE) (W : L2.St) (vs : List Nat) (tt : TT) (σ2 : L2.St) (H2 : Hp) : Prop := wipe σ2 vs = W ∧ tt σ2 H2 fun b H3 => if b = true then te σ2 H3 (CEnd Dl (LcI Dl I (i + 1))) else LcI Dl I (i + 1) H3
theorem l_comp {J : It} {n : Nat} {G : Hp → Prop} {Y : Nat → Hp → V → Hp → Prop} (w : Walk J n G Y) {g : TG} {tt : TT} {te : TE} {vs : List Nat} {Dl : Addr} (W : L2.St) (hw : wipe σ vs = W) (I : Nat → List V → Hp → Prop)
    (h0 : I 0 [] (upd H Dl (.lst []))) (hG : ∀ i acc H, i ≤ n → I i acc H → H Dl = some (.lst acc) → G H)
    (hs : ∀ i x acc H H', i < n → I i acc H → H Dl = some (.lst acc) → acc.length ≤ i → Y i H x H' → g x W H' (LcT Dl I i te W vs tt))
    (hd : ∀ acc H, I n acc H → H Dl = some (.lst acc) → acc.length ≤ n → Q (.ref Dl) H) : LC J g tt te vs σ H Q Dl := by
  subst hw
  refine l_lc w (LcI Dl I) ⟨[], upd_same, Nat.le_refl _, h0⟩ (fun i H hi ⟨acc, e, _, p⟩ => hG i acc H hi p e) (fun i x H H' hi ⟨acc, e, hl, p⟩ y => ?_) fun H ⟨acc, e, hl, p⟩ => hd acc H p e hl
  exact hs i x acc H H' hi p e hl y
theorem cend {Dl : Addr} {I : Nat → List V → Hp → Prop} {i : Nat} {y : V} {acc : List V} (h : H Dl = some (.lst acc)) (hl : acc.length ≤ i) (hi : i < 100000) (p : I (i + 1) (acc ++ [y]) (upd H Dl (.lst (acc ++ [y])))) : CEnd Dl (LcI Dl I (i + 1)) y H :=
  ⟨acc, h, lt_line (by omega), acc ++ [y], upd_same, by rw [List.length_append]; simp; omega, p⟩
theorem i_lct {Dl : Addr} {I : Nat → List V → Hp → Prop} {i : Nat} {te : TE} {W : L2.St} {vs : List Nat} {tt : TT} {σ2 : L2.St} (hw : wipe σ2 vs = W) (q : tt σ2 H fun b H3 => if b = true then te σ2 H3 (CEnd Dl (LcI Dl I (i + 1))) else LcI Dl I (i + 1) H3) :
    LcT Dl I i te W vs tt σ2 H := ⟨hw, q⟩
theorem i_slL {p : Addr} {xs : List V} {lo hi : Option Int} (h : SqL K H p xs) (q : ∀ l, H l = none → Q (.ref l) (upd H l (.lst (cutV xs lo hi)))) : rSlL K (.ref p) lo hi H Q := ⟨p, xs, rfl, h, q⟩
theorem cutV_to (xs : List V) (n : Nat) : cutV xs none (some (n : Int)) = xs.take n := by
  unfold cutV
  rw [HT.sIx_none, HT.sIx_nat, List.drop_zero, Nat.sub_zero]
  rcases Nat.le_total n xs.length with h | h
  · rw [Nat.min_eq_left h]
  · rw [Nat.min_eq_right h, List.take_of_length_le (Nat.le_refl _), List.take_of_length_le h]
theorem cutV_from (xs : List V) (n : Nat) : cutV xs (some (n : Int)) none = xs.drop n := by
  unfold cutV
  rw [HT.sIx_none, HT.sIx_nat]
  rcases Nat.le_total n xs.length with h | h
  · rw [Nat.min_eq_left h, List.take_of_length_le (by rw [List.length_drop]; exact Nat.le_refl _)]
  · rw [Nat.min_eq_right h, Nat.sub_self, List.take_zero, List.drop_of_length_le h]
end
theorem _root_.L2.Same.newz {H H' : Hp} {p : Addr} {o : HO} (e : Same H H') (hp : H' p = none) : Same H (upd H' p o) := fun b u q => by have := e b u q; rw [upd_ne (ne_of_none this hp)]; exact this
theorem _root_.L2.Same.mutz {H H' : Hp} {p : Addr} {o : HO} (e : Same H H') (hp : H p = none) : Same H (upd H' p o) := fun b u q => by rw [upd_ne (ne_of_none q hp)]; exact e b u q
end Z
namespace Z
theorem perm_pick {α : Type} {found rest l : List α} {r : Nat} (hr : r < rest.length) (hp : (found ++ rest).Perm l) : ((found ++ [rest[r]]) ++ (rest.take r ++ rest.drop (r + 1))).Perm l := by
  refine List.Perm.trans ?_ hp
  rw [List.append_assoc]
  refine List.Perm.append_left found ?_
  have e : rest = rest.take r ++ rest[r] :: rest.drop (r + 1) := by
    rw [List.getElem_cons_drop, List.take_append_drop]
  refine List.Perm.trans ?_ (List.Perm.of_eq e.symm)
  show (rest[r] :: (rest.take r ++ rest.drop (r + 1))).Perm _
  exact List.perm_middle.symm
theorem az : codes (PySem.Str.ofString "abcdefghijklmnopqrstuvwxyz") = List.range' 97 26 := by decide +kernel
theorem empty_codes : codes (PySem.Str.ofString "") = [] := by decide +kernel
theorem perm_nodup_of {α : Type} {found rest l : List α} (hp : (found ++ rest).Perm l) (hn : l.Nodup) : found.Nodup := (List.nodup_append.mp (hp.nodup_iff.mpr hn)).1
/-- a sorted arrangement of different ones ascends -/
theorem asc_of {ys : List Nat} (h : ys.Pairwise (· ≤ ·)) (hn : ys.Nodup) : ys.Pairwise (· < ·) :=
  (h.and hn).imp fun {a b} q => by have := q.1; have := q.2; omega
theorem flat_one : ∀ ys : List Nat, (ys.map fun c => [c]).flatten = ys
  | [] => rfl
  | a :: l => by rw [List.map_cons, List.flatten_cons, flat_one l]; rfl
end Z
namespace Z
open PySem PySem.Spec PyProof.Rows L2
/-! ### data in the heap: what a value stands for; N tells the addresses that may change -/
mutual
inductive Rp (N : Addr → Prop) (H : Hp) : V → PyData → Prop
  | non : Rp N H .non .none
  | bl (b : Bool) : Rp N H (.bl b) (.bool b)
  | int (i : Int) : Rp N H (.int i) (.int i)
  | str (x : Str) : Rp N H (.str x) (.str x)
  | lst {a : Addr} {xs : List V} {ds : List PyData} : H a = some (.lst xs) → ¬ N a → RpAll N H xs ds → Rp N H (.ref a) (.list ds)
  | tup {a : Addr} {xs : List V} {ds : List PyData} : H a = some (.tup xs) → ¬ N a → RpAll N H xs ds → Rp N H (.ref a) (.tuple ds)
  | dct {a : Addr} {kvs : List (Key × V)} : H a = some (.dK kvs) → ¬ N a → Rp N H (.ref a) (.dict [])
inductive RpAll (N : Addr → Prop) (H : Hp) : List V → List PyData → Prop
  | nil : RpAll N H [] []
  | cons {v : V} {vs : List V} {d : PyData} {ds : List PyData} : Rp N H v d → RpAll N H vs ds → RpAll N H (v :: vs) (d :: ds)
end
/-- all but what may change is as it was -/
def Kp (N : Addr → Prop) (H H' : Hp) : Prop := ∀ b o, H b = some o → ¬ N b → H' b = some o
theorem Kp.refl {N : Addr → Prop} {H : Hp} : Kp N H H := fun _ _ e _ => e
theorem Kp.trans {N : Addr → Prop} {H H1 H2 : Hp} (a : Kp N H H1) (b : Kp N H1 H2) : Kp N H H2 := fun c o e n => b c o (a c o e n) n
theorem Kp.of_same {N : Addr → Prop} {H H' : Hp} (s : Same H H') : Kp N H H' := fun b o e _ => s b o e
theorem Gd.toKp {h : Addr} {H H' : Hp} (g : Gd h H H') : Kp (· = h) H H' := g.kp
theorem Kp.newz {N : Addr → Prop} {H H' : Hp} {p : Addr} {o : HO} (k : Kp N H H') (hp : H' p = none) : Kp N H (upd H' p o) := fun b u e n => by
  have := k b u e n
  rw [upd_ne (ne_of_none this hp)]; exact this
mutual
theorem Rp.mono {N : Addr → Prop} {H H' : Hp} (k : Kp N H H') : ∀ {v : V} {d : PyData}, Rp N H v d → Rp N H' v d
  | _, _, .non => .non
  | _, _, .bl b => .bl b
  | _, _, .int i => .int i
  | _, _, .str x => .str x
  | _, _, .lst e n r => .lst (k _ _ e n) n (RpAll.mono k r)
  | _, _, .tup e n r => .tup (k _ _ e n) n (RpAll.mono k r)
  | _, _, .dct e n => .dct (k _ _ e n) n
theorem RpAll.mono {N : Addr → Prop} {H H' : Hp} (k : Kp N H H') : ∀ {vs : List V} {ds : List PyData}, RpAll N H vs ds → RpAll N H' vs ds
  | _, _, .nil => .nil
  | _, _, .cons a b => .cons (Rp.mono k a) (RpAll.mono k b)
end
mutual
theorem Rp.sub {N M : Addr → Prop} {H : Hp} (k : ∀ b, M b → N b) : ∀ {v : V} {d : PyData}, Rp N H v d → Rp M H v d
  | _, _, .non => .non
  | _, _, .bl b => .bl b
  | _, _, .int i => .int i
  | _, _, .str x => .str x
  | _, _, .lst e n r => .lst e (fun q => n (k _ q)) (RpAll.sub k r)
  | _, _, .tup e n r => .tup e (fun q => n (k _ q)) (RpAll.sub k r)
  | _, _, .dct e n => .dct e fun q => n (k _ q)
theorem RpAll.sub {N M : Addr → Prop} {H : Hp} (k : ∀ b, M b → N b) : ∀ {vs : List V} {ds : List PyData}, RpAll N H vs ds → RpAll M H vs ds
  | _, _, .nil => .nil
  | _, _, .cons a b => .cons (Rp.sub k a) (RpAll.sub k b)
end
/-- nothing may change -/
abbrev N0 : Addr → Prop := fun _ => False
theorem Rp.same {H H' : Hp} {N : Addr → Prop} {v : V} {d : PyData} (s : Same H H') (r : Rp N H v d) : Rp N H' v d := r.mono (Kp.of_same s)
theorem Rp.free {N : Addr → Prop} {H : Hp} {v : V} {d : PyData} (r : Rp N H v d) : Rp N0 H v d := r.sub fun _ q => q.elim
theorem RpAll.length {N : Addr → Prop} {H : Hp} : ∀ {vs : List V} {ds : List PyData}, RpAll N H vs ds → vs.length = ds.length
  | _, _, .nil => rfl
  | _, _, .cons _ r => by rw [List.length_cons, List.length_cons, r.length]
theorem RpAll.get {N : Addr → Prop} {H : Hp} : ∀ {vs : List V} {ds : List PyData} {i : Nat} {d : PyData}, RpAll N H vs ds → ds[i]? = some d → ∃ v, vs[i]? = some v ∧ Rp N H v d
  | _, _, _, _, .nil, e => by simp at e
  | _, _, 0, _, .cons a _, e => by simp at e; subst e; exact ⟨_, rfl, a⟩
  | _, _, i + 1, _, .cons _ r, e => by obtain ⟨v, h1, h2⟩ := r.get (i := i) (by simpa using e); exact ⟨v, by simpa using h1, h2⟩
theorem RpAll.get' {N : Addr → Prop} {H : Hp} : ∀ {vs : List V} {ds : List PyData} {i : Nat} {v : V}, RpAll N H vs ds → vs[i]? = some v → ∃ d, ds[i]? = some d ∧ Rp N H v d
  | _, _, _, _, .nil, e => by simp at e
  | _, _, 0, _, .cons a _, e => by simp at e; subst e; exact ⟨_, rfl, a⟩
  | _, _, i + 1, _, .cons _ r, e => by obtain ⟨v, h1, h2⟩ := r.get' (i := i) (by simpa using e); exact ⟨v, by simpa using h1, h2⟩
theorem RpAll.drop {N : Addr → Prop} {H : Hp} : ∀ {vs : List V} {ds : List PyData} (n : Nat), RpAll N H vs ds → RpAll N H (vs.drop n) (ds.drop n)
  | _, _, 0, r => r
  | _, _, _ + 1, .nil => .nil
  | _, _, n + 1, .cons _ r => r.drop n
theorem RpAll.append {N : Addr → Prop} {H : Hp} : ∀ {vs ws : List V} {ds es : List PyData}, RpAll N H vs ds → RpAll N H ws es → RpAll N H (vs ++ ws) (ds ++ es)
  | _, _, _, _, .nil, r => r
  | _, _, _, _, .cons a q, r => .cons a (q.append r)
theorem RpAll.ints {N : Addr → Prop} {H : Hp} : ∀ (l : List Int), RpAll N H (l.map V.int) (l.map PyData.int)
  | [] => .nil
  | _ :: l => .cons (.int _) (RpAll.ints l)
mutual
/-- without dicts -/
def noD : PyData → Bool
  | .dict _ => false
  | .list l => noDs l
  | .tuple l => noDs l
  | .none => true
  | .bool _ => true
  | .int _ => true
  | .str _ => true
def noDs : List PyData → Bool
  | [] => true
  | d :: r => noD d && noDs r
end
mutual
theorem Rp.dp {K : PySem.W.Frag} {N : Addr → Prop} {H : Hp} : ∀ {v : V} {d : PyData}, noD d = true → Rp N H v d → Dp K H v d
  | _, _, _, .non => .non
  | _, _, _, .bl b => .bl b
  | _, _, _, .int i => .int i
  | _, _, _, .str x => .str x
  | _, _, s, .lst e _ r => .lst (SqL.of e) (RpAll.dp (by simpa [noD] using s) r)
  | _, _, s, .tup e _ r => .tup (SqT.of e) (RpAll.dp (by simpa [noD] using s) r)
  | _, _, s, .dct _ _ => by simp [noD] at s
theorem RpAll.dp {K : PySem.W.Frag} {N : Addr → Prop} {H : Hp} : ∀ {vs : List V} {ds : List PyData}, noDs ds = true → RpAll N H vs ds → DpAll K H vs ds
  | _, _, _, .nil => .nil
  | _, _, s, .cons a b => by
    have s' := s
    simp only [noDs, Bool.and_eq_true] at s'
    exact .cons (Rp.dp s'.1 a) (RpAll.dp s'.2 b)
end
/-- the built-in class of a datum -/
def tyN : PyData → String
  | .none => "NoneType"
  | .bool _ => "bool"
  | .int _ => "int"
  | .str _ => "str"
  | .list _ => "list"
  | .tuple _ => "tuple"
  | .dict _ => "dict"
theorem Rp.ty {K : PySem.W.Frag} {N : Addr → Prop} {H : Hp} {v : V} {d : PyData} (r : Rp N H v d) : TyX K H v (.type (tyN d)) := by
  cases r with
  | non => exact .base .non
  | bl b => exact .base (.bl b)
  | int i => exact .base (.int i)
  | str x => exact .base (.str x)
  | lst e _ _ => exact .base (.lst e)
  | tup e _ _ => exact .base (.tup e)
  | dct e _ => exact .base (.dK e)
def isTy (d : PyData) (T : String) : Bool := tyN d == T || (tyN d == "bool" && T == "int")
def tys : List String := ["int", "str", "bool", "list", "tuple", "dict"]
theorem kit_all : ∀ n, n ∈ ["NoneType", "bool", "int", "str", "list", "tuple", "dict"] → ∀ T, T ∈ tys → kitB n T = some (n == T || (n == "bool" && T == "int")) := by decide +kernel
theorem tyN_mem (d : PyData) : tyN d ∈ ["NoneType", "bool", "int", "str", "list", "tuple", "dict"] := by cases d <;> simp [tyN]
def zIsi (K : PySem.W.Frag) : List V → Hp → VK → Prop := rIsi K
theorem zc_isi {X : Cx} : CallR X (.builtin "isinstance") (zIsi X.K) := call_isi
theorem i_isi {K : PySem.W.Frag} {N : Addr → Prop} {H : Hp} {Q : VK} {x : V} {d : PyData} {T : String} (r : Rp N H x d) (hT : T ∈ tys) (q : Q (.bl (isTy d T)) H) : zIsi K [x, .ty T] H Q :=
  ⟨x, .ty T, _, _, _, rfl, .ty T, r.ty, kit_ty (kit_all _ (tyN_mem d) T hT), q⟩
theorem rel_ty (n : String) : RelV (.ty n) (.type n) := rfl
theorem Rp.isStr {N : Addr → Prop} {H : Hp} {x : V} {d : PyData} (r : Rp N H x d) : isTy d "str" = true → ∃ l, x = .str (S l) ∧ d = .str (S l) := by
  intro h
  cases r with
  | str w => exact ⟨codes w, rfl, rfl⟩
  | _ => simp [isTy, tyN] at h
theorem Rp.isTup {N : Addr → Prop} {H : Hp} {x : V} {d : PyData} (r : Rp N H x d) : isTy d "tuple" = true → ∃ a xs ds, x = .ref a ∧ d = .tuple ds ∧ H a = some (.tup xs) ∧ ¬ N a ∧ RpAll N H xs ds := by
  intro h
  cases r with
  | tup e n q => exact ⟨_, _, _, rfl, rfl, e, n, q⟩
  | _ => simp [isTy, tyN] at h
theorem Rp.isList {N : Addr → Prop} {H : Hp} {x : V} {d : PyData} (r : Rp N H x d) : isTy d "list" = true → ∃ a xs ds, x = .ref a ∧ d = .list ds ∧ H a = some (.lst xs) ∧ ¬ N a ∧ RpAll N H xs ds := by
  intro h
  cases r with
  | lst e n q => exact ⟨_, _, _, rfl, rfl, e, n, q⟩
  | _ => simp [isTy, tyN] at h
/-! ### a comprehension whose element is a function of the item -/
section
variable {σ : L2.St} {H : Hp} {Q : VK} {K : PySem.W.Frag}
theorem l_map {J : It} {n : Nat} {G : Hp → Prop} {Y : Nat → Hp → V → Hp → Prop} (w : Walk J n G Y) {j : Nat} {te : TE} {vs : List Nat} {Dl : Addr} (hD : H Dl = none) (W : L2.St) (hw : wipe σ vs = W) (hw2 : ∀ x : V, wipe (W.set j (some x)) vs = W)
    (xs : List V) (hn : n = xs.length) (hl : xs.length ≤ 99999) (hY : ∀ i H1 x H2, i < n → G H1 → Y i H1 x H2 → H2 = H1 ∧ xs[i]? = some x) (hG : ∀ H1, Same H H1 → G H1) (f : V → V)
    (hs : ∀ (x : V) (H1 : Hp) (P : VK), x ∈ xs → Same H H1 → (∀ H2, Same H1 H2 → P (f x) H2) → te (W.set j (some x)) H1 P)
    (hd : ∀ H1, Same H H1 → H1 Dl = some (.lst (xs.map f)) → Q (.ref Dl) H1) : LC J (gName j) tYes te vs σ H Q Dl := by
  subst hn
  refine l_comp w W hw (fun i acc H1 => Same H H1 ∧ acc = (xs.take i).map f) ⟨(Same.refl H).newz hD, by simp⟩ (fun i acc H1 _ p _ => hG H1 p.1) ?_ ?_
  · rintro i x acc H1 H2 hi ⟨sm, rfl⟩ e hl2 y
    obtain ⟨rfl, hx⟩ := hY i _ x _ hi (hG _ sm) y
    refine i_gname ?_
    refine i_lct (hw2 x) ?_
    refine i_yes ?_
    refine iteT ?_
    refine hs x _ _ (List.mem_of_getElem? hx) sm fun H3 s3 => ?_
    refine cend (s3 _ _ e) hl2 (by omega) ⟨(sm.trans s3).mutz hD, ?_⟩
    rw [List.take_add_one, hx]
    simp
  · rintro acc H1 ⟨sm, rfl⟩ e _
    rw [List.take_length] at e
    exact hd H1 sm e
theorem l_mapS {a : List Nat} {j : Nat} {te : TE} {vs : List Nat} {Dl : Addr} (hD : H Dl = none) (W : L2.St) (hw : wipe σ vs = W) (hw2 : ∀ x : V, wipe (W.set j (some x)) vs = W) (hl : a.length ≤ 99999) (f : Nat → V)
    (hs : ∀ (c : Nat) (H1 : Hp) (P : VK), c ∈ a → Same H H1 → (∀ H2, Same H1 H2 → P (f c) H2) → te (W.set j (some (.str (S [c])))) H1 P)
    (hd : ∀ H1, Same H H1 → H1 Dl = some (.lst (a.map f)) → Q (.ref Dl) H1) : LC (Its (S a)) (gName j) tYes te vs σ H Q Dl := by
  let f' : V → V := fun v => match v with | .str w => f ((codes w).headD 0) | _ => .non
  refine l_map (walk_str (z := S a)) hD W hw hw2 (a.map fun c => V.str (S [c])) (by simp) (by rw [List.length_map]; exact hl) (fun i H1 x H2 hi _ y => ?_) (fun _ _ => trivial) f' (fun x H1 P hx sm hP => ?_) fun H1 sm e => hd H1 sm ?_
  · obtain ⟨e, c, hc, ex⟩ := y
    refine ⟨e, ?_⟩
    rw [List.getElem?_map, show a[i]? = some c by simpa using hc, ex]
    rfl
  · obtain ⟨c, hc, rfl⟩ := List.mem_map.mp hx
    exact hs c H1 P hc sm hP
  · rw [List.map_map] at e
    exact e
end
def zAll (K : PySem.W.Frag) : List V → Hp → VK → Prop := rAll K
def zAny (K : PySem.W.Frag) : List V → Hp → VK → Prop := rAny K
theorem zc_all {X : Cx} (hc : X.calm = true) : CallR X (.builtin "all") (zAll X.K) := cr_all hc
theorem zc_any {X : Cx} (hc : X.calm = true) : CallR X (.builtin "any") (zAny X.K) := cr_any hc
theorem i_all {K : PySem.W.Frag} {H : Hp} {Q : VK} {a : Addr} {bs : List Bool} (h : SqL K H a (bs.map V.bl)) (q : Q (.bl (bs.all id)) H) : zAll K [.ref a] H Q := ⟨a, bs, rfl, h, q⟩
theorem i_any {K : PySem.W.Frag} {H : Hp} {Q : VK} {a : Addr} {bs : List Bool} (h : SqL K H a (bs.map V.bl)) (q : Q (.bl (bs.any id)) H) : zAny K [.ref a] H Q := ⟨a, bs, rfl, h, q⟩
def zSum (K : PySem.W.Frag) : List V → Hp → VK → Prop := rSum K
theorem zc_sum {X : Cx} (hc : X.calm = true) : CallR X (.builtin "sum") (zSum X.K) := cr_sum hc
theorem i_sum {K : PySem.W.Frag} {H : Hp} {Q : VK} {a : Addr} {ns : List Int} (h : SqL K H a (ns.map V.int)) (q : Q (.int ns.sum) H) : zSum K [.ref a] H Q := ⟨a, ns, rfl, h, q⟩
/-! for operands of more than one kind -/
def zLtA : R2 := fun x y H Q => zLt x y H Q ∨ zLtS x y H Q
theorem z_ltA {X : Cx} : OpR X (compareOp .Lt) zLtA := by
  intro pins s σ H x y v u Q I rx ry h
  rcases h with h | h
  · exact z_lt pins s σ H x y v u Q I rx ry h
  · exact z_lts pins s σ H x y v u Q I rx ry h
theorem i_ltAI {i j : Int} {H : Hp} {Q : VK} (q : Q (.bl (decide (i < j))) H) : zLtA (.int i) (.int j) H Q := .inl (i_lt q)
theorem i_ltAS {a b : List Nat} {H : Hp} {Q : VK} (q : Q (.bl (decide (a < b))) H) : zLtA (.str (S a)) (.str (S b)) H Q := .inr (i_lts q)
def zSlA (K : PySem.W.Frag) : V → Option Int → Option Int → Hp → VK → Prop := fun x lo hi H Q => rSlS x lo hi H Q ∨ rSlA K x lo hi H Q ∨ rSlL K x lo hi H Q
theorem sl_A {X : Cx} : SlR X (zSlA X.K) := by
  intro pins s σ H x v vl vu lo hi sl Q I rx hs pl pu h
  rcases h with h | h | h
  · exact sl_str pins s σ H x v vl vu lo hi sl Q I rx hs pl pu h
  · exact sl_tupA pins s σ H x v vl vu lo hi sl Q I rx hs pl pu h
  · exact sl_list pins s σ H x v vl vu lo hi sl Q I rx hs pl pu h
theorem one_lt {c d : Nat} : decide ([c] < [d]) = decide (c < d) := by
  by_cases h : c < d
  · rw [decide_eq_true h]; exact decide_eq_true (List.Lex.rel h)
  · rw [decide_eq_false h]
    refine decide_eq_false fun q => ?_
    cases q with
    | rel q => exact h q
    | cons q => cases q
section
variable {σ : L2.St} {H : Hp} {K : PySem.W.Frag} {R : L2.St → Hp → Prop} {v : V} {r : List V} {t : TG} {u ts : TGs}
theorem i_gtup {a : Addr} {xs : List V} {n : Nat} (h : SqT K H a xs) (hl : xs.length = n) (q : ts xs σ H R) : gTup K n ts (.ref a) σ H R := ⟨a, xs, rfl, h, hl, q⟩
theorem i_gcons (q : t v σ H fun σ' H' => u r σ' H' R) : gCons t u (v :: r) σ H R := ⟨v, r, rfl, q⟩
theorem i_gnil (q : R σ H) : gNil [] σ H R := ⟨rfl, q⟩
theorem i_izip {ta : TA} {R : It → Hp → Prop} (q : ta σ H fun vs H1 => KZ K vs H1 fun J => R J H1) : iZipZ K ta σ H R := q
theorem i_KZ {x y : V} {R : It → Prop} (c d : Sd) {xs ys : List V} (vc : c.val x) (vd : d.val y) (hx : c.is K H xs) (hy : d.is K H ys) (q : R (ItZ K c d)) : KZ K [x, y] H R := ⟨x, y, c, d, xs, ys, rfl, vc, vd, hx, hy, q⟩
end
/-- each one is less than the next -/
def adj {α : Type} (lt : α → α → Bool) : List α → Bool
  | [] => true
  | [_] => true
  | a :: b :: r => lt a b && adj lt (b :: r)
theorem adj_all {α : Type} (lt : α → α → Bool) : ∀ l : List α, ((l.zip (l.drop 1)).map fun p => lt p.1 p.2).all id = adj lt l
  | [] => rfl
  | [_] => rfl
  | a :: b :: r => by
    have ih := adj_all lt (b :: r)
    show (lt a b && (((b :: r).zip r).map fun p => lt p.1 p.2).all id) = (lt a b && adj lt (b :: r))
    rw [← ih]; rfl
theorem adj_asc : ∀ l : List Nat, adj (fun a b => decide (a < b)) l = decide (l.Pairwise (· < ·))
  | [] => by simp [adj]
  | [_] => by simp [adj]
  | a :: b :: r => by
    have ih := adj_asc (b :: r)
    show (decide (a < b) && adj (fun a b => decide (a < b)) (b :: r)) = _
    rw [ih, Bool.eq_iff_iff, Bool.and_eq_true, decide_eq_true_iff, decide_eq_true_iff, decide_eq_true_iff]
    constructor
    · rintro ⟨h1, h2⟩
      refine List.pairwise_cons.mpr ⟨fun c hc => ?_, h2⟩
      rcases List.mem_cons.mp hc with q | q
      · rw [q]; exact h1
      · exact Nat.lt_trans h1 (List.rel_of_pairwise_cons h2 q)
    · intro h
      exact ⟨List.rel_of_pairwise_cons h (by simp), (List.pairwise_cons.mp h).2⟩
theorem adj_ascI : ∀ l : List Int, adj (fun a b => decide (a < b)) l = decide (l.Pairwise (· < ·))
  | [] => by simp [adj]
  | [_] => by simp [adj]
  | a :: b :: r => by
    have ih := adj_ascI (b :: r)
    show (decide (a < b) && adj (fun a b => decide (a < b)) (b :: r)) = _
    rw [ih, Bool.eq_iff_iff, Bool.and_eq_true, decide_eq_true_iff, decide_eq_true_iff, decide_eq_true_iff]
    constructor
    · rintro ⟨h1, h2⟩
      refine List.pairwise_cons.mpr ⟨fun c hc => ?_, h2⟩
      rcases List.mem_cons.mp hc with q | q
      · rw [q]; exact h1
      · exact Int.lt_trans h1 (List.rel_of_pairwise_cons h2 q)
    · intro h
      exact ⟨List.rel_of_pairwise_cons h (by simp), (List.pairwise_cons.mp h).2⟩
theorem zte {t : TE} {σ : L2.St} {H : Hp} {P : VK} (L : L2.St) (h : σ = L) (q : t L H P) : t σ H P := h ▸ q
theorem l_zipmap {σ : L2.St} {H : Hp} {Q : VK} {K : PySem.W.Frag} {c d : Sd} {xs ys : List V} {j1 j2 : Nat} {te : TE} {vs : List Nat} {Dl : Addr} (hD : H Dl = none) (W : L2.St) (hw : wipe σ vs = W) (hw2 : ∀ x y : V, wipe ((W.set j1 (some x)).set j2 (some y)) vs = W)
    (hc : ∀ H1, Same H H1 → c.is K H1 xs) (hd : ∀ H1, Same H H1 → d.is K H1 ys) (hl : min xs.length ys.length ≤ 99999) (f : V → V → V)
    (hs : ∀ (x y : V) (H1 : Hp) (P : VK), x ∈ xs → y ∈ ys → Same H H1 → (∀ H2, Same H1 H2 → P (f x y) H2) → te ((W.set j1 (some x)).set j2 (some y)) H1 P)
    (hq : ∀ H1, Same H H1 → H1 Dl = some (.lst ((xs.zip ys).map fun p => f p.1 p.2)) → Q (.ref Dl) H1) : LC (ItZ K c d) (gTup K 2 (gCons (gName j1) (gCons (gName j2) gNil))) tYes te vs σ H Q Dl := by
  refine l_comp (walk_zipZ (K := K) (n := min xs.length ys.length) rfl) W hw (fun i acc H1 => Same H H1 ∧ acc = ((xs.zip ys).take i).map fun p => f p.1 p.2) ⟨(Same.refl H).newz hD, by simp⟩ (fun i acc H1 _ p _ => ⟨hc _ p.1, hd _ p.1⟩) ?_ ?_
  · rintro i v acc H1 H2 hi ⟨sm, rfl⟩ e hl2 ⟨T, x, y, rfl, hT, rfl, hx, hy⟩
    have hx : xs[i]? = some x := hx
    have hy : ys[i]? = some y := hy
    refine i_gtup (SqT.of upd_same) rfl ?_
    refine i_gcons (i_gname (i_gcons (i_gname (i_gnil ?_))))
    refine i_lct (hw2 x y) ?_
    refine i_yes ?_
    refine iteT ?_
    have s2 : Same H (upd H1 T (.tup [x, y])) := sm.newz hT
    refine hs x y _ _ (List.mem_of_getElem? hx) (List.mem_of_getElem? hy) s2 fun H3 s3 => ?_
    refine cend (s3 _ _ (by rw [upd_ne (ne_of_none e hT)]; exact e)) hl2 (by omega) ⟨(s2.trans s3).mutz hD, ?_⟩
    have hz : (xs.zip ys)[i]? = some (x, y) := List.getElem?_zip_eq_some.mpr ⟨hx, hy⟩
    rw [List.take_add_one, hz]
    simp
  · rintro acc H1 ⟨sm, rfl⟩ e _
    rw [List.take_of_length_le (by simp)] at e
    exact hq H1 sm e
theorem zip_map {α β : Type} (f : α → V) (g : β → V) (F : V → V → V) (b : α → β → V) (hb : ∀ x y, F (f x) (g y) = b x y) : ∀ (l : List α) (m : List β), ((l.map f).zip (m.map g)).map (fun p => F p.1 p.2) = (l.zip m).map fun p => b p.1 p.2
  | [], _ => rfl
  | _ :: _, [] => rfl
  | x :: l, y :: m => by
    show F (f x) (g y) :: _ = b x y :: _
    rw [hb]
    exact congrArg _ (zip_map f g F b hb l m)
/-- the first code of a text of one sign, an int of a value -/
def chr1 : V → Nat
  | .str w => (codes w).headD 0
  | _ => 0
def int1 : V → Int
  | .int i => i
  | _ => 0
theorem i_slTA {K : PySem.W.Frag} {H : Hp} {Q : VK} {a : Addr} {xs : List V} {lo hi : Option Int} (h : H a = some (.tup xs)) (q : ∀ p H', Same H H' → H' p = some (.tup (cutV xs lo hi)) → Q (.ref p) H') : rSlA K (.ref a) lo hi H Q := by
  refine ⟨a, xs, rfl, SqT.of h, fun hw => ?_, fun _ p hp => q p _ ((Same.refl H).newz hp) upd_same⟩
  refine q a H (Same.refl H) ?_
  have e : cutV xs lo hi = xs := by
    unfold cutV
    rw [hw.1, hw.2, List.drop_zero, Nat.sub_zero, List.take_length]
  rw [e]; exact h
theorem one_lt' {c d : Nat} : (!decide ([c] < [d])) = decide (d ≤ c) := by
  rw [one_lt]
  by_cases h : c < d
  · rw [decide_eq_true h, decide_eq_false (by omega)]; rfl
  · rw [decide_eq_false h, decide_eq_true (by omega)]; rfl
theorem brnb {c : Bool} {A B : Prop} (h1 : c = false → A) (h2 : c = true → B) : if (!c) = true then A else B := by
  cases c
  · exact iteT (h1 rfl)
  · exact iteF (h2 rfl)
theorem iteNF {A B : Prop} (h : A) : if (!false) = true then A else B := h
theorem iteNT {A B : Prop} (h : B) : if (!true) = true then A else B := h
theorem brT {p : Prop} [Decidable p] {A B : Prop} (hp : p) (h : A) : if decide p = true then A else B := by rw [decide_eq_true hp]; exact iteT h
theorem brF {p : Prop} [Decidable p] {A B : Prop} (hp : ¬ p) (h : B) : if decide p = true then A else B := by rw [decide_eq_false hp]; exact iteF h
theorem HandOk.ne {h p : Addr} {H : Hp} (k : HandOk H h) (hp : H p = none) : ¬ p = h := fun e => by obtain ⟨o, ho⟩ := k.some; rw [e, ho] at hp; cases hp
theorem Gd.kp' {h p : Addr} {H H' : Hp} {o : HO} (g : Gd h H H') (e : H p = some o) (n : ¬ p = h) : H' p = some o := g.kp _ _ e n
theorem sub_snoc {α : Type} {cs l : List α} {i : Nat} {x : α} (h : cs.Sublist (l.take i)) (hx : l[i]? = some x) : (cs ++ [x]).Sublist (l.take (i + 1)) := by
  rw [List.take_add_one, hx]
  exact h.append (List.Sublist.refl _)
theorem sub_skip {α : Type} {cs l : List α} {i : Nat} (h : cs.Sublist (l.take i)) : cs.Sublist (l.take (i + 1)) := h.trans (List.take_sublist_take_left (Nat.le_succ i))
theorem find3_S (a : List Nat) (c n : Nat) : (Txt.find3 (S a) (S [c]) (n : Int) = -1 ∧ ∀ k, n ≤ k → a[k]? ≠ some c) ∨
    ∃ k : Nat, Txt.find3 (S a) (S [c]) (n : Int) = (k : Int) ∧ n ≤ k ∧ a[k]? = some c ∧ ∀ v, n ≤ v → v < k → a[v]? ≠ some c := by
  have e : fromIndex (S a).length (n : Int) = n := by
    unfold fromIndex
    rw [if_neg (by omega)]
    omega
  have g : ∀ v, v < a.length → ((S a).cps.getD v 0 = c ↔ a[v]? = some c) := fun v hv => by
    have : (S a).cps.getD v 0 = a[v] := by
      show a.toArray.getD v 0 = _
      simp [Array.getD, hv]
    rw [this, List.getElem?_eq_getElem hv]
    exact ⟨fun h => by rw [h], fun h => Option.some.inj h⟩
  rcases StrLaws.find3_spec (S a) c (n : Int) with ⟨h1, h2⟩ | ⟨k, h1, h2, h3, h4, h5⟩
  · refine .inl ⟨h1, fun k hk q => ?_⟩
    obtain ⟨hl, _⟩ := List.getElem?_eq_some_iff.mp q
    exact h2 k (by rw [e]; exact hk) (by rw [S_len]; exact hl) ((g k hl).mpr q)
  · rw [S_len] at h3
    refine .inr ⟨k, h1, by rw [e] at h2; exact h2, (g k h3).mp h4, fun v hv hvk q => ?_⟩
    exact h5 v (by rw [e]; exact hv) hvk ((g v (by omega)).mpr q)
theorem i_find3 {a : List Nat} {c n : Nat} {H : Hp} {Q : VK} (q1 : (∀ k, n ≤ k → a[k]? ≠ some c) → Q (.int (-1)) H) (q2 : ∀ k : Nat, n ≤ k → a[k]? = some c → (∀ v, n ≤ v → v < k → a[v]? ≠ some c) → Q (.int (k : Int)) H) : zFind3 (.str (S a)) [.str (S [c]), .int (n : Int)] H Q := by
  refine ⟨_, _, _, rfl, rfl, ?_⟩
  rcases find3_S a c n with ⟨h1, h2⟩ | ⟨k, h1, h2, h3, h4⟩
  · rw [h1]; exact q1 h2
  · rw [h1]; exact q2 k h2 h3 h4
/-- the first place is the best one -/
theorem sub_first {c : Nat} {u : List Nat} : ∀ {a : List Nat} {n k : Nat}, n ≤ k → a[k]? = some c → (∀ v, n ≤ v → v < k → a[v]? ≠ some c) → ((c :: u).Sublist (a.drop n) ↔ u.Sublist (a.drop (k + 1))) := by
  intro a n k
  induction k generalizing n a with
  | zero =>
    intro hn hk _
    obtain rfl : n = 0 := by omega
    cases a with
    | nil => simp at hk
    | cons x r =>
      have : x = c := by simpa using hk
      subst this
      simp
  | succ k ih =>
    intro hn hk h
    cases a with
    | nil => simp at hk
    | cons x r =>
      have hk' : r[k]? = some c := by simpa using hk
      cases n with
      | succ n =>
        have := ih (a := r) (n := n) (by omega) hk' (fun v h1 h2 => by have := h (v + 1) (by omega) (by omega); simpa using this)
        simpa using this
      | zero =>
        have hx : x ≠ c := fun q => h 0 (by omega) (by omega) (by simp [q])
        have := ih (a := r) (n := 0) (by omega) hk' (fun v h1 h2 => by have := h (v + 1) (by omega) (by omega); simpa using this)
        rw [List.drop_zero] at this
        rw [List.drop_zero, List.drop_succ_cons, ← this]
        constructor
        · intro q
          cases q with
          | cons _ q => exact q
          | cons_cons => exact absurd rfl hx
        · intro q
          exact .cons _ q
theorem sub_none {c : Nat} {u a : List Nat} {n : Nat} (h : ∀ k, n ≤ k → a[k]? ≠ some c) : ¬ (c :: u).Sublist (a.drop n) := fun q => by
  have hc : c ∈ a.drop n := q.subset (by simp)
  obtain ⟨i, hi⟩ := List.getElem?_of_mem hc
  rw [List.getElem?_drop] at hi
  exact h (n + i) (by omega) hi
theorem l_mapR {σ : L2.St} {H : Hp} {Q : VK} {n j : Nat} {te : TE} {vs : List Nat} {Dl : Addr} (hD : H Dl = none) (W : L2.St) (hw : wipe σ vs = W) (hw2 : ∀ x : V, wipe (W.set j (some x)) vs = W) (hl : n ≤ 99999) (f : Nat → V)
    (hs : ∀ (i : Nat) (H1 : Hp) (P : VK), i < n → Same H H1 → (∀ H2, Same H1 H2 → P (f i) H2) → te (W.set j (some (.int (i : Int)))) H1 P)
    (hd : ∀ H1, Same H H1 → H1 Dl = some (.lst ((List.range n).map f)) → Q (.ref Dl) H1) : LC (Itr 0 n) (gName j) tYes te vs σ H Q Dl := by
  let f' : V → V := fun v => match v with | .int i => f i.toNat | _ => .non
  refine l_map (walk_range (lo := 0) (n := n)) hD W hw hw2 ((List.range n).map fun (i : Nat) => V.int (i : Int)) (by simp) (by simpa using hl) (fun i H1 x H2 hi _ y => ?_) (fun _ _ => trivial) f' (fun x H1 P hx sm hP => ?_) fun H1 sm e => hd H1 sm ?_
  · obtain ⟨e, hx⟩ := y
    refine ⟨e, ?_⟩
    rw [List.getElem?_map, List.getElem?_range hi, hx]
    show some (V.int (i : Int)) = some (V.int (0 + (i : Int)))
    rw [Int.zero_add]
  · obtain ⟨c, hc, rfl⟩ := List.mem_map.mp hx
    exact hs c H1 P (List.mem_range.mp hc) sm hP
  · rw [List.map_map] at e
    exact e
theorem Rp.tupS {N : Addr → Prop} {H : Hp} {v : V} {ds : List PyData} (r : Rp N H v (.tuple ds)) : ∃ a xs, v = .ref a ∧ H a = some (.tup xs) ∧ ¬ N a ∧ RpAll N H xs ds := by
  cases r with
  | tup e n q => exact ⟨_, _, rfl, e, n, q⟩
theorem Rp.strS {N : Addr → Prop} {H : Hp} {v : V} {w : Str} (r : Rp N H v (.str w)) : v = .str w := by cases r; rfl
theorem Rp.intS {N : Addr → Prop} {H : Hp} {v : V} {i : Int} (r : Rp N H v (.int i)) : v = .int i := by cases r; rfl
theorem RpAll.consS {N : Addr → Prop} {H : Hp} {vs : List V} {d : PyData} {ds : List PyData} (r : RpAll N H vs (d :: ds)) : ∃ v ws, vs = v :: ws ∧ Rp N H v d ∧ RpAll N H ws ds := by
  cases r with
  | cons a b => exact ⟨_, _, rfl, a, b⟩
theorem RpAll.nilS {N : Addr → Prop} {H : Hp} {vs : List V} (r : RpAll N H vs []) : vs = [] := by cases r; rfl
theorem RpAll.one {N : Addr → Prop} {H : Hp} {vs : List V} {d : PyData} (r : RpAll N H vs [d]) : ∃ v, vs = [v] ∧ Rp N H v d := by
  obtain ⟨v, ws, rfl, a, b⟩ := r.consS
  rw [b.nilS]; exact ⟨v, rfl, a⟩
theorem RpAll.two {N : Addr → Prop} {H : Hp} {vs : List V} {d d2 : PyData} (r : RpAll N H vs [d, d2]) : ∃ v v2, vs = [v, v2] ∧ Rp N H v d ∧ Rp N H v2 d2 := by
  obtain ⟨v, ws, rfl, a, b⟩ := r.consS
  obtain ⟨v2, rfl, a2⟩ := b.one
  exact ⟨v, v2, rfl, a, a2⟩
theorem RpAll.three {N : Addr → Prop} {H : Hp} {vs : List V} {d d2 d3 : PyData} (r : RpAll N H vs [d, d2, d3]) : ∃ v v2 v3, vs = [v, v2, v3] ∧ Rp N H v d ∧ Rp N H v2 d2 ∧ Rp N H v3 d3 := by
  obtain ⟨v, ws, rfl, a, b⟩ := r.consS
  obtain ⟨v2, v3, rfl, a2, a3⟩ := b.two
  exact ⟨v, v2, v3, rfl, a, a2, a3⟩
theorem RpAll.four {N : Addr → Prop} {H : Hp} {vs : List V} {d d2 d3 d4 : PyData} (r : RpAll N H vs [d, d2, d3, d4]) : ∃ v v2 v3 v4, vs = [v, v2, v3, v4] ∧ Rp N H v d ∧ Rp N H v2 d2 ∧ Rp N H v3 d3 ∧ Rp N H v4 d4 := by
  obtain ⟨v, ws, rfl, a, b⟩ := r.consS
  obtain ⟨v2, v3, v4, rfl, a2, a3, a4⟩ := b.three
  exact ⟨v, v2, v3, v4, rfl, a, a2, a3, a4⟩
theorem sum_count (a : List Nat) (c : Nat) : (a.map fun x => if decide ([x] = [c]) = true then (1 : Int) else 0).sum = (a.count c : Nat) := by
  induction a with
  | nil => rfl
  | cons x r ih =>
    rw [List.map_cons, List.sum_cons, ih]
    by_cases h : x = c
    · subst h
      rw [if_pos (by simp), List.count_cons_self]
      omega
    · rw [if_neg (by simpa using h), List.count_cons_of_ne h]
      omega
theorem row_any (a u : List Nat) (hu : 1 ≤ u.length) : ((List.range a.length).map fun i => decide ((a.drop i).take u.length = u)).any id = decide (u <:+: a) := by
  rw [Bool.eq_iff_iff, decide_eq_true_iff, List.any_eq_true]
  constructor
  · rintro ⟨b, hb, e⟩
    obtain ⟨i, _, rfl⟩ := List.mem_map.mp hb
    have := of_decide_eq_true e
    rw [← this]
    exact (List.take_prefix _ _).isInfix.trans (List.drop_suffix _ _).isInfix
  · rintro ⟨s, t, rfl⟩
    refine ⟨true, List.mem_map.mpr ⟨s.length, List.mem_range.mpr ?_, ?_⟩, rfl⟩
    · rw [List.length_append, List.length_append]; omega
    · exact decide_eq_true (by simp)
theorem one_eq {c d : Nat} : decide ([c] = [d]) = decide (c = d) := by
  by_cases h : c = d
  · subst h; simp
  · rw [decide_eq_false h]; exact decide_eq_false fun q => h (by simpa using q)
theorem mod_eq {x n m : Nat} (hm : m < n) : x % n = m ↔ ((x : Int) - (m : Int)) % (n : Int) = 0 := by
  have h1 : ((x % n : Nat) : Int) = (x : Int) % (n : Int) := Int.natCast_emod x n
  have h2 : (m : Int) % (n : Int) = (m : Int) := Int.emod_eq_of_lt (by omega) (by omega)
  rw [← Int.emod_eq_emod_iff_emod_sub_eq_zero, h2, ← h1]
  omega
theorem nodup_len : ∀ {l L : List Nat}, l.Nodup → (∀ c ∈ l, c ∈ L) → l.length ≤ L.length
  | [], _, _, _ => Nat.zero_le _
  | a :: l, L, hn, hs => by
    have ha : a ∈ L := hs a (by simp)
    have hn' := List.nodup_cons.mp hn
    have ih := nodup_len (l := l) (L := L.erase a) hn'.2 fun c hc => (List.mem_erase_of_ne (show c ≠ a from fun e => hn'.1 (by rw [← e]; exact hc))).mpr (hs c (by simp [hc]))
    have := List.length_erase_of_mem ha
    have h0 : 0 < L.length := List.length_pos_of_mem ha
    rw [List.length_cons]
    omega
/-- different ones out of a list are no more than it has -/
theorem asc_len {l L : List Nat} (h : l.Pairwise (· < ·)) (hs : ∀ c ∈ l, c ∈ L) : l.length ≤ L.length :=
  nodup_len (h.imp fun {a b} q => by omega) hs
end Z

local macro_rules | `(tactic| walk_at "zz") => `(tactic| repeat first
  | with_reducible first
    | refine Z.i_op ?_ | refine Z.i_v0 ?_ | refine Z.i_v1 ?_ | refine Z.i_v2 ?_ | refine Z.i_v3 ?_ | refine Z.i_v4 ?_ | refine Z.i_v5 ?_ | refine Z.i_cs ?_ | refine Z.i_c ?_ | refine Z.i_cons ?_ | refine Z.i_nil ?_ | refine Z.i_seq ?_ | refine Z.i_asg ?_ | refine Z.i_nx ?_ | refine Z.i_rt ?_
    | refine Z.i_KB ?_ | refine Z.i_cb ?_ | refine Z.i_call ?_ | refine Z.i_add ?_ | refine Z.i_sub ?_ | refine Z.i_test ?_ | refine Z.i_ifS ?_ | refine Z.i_eqI ?_ | refine Z.i_lt ?_ 
    | refine Z.i_g0 ?_ | refine Z.i_g1 ?_ | refine Z.i_g2 ?_ | refine Z.i_g3 ?_ | refine Z.i_g4 ?_ | refine Z.i_g5 ?_
    | refine Z.i_v6 ?_ | refine Z.i_v7 ?_ | refine Z.i_v8 ?_ | refine Z.i_v9 ?_ | refine Z.i_v10 ?_ | refine Z.i_v11 ?_ | refine Z.i_v12 ?_ | refine Z.i_v13 ?_ | refine Z.i_v14 ?_
    | refine Z.i_g6 ?_ | refine Z.i_g7 ?_ | refine Z.i_g8 ?_ | refine Z.i_g9 ?_ | refine Z.i_g10 ?_ | refine Z.i_g11 ?_ | refine Z.i_g12 ?_ | refine Z.i_g13 ?_ | refine Z.i_g14 ?_
    | refine Z.i_le ?_ | refine Z.i_gt ?_ | refine Z.i_ge ?_ | refine Z.i_lts ?_ | refine Z.i_les ?_ | refine Z.i_ins ?_ | refine Z.i_nins ?_ | refine Z.i_neI ?_ | refine Z.i_eqS ?_ | refine Z.i_neS ?_ | refine Z.i_eqB ?_ | refine Z.i_neg ?_ | refine Z.i_un ?_
    | refine Z.i_next ?_ | refine Z.i_ret ?_ | refine Z.i_retN ?_ | refine Z.i_drop ?_ | refine Z.i_brk ?_ | refine Z.i_cont ?_ | refine Z.i_bk ?_ | refine Z.i_ct ?_ | refine Z.i_gsub ?_
    | refine Z.i_KI ?_ | refine Z.i_KS ?_ | refine Z.i_if ?_ | refine Z.i_tB ?_ | refine Z.i_tand ?_ | refine Z.i_tor ?_ | refine Z.i_tnot ?_ | refine Z.i_and ?_ | refine Z.i_or ?_ | refine Z.i_not ?_ | refine Z.i_chain ?_
    | refine Z.i_tup ?_ | refine Z.i_lst ?_ | refine Z.i_bm ?_ | refine Z.i_bm0 ?_ | refine Z.i_sl ?_ | refine Z.i_po0 ?_ | refine Z.i_po1 ?_
    | refine Z.i_m1 ?_ | refine Z.i_tyS ?_ | refine Z.i_tyS0 ?_ | refine Z.i_find ?_ | refine Z.i_count ?_ | refine Z.i_starts ?_ | refine Z.i_ends ?_ | refine Z.i_instr ?_ | refine Z.i_gcons ?_ | refine Z.i_gnil ?_ | refine Z.i_izip ?_ | refine Z.i_ltAI ?_ | refine Z.i_ltAS ?_ | refine Z.i_for ?_ | refine Z.i_lc ?_ | refine Z.i_yes ?_ | refine Z.i_r1 ?_ | refine Z.i_istr ?_ | refine Z.i_ilist ?_ | refine Z.i_itup ?_ | refine Z.i_int ?_ | refine Z.i_abs ?_ | refine Z.i_max ?_ | refine Z.i_min ?_
  | ((with_reducible refine' Z.i_ixL ?za ?zb ?_); (case za => exact L2.SqL.of (by assumption)); (case zb => first | rfl | exact Z.at_nat (by decide) rfl))
  | ((with_reducible refine' Z.i_ixT ?za ?zb ?_); (case za => exact L2.SqT.of (by assumption)); (case zb => first | rfl | exact Z.at_nat (by decide) rfl))
  | with_reducible refine Z.i_mul (by first | exact Or.inr ⟨by decide, by decide⟩ | exact Or.inl ⟨by decide, by decide⟩ | omega) ?_
  | with_reducible refine Z.i_mod (by first | decide | omega) ?_
  | with_reducible refine Z.i_div (Z.cdivw (by first | decide | omega) (by first | decide | omega)) ?_
  | ((with_reducible refine' Z.i_lenL ?za ?_); (case za => exact L2.SqL.of (by assumption)))
  | with_reducible refine Z.i_adds (by simp only [List.length_append, List.length_cons, List.length_nil]; omega) ?_
  | with_reducible refine Z.i_lens (by first | omega | (simp only [List.length_append, List.length_cons, List.length_nil]; omega)) ?_
  | ((with_reducible refine Z.i_lct ?zw ?_); (case zw => rfl))
  | ((with_reducible refine' Z.i_gtup ?zt ?zl ?_); (case zt => exact L2.SqT.of (by first | assumption | exact L2.upd_same)); (case zl => rfl))
  | with_reducible refine Z.brT (by decide +kernel) ?_ | with_reducible refine Z.brF (by decide +kernel) ?_
  | with_reducible refine Z.iteNF ?_ | with_reducible refine Z.iteNT ?_
  | with_reducible refine L2.iteT ?_
  | with_reducible refine L2.iteF ?_)
namespace Y
open PySem PySem.Spec PyProof.Rows L2 Z
open C8 (tCut pss_cut Cal pe_c Met pe_mt pe_mt0 Mak pe_mk)
def topS (i : Nat) : Stmt := PySem.Challenge.pw_saidacross_k06_whole_words_said_far.main.body.getD i (.Pass ⟨0, 0, 0, 0⟩)
abbrev s__law_draw : Stmt := topS 24
abbrev n__law_draw : List Str := ["_law_hand_here", "_law_many", "_law_cell", "_law_digit", "_law_number"]
theorem sc__law_draw : FnScope n__law_draw ["_law_hand_here", "_law_many"] (defScope s__law_draw) := ⟨rfl, rfl, rfl, by decide +kernel, rfl, by decide +kernel, by decide +kernel⟩

abbrev s__law_hand : Stmt := topS 23
abbrev n__law_hand : List Str := ["_law_script", "_law_cells", "_law_cell"]
theorem sc__law_hand : FnScope n__law_hand ["_law_script"] (defScope s__law_hand) := ⟨rfl, rfl, rfl, by decide +kernel, rfl, by decide +kernel, by decide +kernel⟩

section
variable {P : Program} {w : World} {K : PySem.W.Frag} {mg : Str → Option Value} {base : Heap}
theorem c__law_draw (d : DF K mg "_law_draw" s__law_draw) (B : Bi mg) : Cal P w K mg base 1 "_law_draw" spDraw [] := by
  refine d.cal (N := n__law_draw) sc__law_draw (fun _ _ _ _ _ _ us hl => match us, hl with | [_, _], _ => rfl) (fun vs H Q E h => ?_) (fun f cdv A outer s H vs Q E hr h => ?_)
  · obtain ⟨h, m, rfl, _⟩ := h
    rfl
  · obtain ⟨h, m, rfl, hh, hm0, hm1, k⟩ := h
    refine ⟨_, (pss_cut (ps_if (PW.pt (pw_and (pt_cmpR op_eq (pe_ix (r := rIxL K) ix_list (pv 0) pe_int (fun _ _ => rfl)) pe_int (nomark _)) (pw_and1 (pt_cmpR z_lt (pe_ix (r := rIxL K) ix_list (pv 0) pe_int (fun _ _ => rfl)) (pe_callB (r := zLen K) zc_len (by rfl) B.len (by decide +kernel) (pa_cons (pe_ix (r := rIxL K) ix_list (pv 0) pe_int (fun _ _ => rfl)) pa_nil)) (nomark _))))) (pss_cons (ps_set (i := 2) sc__law_draw.nd rfl (by first | exact Or.inl rfl | exact Or.inr rfl) (pe_ix (r := rIxL K) ix_list (pe_ix (r := rIxL K) ix_list (pv 0) pe_int (fun _ _ => rfl)) (pe_ix (r := rIxL K) ix_list (pv 0) pe_int (fun _ _ => rfl)) (fun _ _ => rfl)))
  (pss_cons (ps_asg (pe_op z_add (pe_ix (r := rIxL K) ix_list (pv 0) pe_int (fun _ _ => rfl)) pe_int) (pg_sub (pv 0) pe_int set_list))
  (pss_cons (ps_asg (pe_op z_mod (pe_callTy zc_int (by rfl) B.int (by decide +kernel) (pa_cons (pe_op z_add (pe_op z_add (pe_op z_mul (pe_ix (r := rIxL K) ix_list (pv 0) pe_int (fun _ _ => rfl)) pe_int) (pv 2)) pe_int) pa_nil)) pe_int) (pg_sub (pv 0) pe_int set_list))
  (pss_one (ps_if (pt_cmpR z_ge (pv 2) (pe_op z_pow pe_int pe_int) (nomark _)) (pss_one (ps_asg (pv 2) (pg_sub (pv 0) pe_int set_list))) pss_nil))))) pss_nil)
  (pss_cons (ps_if (pt_cmpR z_gt (pe_ix (r := rIxL K) ix_list (pv 0) pe_int (fun _ _ => rfl)) pe_int (nomark _)) (pss_cons (ps_set (i := 3) sc__law_draw.nd rfl (by first | exact Or.inl rfl | exact Or.inr rfl) (pe_op z_mod (pe_callTy zc_int (by rfl) B.int (by decide +kernel) (pa_cons (pe_ix (r := rIxL K) ix_list (pv 0) pe_int (fun _ _ => rfl)) pa_nil)) (pv 1)))
  (pss_cons (ps_asg (pe_op z_div (pe_ix (r := rIxL K) ix_list (pv 0) pe_int (fun _ _ => rfl)) (pv 1)) (pg_sub (pv 0) pe_int set_list))
  (pss_one (ps_ret (pv 3))))) pss_nil)
  (pss_cons (ps_asg (pe_op z_add (pe_ix (r := rIxL K) ix_list (pv 0) pe_int (fun _ _ => rfl)) pe_int) (pg_sub (pv 0) pe_int set_list))
  (pss_cons (ps_set (i := 4) sc__law_draw.nd rfl (by first | exact Or.inl rfl | exact Or.inr rfl) (pe_op z_mod (pe_callTy zc_int (by rfl) B.int (by decide +kernel) (pa_cons (pe_op z_mul (pe_callTy zc_int (by rfl) B.int (by decide +kernel) (pa_cons (pe_op z_add (pe_ix (r := rIxL K) ix_list (pv 0) pe_int (fun _ _ => rfl)) (pe_op z_mul pe_int (pe_ix (r := rIxL K) ix_list (pv 0) pe_int (fun _ _ => rfl)))) pa_nil)) pe_int) pa_nil)) pe_int))
  (pss_cons (ps_set (i := 4) sc__law_draw.nd rfl (by first | exact Or.inl rfl | exact Or.inr rfl) (pe_op z_mod (pe_callTy zc_int (by rfl) B.int (by decide +kernel) (pa_cons (pe_op z_mul (pv 4) (pe_op z_add (pe_op z_div (pv 4) pe_int) pe_int)) pa_nil)) pe_int))
  (pss_cons (ps_set (i := 4) sc__law_draw.nd rfl (by first | exact Or.inl rfl | exact Or.inr rfl) (pe_op z_mod (pe_callTy zc_int (by rfl) B.int (by decide +kernel) (pa_cons (pe_op z_mul (pv 4) (pe_op z_add (pe_op z_div (pv 4) pe_int) pe_int)) pa_nil)) pe_int))
  (pss_one (ps_ret (pe_op z_mod (pe_callTy zc_int (by rfl) B.int (by decide +kernel) (pa_cons (pe_op z_div (pv 4) pe_int) pa_nil)) (pv 1)))))))))), ?_⟩
    refine zstart [some (.ref h), some (.int m), none, none, none] rfl ?_; try dsimp only [zK, zK2]
    refine i_cut (fun σ' H' => ∃ v2, σ' = [some (.ref h), some (.int m), v2, none, none] ∧ Gd h H H') ?_ ?_
    · obtain ⟨c, cells, a1, a2, a3, a4, e1, e2, hc, h1, h2, h3, h3', h4⟩ := hh.ex
      have hch : c ≠ h := fun e => by subst e; exact map_int_ne (Option.some.inj (e1.symm.trans e2))
      walk_at "zz"
      refine brd (fun q2 => ?_) fun q2 => ?_
      · walk_at "zz"
        refine brd (fun q1 => ?_) fun q1 => ?_
        · rw [List.length_map] at q1
          walk_at "zz"
          obtain ⟨cell, hcell⟩ : ∃ x, cells[a1.toNat]? = some x := ⟨_, List.getElem?_eq_getElem (by omega)⟩
          have hcell0 := hc _ (List.mem_of_getElem? hcell)
          refine i_ixL (SqL.of e2) (at_nat h1 (by rw [List.getElem?_map, hcell]; rfl)) ?_
          walk_at "zz"
          refine i_setH e1 rfl [V.ref c, V.int (a1 + 1), V.int a2, V.int a3, V.int a4] rfl fun H1 eH => ?_
          obtain ⟨f1, f2, kp1⟩ := hstep eH hch e2 (fun b o e _ => e)
          clear eH
          walk_at "zz"
          refine i_setH f1 rfl [V.ref c, V.int (a1 + 1), V.int a2, V.int ((a3 * 69621 + cell + 11) % 2147483629), V.int a4] rfl fun H2 eH => ?_
          obtain ⟨f3, f4, kp2⟩ := hstep eH hch f2 kp1
          clear eH
          walk_at "zz"
          refine i_pow ⟨by decide, by decide, by decide⟩ ?_
          walk_at "zz"
          have b1 := Int.emod_nonneg (a3 * 69621 + cell + 11) (b := 2147483629) (by decide)
          have b2 := Int.emod_lt_of_pos (a3 * 69621 + cell + 11) (b := 2147483629) (by decide)
          refine brd (fun q3 => ?_) fun q3 => ?_
          · walk_at "zz"
            refine i_setH f3 rfl [V.ref c, V.int (a1 + 1), V.int cell, V.int ((a3 * 69621 + cell + 11) % 2147483629), V.int a4] rfl fun H3 eH => ?_
            obtain ⟨f5, f6, kp3⟩ := hstep eH hch f4 kp2
            clear eH
            walk_at "zz"
            exact ⟨_, rfl, Gd.of hh e1 f5 ⟨c, cells, _, _, _, _, f5, f6, hc, by omega, hcell0, b1, by omega, h4⟩ kp3⟩
          · walk_at "zz"
            exact ⟨_, rfl, Gd.of hh e1 f3 ⟨c, cells, _, _, _, _, f3, f4, hc, by omega, h2, b1, by omega, h4⟩ kp2⟩
        · walk_at "zz"
          exact ⟨_, rfl, Gd.refl hh⟩
      · walk_at "zz"
        exact ⟨_, rfl, Gd.refl hh⟩
    · rintro σ' H1 ⟨v2, rfl, g⟩
      obtain ⟨c, cells, a1, a2, a3, a4, e1, e2, hc, h1, h2, h3, h3', h4⟩ := g.ok.ex
      have hch : c ≠ h := fun e => by subst e; exact map_int_ne (Option.some.inj (e1.symm.trans e2))
      walk_at "zz"
      refine brd (fun q1 => ?_) fun q1 => ?_
      · walk_at "zz"
        refine i_setH e1 rfl [V.ref c, V.int a1, V.int (a2 / m), V.int a3, V.int a4] rfl fun H2 eH => ?_
        obtain ⟨f1, f2, kp1⟩ := hstep eH hch e2 (fun b o e _ => e)
        clear eH
        walk_at "zz"
        exact draw_k k (Int.emod_nonneg _ (by omega)) (Int.emod_lt_of_pos _ hm0) (g.trans (Gd.of g.ok e1 f1 ⟨c, cells, _, _, _, _, f1, f2, hc, h1, Int.ediv_nonneg h2 (by omega), h3, h3', h4⟩ kp1))
      · walk_at "zz"
        refine i_setH e1 rfl [V.ref c, V.int a1, V.int a2, V.int a3, V.int (a4 + 1)] rfl fun H2 eH => ?_
        obtain ⟨f1, f2, kp1⟩ := hstep eH hch e2 (fun b o e _ => e)
        clear eH
        walk_at "zz"
        exact draw_k k (Int.emod_nonneg _ (by omega)) (Int.emod_lt_of_pos _ hm0) (g.trans (Gd.of g.ok e1 f1 ⟨c, cells, _, _, _, _, f1, f2, hc, h1, h2, h3, h3', by omega⟩ kp1))
theorem c__law_hand (d : DF K mg "_law_hand" s__law_hand) (B : Bi mg) : Cal P w K mg base 1 "_law_hand" (spHand K) [] := by
  refine d.cal (N := n__law_hand) sc__law_hand (fun _ _ _ _ _ _ us hl => match us, hl with | [_], _ => rfl) (fun vs H Q E h => ?_) (fun f cdv A outer s H vs Q E hr h => ?_)
  · obtain ⟨a, ns, rfl, _⟩ := h
    rfl
  · obtain ⟨a, ns, rfl, hs, hk, k⟩ := h
    refine ⟨_, (pss_cons (ps_setLc (i := 1) (own := [("_law_cell", 2)]) (g := gName 2) (tt := tYes) rfl sc__law_hand.nd rfl rfl (sw_true rfl rfl rfl (by decide +kernel)) (pi_list (pe_slice (r := rSlL K) sl_list (pv 0) po_none (po_some pe_int))) (blkOk_by (N := n__law_hand) (sc := defScope s__law_hand) (by decide +kernel)) (fun _ _ _ _ _ => (pg_name (i := 2) sc__law_hand.nd rfl (by first | exact Or.inl rfl | exact Or.inr rfl))) (fun _ _ _ _ _ => pts_nil) (fun _ _ _ _ _ => (pe_callB zc_abs (by rfl) B.abs (by decide +kernel) (pa_cons (pe_callTy zc_int (by rfl) B.int (by decide +kernel) (pa_cons (pv 2) pa_nil)) pa_nil))))
  (pss_one (ps_ret (pe_lst (pa_cons (pv 1) (pa_cons pe_int (pa_cons pe_int (pa_cons (pe_op z_add pe_int (pe_callB (r := zLen K) zc_len (by rfl) B.len (by decide +kernel) (pa_cons (pv 1) pa_nil))) (pa_cons pe_int pa_nil))))))))), ?_⟩
    refine zstart [some (.ref a), none, none] rfl ?_; try dsimp only [zK, zK2]
    walk_at "zz"
    refine i_slL hs fun p hp => ?_
    refine i_KL (SqL.of upd_same) fun Dl hD => ?_
    have e63 : cutV (ns.map V.int) none (some 63) = (ns.take 63).map V.int := by
      rw [show (63 : Int) = ((63 : Nat) : Int) from rfl, cutV_to, List.map_take]
    rw [e63] at hD ⊢
    have npD : p ≠ Dl := fun e => by subst e; rw [upd_same] at hD; cases hD
    refine l_comp (walk_list (xs := (ns.take 63).map V.int)) [some (.ref a), none, none] rfl (fun i acc H' => Same H H' ∧ H' p = some (.lst ((ns.take 63).map V.int)) ∧ ∃ cells : List Int, acc = cells.map V.int ∧ ∀ x ∈ cells, 0 ≤ x)
      ⟨((Same.refl H).newz hp).newz hD, by rw [upd_ne npD]; exact upd_same, [], rfl, by simp⟩ (fun i acc H' _ ⟨_, e, _⟩ _ => SqL.of e) ?_ ?_
    · rintro i x acc H1 H2 hi ⟨sm, ep, cells, rfl, h0⟩ eD hl ⟨rfl, hx⟩
      rw [List.getElem?_map] at hx
      obtain ⟨z, hz, rfl⟩ := Option.map_eq_some_iff.mp hx
      have hD0 : H Dl = none := by rw [upd_ne npD.symm] at hD; exact hD
      walk_at "zz"
      refine cend eD hl (by rw [List.length_map, List.length_take] at hi; omega) ⟨sm.mutz hD0, by rw [upd_ne npD]; exact ep, cells ++ [if z < 0 then -z else z], by simp, ?_⟩
      intro x hx
      rcases List.mem_append.mp hx with q | q
      · exact h0 x q
      · rw [List.mem_singleton.mp q]; split <;> omega
    · rintro acc H1 ⟨sm, ep, cells, rfl, h0⟩ eD hl
      walk_at "zz"
      have hlen : cells.length ≤ 63 := by rw [List.length_map, List.length_map, List.length_take] at hl; omega
      refine ⟨by show 5 ≤ sizeLine; decide, fun h hh => ?_⟩
      refine k h _ (sm.free hh) ⟨Dl, cells, 0, 0, _, 0, upd_same, by rw [upd_ne (ne_of_none eD hh)]; exact eD, h0, by omega, by omega, ?_, ?_, by omega⟩ (sm.newz hh)
      · rw [List.length_map]; omega
      · rw [List.length_map]; omega
end
end Y

namespace Y
open PySem PySem.Spec PyProof.Rows L2 Z
open C8 (tCut pss_cut Cal pe_c Met pe_mt pe_mt0 Mak pe_mk)
theorem ztt {t : TT} {σ : L2.St} {H : Hp} {R : Bool → Hp → Prop} (L : L2.St) (h : σ = L) (q : t L H R) : t σ H R := h ▸ q
theorem l_filtR {σ : L2.St} {H : Hp} {Q : VK} {n j : Nat} {tt : TT} {te : TE} {vs : List Nat} {Dl : Addr} (hD : H Dl = none) (W : L2.St) (hw : wipe σ vs = W) (hw2 : ∀ x : V, wipe (W.set j (some x)) vs = W) (hl : n ≤ 99999) (p : Nat → Bool) (f : Nat → V)
    (ht : ∀ (i : Nat) (H1 : Hp) (R : Bool → Hp → Prop), i < n → Same H H1 → (∀ H2, Same H1 H2 → R (p i) H2) → tt (W.set j (some (.int (i : Int)))) H1 R)
    (hs : ∀ (i : Nat) (H1 : Hp) (P : VK), i < n → p i = true → Same H H1 → (∀ H2, Same H1 H2 → P (f i) H2) → te (W.set j (some (.int (i : Int)))) H1 P)
    (hd : ∀ H1, Same H H1 → H1 Dl = some (.lst (((List.range n).filter p).map f)) → Q (.ref Dl) H1) : LC (Itr 0 n) (gName j) tt te vs σ H Q Dl := by
  refine l_comp (walk_range (lo := 0) (n := n)) W hw (fun i acc H1 => Same H H1 ∧ acc = ((List.range i).filter p).map f) ⟨(Same.refl H).newz hD, by simp⟩ (fun _ _ _ _ _ _ => trivial) ?_ ?_
  · rintro i x acc H1 H2 hi ⟨sm, rfl⟩ e hl2 ⟨e2, rfl⟩
    subst e2
    show gName j (V.int (0 + (i : Int))) _ _ _
    rw [Int.zero_add]
    refine i_gname ?_
    refine i_lct (hw2 _) ?_
    refine ht i _ _ hi sm fun H3 s3 => ?_
    refine brb (fun hb => ?_) fun hb => ?_
    · refine hs i _ _ hi hb (sm.trans s3) fun H4 s4 => ?_
      refine cend ((s3.trans s4) _ _ e) hl2 (by omega) ⟨((sm.trans s3).trans s4).mutz hD, ?_⟩
      rw [List.range_succ, List.filter_append, List.map_append]; simp [hb]
    · exact ⟨_, s3 _ _ e, by omega, sm.trans s3, by rw [List.range_succ, List.filter_append]; simp [hb]⟩
  · rintro acc H1 ⟨sm, rfl⟩ e _
    exact hd H1 sm e
theorem i_cat {H : Hp} {Q : VK} {a b : Addr} {xs ys : List V} (h : H a = some (.lst xs)) (h2 : H b = some (.lst ys)) (hl : xs.length + ys.length ≤ 100000) (q : ∀ p, H p = none → Q (.ref p) (upd H p (.lst (xs ++ ys)))) : rCat (.ref a) (.ref b) H Q := ⟨a, b, xs, ys, rfl, rfl, h, h2, le_line hl, q⟩
theorem gd_same {h : Addr} {H H1 H2 : Hp} (g : Gd h H H1) (s : Same H1 H2) : Gd h H H2 := by
  obtain ⟨c, r, r', e0, e1⟩ := g.cell
  obtain ⟨c1, cells, a1, a2, a3, a4, g0, g1, rest⟩ := g.ok.ex
  exact ⟨⟨c1, cells, a1, a2, a3, a4, s _ _ g0, s _ _ g1, rest⟩, fun b u e n => s _ _ (g.kp b u e n), g.ok0, c, r, r', e0, s _ _ e1⟩
theorem and_merge {b c : Bool} {i : Nat} {σ : L2.St} {H : Hp} {R : VK} (hσ : σ[i]? = some (some (.bl c))) (q : R (.bl (b && c)) H) : if b = true then tVar i σ H R else R (.bl false) H := by
  cases b
  · exact q
  · exact ⟨_, hσ, q⟩
theorem or_merge {b c : Bool} {i : Nat} {σ : L2.St} {H : Hp} {R : VK} (hσ : σ[i]? = some (some (.bl c))) (q : R (.bl (b || c)) H) : if (!b) = true then tVar i σ H R else R (.bl true) H := by
  cases b
  · exact ⟨_, hσ, q⟩
  · exact q
theorem ite_swap {b : Bool} {A B : Prop} (h : if (!b) = true then B else A) : if b = true then A else B := by
  cases b <;> exact h
theorem nw {H : Hp} {p a : Addr} {o u : HO} (hp : H p = none) (e : H a = some u) : upd H p o a = some u := by rw [upd_ne (ne_of_none e hp)]; exact e
theorem kp_mut {Tl : Addr} {H : Hp} {o : HO} : Kp (· = Tl) H (upd H Tl o) := fun b u e n => by rw [upd_ne n]; exact e
def spLaw (K : PySem.W.Frag) : Sp := fun vs H Q _ => ∃ (a : Addr) (ns : List Int), vs = [.ref a] ∧ SqL K H a (ns.map V.int) ∧ ns.length ≤ 63 ∧ ∀ H', Q (.bl true) H'
end Y

namespace Y
open PySem
section
variable {prog : Program} {w : World} {A : Around} {s : Shared} {R : Result → Shared → Prop}
theorem wpAny_extend_str (S : Addr) (x : Str) (t : Tok) (res : Value) (c₀ : Nat) (hh : A.handled = none) (hS : s.heap.get? S = some { cls := .type "list", data := .seq #[] c₀ })
    (hR : ∀ s' acc c', (∀ b o, b ≠ S → s.heap.get? b = some o → s'.heap.get? b = some o) → s'.gens = s.gens → s'.drawn = s.drawn → s'.os = s.os → s'.heap.get? S = some { cls := .type "list", data := .seq acc c' } → ItemsOf (SignAt x) acc x.cps.size → R (.ok (.ret res)) s')
    (hn : x.cps.size ≤ sizeLine) :
    wpAny (model prog w) A.in1 (Builtin.List.listExtendWith (.ref S) (.str x t) res)
      (fun fin s' => match fin with | .done f => R (.ok f) s' | .again c' => c'.quiet = true ∧ codeAny (model prog w) A c' R s') (fun e s' => R (.error e) s') s := by
  have hSl := Heap.lt_size hS
  unfold Builtin.List.listExtendWith
  refine wpAny_bind (wpAny_typeOf (T := "str") (v := .str x t) rfl ?_)
  have h1 : Builtin.List.listSameRef (.ref S) (.str x t) = false := rfl
  have h2 : (Value.type "str" == Value.type "list") = false := by decide
  have h3 : (Value.type "str" == Value.type "tuple") = false := by decide
  simp only [h1, h2, h3, Bool.or_false, Bool.false_eq_true, if_false]
  refine wpAny_bind (wpAny_pyIter_str fun o St W hst => ?_)
  refine wpAny_bind (wpAny_holding ?_)
  unfold Builtin.List.listLengthHint
  refine wpAny_bind (wpAny_specialOf (T := "str") (v := .str x t) rfl F.str_len ?_)
  wp_delta
  refine wpAny_bind (wpAny_isInstance (T := "str") (v := .str x t) (b := true) rfl (by rw [isSubtype_type]; kernel_rfl) ?_)
  show wpAny _ A.in1 (typeOf (Value.str x t) >>= _) _ _ _
  refine wpAny_bind (wpAny_typeOf (T := "str") (v := .str x t) rfl ?_)
  refine wpAny_pure ?_
  rw [if_neg (by decide)]
  have hSf : S ∉ [s.heap.objs.size] := fun hm => by rw [List.mem_singleton.mp hm] at hSl; exact absurd hSl (Nat.lt_irrefl _)
  have hS' : (s.heap.push o).get? S = some { cls := .type "list", data := .seq #[] c₀ } := Heap.get?_push_of_some _ hS
  refine wpAny_pure ⟨plainId_quiet F.plain_extend_loop _, codeAny_extend_loopS (W A.in1 hh).toS hn _ hSf _ x.cps.size 0 _ _ _ rfl (Nat.zero_le _) hst hS' (ItemsOf.nil _) fun s' acc' c' hm hS' hacc => ?_⟩
  refine hR s' acc' c' (fun b ob hb e => hm.heap b ob (fun hb2 => ?_) (Heap.get?_push_of_some _ e)) hm.gens hm.drawn hm.os hS' hacc
  have hlt := Heap.lt_size e
  rcases List.mem_cons.mp hb2 with h | h
  · exact hb h
  · rw [List.mem_singleton.mp h] at hlt; exact Nat.lt_irrefl _ hlt
end
section
variable {prog : Program} {w : World} {A : Around} {E : Value → Shared → Prop} {s : Shared}
theorem call_list_str {Q : Value → Shared → Prop} (hh : A.handled = none) (x : Str) (t : Tok) (hn : x.cps.size ≤ sizeLine)
    (hQ : ∀ s' acc c', (∀ b o, s.heap.get? b = some o → s'.heap.get? b = some o) → s'.gens = s.gens → s'.drawn = s.drawn → s'.os = s.os → s'.heap.get? s.heap.objs.size = some { cls := .type "list", data := .seq acc c' } → ItemsOf (SignAt x) acc x.cps.size → Q (.ref s.heap.objs.size) s') :
    wpAny (model prog w) A (call (.type "list") [.str x t]) Q E s := by
  refine callType_codes (Q₁ := fun obj s₁ => obj = .ref s.heap.objs.size ∧ s₁ = { s with heap := s.heap.push { cls := .type "list", data := .seq #[] } }) F.called_list (F.typeCall_list_1 _) F.entry_list_init
    (code_list_new _ ⟨rfl, rfl⟩) fun obj s₁ h₁ => ?_
  obtain ⟨rfl, rfl⟩ := h₁
  have hS : (s.heap.push { cls := .type "list", data := .seq #[] }).get? s.heap.objs.size = some { cls := .type "list", data := .seq #[] } := Heap.get?_push_size _ rfl
  refine ⟨⟨_, hS, rfl⟩, F.args_list_init_2 _ _, ?_⟩
  show wpAny _ _ (do let old ← Builtin.List.listItems (.ref s.heap.objs.size); Builtin.List.listUpdate (.ref s.heap.objs.size) (fun _ => #[]); letGo old.toList.reverse; Builtin.List.listExtendWith (.ref s.heap.objs.size) (.str x t) .none) _ _ _
  refine wpAny_bind ?_
  unfold Builtin.List.listItems
  refine wpAny_bind (wpAny_seqItems hS rfl (wpAny_pure ?_))
  show wpAny _ _ (updateSeq s.heap.objs.size (fun _ => #[]) >>= fun _ => letGo (#[] : Array Value).toList.reverse >>= fun _ => Builtin.List.listExtendWith (.ref s.heap.objs.size) (.str x t) .none) _ _ _
  refine wpAny_bind (wpAny_updateSeq hS rfl ?_)
  have hS₂ := Heap.get?_update_self (Obj.mapSeq (fun _ => (#[] : Array Value))) hS rfl
  refine wpAny_bind (wpAny_letGo ?_)
  refine wpAny_extend_str _ x t _ _ hh hS₂ (fun s' acc c' k g d o e it => ⟨rfl, ?_⟩) hn
  refine hQ s' acc c' (fun b ob eb => ?_) g d o e it
  have hb : b ≠ s.heap.objs.size := fun e' => Nat.lt_irrefl _ (e' ▸ Heap.lt_size eb)
  exact k b ob hb ((Heap.get?_update_other _ _ (Ne.symm hb)).trans (Heap.get?_push_of_some _ eb))
theorem cmp_signs {P : Nat → Value → Prop} (val : Nat → Nat) (hval : ∀ i v, P i v → ∃ t, v = .str ⟨#[val i]⟩ t) :
    CmpOf prog w A .Gt P (fun i j => decide ((val i : Int) > (val j : Int))) := fun i j vi vj s Q E hi hj h => by
  obtain ⟨t, rfl⟩ := hval i vi hi
  obtain ⟨u, rfl⟩ := hval j vj hj
  have e : decide ((⟨#[val j]⟩ : Str).cps.toList < (⟨#[val i]⟩ : Str).cps.toList) = decide ((val i : Int) > (val j : Int)) := by
    show decide ([val j] < [val i]) = _
    simp [List.cons_lt_cons_iff]
  replace h : Q (Value.bool (decide ((val i : Int) > (val j : Int)))) s := h
  rw [← e] at h
  exact richCompare_gives (op := .Gt) (typeIs_str s _ t) (typeIs_str s _ u) F.slot_str_gt F.entry_str_gt (F.args_str_gt_2 _ _) (gives_str_gt _ _ t u) (fun x => nomatch x) h
theorem max_signs {Q : Value → Shared → Prop} {l : Addr} {items : Array Value} (val : Nat → Nat) (hh : A.handled = none) (hl : s.heap.IsList l items) (hv : ∀ (i : Nat) (v : Value), items[i]? = some v → ∃ t, v = .str ⟨#[val i]⟩ t) (hne : 0 < items.size)
    (h : ∀ k t h' tk, k < items.size → (∀ j, j < items.size → val j ≤ val k) → (∀ b o, s.heap.get? b = some o → h'.get? b = some o) → Q (.str ⟨#[val k]⟩ t) { s with heap := h', toks := tk }) :
    wpAny (model prog w) A (call (.builtin "max") [.ref l]) Q E s := by
  refine call_max_walk ?_
  have hlt : l < s.heap.objs.size := by obtain ⟨_, e, _⟩ := hl; exact Heap.lt_size e
  refine wpAny_pyIter_list hl ?_
  refine ⟨_, _, _, _, _, _, _, rfl, Walks.list (A := A.in1) hh _ l (Nat.ne_of_lt hlt) items, ⟨⟨_, Heap.get?_push_size _ rfl, rfl, rfl⟩, hl.push _⟩, fun b hb => ?_, hne, cmp_signs val (fun i v => hv i v), fun v h' tk hP hk => ?_⟩
  · show b < (s.heap.push _).objs.size
    rw [Heap.size_push]
    rcases List.mem_cons.mp hb with rfl | hb
    · exact Nat.lt_succ_self _
    · rcases List.mem_cons.mp hb with rfl | hb
      · exact Nat.lt_succ_of_lt hlt
      · cases hb
  · obtain ⟨t, rfl⟩ := hv _ _ hP
    obtain ⟨h1, h2⟩ := argBest_gt (fun i => (val i : Int)) (items.size - 1)
    exact h _ t h' tk (by omega) (fun j hj => by have := h2 j (by omega); exact Int.ofNat_le.mp this) (old_kept hk)
end
end Y
namespace Y
open PySem PySem.Spec PyProof.Rows L2 Z
open C8 (tCut pss_cut Cal pe_c Met pe_mt pe_mt0 Mak pe_mk)
def zListS : List V → Hp → VK → Prop := fun vs H Q => ∃ z : List Nat, vs = [.str (S z)] ∧ z.length ≤ 100000 ∧ ∀ p, H p = none → Q (.ref p) (upd H p (.lst (z.map fun c => V.str (S [c]))))
theorem vals_signs : ∀ (z : List Nat) (vs : List Value), vs.length = z.length → (∀ (j : Nat) (v : Value), vs[j]? = some v → ∃ c u, z[j]? = some c ∧ v = .str ⟨#[c]⟩ u) → Vals (z.map fun c => V.str (S [c])) vs
  | [], [], _, _ => .nil
  | c :: z, v :: vs, h, q => by
    obtain ⟨c', u, e1, e2⟩ := q 0 v rfl
    cases e1
    refine .cons ⟨u, e2⟩ (vals_signs z vs (by simpa using h) fun j v hv => ?_)
    obtain ⟨c', u, e1, e2⟩ := q (j + 1) v (by simpa using hv)
    exact ⟨c', u, by simpa using e1, e2⟩
  | [], _ :: _, h, _ => by simp at h
  | _ :: _, [], h, _ => by simp at h
theorem zc_listS {X : Cx} (hc : X.calm = true) : CallR X (.type "list") zListS := by
  intro pins s σ H vs us Q I r h
  obtain ⟨z, rfl, hz, q⟩ := h
  obtain ⟨u, rfl, rx⟩ := vals1 r
  obtain ⟨t, rfl⟩ := rx
  have hsz : (S z).cps.size = z.length := by simp
  refine call_list_str (I.ok.hd hc) (S z) t (by rw [hsz]; exact le_line hz) fun s1 acc c' k g dr os e it => ?_
  obtain ⟨h1, g1, d1, t1, o1⟩ := s1
  subst g dr os
  replace k : ∀ b o, s.heap.get? b = some o → h1.get? b = some o := k
  replace e : h1.get? s.heap.objs.size = some { cls := .type "list", data := .seq acc c' } := e
  have hV : Vals (z.map fun c => V.str (S [c])) acc.toList := vals_signs z acc.toList (by rw [Array.length_toList, it.1, hsz]) fun j v hv => by
    obtain ⟨c, u, e1, e2⟩ := it.2 j v (by simpa using hv)
    exact ⟨c, u, by simpa using e1, e2⟩
  exact ⟨.ref _, upd H s.heap.objs.size (.lst (z.map fun c => V.str (S [c]))), I.laid (t' := t1) k (Nat.le_refl _) ⟨by rw [List.length_map]; exact le_line hz, _, c', hV, by simpa using e⟩, rfl, q _ (I.hok.fresh (Nat.le_refl _))⟩
theorem i_listS {a : List Nat} {H : Hp} {Q : VK} (hl : a.length ≤ 100000) (q : ∀ p, H p = none → Q (.ref p) (upd H p (.lst (a.map fun c => V.str (S [c]))))) : zListS [.str (S a)] H Q := ⟨a, rfl, hl, q⟩
def zMaxC (K : PySem.W.Frag) : List V → Hp → VK → Prop := fun vs H Q => ∃ (a : Addr) (cs : List Nat), vs = [.ref a] ∧ SqL K H a (cs.map fun c => V.str (S [c])) ∧ 0 < cs.length ∧ ∀ m, m ∈ cs → (∀ y, y ∈ cs → y ≤ m) → Q (.str (S [m])) H
theorem signs_at : ∀ {cs : List Nat} {vs : List Value}, Vals (cs.map fun c => V.str (S [c])) vs → ∀ {i : Nat} {v : Value}, vs[i]? = some v → ∃ t, v = .str ⟨#[cs.getD i 0]⟩ t
  | [], _, .nil, i, v, h => by simp at h
  | c :: cs, _, .cons a r, 0, v, h => by
    cases h
    obtain ⟨t, e⟩ := a
    exact ⟨t, e⟩
  | c :: cs, _, .cons a r, i + 1, v, h => signs_at r (i := i) (by simpa using h)
theorem zc_maxC {X : Cx} (hc : X.calm = true) : CallR X (.builtin "max") (zMaxC X.K) := by
  intro pins s σ H vs us Q I r h
  obtain ⟨a, cs, rfl, hs, hne, q⟩ := h
  obtain ⟨its, rv, hl, _⟩ := I.list hs
  rw [Vals.ref1 r]
  have hlen : its.length = cs.length := by have := rv.length; rw [List.length_map] at this; exact this.symm
  refine max_signs (fun i => cs.getD i 0) (I.ok.hd hc) hl.isList (fun i v hv => signs_at rv (by simpa using hv)) (by rw [List.size_toArray, hlen]; exact hne) fun k t h' tk h1 h2 hk => ?_
  rw [List.size_toArray, hlen] at h1
  refine ⟨.str (S [cs.getD k 0]), H, I.kept hk, ⟨_, rfl⟩, q _ ?_ fun y hy => ?_⟩
  · rw [List.getD_eq_getElem?_getD, List.getElem?_eq_getElem h1]
    exact List.getElem_mem h1
  · obtain ⟨j, hj, rfl⟩ := List.getElem_of_mem hy
    have := h2 j (by rw [List.size_toArray, hlen]; exact hj)
    rwa [List.getD_eq_getElem?_getD, List.getElem?_eq_getElem hj] at this
theorem i_maxC {K : PySem.W.Frag} {a : Addr} {cs : List Nat} {H : Hp} {Q : VK} (h : SqL K H a (cs.map fun c => V.str (S [c]))) (h0 : 0 < cs.length) (q : ∀ m, m ∈ cs → (∀ y, y ∈ cs → y ≤ m) → Q (.str (S [m])) H) : zMaxC K [.ref a] H Q := ⟨a, cs, rfl, h, h0, q⟩
end Y

namespace Y
open PySem PySem.Spec PyProof.Rows L2 Z
open C8 (tCut pss_cut Cal pe_c Met pe_mt pe_mt0 Mak pe_mk)
section
variable {P : Program} {w : World} {K : PySem.W.Frag} {mg : Str → Option Value} {base : Heap}
/-- a def that may raise -/
structure CalX (P : Program) (w : World) (K : PySem.W.Frag) (mg : Str → Option Value) (base : Heap) (k : Nat) (x : Str) (sp : Sp) : Prop where
  ex : ∃ (f : Addr) (fd : FuncData) (ps : List Str), FnOk P w K mg base (L2.CX P w) k f fd ps sp ∧ mg x = some (.ref f) ∧ PySem.W.keepIn K (.ref f) = true ∧ Binds K fd ps []
theorem calX {x : Str} {st : Stmt} {N ps : List Str} {k : Nat} {sp : Sp} (d : DF K mg x st) (S : FnScope N ps (defScope st))
    (hb : ∀ (kV doc pm : Value) (an : Option Addr) (cdv ct : Value) (us : List Value), us.length = ps.length → bindArgs (PySem.W.fnOf x x (defArgs st) (defBody st) (defScope st) .none kV doc pm an cdv ct) ⟨us, []⟩ = pure (ps.zip us))
    (len : ∀ vs H Q E, sp vs H Q E → vs.length = ps.length)
    (hbody : ∀ (f : Addr) (cdv : Value) (A : Around) (outer : List Env) (s : Shared) (H : Hp) (vs : List V) (Q : VK) (E : XK), Room k (A.deeper (envOfC x (defScope st) s.heap.objs.size f cdv)) → sp vs H Q E →
      ∃ t, PSs (cxOf (L2.CX P w) P w K mg base N x (defScope st) f cdv A outer s H E) (defBody st) t ∧ t { nx := fun _ H' => Q .non H', rt := Q } (start N vs) H) : CalX P w K mg base (k + 1) x sp := by
  obtain ⟨f, fd, F, hm⟩ := d.ex
  exact ⟨f, fd, ps, F.okX S len (hbody f), hm, F.kp, F.binds hb⟩
end
section
variable {X : Cx} {k j : Nat} {x : Str} {sp : Sp} {p pos : Pos} {e : Expr} {es : List Expr} {t : TA} {W : WX}
theorem pe_cX (c : CalX X.prog X.w X.K X.mg X.base k x sp) (hr : Room j X.A) (hk : k ≤ j) (hg : Gl X x) (tk : Takes X W) (ha : PA X (e :: es) t)
    (hdb : (x == ("__debug__" : Str)) = false := by decide) (he : starEach (e :: es) X.env = (false, eval e X.env) :: starEach es X.env := by rfl) (hpl : (backTo pos (starEach es X.env)).any (·.1) = false := by rfl) :
    PE X (.Call (.Name x p) (e :: es) [] pos) (tCallS sp (WE W) t) := by
  obtain ⟨f, fd, ps, F, hm, kp, b⟩ := c.ex
  exact pe_callS F (hr.mono hk) hg hm kp b (fun σ => passAt tk σ) ha hdb he hpl
theorem i_callS {sp : Sp} {E : L2.St → XK} {t : TA} {σ : L2.St} {H : Hp} {Q : VK} (q : t σ H fun vs H1 => sp vs H1 Q (E σ)) : tCallS sp E t σ H Q := q
end
/-- whether an error of the class at S is what «except C» names -/
theorem exm_pair {K : PySem.W.Frag} {S C : Addr} {b : Bool} (h1 : PySem.W.subIn K (.ref C) (.type "BaseException") = some true) (h2 : PySem.W.isClsIn K C = true) (h3 : PySem.W.typeIn K (.ref C) = some (.type "type")) (h4 : PySem.W.subIn K (.ref S) (.ref C) = some b) :
    PySem.W.exmOne K (.ref S) (.ref C) = some b := by
  have e1 : (PySem.W.subIn K (.ref C) (.type "BaseException") == some true) = true := by rw [h1] <;> rfl
  have e2 : ((PySem.W.clsIn K C).isSome && PySem.W.typeIn K (.ref C) == some (.type "type")) = true := by
    have h2' : (PySem.W.clsIn K C).isSome = true := h2
    rw [h2', h3] <;> rfl
  unfold PySem.W.exmOne
  rw [if_pos e1]
  show (if ((PySem.W.clsIn K C).isSome && PySem.W.typeIn K (.ref C) == some (.type "type")) = true then PySem.W.subIn K (.ref S) (.ref C) else none) = some b
  rw [if_pos e2]
  exact h4
/-- an own exception over own ones, without an __init__ of its own -/
structure OwnX (K : PySem.W.Frag) (mg : Str → Option Value) (x : Str) (C : Addr) : Prop where
  ex : ∃ bmB newId initId, ExcBaseFacts "ValueError" newId initId bmB ∧ PySem.W.excIn K C bmB newId = true
  g : mg x = some (.ref C)
  kp : PySem.W.keepIn K (.ref C) = true
  b : PySem.W.subIn K (.ref C) (.type "BaseException") = some true
  t : PySem.W.typeIn K (.ref C) = some (.type "type")
section
variable {X : Cx}
theorem pmk_own0 {C : Addr} {x : Str} {p pos : Pos} (T : OwnX X.K X.mg x C) (hg : Gl X x) (hdb : (x == ("__debug__" : Str)) = false := by decide) :
    PMk X (.Call (.Name x p) [] [] pos) (fun σ H Q => Q (.ref C) none H) := by
  intro pins s σ H Q I h
  obtain ⟨bmB, newId, initId, F, q⟩ := T.ex
  refine wpAny_Call_Name_kw (ld_glob I hg T.g ?_ hdb)
  refine PySem.W.callWith_K0 I.kIn T.kp ?_
  show wpAny _ _ (call (.ref C) []) _ _ _
  obtain ⟨bm, N, nm, qn, bs, hdct, sn, sub, ab, col, dd, k0, k1, k2, k3, k5, mN, hC, hN, hni, TT⟩ := exc_obj I.kIn q
  refine wpAny_call_exc_subT F TT hC hN hni (fun h' e hm => ?_) (Nat.zero_le _)
  exact mk_of I hm (raises_own T.b T.t) h (I.hok.gone hm.new)
def tRaise0 (C : Addr) (W : WX) : TS := fun _ σ H => W (.ref C) none σ H
theorem ps_raise0 {C : Addr} {W : WX} {x : Str} {p pos pos2 : Pos} (hc : X.calm = true) (T : OwnX X.K X.mg x C) (tk : Takes X W) (hg : Gl X x) (hdb : (x == ("__debug__" : Str)) = false := by decide) :
    PS X (.Raise (some (.Call (.Name x p) [] [] pos)) none pos2) (tRaise0 C W) := ps_raise hc tk (pmk_own0 T hg hdb)
theorem i_raise0 {C : Addr} {W : WX} {D : Ends} {σ : L2.St} {H : Hp} (q : W (.ref C) none σ H) : tRaise0 C W D σ H := q
/-! t[::-1] -/
def tRevS (te : TE) : TE := fun σ H Q => te σ H fun x H1 => ∃ l : List Nat, x = .str (S l) ∧ l.length ≤ 100000 ∧ Q (.str (S l.reverse)) H1
theorem i_revS {te : TE} {σ : L2.St} {H : Hp} {Q : VK} (q : te σ H fun x H1 => ∃ l : List Nat, x = .str (S l) ∧ l.length ≤ 100000 ∧ Q (.str (S l.reverse)) H1) : tRevS te σ H Q := q
theorem rev_S (l : List Nat) (u : Tok) : Txt.sliceBy (S l) none none (-1, u) = S l.reverse := by
  have h := step_rev_list (S l) u
  have e : (List.range (S l).length).map (fun k => (S l).cps.getD ((S l).length - 1 - k) 0) = l.reverse := by
    rw [S_len]
    refine List.ext_getElem (by simp) fun i h1 h2 => ?_
    rw [List.length_map, List.length_range] at h1
    rw [List.getElem_map, List.getElem_range, List.getElem_reverse]
    show l.toArray.getD (l.length - 1 - i) 0 = _
    rw [Array.getD, dif_pos (by simp; omega)]
    rfl
  rw [e] at h
  rw [← S_codes (Txt.sliceBy (S l) none none (-1, u)), show codes (Txt.sliceBy (S l) none none (-1, u)) = l.reverse from h]
theorem pe_revS {e : Expr} {te : TE} {k : Nat} {p1 p2 p3 pos : Pos} (he : PE X e te) : PE X (.Subscript e (.Slice none none (some (.UnaryOp .USub (.Constant (.int 1) k p1) p2)) p3) pos) (tRevS te) := by
  refine ⟨fun pins s σ H Q I h => ?_⟩
  refine Subscript_ (thn (he.run pins s σ H _ I h) fun v s1 ⟨x, H1, I1, r1, q1⟩ => ?_)
  obtain ⟨l, ex, hl, q⟩ := q1
  subst ex
  obtain ⟨t, rfl⟩ := r1
  have hst : PO X (some (.UnaryOp .USub (.Constant (.int 1) k p1) p2)) (tPart (tUn (rU fun i => .int (-i)) (tC (.int 1)))) := po_some (pe_un un_neg pe_int)
  refine wpAny_Slice (thn (po_none.run pins s1 σ H1 (fun o H2 => o = none ∧ H2 = H1) I1 ⟨rfl, rfl⟩) fun vl s2 ⟨l', H2, I2, pl, el, e2⟩ => ?_)
  subst el e2
  refine thn (po_none.run pins s2 σ H2 (fun o H3 => o = none ∧ H3 = H2) I2 ⟨rfl, rfl⟩) fun vu s3 ⟨u, H3, I3, pu, eu, e3⟩ => ?_
  subst eu e3
  refine thn (hst.run pins s3 σ H3 (fun o H4 => o = some (-1) ∧ H4 = H3) I3 ⟨1, rfl, -1, rfl, rfl, rfl⟩) fun vs s4 ⟨o, H4, I4, ps, eo, e4⟩ => ?_
  subst eo e4
  have I5 : Inv X pins σ H4 { s4 with heap := s4.heap.push { cls := .type "slice", data := .fields #[vl, vu, vs] } } := I4.kept (t' := s4.toks) fun b ob q => Heap.get?_push_of_some _ q
  show wpAny (model X.prog X.w) X.A (subscriptTail e (.Slice none none (some (.UnaryOp .USub (.Constant (.int 1) k p1) p2)) p3) (.str (S l) t) (.ref s4.heap.objs.size)) (EP X pins σ Q) X.xe { s4 with heap := s4.heap.push { cls := .type "slice", data := .fields #[vl, vu, vs] } }
  have e1 : vl = .none := by cases pl; rfl
  have e2 : vu = .none := by cases pu; rfl
  obtain ⟨tk, e3⟩ : ∃ tk, vs = .int (-1) tk := by cases ps; exact ⟨_, rfl⟩
  subst e1 e2 e3
  have hsz : (S l).length ≤ sizeLine := by rw [S_len]; exact le_line hl
  have h0 : (((-1 : Int) == 0) = false) := by decide
  have h1 : ((-1 : Int), tk).1 ≠ 0 := show (-1 : Int) ≠ 0 by decide
  refine tail_any (ops := [.ref s4.heap.objs.size, .str (S l) t]) (typeIs_str _ _ _) (PySem.F.slot_str_getitem.lookup) ?_ (by with_unfolding_all rfl)
  refine wpAny_getItem_str_slice (l := none) (u := none) (st := some (-1, tk)) ⟨_, Heap.get?_push_size _ rfl, rfl, rfl⟩ h0 (post_val_or_str ⟨Nat.le_trans (Txt.sliceBy_le (S l) none none (-1, tk) h1) hsz, fun t' c => ?_⟩)
  show EP X pins σ Q (.str (Txt.sliceBy (S l) none none (-1, tk)) t') _
  rw [rev_S]
  exact ⟨.str (S l.reverse), H4, I5.tok _, ⟨_, rfl⟩, q⟩
end
end Y

namespace Y
open PySem PySem.Spec PyProof.Rows L2 Z
open C8 (tCut pss_cut Cal pe_c Met pe_mt pe_mt0 Mak pe_mk)
abbrev s_is_integer : Stmt := topS 6
abbrev n_is_integer : List Str := ["thing"]
theorem sc_is_integer : FnScope n_is_integer ["thing"] (defScope s_is_integer) := ⟨rfl, rfl, rfl, by decide +kernel, rfl, by decide +kernel, by decide +kernel⟩

abbrev s_is_between : Stmt := topS 7
abbrev n_is_between : List Str := ["thing", "low", "high"]
theorem sc_is_between : FnScope n_is_between ["thing", "low", "high"] (defScope s_is_between) := ⟨rfl, rfl, rfl, by decide +kernel, rfl, by decide +kernel, by decide +kernel⟩

abbrev s_is_ascending : Stmt := topS 8
abbrev n_is_ascending : List Str := ["row", "one", "other"]
theorem sc_is_ascending : FnScope n_is_ascending ["row"] (defScope s_is_ascending) := ⟨rfl, rfl, rfl, by decide +kernel, rfl, by decide +kernel, by decide +kernel⟩

abbrev s_is_letters : Stmt := topS 9
abbrev n_is_letters : List Str := ["thing", "sign"]
theorem sc_is_letters : FnScope n_is_letters ["thing"] (defScope s_is_letters) := ⟨rfl, rfl, rfl, by decide +kernel, rfl, by decide +kernel, by decide +kernel⟩

abbrev s_is_word : Stmt := topS 10
abbrev n_is_word : List Str := ["letters", "thing", "sign"]
theorem sc_is_word : FnScope n_is_word ["letters", "thing"] (defScope s_is_word) := ⟨rfl, rfl, rfl, by decide +kernel, rfl, by decide +kernel, by decide +kernel⟩

def isInt : PyData → Bool
  | .int _ => true
  | _ => false
def btw (lo hi : Int) : PyData → Bool
  | .int i => decide (lo ≤ i) && decide (i ≤ hi)
  | _ => false
def isLetters : PyData → Bool
  | .str w => (decide (1 ≤ (codes w).length) && decide ((codes w).length ≤ 4)) && ((codes w).all (fun c => decide (97 ≤ c) && decide (c ≤ 122)) && decide ((codes w).Pairwise (· < ·)))
  | _ => false
def isWord (l : List Nat) : PyData → Bool
  | .str w => (codes w).all fun c => decide (c ∈ l)
  | _ => false
theorem isWord_str {l : List Nat} {d : PyData} (h : isWord l d = true) : isTy d "str" = true := by
  cases d <;> first | (simp [isWord] at h; done) | rfl
def lenD : PyData → Nat
  | .str w => (codes w).length
  | .list l => l.length
  | .tuple l => l.length
  | _ => 0
def isLetter (l : List Nat) (d : PyData) : Bool := isWord l d && decide (lenD d = 1)
def ascD : PyData → Bool
  | .str w => decide ((codes w).Pairwise (· < ·))
  | _ => false
def isChoice (l : List Nat) (d : PyData) : Bool := isWord l d && ascD d
/-- what is handed in is short enough -/
def Sml : PyData → Prop
  | .str w => (codes w).length ≤ 90000
  | .list l => l.length ≤ 90000
  | .tuple l => l.length ≤ 90000
  | _ => True
def spIsInteger : Sp := fun vs H Q _ => ∃ x d, vs = [x] ∧ Rp N0 H x d ∧ ∀ H', Same H H' → Q (.bl (isInt d)) H'
def spIsBetween : Sp := fun vs H Q _ => ∃ x d lo hi, vs = [x, .int lo, .int hi] ∧ Rp N0 H x d ∧ ∀ H', Same H H' → Q (.bl (btw lo hi d)) H'
def spIsAscending : Sp := fun vs H Q _ => ∃ x, vs = [x] ∧ ((∃ l : List Nat, x = .str (S l) ∧ l.length ≤ 90000 ∧ ∀ H', Same H H' → Q (.bl (decide (l.Pairwise (· < ·)))) H') ∨
  ∃ (a : Addr) (ns : List Int), x = .ref a ∧ H a = some (.tup (ns.map V.int)) ∧ ns.length ≤ 90000 ∧ ∀ H', Same H H' → Q (.bl (decide (ns.Pairwise (· < ·)))) H')
def spIsLetters : Sp := fun vs H Q _ => ∃ x d, vs = [x] ∧ Rp N0 H x d ∧ Sml d ∧ ∀ H', Same H H' → Q (.bl (isLetters d)) H'
def spIsWord : Sp := fun vs H Q _ => ∃ (l : List Nat) (x : V) (d : PyData), vs = [.str (S l), x] ∧ Rp N0 H x d ∧ Sml d ∧ ∀ H', Same H H' → Q (.bl (isWord l d)) H'
def spIsLetter : Sp := fun vs H Q _ => ∃ (l : List Nat) (x : V) (d : PyData), vs = [.str (S l), x] ∧ Rp N0 H x d ∧ Sml d ∧ ∀ H', Same H H' → Q (.bl (isLetter l d)) H'
def spIsChoice : Sp := fun vs H Q _ => ∃ (l : List Nat) (x : V) (d : PyData), vs = [.str (S l), x] ∧ Rp N0 H x d ∧ Sml d ∧ ∀ H', Same H H' → Q (.bl (isChoice l d)) H'
section
variable {P : Program} {w : World} {K : PySem.W.Frag} {mg : Str → Option Value} {base : Heap}
theorem c_is_integer (d : DF K mg "is_integer" s_is_integer) (B : Bi mg) : Cal P w K mg base 1 "is_integer" spIsInteger [] := by
  refine d.cal (N := n_is_integer) sc_is_integer (fun _ _ _ _ _ _ us hl => match us, hl with | [_], _ => rfl) (fun vs H Q E h => ?_) (fun f cdv A outer s H vs Q E hr h => ?_)
  · obtain ⟨x, d, rfl, _⟩ := h
    rfl
  · obtain ⟨x, d, rfl, r, k⟩ := h
    refine ⟨_, (pss_one (ps_ret (pe_and (pe_callB (r := zIsi K) zc_isi (by rfl) B.isinstance (by decide +kernel) (pa_cons (pv 0) (pa_cons (pe_bltn (by rfl) B.int (by decide +kernel) (rel_ty "int")) pa_nil))) (pe_one (pe_not (pe_callB (r := zIsi K) zc_isi (by rfl) B.isinstance (by decide +kernel) (pa_cons (pv 0) (pa_cons (pe_bltn (by rfl) B.bool (by decide +kernel) (rel_ty "bool")) pa_nil)))))))), ?_⟩
    refine zstart [some (x)] rfl ?_; try dsimp only [zK, zK2]
    walk_at "zz"
    refine i_isi r (by decide) ?_
    walk_at "zz"
    refine brb (fun hb => ?_) fun hb => ?_
    · walk_at "zz"
      refine i_isi r (by decide) ?_
      walk_at "zz"
      have e : isInt d = !isTy d "bool" := by cases r <;> first | rfl | (simp [isTy, tyN, isInt] at hb)
      rw [← e]
      exact k _ (Same.refl _)
    · walk_at "zz"
      have e : isInt d = false := by cases r <;> first | rfl | (simp [isTy, tyN, isInt] at hb)
      rw [← e]
      exact k _ (Same.refl _)
theorem c_is_between (d : DF K mg "is_between" s_is_between) (B : Bi mg) (c_is_integer : Cal P w K mg base 1 "is_integer" spIsInteger []) : Cal P w K mg base 2 "is_between" spIsBetween [] := by
  refine d.cal (N := n_is_between) sc_is_between (fun _ _ _ _ _ _ us hl => match us, hl with | [_, _, _], _ => rfl) (fun vs H Q E h => ?_) (fun f cdv A outer s H vs Q E hr h => ?_)
  · obtain ⟨x, d, lo, hi, rfl, _⟩ := h
    rfl
  · obtain ⟨x, d, lo, hi, rfl, r, k⟩ := h
    refine ⟨_, (pss_one (ps_ret (pe_and (pe_c c_is_integer hr (by first | decide | omega) rfl (pa_cons (pv 0) pa_nil)) (pe_one (pe_chain z_le z_le (pv 1) (pv 0) (pv 2)))))), ?_⟩
    refine zstart [some (x), some (.int lo), some (.int hi)] rfl ?_; try dsimp only [zK, zK2]
    walk_at "zz"
    refine ⟨x, d, rfl, r, fun H1 s1 => ?_⟩
    walk_at "zz"
    refine brb (fun hb => ?_) fun hb => ?_
    · cases r with
      | int i =>
        walk_at "zz"
        refine brd (fun h1 => ?_) fun h1 => ?_
        · walk_at "zz"
          have e : btw lo hi (.int i) = decide (i ≤ hi) := by show (decide (lo ≤ i) && _) = _; rw [decide_eq_true h1, Bool.true_and]
          rw [← e]
          exact k _ s1
        · walk_at "zz"
          have e : btw lo hi (.int i) = false := by show (decide (lo ≤ i) && _) = _; rw [decide_eq_false h1, Bool.false_and]
          rw [← e]
          exact k _ s1
      | _ => simp [isInt] at hb
    · walk_at "zz"
      have e : btw lo hi d = false := by cases r <;> first | rfl | (simp [isTy, tyN, isInt] at hb)
      rw [← e]
      exact k _ s1
theorem c_is_word (d : DF K mg "is_word" s_is_word) (B : Bi mg) : Cal P w K mg base 1 "is_word" spIsWord [] := by
  refine d.cal (N := n_is_word) sc_is_word (fun _ _ _ _ _ _ us hl => match us, hl with | [_, _], _ => rfl) (fun vs H Q E h => ?_) (fun f cdv A outer s H vs Q E hr h => ?_)
  · obtain ⟨l, x, d, rfl, _⟩ := h
    rfl
  · obtain ⟨l, x, d, rfl, r, sm, k⟩ := h
    refine ⟨_, (pss_one (ps_ret (pe_and (pe_callB (r := zIsi K) zc_isi (by rfl) B.isinstance (by decide +kernel) (pa_cons (pv 1) (pa_cons (pe_bltn (by rfl) B.str (by decide +kernel) (rel_ty "str")) pa_nil))) (pe_one (pe_callB (r := zAll K) (zc_all rfl) (by rfl) B.all (by decide +kernel) (pa_cons (pe_lc (own := [("sign", 2)]) (g := gName 2) (tt := tYes) (by rfl) sc_is_word.nd (pi_str (pv 1)) (blkOk_by (N := n_is_word) (sc := defScope s_is_word) (by decide +kernel)) (fun _ _ _ _ _ => (pg_name (i := 2) sc_is_word.nd rfl (by first | exact Or.inl rfl | exact Or.inr rfl))) (fun _ _ _ _ _ => pts_nil) (fun _ _ _ _ _ => (pe_cmpR z_ins (pv 2) (pv 0) (by rfl)))) pa_nil)))))), ?_⟩
    refine zstart [some (.str (S l)), some (x), none] rfl ?_; try dsimp only [zK, zK2]
    walk_at "zz"
    refine i_isi r (by decide) ?_
    walk_at "zz"
    refine brb (fun hb => ?_) fun hb => ?_
    · obtain ⟨a, rfl, rfl⟩ := r.isStr hb
      walk_at "zz"
      refine fun Dl hD => ?_
      refine l_mapS hD [some (.str (S l)), some (.str (S a)), none] rfl (fun _ => rfl) (Nat.le_trans sm (by decide)) (fun c => .bl (decide (c ∈ l))) (fun c H1 P hc s1 hP => ?_) fun H1 s1 e => ?_
      · refine zte [some (.str (S l)), some (.str (S a)), some (.str (S [c]))] rfl ?_
        walk_at "zz"
        exact hP _ (Same.refl _)
      · walk_at "zz"
        refine i_all (bs := a.map fun c => decide (c ∈ l)) (SqL.of (by rw [List.map_map]; exact e)) ?_
        rw [List.all_map]
        exact k _ s1
    · walk_at "zz"
      have e : isWord l d = false := by cases r <;> first | rfl | (simp [isTy, tyN] at hb)
      rw [← e]
      exact k _ (Same.refl _)
theorem c_is_ascending (d : DF K mg "is_ascending" s_is_ascending) (B : Bi mg) : Cal P w K mg base 1 "is_ascending" spIsAscending [] := by
  refine d.cal (N := n_is_ascending) sc_is_ascending (fun _ _ _ _ _ _ us hl => match us, hl with | [_], _ => rfl) (fun vs H Q E h => ?_) (fun f cdv A outer s H vs Q E hr h => ?_)
  · obtain ⟨x, rfl, _⟩ := h
    rfl
  · obtain ⟨x, rfl, h⟩ := h
    refine ⟨_, (pss_one (ps_ret (pe_callB (r := zAll K) (zc_all rfl) (by rfl) B.all (by decide +kernel) (pa_cons (pe_lc (own := [("one", 1), ("other", 2)]) (g := (gTup _ 2 (gCons (gName 1) (gCons (gName 2) gNil)))) (tt := tYes) (by rfl) sc_is_ascending.nd (pi_zipZ rfl B.zip (pa_cons (pv 0) (pa_cons (pe_slice (r := zSlA K) sl_A (pv 0) (po_some pe_int) po_none) pa_nil))) (blkOk_by (N := n_is_ascending) (sc := defScope s_is_ascending) (by decide +kernel)) (fun _ _ _ _ _ => (pg_tup rfl (pgs_cons (pg_name (i := 1) sc_is_ascending.nd rfl (by first | exact Or.inl rfl | exact Or.inr rfl)) (pgs_cons (pg_name (i := 2) sc_is_ascending.nd rfl (by first | exact Or.inl rfl | exact Or.inr rfl)) pgs_nil)))) (fun _ _ _ _ _ => pts_nil) (fun _ _ _ _ _ => (pe_cmpR z_ltA (pv 1) (pv 2) (nomark _)))) pa_nil)))), ?_⟩
    refine zstart [some (x), none, none] rfl ?_; try dsimp only [zK, zK2]
    walk_at "zz"
    rcases h with ⟨l, rfl, hl, k⟩ | ⟨a, ns, rfl, ha, hl, k⟩
    · refine .inl (i_slFrom (n := 1) (by omega) ?_)
      walk_at "zz"
      refine i_KZ (.str (S l)) (.str (S (l.drop 1))) rfl rfl rfl rfl fun Dl hD => ?_
      refine l_zipmap hD [some (.str (S l)), none, none] rfl (fun _ _ => rfl) (fun _ _ => rfl) (fun _ _ => rfl) (by rw [List.length_map]; have : (codes (S l)).length = l.length := rfl; omega) (fun x y => .bl (decide (chr1 x < chr1 y))) (fun x y H1 P hx hy s1 hP => ?_) fun H1 s1 e => ?_
      · obtain ⟨c, hc, rfl⟩ := List.mem_map.mp hx
        obtain ⟨c2, hc2, rfl⟩ := List.mem_map.mp hy
        refine zte [some (.str (S l)), some (.str (S [c])), some (.str (S [c2]))] rfl ?_
        walk_at "zz"
        rw [one_lt]
        exact hP _ (Same.refl _)
      · walk_at "zz"
        rw [zip_map (fun c => V.str (S [c])) (fun c => V.str (S [c])) (fun x y => V.bl (decide (chr1 x < chr1 y))) (fun c c2 => V.bl (decide (c < c2))) (fun _ _ => rfl)] at e
        refine i_all (bs := (l.zip (l.drop 1)).map fun p => decide (p.1 < p.2)) (SqL.of (by rw [List.map_map]; exact e)) ?_
        rw [adj_all (fun a b => decide (a < b)), adj_asc]
        exact k _ s1
    · refine .inr (.inl (i_slTA ha fun p H0 s0 hp => ?_))
      walk_at "zz"
      rw [show (1 : Int) = ((1 : Nat) : Int) from rfl, cutV_from, ← List.map_drop] at hp
      have ha0 := s0 _ _ ha
      refine i_KZ (.tup a) (.tup p) rfl rfl (SqT.of ha0) (SqT.of hp) fun Dl hD => ?_
      refine l_zipmap hD [some (.ref a), none, none] rfl (fun _ _ => rfl) (fun H1 s1 => SqT.of (s1 _ _ ha0)) (fun H1 s1 => SqT.of (s1 _ _ hp)) (by rw [List.length_map]; omega) (fun x y => .bl (decide (int1 x < int1 y))) (fun x y H1 P hx hy s1 hP => ?_) fun H1 s1 e => ?_
      · obtain ⟨c, hc, rfl⟩ := List.mem_map.mp hx
        obtain ⟨c2, hc2, rfl⟩ := List.mem_map.mp hy
        refine zte [some (.ref a), some (.int c), some (.int c2)] rfl ?_
        walk_at "zz"
        exact hP _ (Same.refl _)
      · walk_at "zz"
        rw [zip_map V.int V.int (fun x y => V.bl (decide (int1 x < int1 y))) (fun c c2 => V.bl (decide (c < c2))) (fun _ _ => rfl)] at e
        refine i_all (bs := (ns.zip (ns.drop 1)).map fun p => decide (p.1 < p.2)) (SqL.of (by rw [List.map_map]; exact e)) ?_
        rw [adj_all (fun a b => decide (a < b)), adj_ascI]
        exact k _ (s0.trans s1)
theorem c_is_letters (d : DF K mg "is_letters" s_is_letters) (B : Bi mg) (c_is_ascending : Cal P w K mg base 1 "is_ascending" spIsAscending []) : Cal P w K mg base 2 "is_letters" spIsLetters [] := by
  refine d.cal (N := n_is_letters) sc_is_letters (fun _ _ _ _ _ _ us hl => match us, hl with | [_], _ => rfl) (fun vs H Q E h => ?_) (fun f cdv A outer s H vs Q E hr h => ?_)
  · obtain ⟨x, d, rfl, _⟩ := h
    rfl
  · obtain ⟨x, d, rfl, r, sm, k⟩ := h
    refine ⟨_, (pss_cons (ps_if (PW.pt (pw_or (pt_not (pt_val (pe_callB (r := zIsi K) zc_isi (by rfl) B.isinstance (by decide +kernel) (pa_cons (pv 0) (pa_cons (pe_bltn (by rfl) B.str (by decide +kernel) (rel_ty "str")) pa_nil))))) (pw_or1 (pt_not (pt_chain z_le z_le pe_int (pe_callB zc_lens (by rfl) B.len (by decide +kernel) (pa_cons (pv 0) pa_nil)) pe_int))))) (pss_one (ps_ret pe_bl)) pss_nil)
  (pss_one (ps_ret (pe_and (pe_callB (r := zAll K) (zc_all rfl) (by rfl) B.all (by decide +kernel) (pa_cons (pe_lc (own := [("sign", 1)]) (g := gName 1) (tt := tYes) (by rfl) sc_is_letters.nd (pi_str (pv 0)) (blkOk_by (N := n_is_letters) (sc := defScope s_is_letters) (by decide +kernel)) (fun _ _ _ _ _ => (pg_name (i := 1) sc_is_letters.nd rfl (by first | exact Or.inl rfl | exact Or.inr rfl))) (fun _ _ _ _ _ => pts_nil) (fun _ _ _ _ _ => (pe_chain z_les z_les pe_str (pv 1) pe_str))) pa_nil)) (pe_one (pe_c c_is_ascending hr (by first | decide | omega) rfl (pa_cons (pv 0) pa_nil))))))), ?_⟩
    refine zstart [some (x), none] rfl ?_; try dsimp only [zK, zK2]
    walk_at "zz"
    refine i_isi r (by decide) ?_
    walk_at "zz"
    refine brnb (fun hb => ?_) fun hb => ?_
    · walk_at "zz"
      have e : isLetters d = false := by cases r <;> first | rfl | (simp [isTy, tyN] at hb)
      rw [← e]
      exact k _ (Same.refl _)
    · obtain ⟨l, rfl, rfl⟩ := r.isStr hb
      have hl : l.length ≤ 90000 := sm
      walk_at "zz"
      refine brd (fun h1 => ?_) fun h1 => ?_
      · walk_at "zz"
        refine brn (fun h2 => ?_) fun h2 => ?_
        · walk_at "zz"
          have e : isLetters (.str (S l)) = false := by
            show ((decide (1 ≤ l.length) && decide (l.length ≤ 4)) && _) = false
            rw [decide_eq_false (show ¬ l.length ≤ 4 by omega), Bool.and_false, Bool.false_and]
          rw [← e]
          exact k _ (Same.refl _)
        · walk_at "zz"
          refine fun Dl hD => ?_
          refine l_mapS hD [some (.str (S l)), none] rfl (fun _ => rfl) (by omega) (fun c => .bl (decide (97 ≤ c) && decide (c ≤ 122))) (fun c H1 P hc s1 hP => ?_) fun H1 s1 e => ?_
          · refine zte [some (.str (S l)), some (.str (S [c]))] rfl ?_
            walk_at "zz"
            rw [show codes (PySem.Str.ofString "a") = [97] from by decide +kernel, one_lt']
            refine brd (fun h3 => ?_) fun h3 => ?_
            · walk_at "zz"
              rw [show codes (PySem.Str.ofString "z") = [122] from by decide +kernel, one_lt']
              have e : decide (c ≤ 122) = (decide (97 ≤ c) && decide (c ≤ 122)) := by rw [decide_eq_true h3, Bool.true_and]
              rw [e]
              exact hP _ (Same.refl _)
            · walk_at "zz"
              have e : false = (decide (97 ≤ c) && decide (c ≤ 122)) := by rw [decide_eq_false h3, Bool.false_and]
              rw [e]
              exact hP _ (Same.refl _)
          · walk_at "zz"
            refine i_all (bs := l.map fun c => decide (97 ≤ c) && decide (c ≤ 122)) (SqL.of (by rw [List.map_map]; exact e)) ?_
            rw [List.all_map]
            walk_at "zz"
            have e0 : isLetters (.str (S l)) = (l.all (fun c => decide (97 ≤ c) && decide (c ≤ 122)) && decide (l.Pairwise (· < ·))) := by
              show ((decide (1 ≤ l.length) && decide (l.length ≤ 4)) && _) = _
              rw [decide_eq_true (show 1 ≤ l.length by omega), decide_eq_true (show l.length ≤ 4 by omega)]; rfl
            refine brb (fun h4 => ?_) fun h4 => ?_
            · have h4 : l.all (fun c => decide (97 ≤ c) && decide (c ≤ 122)) = true := h4
              walk_at "zz"
              refine ⟨_, rfl, .inl ⟨l, rfl, hl, fun H2 s2 => ?_⟩⟩
              rw [h4, Bool.true_and] at e0
              rw [← e0]
              exact k _ (s1.trans s2)
            · have h4 : l.all (fun c => decide (97 ≤ c) && decide (c ≤ 122)) = false := h4
              walk_at "zz"
              rw [h4, Bool.false_and] at e0
              rw [← e0]
              exact k _ s1
      · walk_at "zz"
        have e : isLetters (.str (S l)) = false := by
          show ((decide (1 ≤ l.length) && decide (l.length ≤ 4)) && _) = false
          rw [decide_eq_false (show ¬ 1 ≤ l.length by omega), Bool.false_and, Bool.false_and]
        rw [← e]
        exact k _ (Same.refl _)
end
end Y

namespace Y
open PySem PySem.Spec PyProof.Rows L2 Z
open C8 (tCut pss_cut Cal pe_c Met pe_mt pe_mt0 Mak pe_mk)
abbrev s__is_states : Stmt := topS 21
abbrev n__is_states : List Str := ["thing", "many", "state"]
theorem sc__is_states : FnScope n__is_states ["thing", "many"] (defScope s__is_states) := ⟨rfl, rfl, rfl, by decide +kernel, rfl, by decide +kernel, by decide +kernel⟩

abbrev s__is_table : Stmt := topS 19
abbrev n__is_table : List Str := ["thing", "width", "row"]
theorem sc__is_table : FnScope n__is_table ["thing", "width"] (defScope s__is_table) := ⟨rfl, rfl, rfl, by decide +kernel, rfl, by decide +kernel, by decide +kernel⟩

abbrev s__is_accepts : Stmt := topS 20
abbrev n__is_accepts : List Str := ["thing", "many"]
theorem sc__is_accepts : FnScope n__is_accepts ["thing", "many"] (defScope s__is_accepts) := ⟨rfl, rfl, rfl, by decide +kernel, rfl, by decide +kernel, by decide +kernel⟩

abbrev s_Machine___init__ : Stmt := inClass (topS 16) 0
abbrev n_Machine___init__ : List Str := ["self", "letters", "table", "accepts"]
theorem sc_Machine___init__ : FnScope n_Machine___init__ ["self", "letters", "table", "accepts"] (defScope s_Machine___init__) := ⟨rfl, rfl, rfl, by decide +kernel, rfl, by decide +kernel, by decide +kernel⟩

abbrev s_Machine_letters : Stmt := inClass (topS 16) 1
abbrev n_Machine_letters : List Str := ["self"]
theorem sc_Machine_letters : FnScope n_Machine_letters ["self"] (defScope s_Machine_letters) := ⟨rfl, rfl, rfl, by decide +kernel, rfl, by decide +kernel, by decide +kernel⟩

abbrev s_Machine_table : Stmt := inClass (topS 16) 2
abbrev n_Machine_table : List Str := ["self"]
theorem sc_Machine_table : FnScope n_Machine_table ["self"] (defScope s_Machine_table) := ⟨rfl, rfl, rfl, by decide +kernel, rfl, by decide +kernel, by decide +kernel⟩

abbrev s_Machine_accepts : Stmt := inClass (topS 16) 3
abbrev n_Machine_accepts : List Str := ["self"]
theorem sc_Machine_accepts : FnScope n_Machine_accepts ["self"] (defScope s_Machine_accepts) := ⟨rfl, rfl, rfl, by decide +kernel, rfl, by decide +kernel, by decide +kernel⟩

abbrev s_end_of : Stmt := topS 12
abbrev n_end_of : List Str := ["letters", "table", "state", "word", "letter"]
theorem sc_end_of : FnScope n_end_of ["letters", "table", "state", "word"] (defScope s_end_of) := ⟨rfl, rfl, rfl, by decide +kernel, rfl, by decide +kernel, by decide +kernel⟩

abbrev s_says : Stmt := topS 17
abbrev n_says : List Str := ["machine", "word", "letters"]
theorem sc_says : FnScope n_says ["machine", "word"] (defScope s_says) := ⟨rfl, rfl, rfl, by decide +kernel, rfl, by decide +kernel, by decide +kernel⟩

/-- numbers as values and as data -/
def ivs (l : List Nat) : List V := l.map fun x : Nat => V.int (x : Int)
def ids (l : List Nat) : List PyData := l.map fun x : Nat => PyData.int (x : Int)
def rowD (l : List Nat) : PyData := .tuple (ids l)
def tabD (t : List (List Nat)) : PyData := .tuple (t.map rowD)
def Ltrs (l : List Nat) : Prop := l.Pairwise (· < ·) ∧ (∀ c ∈ l, 97 ≤ c ∧ c ≤ 122) ∧ 1 ≤ l.length ∧ l.length ≤ 4
/-- the parts of a machine -/
structure Parts (L : List Nat) (t : List (List Nat)) (a : List Nat) : Prop where
  ltr : Ltrs L
  lo : 1 ≤ t.length
  hi : t.length ≤ 6
  row : ∀ r ∈ t, r.length = L.length ∧ ∀ x ∈ r, x < t.length
  acc : a.Pairwise (· < ·)
  acs : ∀ x ∈ a, x < t.length
theorem ids_rp {N : Addr → Prop} {H : Hp} : ∀ {l : List Nat} {vs : List V}, RpAll N H vs (ids l) → vs = ivs l
  | [], _, r => by rw [RpAll.nilS r]; rfl
  | x :: l, _, r => by
    obtain ⟨v, ws, rfl, r1, r2⟩ := RpAll.consS r
    rw [r1.intS, ids_rp r2]; rfl
theorem ids_of {N : Addr → Prop} {H : Hp} : ∀ (l : List Nat), RpAll N H (ivs l) (ids l)
  | [] => .nil
  | _ :: l => .cons (.int _) (ids_of l)
theorem rowD_rp {N : Addr → Prop} {H : Hp} {v : V} {l : List Nat} (r : Rp N H v (rowD l)) : ∃ p, v = .ref p ∧ H p = some (.tup (ivs l)) ∧ ¬ N p := by
  obtain ⟨p, xs, rfl, e, n, ra⟩ := Rp.tupS r
  rw [ids_rp ra] at e
  exact ⟨p, rfl, e, n⟩
/-- a machine at m -/
structure IsM (K : PySem.W.Frag) (H : Hp) (C m : Addr) (L : List Nat) (t : List (List Nat)) (a : List Nat) : Prop where
  ex : ∃ (dx : Addr) (vt va : V), H m = some (.ins C dx [("_letters", .str (S L)), ("_table", vt), ("_accepts", va)]) ∧ Rp N0 H vt (tabD t) ∧ Rp N0 H va (rowD a)
theorem IsM.same {K : PySem.W.Frag} {H H' : Hp} {C m : Addr} {L : List Nat} {t : List (List Nat)} {a : List Nat} (s : Same H H') (h : IsM K H C m L t a) : IsM K H' C m L t a := by
  obtain ⟨dx, vt, va, e, r1, r2⟩ := h.ex
  exact ⟨dx, vt, va, s _ _ e, r1.same s, r2.same s⟩
/-- a method of the class at C -/
structure MF (K : PySem.W.Frag) (C : Addr) (m qual : Str) (st : Stmt) : Prop where
  ex : ∃ (f : Addr) (fd : FuncData), Fun K m qual st f fd ∧ PySem.W.findIn K (.ref C) m = some (some (.ref f)) ∧ PySem.W.isFn K (.ref f) = true
section
variable {P : Program} {w : World} {K : PySem.W.Frag} {mg : Str → Option Value} {base : Heap}
theorem met {m qual : Str} {st : Stmt} {C : Addr} {N ps : List Str} {k : Nat} {sp : Sp} (d : MF K C m qual st) (c : Cls K C) (Sc : FnScope N ps (defScope st))
    (hb : ∀ (kV doc pm : Value) (an : Option Addr) (cdv ct : Value) (us : List Value), us.length = ps.length → bindArgs (PySem.W.fnOf m qual (defArgs st) (defBody st) (defScope st) .none kV doc pm an cdv ct) ⟨us, []⟩ = pure (ps.zip us))
    (len : ∀ vs H Q E, sp vs H Q E → vs.length = ps.length)
    (hbody : ∀ (f : Addr) (cdv : Value) (A : Around) (outer : List Env) (s : Shared) (H : Hp) (vs : List V) (Q : VK) (E : XK), Room k (A.deeper (envOfC qual (defScope st) s.heap.objs.size f cdv)) → sp vs H Q E →
      ∃ t, PSs (cxOf CX0 P w K mg base N qual (defScope st) f cdv A outer s H E).nox (defBody st) t ∧ t { nx := fun _ H' => Q .non H', rt := Q } (start N vs) H) : Met P w K mg base (k + 1) C m sp [] := by
  obtain ⟨f, fd, F, hf, hfn⟩ := d.ex
  exact ⟨f, fd, ps, [], c, ⟨hf, hfn, F.kp⟩, F.ok Sc len (hbody f), F.binds hb, .nil⟩
theorem mak {x qual : Str} {st : Stmt} {C : Addr} {N ps : List Str} {k : Nat} {sp : Sp} (d : MF K C "__init__" qual st) (hm : mg x = some (.ref C)) (h1 : PySem.W.makesIn K C = true) (h2 : PySem.W.keepIn K (.ref C) = true) (Sc : FnScope N ps (defScope st))
    (hb : ∀ (kV doc pm : Value) (an : Option Addr) (cdv ct : Value) (us : List Value), us.length = ps.length → bindArgs (PySem.W.fnOf "__init__" qual (defArgs st) (defBody st) (defScope st) .none kV doc pm an cdv ct) ⟨us, []⟩ = pure (ps.zip us))
    (len : ∀ vs H Q E, sp vs H Q E → vs.length = ps.length)
    (hbody : ∀ (f : Addr) (cdv : Value) (A : Around) (outer : List Env) (s : Shared) (H : Hp) (vs : List V) (Q : VK) (E : XK), Room k (A.deeper (envOfC qual (defScope st) s.heap.objs.size f cdv)) → sp vs H Q E →
      ∃ t, PSs (cxOf CX0 P w K mg base N qual (defScope st) f cdv A outer s H E).nox (defBody st) t ∧ t { nx := fun _ H' => Q .non H', rt := Q } (start N vs) H) : Mak P w K mg base (k + 1) x C sp [] := by
  obtain ⟨f, fd, F, hf, hfn⟩ := d.ex
  exact ⟨f, fd, ps, [], ⟨h1, hf, hfn, h2⟩, F.ok Sc len (hbody f), hm, F.binds hb, .nil⟩
end
/-- the names of the class -/
structure MTxt (K : PySem.W.Frag) (C : Addr) : Prop where
  c : Cls K C
  nl : NoAttr K C "_letters"
  nt : NoAttr K C "_table"
  na : NoAttr K C "_accepts"
def spIsStates : Sp := fun vs H Q _ => ∃ (v : V) (l : List Nat) (n : Nat), vs = [v, .int (n : Int)] ∧ Rp N0 H v (rowD l) ∧ (∀ x ∈ l, x < n) ∧ l.length ≤ 1000 ∧ ∀ H', Same H H' → Q (.bl true) H'
def spIsTable : Sp := fun vs H Q _ => ∃ (v : V) (t : List (List Nat)) (n : Nat), vs = [v, .int (n : Int)] ∧ Rp N0 H v (tabD t) ∧ 1 ≤ t.length ∧ t.length ≤ 6 ∧ (∀ r ∈ t, r.length = n ∧ ∀ x ∈ r, x < t.length) ∧ n ≤ 4 ∧ ∀ H', Same H H' → Q (.bl true) H'
def spIsAccepts : Sp := fun vs H Q _ => ∃ (v : V) (l : List Nat) (n : Nat), vs = [v, .int (n : Int)] ∧ Rp N0 H v (rowD l) ∧ (∀ x ∈ l, x < n) ∧ l.Pairwise (· < ·) ∧ l.length ≤ 1000 ∧ ∀ H', Same H H' → Q (.bl true) H'
def spInit (C : Addr) : Sp := fun vs H Q _ => ∃ (m dx : Addr) (vt va : V) (L : List Nat) (t : List (List Nat)) (a : List Nat), vs = [.ref m, .str (S L), vt, va] ∧ H m = some (.ins C dx []) ∧ Parts L t a ∧ Rp N0 H vt (tabD t) ∧ Rp N0 H va (rowD a) ∧
  ∀ H1 H', Same H H1 → H' = upd H1 m (.ins C dx [("_letters", .str (S L)), ("_table", vt), ("_accepts", va)]) → Q .non H'
theorem i_sfld {K : PySem.W.Frag} {ta tv : TE} {f : Str} {D : Ends} {σ : L2.St} {H : Hp} (q : tv σ H fun y H1 => ta σ H1 fun x H2 => ∃ a C dx fs, x = .ref a ∧ H2 a = some (.ins C dx fs) ∧ Cls K C ∧ NoAttr K C f ∧ fs.length < 1000 ∧ D.nx σ (upd H2 a (.ins C dx (putF f y fs)))) : sFld K ta tv f D σ H := q
theorem i_fld {K : PySem.W.Frag} {ta : TE} {f : Str} {σ : L2.St} {H : Hp} {Q : VK} (q : ta σ H fun x H1 => ∃ a C dx fs v, x = .ref a ∧ H1 a = some (.ins C dx fs) ∧ Cls K C ∧ NoAttr K C f ∧ fs.lookup f = some v ∧ Q v H1) : tFld K ta f σ H Q := q
theorem i_meth {C : Addr} {m : Str} {sp : Sp} {dvs : List V} {E : XK} {ta : TE} {t : TA} {σ : L2.St} {H : Hp} {Q : VK} (q : ta σ H fun x H1 => ∃ a dx fs, x = .ref a ∧ H1 a = some (.ins C dx fs) ∧ fs.lookup m = none ∧ t σ H1 fun vs H2 => sp (x :: (vs ++ dvs)) H2 Q E) : tMeth C m sp dvs E ta t σ H Q := q
theorem upd_upd {H : Hp} {a : Addr} {x y : HO} : upd (upd H a x) a y = upd H a y := by
  funext b
  by_cases h : b = a
  · subst h; rw [upd_same, upd_same]
  · rw [upd_ne h, upd_ne h, upd_ne h]
theorem put2 {x y : V} : putF ("_table" : Str) y [(("_letters" : Str), x)] = [(("_letters" : Str), x), (("_table" : Str), y)] := by
  show (if ("_letters" : Str) = ("_table" : Str) then _ else _) = _
  rw [if_neg (by decide +kernel)]; rfl
theorem put3 {x y z : V} : putF ("_accepts" : Str) z [(("_letters" : Str), x), (("_table" : Str), y)] = [(("_letters" : Str), x), (("_table" : Str), y), (("_accepts" : Str), z)] := by
  show (if ("_letters" : Str) = ("_accepts" : Str) then _ else _) = _
  rw [if_neg (by decide +kernel)]
  show _ :: (if ("_table" : Str) = ("_accepts" : Str) then _ else _) = _
  rw [if_neg (by decide +kernel)]; rfl
def spLettersOf (K : PySem.W.Frag) (C : Addr) : Sp := fun vs H Q _ => ∃ (m : Addr) (L : List Nat) (t : List (List Nat)) (a : List Nat), vs = [.ref m] ∧ IsM K H C m L t a ∧ Q (.str (S L)) H
def spTableOf (K : PySem.W.Frag) (C : Addr) : Sp := fun vs H Q _ => ∃ (m : Addr) (L : List Nat) (t : List (List Nat)) (a : List Nat), vs = [.ref m] ∧ IsM K H C m L t a ∧ ∀ v, Rp N0 H v (tabD t) → Q v H
def spAcceptsOf (K : PySem.W.Frag) (C : Addr) : Sp := fun vs H Q _ => ∃ (m : Addr) (L : List Nat) (t : List (List Nat)) (a : List Nat), vs = [.ref m] ∧ IsM K H C m L t a ∧ ∀ v, Rp N0 H v (rowD a) → Q v H
/-- the state to which a word leads -/
def led (L : List Nat) (t : List (List Nat)) (s : Nat) (u : List Nat) : Nat := u.foldl (fun s c => (t.getD s []).getD (L.idxOf c) 0) s
def spEndOf : Sp := fun vs H Q _ => ∃ (L : List Nat) (vt : V) (t : List (List Nat)) (s : Nat) (u : List Nat), vs = [.str (S L), vt, .int (s : Int), .str (S u)] ∧ Rp N0 H vt (tabD t) ∧ L.length ≤ 1000 ∧ (∀ r ∈ t, r.length = L.length ∧ ∀ x ∈ r, x < t.length) ∧ s < t.length ∧ (∀ c ∈ u, c ∈ L) ∧ ∀ H', Same H H' → Q (.int (led L t s u : Int)) H'
def spSays (K : PySem.W.Frag) (C C2 : Addr) : Sp := fun vs H Q E => ∃ (m : Addr) (L : List Nat) (t : List (List Nat)) (a : List Nat) (v : V) (d : PyData), vs = [.ref m, v] ∧ IsM K H C m L t a ∧ Parts L t a ∧ Rp N0 H v d ∧ Sml d ∧
  (isWord L d = false → ∀ H', Same H H' → E (.ref C2) none H') ∧ (∀ u, d = .str (S u) → isWord L d = true → ∀ H', Same H H' → Q (.bl (decide (led L t 0 u ∈ a))) H')
section
variable {P : Program} {w : World} {K : PySem.W.Frag} {mg : Str → Option Value} {base : Heap}
theorem c__is_states (d : DF K mg "_is_states" s__is_states) (B : Bi mg) (c_is_between : Cal P w K mg base 2 "is_between" spIsBetween []) : Cal P w K mg base 3 "_is_states" spIsStates [] := by
  refine d.cal (N := n__is_states) sc__is_states (fun _ _ _ _ _ _ us hl => match us, hl with | [_, _], _ => rfl) (fun vs H Q E h => ?_) (fun f cdv A outer s H vs Q E hr h => ?_)
  · obtain ⟨v, l, n, rfl, _⟩ := h
    rfl
  · obtain ⟨v, l, n, rfl, r, hx, hl, k⟩ := h
    refine ⟨_, (pss_one (ps_ret (pe_and (pe_callB (r := zIsi K) zc_isi (by rfl) B.isinstance (by decide +kernel) (pa_cons (pv 0) (pa_cons (pe_bltn (by rfl) B.tuple (by decide +kernel) (rel_ty "tuple")) pa_nil))) (pe_one (pe_callB (r := zAll K) (zc_all rfl) (by rfl) B.all (by decide +kernel) (pa_cons (pe_lc (own := [("state", 2)]) (g := gName 2) (tt := tYes) (by rfl) sc__is_states.nd (pi_tup (pv 0)) (blkOk_by (N := n__is_states) (sc := defScope s__is_states) (by decide +kernel)) (fun _ _ _ _ _ => (pg_name (i := 2) sc__is_states.nd rfl (by first | exact Or.inl rfl | exact Or.inr rfl))) (fun _ _ _ _ _ => pts_nil) (fun _ _ _ _ _ => (pe_c c_is_between hr (by first | decide | omega) rfl (pa_cons (pv 2) (pa_cons pe_int (pa_cons (pe_op z_sub (pv 1) pe_int) pa_nil)))))) pa_nil)))))), ?_⟩
    refine zstart [some (v), some (.int (n : Int)), none] rfl ?_; try dsimp only [zK, zK2]
    walk_at "zz"
    refine i_isi r (by decide) ?_
    rw [show isTy (rowD l) "tuple" = true from rfl]
    walk_at "zz"
    obtain ⟨p, rfl, ep, _⟩ := rowD_rp r
    refine i_KT (SqT.of ep) ?_
    refine fun Dl hD => ?_
    have hvl : (ivs l).length ≤ 1000 := by unfold ivs; rw [List.length_map]; exact hl
    refine l_map (walk_tup (xs := ivs l)) hD [some (.ref p), some (.int (n : Int)), none] rfl (fun _ => rfl) (ivs l) rfl (by omega) (fun i H1 x H2 _ _ y => ⟨y.1, y.2⟩) (fun H1 s1 => SqT.of (s1 _ _ ep)) (fun _ => .bl true) (fun x H1 P hx1 s1 hP => ?_) fun H1 s1 e => ?_
    · obtain ⟨z, hz, rfl⟩ := List.mem_map.mp hx1
      have hzn := hx z hz
      refine zte [some (.ref p), some (.int (n : Int)), some (.int (z : Int))] rfl ?_
      walk_at "zz"
      refine ⟨_, _, 0, (n : Int) - 1, rfl, Rp.int _, fun H2 s2 => ?_⟩
      have eb : btw 0 ((n : Int) - 1) (.int (z : Int)) = true := by
        show (decide ((0 : Int) ≤ (z : Int)) && decide ((z : Int) ≤ (n : Int) - 1)) = true
        rw [decide_eq_true (by omega), decide_eq_true (by omega)]; rfl
      rw [eb]
      exact hP _ s2
    · walk_at "zz"
      refine i_all (bs := (ivs l).map fun _ => true) (SqL.of (by rw [e, List.map_map]; rfl)) ?_
      rw [show ((ivs l).map fun _ => true).all id = true by simp]
      exact k _ s1
theorem c__is_table (d : DF K mg "_is_table" s__is_table) (B : Bi mg) (c__is_states : Cal P w K mg base 3 "_is_states" spIsStates []) : Cal P w K mg base 4 "_is_table" spIsTable [] := by
  refine d.cal (N := n__is_table) sc__is_table (fun _ _ _ _ _ _ us hl => match us, hl with | [_, _], _ => rfl) (fun vs H Q E h => ?_) (fun f cdv A outer s H vs Q E hr h => ?_)
  · obtain ⟨v, t, n, rfl, _⟩ := h
    rfl
  · obtain ⟨v, t, n, rfl, r, h1, h6, hrow, hn, k⟩ := h
    refine ⟨_, (pss_cons (ps_if (PW.pt (pw_or (pt_not (pt_val (pe_callB (r := zIsi K) zc_isi (by rfl) B.isinstance (by decide +kernel) (pa_cons (pv 0) (pa_cons (pe_bltn (by rfl) B.tuple (by decide +kernel) (rel_ty "tuple")) pa_nil))))) (pw_or1 (pt_not (pt_chain z_le z_le pe_int (pe_callB (r := zLen K) zc_len (by rfl) B.len (by decide +kernel) (pa_cons (pv 0) pa_nil)) pe_int))))) (pss_one ps_never) pss_nil)
  (pss_one (ps_ret (pe_callB (r := zAll K) (zc_all rfl) (by rfl) B.all (by decide +kernel) (pa_cons (pe_lc (own := [("row", 2)]) (g := gName 2) (tt := tYes) (by rfl) sc__is_table.nd (pi_tup (pv 0)) (blkOk_by (N := n__is_table) (sc := defScope s__is_table) (by decide +kernel)) (fun _ _ _ _ _ => (pg_name (i := 2) sc__is_table.nd rfl (by first | exact Or.inl rfl | exact Or.inr rfl))) (fun _ _ _ _ _ => pts_nil) (fun _ _ _ _ _ => (pe_and (pe_c c__is_states hr (by first | decide | omega) rfl (pa_cons (pv 2) (pa_cons (pe_callB (r := zLen K) zc_len (by rfl) B.len (by decide +kernel) (pa_cons (pv 0) pa_nil)) pa_nil))) (pe_one (pe_cmpR op_eq (pe_callB (r := zLen K) zc_len (by rfl) B.len (by decide +kernel) (pa_cons (pv 2) pa_nil)) (pv 1) (nomark _)))))) pa_nil))))), ?_⟩
    refine zstart [some (v), some (.int (n : Int)), none] rfl ?_; try dsimp only [zK, zK2]
    walk_at "zz"
    refine i_isi r (by decide) ?_
    rw [show isTy (tabD t) "tuple" = true from rfl]
    walk_at "zz"
    obtain ⟨p, xs, rfl, ep, _, ra⟩ := Rp.tupS r
    have hxl : xs.length = t.length := by rw [ra.length, List.length_map]
    refine i_lenT (SqT.of ep) ?_
    walk_at "zz"
    refine brd (fun _ => ?_) fun q => absurd (show (1 : Int) ≤ (xs.length : Int) by omega) q
    walk_at "zz"
    refine brn (fun q => absurd (show (xs.length : Int) ≤ 6 by omega) q) fun _ => ?_
    walk_at "zz"
    refine i_KT (SqT.of ep) ?_
    refine fun Dl hD => ?_
    refine l_map (walk_tup (xs := xs)) hD [some (.ref p), some (.int (n : Int)), none] rfl (fun _ => rfl) xs rfl (by omega) (fun i H1 x H2 _ _ y => ⟨y.1, y.2⟩) (fun H1 s1 => SqT.of (s1 _ _ ep)) (fun _ => .bl true) (fun x H1 P hx1 s1 hP => ?_) fun H1 s1 e => ?_
    · obtain ⟨i, hi, rfl⟩ := List.getElem_of_mem hx1
      obtain ⟨d1, hd1, q1⟩ := (ra.mono (Kp.of_same s1)).get' (List.getElem?_eq_getElem hi)
      rw [List.getElem?_map] at hd1
      obtain ⟨row, hr1, rfl⟩ := Option.map_eq_some_iff.mp hd1
      obtain ⟨hl1, hl2⟩ := hrow row (List.mem_of_getElem? hr1)
      generalize xs[i] = x at q1 ⊢
      refine zte [some (.ref p), some (.int (n : Int)), some x] rfl ?_
      have ep1 := s1 _ _ ep
      walk_at "zz"
      refine i_lenT (SqT.of ep1) ?_
      rw [hxl]
      refine ⟨x, row, t.length, rfl, q1, hl2, by omega, fun H2 s2 => ?_⟩
      walk_at "zz"
      obtain ⟨pr, rfl, epr, _⟩ := rowD_rp q1
      refine i_lenT (SqT.of (s2 _ _ epr)) ?_
      walk_at "zz"
      have e1 : decide (((ivs row).length : Int) = (n : Int)) = true := decide_eq_true (by unfold ivs; rw [List.length_map, hl1])
      rw [e1]
      exact hP _ s2
    · walk_at "zz"
      refine i_all (bs := xs.map fun _ => true) (SqL.of (by rw [e, List.map_map]; rfl)) ?_
      rw [show (xs.map fun _ => true).all id = true by simp]
      exact k _ s1
theorem c__is_accepts (d : DF K mg "_is_accepts" s__is_accepts) (B : Bi mg) (c__is_states : Cal P w K mg base 3 "_is_states" spIsStates []) (c_is_ascending : Cal P w K mg base 1 "is_ascending" spIsAscending []) : Cal P w K mg base 4 "_is_accepts" spIsAccepts [] := by
  refine d.cal (N := n__is_accepts) sc__is_accepts (fun _ _ _ _ _ _ us hl => match us, hl with | [_, _], _ => rfl) (fun vs H Q E h => ?_) (fun f cdv A outer s H vs Q E hr h => ?_)
  · obtain ⟨v, l, n, rfl, _⟩ := h
    rfl
  · obtain ⟨v, l, n, rfl, r, hx, hasc, hl, k⟩ := h
    refine ⟨_, (pss_one (ps_ret (pe_and (pe_c c__is_states hr (by first | decide | omega) rfl (pa_cons (pv 0) (pa_cons (pv 1) pa_nil))) (pe_one (pe_c c_is_ascending hr (by first | decide | omega) rfl (pa_cons (pv 0) pa_nil)))))), ?_⟩
    refine zstart [some (v), some (.int (n : Int))] rfl ?_; try dsimp only [zK, zK2]
    walk_at "zz"
    refine ⟨v, l, n, rfl, r, hx, hl, fun H1 s1 => ?_⟩
    walk_at "zz"
    obtain ⟨p, rfl, ep, _⟩ := rowD_rp r
    have ei : ivs l = (l.map fun x : Nat => (x : Int)).map V.int := by unfold ivs; rw [List.map_map]; rfl
    have ha : (l.map fun x : Nat => (x : Int)).Pairwise (· < ·) := List.pairwise_map.mpr (hasc.imp fun h => by omega)
    refine ⟨_, rfl, .inr ⟨p, _, rfl, by rw [s1 _ _ ep, ei], by rw [List.length_map]; omega, fun H2 s2 => ?_⟩⟩
    rw [decide_eq_true ha]
    exact k _ (s1.trans s2)
theorem m_Machine {C : Addr} (T : MTxt K C) (hm : mg "Machine" = some (.ref C)) (h1 : PySem.W.makesIn K C = true) (h2 : PySem.W.keepIn K (.ref C) = true) (d : MF K C "__init__" "Machine.__init__" s_Machine___init__) (B : Bi mg) (c_is_letters : Cal P w K mg base 2 "is_letters" spIsLetters [])
    (c__is_table : Cal P w K mg base 4 "_is_table" spIsTable []) (c__is_accepts : Cal P w K mg base 4 "_is_accepts" spIsAccepts []) : Mak P w K mg base 5 "Machine" C (spInit C) [] := by
  refine mak d hm h1 h2 (N := n_Machine___init__) sc_Machine___init__ (fun _ _ _ _ _ _ us hl => match us, hl with | [_, _, _, _], _ => rfl) (fun vs H Q E h => ?_) (fun f cdv A outer s H vs Q E hr h => ?_)
  · obtain ⟨m, dx, vt, va, L, t, a, rfl, _⟩ := h
    rfl
  · obtain ⟨m, dx, vt, va, L, t, a, rfl, em, pt, rt, ra, k⟩ := h
    refine ⟨_, (pss_cons (ps_if (pt_not (pt_val (pe_c c_is_letters hr (by first | decide | omega) rfl (pa_cons (pv 1) pa_nil)))) (pss_one ps_never) pss_nil)
  (pss_cons (ps_if (pt_not (pt_val (pe_c c__is_table hr (by first | decide | omega) rfl (pa_cons (pv 2) (pa_cons (pe_callB zc_lens (by rfl) B.len (by decide +kernel) (pa_cons (pv 1) pa_nil)) pa_nil))))) (pss_one ps_never) pss_nil)
  (pss_cons (ps_if (pt_not (pt_val (pe_c c__is_accepts hr (by first | decide | omega) rfl (pa_cons (pv 3) (pa_cons (pe_callB (r := zLen K) zc_len (by rfl) B.len (by decide +kernel) (pa_cons (pv 2) pa_nil)) pa_nil))))) (pss_one ps_never) pss_nil)
  (pss_cons (ps_fld (pv 0) (pv 1) rfl)
  (pss_cons (ps_fld (pv 0) (pv 2) rfl)
  (pss_one (ps_fld (pv 0) (pv 3) rfl))))))), ?_⟩
    refine zstart [some (.ref m), some (.str (S L)), some (vt), some (va)] rfl ?_; try dsimp only [zK, zK2]
    obtain ⟨hLp, hLr, hL1, hL4⟩ := pt.ltr
    walk_at "zz"
    refine ⟨_, _, rfl, Rp.str _, show L.length ≤ 90000 by omega, fun H1 s1 => ?_⟩
    have eL : isLetters (.str (S L)) = true := by
      show ((decide (1 ≤ L.length) && decide (L.length ≤ 4)) && (L.all (fun c => decide (97 ≤ c) && decide (c ≤ 122)) && decide (L.Pairwise (· < ·)))) = true
      rw [decide_eq_true hL1, decide_eq_true hL4, decide_eq_true hLp, Bool.and_true, Bool.true_and, Bool.and_true, List.all_eq_true]
      intro c hc
      rw [decide_eq_true (hLr c hc).1, decide_eq_true (hLr c hc).2]; rfl
    rw [eL]
    walk_at "zz"
    refine ⟨vt, t, L.length, rfl, rt.same s1, pt.lo, pt.hi, pt.row, hL4, fun H2 s2 => ?_⟩
    have s12 := s1.trans s2
    obtain ⟨pt0, xs, rfl, ept, _, rat⟩ := Rp.tupS (rt.same s12)
    have hxl : xs.length = t.length := by rw [rat.length, List.length_map]
    walk_at "zz"
    refine i_lenT (SqT.of ept) ?_
    rw [hxl]
    have ha6 : a.length ≤ 6 := Nat.le_trans (asc_len (L := List.range t.length) pt.acc fun x hx => List.mem_range.mpr (pt.acs x hx)) (by rw [List.length_range]; exact pt.hi)
    refine ⟨va, a, t.length, rfl, ra.same s12, pt.acs, pt.acc, by omega, fun H3 s3 => ?_⟩
    have s13 := s12.trans s3
    walk_at "zz"
    refine i_sfld ?_
    walk_at "zz"
    refine ⟨m, C, dx, _, rfl, s13 _ _ em, T.c, T.nl, by decide, ?_⟩
    refine i_nx ?_
    refine i_seq ?_
    refine i_sfld ?_
    walk_at "zz"
    refine ⟨m, C, dx, [(("_letters" : Str), V.str (S L))], rfl, upd_same, T.c, T.nt, by show 1 < 1000; decide, ?_⟩
    rw [put2, upd_upd]
    refine i_nx ?_
    refine i_sfld ?_
    walk_at "zz"
    refine ⟨m, C, dx, [(("_letters" : Str), V.str (S L)), (("_table" : Str), V.ref pt0)], rfl, upd_same, T.c, T.na, by show 2 < 1000; decide, ?_⟩
    rw [put3, upd_upd]
    walk_at "zz"
    exact k H3 _ s13 rfl
theorem c_Machine_letters {C : Addr} (T : MTxt K C) (d : MF K C "letters" "Machine.letters" s_Machine_letters) : Met P w K mg base 1 C "letters" (spLettersOf K C) [] := by
  refine met d T.c (N := n_Machine_letters) sc_Machine_letters (fun _ _ _ _ _ _ us hl => match us, hl with | [_], _ => rfl) (fun vs H Q E h => ?_) (fun f cdv A outer s H vs Q E hr h => ?_)
  · obtain ⟨m, L, t, a, rfl, _⟩ := h
    rfl
  · obtain ⟨m, L, t, a, rfl, hm, k⟩ := h
    obtain ⟨dx, vt, va, e, r1, r2⟩ := hm.ex
    refine ⟨_, (pss_one (ps_ret (pe_fldZ (K := K) rfl (pv 0) rfl))), ?_⟩
    refine zstart [some (.ref m)] rfl ?_; try dsimp only [zK, zK2]
    walk_at "zz"
    refine i_fld ?_
    walk_at "zz"
    exact ⟨m, C, dx, _, _, rfl, e, T.c, T.nl, rfl, k⟩
theorem c_Machine_table {C : Addr} (T : MTxt K C) (d : MF K C "table" "Machine.table" s_Machine_table) : Met P w K mg base 1 C "table" (spTableOf K C) [] := by
  refine met d T.c (N := n_Machine_table) sc_Machine_table (fun _ _ _ _ _ _ us hl => match us, hl with | [_], _ => rfl) (fun vs H Q E h => ?_) (fun f cdv A outer s H vs Q E hr h => ?_)
  · obtain ⟨m, L, t, a, rfl, _⟩ := h
    rfl
  · obtain ⟨m, L, t, a, rfl, hm, k⟩ := h
    obtain ⟨dx, vt, va, e, r1, r2⟩ := hm.ex
    refine ⟨_, (pss_one (ps_ret (pe_fldZ (K := K) rfl (pv 0) rfl))), ?_⟩
    refine zstart [some (.ref m)] rfl ?_; try dsimp only [zK, zK2]
    walk_at "zz"
    refine i_fld ?_
    walk_at "zz"
    exact ⟨m, C, dx, _, _, rfl, e, T.c, T.nt, rfl, k _ r1⟩
theorem c_Machine_accepts {C : Addr} (T : MTxt K C) (d : MF K C "accepts" "Machine.accepts" s_Machine_accepts) : Met P w K mg base 1 C "accepts" (spAcceptsOf K C) [] := by
  refine met d T.c (N := n_Machine_accepts) sc_Machine_accepts (fun _ _ _ _ _ _ us hl => match us, hl with | [_], _ => rfl) (fun vs H Q E h => ?_) (fun f cdv A outer s H vs Q E hr h => ?_)
  · obtain ⟨m, L, t, a, rfl, _⟩ := h
    rfl
  · obtain ⟨m, L, t, a, rfl, hm, k⟩ := h
    obtain ⟨dx, vt, va, e, r1, r2⟩ := hm.ex
    refine ⟨_, (pss_one (ps_ret (pe_fldZ (K := K) rfl (pv 0) rfl))), ?_⟩
    refine zstart [some (.ref m)] rfl ?_; try dsimp only [zK, zK2]
    walk_at "zz"
    refine i_fld ?_
    walk_at "zz"
    exact ⟨m, C, dx, _, _, rfl, e, T.c, T.na, rfl, k _ r2⟩
theorem idx_from {c : Nat} : ∀ {L : List Nat} (i : Nat), c ∈ L → (idx c L i).head? = some (i + L.idxOf c)
  | x :: L, i, h => by
    unfold idx
    by_cases e : x = c
    · subst e
      simp
    · rw [if_neg e]
      have h2 : c ∈ L := (List.mem_cons.mp h).resolve_left fun q => e q.symm
      rw [idx_from (i + 1) h2, List.idxOf_cons, show (x == c) = false by simpa using e]
      show some (i + 1 + L.idxOf c) = some (i + (L.idxOf c + 1))
      congr 1
      omega
theorem idx_of {L : List Nat} {c : Nat} (h : c ∈ L) : (idx c L 0).head? = some (L.idxOf c) := by
  rw [idx_from 0 h, Nat.zero_add]
theorem led_lt {L : List Nat} {t : List (List Nat)} (hrow : ∀ r ∈ t, r.length = L.length ∧ ∀ x ∈ r, x < t.length) : ∀ (u : List Nat) (s : Nat), s < t.length → (∀ c ∈ u, c ∈ L) → led L t s u < t.length
  | [], s, hs, _ => hs
  | c :: u, s, hs, hu => by
    show led L t ((t.getD s []).getD (L.idxOf c) 0) u < t.length
    refine led_lt hrow u _ ?_ fun d hd => hu d (List.mem_cons_of_mem _ hd)
    have e1 : t.getD s [] = t[s] := by rw [List.getD_eq_getElem?_getD, List.getElem?_eq_getElem hs]; rfl
    obtain ⟨h1, h2⟩ := hrow _ (List.getElem_mem hs)
    have hi : L.idxOf c < t[s].length := by rw [h1]; exact List.idxOf_lt_length_of_mem (hu c List.mem_cons_self)
    rw [e1, List.getD_eq_getElem?_getD, List.getElem?_eq_getElem hi]
    exact h2 _ (List.getElem_mem hi)
theorem c_end_of (d : DF K mg "end_of" s_end_of) (B : Bi mg) : Cal P w K mg base 1 "end_of" spEndOf [] := by
  refine d.cal (N := n_end_of) sc_end_of (fun _ _ _ _ _ _ us hl => match us, hl with | [_, _, _, _], _ => rfl) (fun vs H Q E h => ?_) (fun f cdv A outer s H vs Q E hr h => ?_)
  · obtain ⟨L, vt, t, s, u, rfl, _⟩ := h
    rfl
  · obtain ⟨L, vt, t, s, u, rfl, rt, hL, hrow, hs, hu, k⟩ := h
    refine ⟨_, (pss_cons (ps_for PassesOwn.never rfl (pi_str (pv 3)) (pg_name (i := 4) sc_end_of.nd rfl (by first | exact Or.inl rfl | exact Or.inr rfl)) (pss_one (ps_set (i := 2) sc_end_of.nd rfl (by first | exact Or.inl rfl | exact Or.inr rfl) (pe_ix (r := rIxT K) ix_tup (pe_ix (r := rIxT K) ix_tup (pv 1) (pv 2) (fun _ _ => rfl)) (pe_bmZ (K := K) rfl PySem.F.plainAttrs_str PySem.F.slot_str_index PySem.F.type_str_index zm_index (pv 0) (pa_cons (pv 4) pa_nil)) (fun _ _ => rfl)))))
  (pss_one (ps_ret (pv 2)))), ?_⟩
    refine zstart [some (.str (S L)), some (vt), some (.int (s : Int)), some (.str (S u)), none] rfl ?_; try dsimp only [zK, zK2]
    obtain ⟨p, xs, rfl, ep, _, ra⟩ := Rp.tupS rt
    walk_at "zz"
    refine l_str (fun i σ H1 => Same H H1 ∧ ∃ v4 : Option V, σ = [some (.str (S L)), some (.ref p), some (.int (led L t s (u.take i) : Int)), some (.str (S u)), v4]) ⟨Same.refl _, none, rfl⟩ ?_ ?_
    · rintro i c σ H1 hc ⟨sm, v4, rfl⟩
      have hcL := hu c (List.mem_of_getElem? hc)
      have hlt := led_lt hrow (u.take i) s hs fun d hd => hu d (List.mem_of_mem_take hd)
      have e2 : led L t s (u.take (i + 1)) = (t.getD (led L t s (u.take i)) []).getD (L.idxOf c) 0 := by
        unfold led
        rw [List.take_add_one, hc]
        show List.foldl _ _ (u.take i ++ [c]) = _
        rw [List.foldl_append]; rfl
      generalize led L t s (u.take i) = q at hlt e2 ⊢
      have e1 : t.getD q [] = t[q] := by rw [List.getD_eq_getElem?_getD, List.getElem?_eq_getElem hlt]; rfl
      obtain ⟨h1, h2⟩ := hrow _ (List.getElem_mem hlt)
      have hi : L.idxOf c < t[q].length := by rw [h1]; exact List.idxOf_lt_length_of_mem hcL
      obtain ⟨x, hx, rx⟩ := (ra.mono (Kp.of_same sm)).get (i := q) (d := rowD t[q]) (by rw [List.getElem?_map, List.getElem?_eq_getElem hlt]; rfl)
      obtain ⟨pr, rfl, epr, _⟩ := rowD_rp rx
      walk_at "zz"
      refine i_ixT (SqT.of (sm _ _ ep)) (atI_nat hx) ?_
      walk_at "zz"
      refine i_index (n := L.idxOf c) (idx_of hcL) ?_
      refine i_ixT (SqT.of epr) (atI_nat (v := .int ((t[q].getD (L.idxOf c) 0 : Nat) : Int)) (by
        unfold ivs
        rw [List.getElem?_map, List.getD_eq_getElem?_getD, List.getElem?_eq_getElem hi]; rfl)) ?_
      walk_at "zz"
      exact ⟨sm, _, by rw [e2, e1]⟩
    · rintro σ H1 ⟨sm, v4, rfl⟩
      rw [List.take_length]
      walk_at "zz"
      exact k _ sm
theorem inI {x : Nat} {l : List Nat} : inV (.int (x : Int)) (ivs l) = decide (x ∈ l) := by
  unfold inV ivs
  rw [List.any_map, Bool.eq_iff_iff, List.any_eq_true, decide_eq_true_iff]
  constructor
  · rintro ⟨c, hc, q⟩
    have q : ((c : Int) == (x : Int)) = true := q
    have q : (c : Int) = (x : Int) := by simpa using q
    have q : c = x := by omega
    exact q ▸ hc
  · intro h
    exact ⟨x, h, by show ((x : Int) == (x : Int)) = true; simp⟩
theorem c_says {C C2 : Addr} (d : DF K mg "says" s_says) (B : Bi mg) (T_NoWord : OwnX K mg "NoWord" C2) (c_Machine_letters : Met P w K mg base 1 C "letters" (spLettersOf K C) []) (c_Machine_table : Met P w K mg base 1 C "table" (spTableOf K C) []) (c_Machine_accepts : Met P w K mg base 1 C "accepts" (spAcceptsOf K C) [])
    (c_is_word : Cal P w K mg base 1 "is_word" spIsWord []) (c_end_of : Cal P w K mg base 1 "end_of" spEndOf []) : CalX P w K mg base 2 "says" (spSays K C C2) := by
  refine calX d (N := n_says) sc_says (fun _ _ _ _ _ _ us hl => match us, hl with | [_, _], _ => rfl) (fun vs H Q E h => ?_) (fun f cdv A outer s H vs Q E hr h => ?_)
  · obtain ⟨m, L, t, a, v, d, rfl, _⟩ := h
    rfl
  · obtain ⟨m, L, t, a, v, d, rfl, hm, pt, r, sm, k1, k2⟩ := h
    refine ⟨_, (pss_cons (ps_set (i := 2) sc_says.nd rfl (by first | exact Or.inl rfl | exact Or.inr rfl) (pe_mt0 c_Machine_letters hr (by first | decide | omega) (pv 0)))
  (pss_cons (ps_if (pt_not (pt_val (pe_c c_is_word hr (by first | decide | omega) rfl (pa_cons (pv 2) (pa_cons (pv 1) pa_nil))))) (pss_one (ps_raise0 rfl T_NoWord (takes_of rfl rfl rfl rfl) rfl)) pss_nil)
  (PSs.nox (pss_one (ps_ret (pe_cmpR (r := rIn K false) op_in_seq (pe_c c_end_of hr (by first | decide | omega) rfl (pa_cons (pv 2) (pa_cons (pe_mt0 c_Machine_table hr (by first | decide | omega) (pv 0)) (pa_cons pe_int (pa_cons (pv 1) pa_nil))))) (pe_mt0 c_Machine_accepts hr (by first | decide | omega) (pv 0)) (by rfl))))))), ?_⟩
    refine zstart [some (.ref m), some (v), none] rfl ?_; try dsimp only [zK, zK2]
    have hL4 := pt.ltr.2.2.2
    obtain ⟨dx, vt, va, em, rt, ra⟩ := hm.ex
    walk_at "zz"
    refine i_meth ?_
    walk_at "zz"
    refine ⟨m, dx, _, rfl, em, rfl, m, L, t, a, rfl, hm, ?_⟩
    walk_at "zz"
    refine ⟨L, v, d, rfl, r, sm, fun H1 s1 => ?_⟩
    walk_at "zz"
    refine brnb (fun hb => ?_) fun hb => ?_
    · walk_at "zz"
      exact k1 hb _ s1
    obtain ⟨u, rfl, rfl⟩ := r.isStr (isWord_str hb)
    walk_at "zz"
    refine i_meth ?_
    walk_at "zz"
    have hm1 := hm.same s1
    refine ⟨m, dx, _, rfl, s1 _ _ em, rfl, m, L, t, a, rfl, hm1, fun vt2 rt2 => ?_⟩
    walk_at "zz"
    refine ⟨L, vt2, t, 0, u, rfl, rt2, by omega, pt.row, pt.lo, fun c hc => of_decide_eq_true (List.all_eq_true.mp hb c hc), fun H2 s2 => ?_⟩
    walk_at "zz"
    refine i_meth ?_
    walk_at "zz"
    refine ⟨m, dx, _, rfl, s2 _ _ (s1 _ _ em), rfl, m, L, t, a, rfl, hm1.same s2, fun va2 ra2 => ?_⟩
    obtain ⟨pa, rfl, epa, _⟩ := rowD_rp ra2
    refine ⟨pa, _, rfl, .inr (SqT.of epa), rfl, by unfold ivs; rw [List.all_map]; exact List.all_eq_true.mpr fun _ _ => rfl, ?_⟩
    rw [inI, if_neg (by decide)]
    exact k2 u rfl hb _ (s1.trans s2)
end
end Y

namespace Y
open PySem PySem.Spec PyProof.Rows L2 Z
open C8 (tCut pss_cut Cal pe_c Met pe_mt pe_mt0 Mak pe_mk)
abbrev s__law_letters : Stmt := topS 25
abbrev n__law_letters : List Str := ["_law_hand_here", "_law_signs_here", "_law_many", "_law_rest", "_law_found", "_law_turn", "_law_at"]
theorem sc__law_letters : FnScope n__law_letters ["_law_hand_here", "_law_signs_here", "_law_many"] (defScope s__law_letters) := ⟨rfl, rfl, rfl, by decide +kernel, rfl, by decide +kernel, by decide +kernel⟩

abbrev s__law_shuffled : Stmt := topS 27
abbrev n__law_shuffled : List Str := ["_law_hand_here", "_law_things", "_law_rest", "_law_found", "_law_turn"]
theorem sc__law_shuffled : FnScope n__law_shuffled ["_law_hand_here", "_law_things"] (defScope s__law_shuffled) := ⟨rfl, rfl, rfl, by decide +kernel, rfl, by decide +kernel, by decide +kernel⟩

abbrev s__law_rows : Stmt := topS 26
abbrev n__law_rows : List Str := ["_law_hand_here", "_law_kind", "_law_size", "_law_many", "_law_rows_here", "_law_steps", "_law_letter", "_law_turns", "_law_state", "_law_row", "_law_to"]
theorem sc__law_rows : FnScope n__law_rows ["_law_hand_here", "_law_kind", "_law_size", "_law_many"] (defScope s__law_rows) := ⟨rfl, rfl, rfl, by decide +kernel, rfl, by decide +kernel, by decide +kernel⟩

abbrev s__law_parts : Stmt := topS 28
abbrev n__law_parts : List Str := ["_law_hand_here", "_law_most", "_law_states", "_law_kind", "_law_many", "_law_size", "_law_letters_here", "_law_table", "_law_accepts", "_law_state"]
theorem sc__law_parts : FnScope n__law_parts ["_law_hand_here", "_law_most", "_law_states"] (defScope s__law_parts) := ⟨rfl, rfl, rfl, by decide +kernel, rfl, by decide +kernel, by decide +kernel⟩

def spLetters : Sp := fun vs H Q _ => ∃ (h : Addr) (l : List Nat) (m : Nat), vs = [.ref h, .str (S l), .int (m : Int)] ∧ HandOk H h ∧ m ≤ l.length ∧ l.length ≤ 1000 ∧
  ∀ (found rest : List Nat) H', found.length = m → (found ++ rest).Perm l → Gd h H H' → Q (.str (S found)) H'
def spShuffled : Sp := fun vs H Q _ => ∃ (h a : Addr) (xs : List Nat), vs = [.ref h, .ref a] ∧ HandOk H h ∧ H a = some (.lst (ivs xs)) ∧ ¬ a = h ∧ xs.length ≤ 100 ∧
  ∀ (t : Addr) (ys : List Nat) H', H t = none → H' t = some (.lst (ivs ys)) → ys.length = xs.length → (∀ y ∈ ys, y ∈ xs) → Gd h H H' → Q (.ref t) H'
def spRows : Sp := fun vs H Q _ => ∃ (h : Addr) (kind size many : Nat), vs = [.ref h, .int (kind : Int), .int (size : Int), .int (many : Int)] ∧ HandOk H h ∧ 1 ≤ size ∧ size ≤ 6 ∧ 1 ≤ many ∧ many ≤ 4 ∧
  ∀ (v : V) (tab : List (List Nat)) H', tab.length = size → (∀ r ∈ tab, r.length = many ∧ ∀ x ∈ r, x < size) → Rp (· = h) H' v (tabD tab) → Gd h H H' → Q v H'
def spParts : Sp := fun vs H Q _ => ∃ (h : Addr), vs = [.ref h, .int 4, .int 6] ∧ HandOk H h ∧
  ∀ (p : Addr) (vt va : V) (L : List Nat) (tab : List (List Nat)) (acc : List Nat) H', Parts L tab acc → H' p = some (.tup [.str (S L), vt, va]) → ¬ p = h → Rp (· = h) H' vt (tabD tab) → Rp (· = h) H' va (rowD acc) → Gd h H H' → Q (.ref p) H'
theorem i_pop {H : Hp} {Q : VK} {l : Addr} {xs : List V} {k : Nat} {y : V} (h : H l = some (.lst xs)) (hk : xs[k]? = some y) (hl : xs.length ≤ 100000) (q : Q y (upd H l (.lst (xs.eraseIdx k)))) : zPopAt (.ref l) [.int (k : Int)] H Q := by
  have h1 := (List.getElem?_eq_some_iff.mp hk).1
  exact ⟨l, xs, k, k, y, rfl, rfl, h, by omega, by omega, by rw [seqIndex_of (by omega) (by omega)]; rfl, hk, q⟩
theorem ivs_get {l : List Nat} {k : Nat} (h : k < l.length) : (ivs l)[k]? = some (.int ((l.getD k 0 : Nat) : Int)) := by
  unfold ivs
  rw [List.getElem?_map, List.getD_eq_getElem?_getD, List.getElem?_eq_getElem h]; rfl
theorem getD_in {l : List Nat} {k : Nat} (h : k < l.length) : l.getD k 0 ∈ l := by
  rw [List.getD_eq_getElem?_getD, List.getElem?_eq_getElem h]
  exact List.getElem_mem h
theorem ivs_erase : ∀ (l : List Nat) (k : Nat), (ivs l).eraseIdx k = ivs (l.eraseIdx k)
  | [], _ => by cases ‹Nat› <;> rfl
  | x :: l, 0 => rfl
  | x :: l, k + 1 => congrArg _ (ivs_erase l k)
theorem ivs_snoc (l : List Nat) (x : Nat) : ivs l ++ [V.int (x : Int)] = ivs (l ++ [x]) := by
  unfold ivs
  rw [List.map_append]; rfl
theorem ivs_len (l : List Nat) : (ivs l).length = l.length := by unfold ivs; rw [List.length_map]
theorem emod_nat (z : Int) {n : Nat} (h : 0 < n) : ∃ x : Nat, x < n ∧ z % (n : Int) = (x : Int) := by
  have h0 := Int.emod_nonneg z (b := (n : Int)) (by omega)
  have h1 := Int.emod_lt_of_pos z (b := (n : Int)) (by omega)
  exact ⟨(z % (n : Int)).toNat, by omega, by omega⟩
theorem rgV_0 (n : Nat) : rgV 0 (n : Int) = ivs (List.range n) := by
  unfold rgV ivs
  rw [show ((n : Int) - 0).toNat = n by omega]
  refine List.map_congr_left fun i _ => ?_
  rw [Int.zero_add]
theorem i_listRg {te : L2.St → Hp → (Int → Int → Hp → Prop) → Prop} {σ : L2.St} {H : Hp} {Q : VK} (q : te σ H fun a b H1 => RgOk a b ∧ ∀ q, H1 q = none → Q (.ref q) (upd H1 q (.lst (rgV a b)))) : tLstRg te σ H Q := q
theorem i_rg1 {ta : TE} {σ : L2.St} {H : Hp} {Q : Int → Int → Hp → Prop} (q : ta σ H fun x H1 => ∃ n, x = .int n ∧ Q 0 n H1) : tRg1 ta σ H Q := q
theorem mutz' {N : Addr → Prop} {H H' : Hp} {p : Addr} {o : HO} (k : Kp N H H') (hp : H p = none) : Kp N H (upd H' p o) := fun b u e n => by
  rw [upd_ne (ne_of_none e hp)]; exact k b u e n
/-- the tuples stand as they are -/
def TK (H H' : Hp) : Prop := ∀ b xs, H b = some (.tup xs) → H' b = some (.tup xs)
theorem TK.refl {H : Hp} : TK H H := fun _ _ e => e
theorem TK.trans {H H1 H2 : Hp} (a : TK H H1) (b : TK H1 H2) : TK H H2 := fun c xs e => b c xs (a c xs e)
theorem TK.gd {h : Addr} {H H1 H2 : Hp} (a : TK H H1) (g : Gd h H1 H2) : TK H H2 := fun c xs e => by
  obtain ⟨_, _, _, _, _, _, e1, _⟩ := g.ok0.ex
  have e2 := a c xs e
  exact g.kp c _ e2 fun z => by subst z; rw [e1] at e2; cases e2
theorem TK.newz {H H1 : Hp} {p : Addr} {o : HO} (a : TK H H1) (hp : H1 p = none) : TK H (upd H1 p o) := fun c xs e => nw hp (a c xs e)
theorem TK.mutl {H H1 : Hp} {p : Addr} {o : HO} {ys : List V} (a : TK H H1) (hp : H1 p = some (.lst ys)) : TK H (upd H1 p o) := fun c xs e => by
  have e2 := a c xs e
  rw [upd_ne (fun z => by subst z; rw [hp] at e2; cases e2)]; exact e2
theorem tk_rows {N : Addr → Prop} {H H' : Hp} (a : TK H H') : ∀ {tab : List (List Nat)} {vs : List V}, RpAll N H vs (tab.map rowD) → RpAll N H' vs (tab.map rowD)
  | [], _, r => by rw [RpAll.nilS r]; exact .nil
  | row :: tab, _, r => by
    obtain ⟨v, ws, rfl, r1, r2⟩ := RpAll.consS r
    obtain ⟨p, rfl, e, n⟩ := rowD_rp r1
    exact .cons (.tup (a _ _ e) n (ids_of _)) (tk_rows a r2)
theorem kp_gd {N : Addr → Prop} {h : Addr} {H H1 H2 : Hp} (k : Kp N H H1) (g : Gd h H1 H2) (hN : N h) : Kp N H H2 := fun b o e n => g.kp _ _ (k b o e n) fun z => n (z ▸ hN)
section
variable {P : Program} {w : World} {K : PySem.W.Frag} {mg : Str → Option Value} {base : Heap}
theorem c__law_letters (d : DF K mg "_law_letters" s__law_letters) (B : Bi mg) (c__law_draw : Cal P w K mg base 1 "_law_draw" spDraw []) : Cal P w K mg base 2 "_law_letters" spLetters [] := by
  refine d.cal (N := n__law_letters) sc__law_letters (fun _ _ _ _ _ _ us hl => match us, hl with | [_, _, _], _ => rfl) (fun vs H Q E h => ?_) (fun f cdv A outer s H vs Q E hr h => ?_)
  · obtain ⟨h, l, m, rfl, _⟩ := h
    rfl
  · obtain ⟨h, l, m, rfl, hh, hm, hl, k⟩ := h
    refine ⟨_, (pss_cons (ps_set (i := 3) sc__law_letters.nd rfl (by first | exact Or.inl rfl | exact Or.inr rfl) (pv 1))
  (pss_cons (ps_set (i := 4) sc__law_letters.nd rfl (by first | exact Or.inl rfl | exact Or.inr rfl) pe_str)
  (pss_cons (ps_for PassesOwn.never rfl (pi_range1 rfl B.range (pa_cons (pv 2) pa_nil)) (pg_name (i := 5) sc__law_letters.nd rfl (by first | exact Or.inl rfl | exact Or.inr rfl)) (pss_cons (ps_set (i := 6) sc__law_letters.nd rfl (by first | exact Or.inl rfl | exact Or.inr rfl) (pe_c c__law_draw hr (by first | decide | omega) rfl (pa_cons (pv 0) (pa_cons (pe_callB zc_lens (by rfl) B.len (by decide +kernel) (pa_cons (pv 3) pa_nil)) pa_nil))))
  (pss_cons (ps_set (i := 4) sc__law_letters.nd rfl (by first | exact Or.inl rfl | exact Or.inr rfl) (pe_op z_adds (pv 4) (pe_ix ix_str (pv 3) (pv 6) (fun _ _ => rfl))))
  (pss_one (ps_set (i := 3) sc__law_letters.nd rfl (by first | exact Or.inl rfl | exact Or.inr rfl) (pe_op z_adds (pe_slice sl_str (pv 3) po_none (po_some (pv 6))) (pe_slice sl_str (pv 3) (po_some (pe_op z_add (pv 6) pe_int)) po_none)))))))
  (pss_one (ps_ret (pv 4)))))), ?_⟩
    refine zstart [some (.ref h), some (.str (S l)), some (.int m), none, none, none, none] rfl ?_; try dsimp only [zK, zK2]
    walk_at "zz"
    refine i_KR1 (by omega) ?_
    refine l_range (fun i σ H1 => ∃ (found rest : List Nat) (v5 v6 : Option V), σ = [some (.ref h), some (.str (S l)), some (.int m), some (.str (S rest)), some (.str (S found)), v5, v6] ∧ found.length = i ∧ (found ++ rest).Perm l ∧ Gd h H H1) ?_ ?_ ?_
    · exact ⟨[], l, none, none, rfl, rfl, by simp, Gd.refl hh⟩
    · rintro i σ H1 hi ⟨found, rest, v5, v6, rfl, hf, hp, g⟩
      have hlen := hp.length_eq
      rw [List.length_append] at hlen
      have hi' : i < m := by omega
      walk_at "zz"
      refine use_draw g.ok (by omega) (by omega) fun r H2 hr2 g2 => ?_
      walk_at "zz"
      have hrl : r < rest.length := by omega
      refine i_ixS (by omega) (atI_nat (List.getElem?_eq_getElem hrl)) ?_
      walk_at "zz"
      refine i_slTo (by omega) ?_
      walk_at "zz"
      refine i_slFrom (by omega) ?_
      walk_at "zz"
      refine i_adds (by rw [List.length_take, List.length_drop]; omega) ?_
      walk_at "zz"
      exact ⟨_, _, _, _, rfl, by rw [List.length_append, hf]; rfl, perm_pick hrl hp, g.trans g2⟩
    · rintro σ H1 ⟨found, rest, v5, v6, rfl, hf, hp, g⟩
      walk_at "zz"
      exact k found rest _ (by omega) hp g
theorem c__law_shuffled (d : DF K mg "_law_shuffled" s__law_shuffled) (B : Bi mg) (c__law_draw : Cal P w K mg base 1 "_law_draw" spDraw []) : Cal P w K mg base 2 "_law_shuffled" spShuffled [] := by
  refine d.cal (N := n__law_shuffled) sc__law_shuffled (fun _ _ _ _ _ _ us hl => match us, hl with | [_, _], _ => rfl) (fun vs H Q E h => ?_) (fun f cdv A outer s H vs Q E hr h => ?_)
  · obtain ⟨h, a, xs, rfl, _⟩ := h
    rfl
  · obtain ⟨h, a, xs, rfl, hh, ea, nah, hl, k⟩ := h
    refine ⟨_, (pss_cons (ps_set (i := 2) sc__law_shuffled.nd rfl (by first | exact Or.inl rfl | exact Or.inr rfl) (pe_callTy (r := zList K) zc_list (by rfl) B.list (by decide +kernel) (pa_cons (pv 1) pa_nil)))
  (pss_cons (ps_set (i := 3) sc__law_shuffled.nd rfl (by first | exact Or.inl rfl | exact Or.inr rfl) (pe_lst pa_nil))
  (pss_cons (ps_for PassesOwn.never rfl (pi_range1 rfl B.range (pa_cons (pe_callB (r := zLen K) zc_len (by rfl) B.len (by decide +kernel) (pa_cons (pv 1) pa_nil)) pa_nil)) (pg_name (i := 4) sc__law_shuffled.nd rfl (by first | exact Or.inl rfl | exact Or.inr rfl)) (pss_one (ps_expr (pe_bmZ (K := K) rfl PySem.F.plainAttrs_list PySem.F.slot_list_append PySem.F.type_list_append zm_append (pv 3) (pa_cons (pe_bmZ (K := K) rfl PySem.F.plainAttrs_list PySem.F.slot_list_pop PySem.F.type_list_pop zm_popAt (pv 2) (pa_cons (pe_c c__law_draw hr (by first | decide | omega) rfl (pa_cons (pv 0) (pa_cons (pe_callB (r := zLen K) zc_len (by rfl) B.len (by decide +kernel) (pa_cons (pv 2) pa_nil)) pa_nil))) pa_nil)) pa_nil)))))
  (pss_one (ps_ret (pv 3)))))), ?_⟩
    refine zstart [some (.ref h), some (.ref a), none, none, none] rfl ?_; try dsimp only [zK, zK2]
    walk_at "zz"
    refine i_listL (SqL.of ea) fun rs0 hrs0 => ?_
    have nrh := hh.ne hrs0
    have g1 := (Gd.refl hh).new (o := .lst (ivs xs)) hrs0
    have ea1 := nw (o := .lst (ivs xs)) hrs0 ea
    have er1 : (upd H rs0 (.lst (ivs xs))) rs0 = some (.lst (ivs xs)) := upd_same
    generalize upd H rs0 (.lst (ivs xs)) = H1 at g1 ea1 er1 ⊢
    walk_at "zz"
    refine ⟨by show 0 ≤ sizeLine; exact Nat.zero_le _, fun fs0 hfs0 => ?_⟩
    have nfh := g1.ok.ne hfs0
    have nfr : ¬ fs0 = rs0 := fun e => by subst e; rw [er1] at hfs0; cases hfs0
    have hf0 : H fs0 = none := by
      cases e : H fs0 with
      | none => rfl
      | some o => rw [g1.kp' e nfh] at hfs0; cases hfs0
    have g2 := g1.new (o := .lst []) hfs0
    have ea2 := nw (o := .lst []) hfs0 ea1
    have er2 := nw (o := .lst []) hfs0 er1
    have ef2 : (upd H1 fs0 (.lst [])) fs0 = some (.lst []) := upd_same
    generalize upd H1 fs0 (.lst []) = H2 at g2 ea2 er2 ef2 ⊢
    walk_at "zz"
    rw [ivs_len]
    refine i_KR1 (by omega) ?_
    rw [Int.toNat_natCast]
    refine l_range (fun i σ H3 => Gd h H H3 ∧ ∃ (rs fs : List Nat) (v4 : Option V), H3 rs0 = some (.lst (ivs rs)) ∧ H3 fs0 = some (.lst (ivs fs)) ∧ rs.length + i = xs.length ∧ fs.length = i ∧ (∀ x ∈ rs, x ∈ xs) ∧ (∀ x ∈ fs, x ∈ xs) ∧ σ = [some (.ref h), some (.ref a), some (.ref rs0), some (.ref fs0), v4])
      ⟨g2, xs, [], none, er2, ef2, by omega, rfl, fun x hx => hx, by simp, rfl⟩ ?_ ?_
    · rintro i σ H3 hi ⟨g3, rs, fs, v4, er3, ef3, hrl, hfl, hrm, hfm, rfl⟩
      walk_at "zz"
      refine i_tyL (SqL.of ef3) ?_
      walk_at "zz"
      refine i_tyL (SqL.of er3) ?_
      walk_at "zz"
      rw [ivs_len]
      refine use_draw g3.ok (by omega) (by omega) fun r H4 hr4 g4 => ?_
      have hr' : r < rs.length := by omega
      have er4 := g4.kp' er3 nrh
      have ef4 := g4.kp' ef3 nfh
      walk_at "zz"
      refine i_pop er4 (ivs_get hr') (by rw [ivs_len]; omega) ?_
      rw [ivs_erase]
      walk_at "zz"
      have ef5 : (upd H4 rs0 (.lst (ivs (rs.eraseIdx r)))) fs0 = some (.lst (ivs fs)) := by rw [upd_ne nfr]; exact ef4
      refine i_append ef5 (by rw [ivs_len]; omega) ?_
      rw [ivs_snoc]
      walk_at "zz"
      refine ⟨((g3.trans g4).mutz hrs0).mutz hf0, rs.eraseIdx r, fs ++ [rs.getD r 0], _, by rw [upd_ne (fun e => nfr e.symm)]; exact upd_same, upd_same, by rw [List.length_eraseIdx_of_lt hr']; omega, by rw [List.length_append, hfl]; rfl, fun x hx => hrm x (List.mem_of_mem_eraseIdx hx), fun x hx => ?_, rfl⟩
      rcases List.mem_append.mp hx with q | q
      · exact hfm x q
      · rw [List.mem_singleton.mp q]; exact hrm _ (getD_in hr')
    · rintro σ H3 ⟨g3, rs, fs, v4, er3, ef3, hrl, hfl, hrm, hfm, rfl⟩
      walk_at "zz"
      exact k fs0 fs _ hf0 ef3 (by omega) hfm g3
theorem c__law_rows (d : DF K mg "_law_rows" s__law_rows) (B : Bi mg) (c__law_draw : Cal P w K mg base 1 "_law_draw" spDraw []) (c__law_shuffled : Cal P w K mg base 2 "_law_shuffled" spShuffled []) : Cal P w K mg base 3 "_law_rows" spRows [] := by
  refine d.cal (N := n__law_rows) sc__law_rows (fun _ _ _ _ _ _ us hl => match us, hl with | [_, _, _, _], _ => rfl) (fun vs H Q E h => ?_) (fun f cdv A outer s H vs Q E hr h => ?_)
  · obtain ⟨h, kind, size, many, rfl, _⟩ := h
    rfl
  · obtain ⟨h, kind, size, many, rfl, hh, hs1, hs6, hm1, hm4, k⟩ := h
    refine ⟨_, (pss_cons (ps_set (i := 4) sc__law_rows.nd rfl (by first | exact Or.inl rfl | exact Or.inr rfl) (pe_lst pa_nil))
  (pss_cons (ps_setLc (i := 5) (own := [("_law_letter", 6)]) (g := gName 6) (tt := tYes) rfl sc__law_rows.nd rfl rfl (sw_true rfl rfl rfl (by decide +kernel)) (pi_range1 rfl B.range (pa_cons (pv 3) pa_nil)) (blkOk_by (N := n__law_rows) (sc := defScope s__law_rows) (by decide +kernel)) (fun _ _ _ _ _ => (pg_name (i := 6) sc__law_rows.nd rfl (by first | exact Or.inl rfl | exact Or.inr rfl))) (fun _ _ _ _ _ => pts_nil) (fun _ _ _ _ _ => (pe_c c__law_draw hr (by first | decide | omega) rfl (pa_cons (pv 0) (pa_cons (pv 2) pa_nil)))))
  (pss_cons (ps_setLc (i := 7) (own := [("_law_letter", 6)]) (g := gName 6) (tt := tYes) rfl sc__law_rows.nd rfl rfl (sw_true rfl rfl rfl (by decide +kernel)) (pi_range1 rfl B.range (pa_cons (pv 3) pa_nil)) (blkOk_by (N := n__law_rows) (sc := defScope s__law_rows) (by decide +kernel)) (fun _ _ _ _ _ => (pg_name (i := 6) sc__law_rows.nd rfl (by first | exact Or.inl rfl | exact Or.inr rfl))) (fun _ _ _ _ _ => pts_nil) (fun _ _ _ _ _ => (pe_c c__law_shuffled hr (by first | decide | omega) rfl (pa_cons (pv 0) (pa_cons (pe_listRg rfl (by rfl) B.list (prg_1 (by rfl) B.range (pv 2))) pa_nil)))))
  (pss_cons (ps_for PassesOwn.never rfl (pi_range1 rfl B.range (pa_cons (pv 2) pa_nil)) (pg_name (i := 8) sc__law_rows.nd rfl (by first | exact Or.inl rfl | exact Or.inr rfl)) (pss_cons (ps_set (i := 9) sc__law_rows.nd rfl (by first | exact Or.inl rfl | exact Or.inr rfl) (pe_lst pa_nil))
  (pss_cons (ps_for PassesOwn.never rfl (pi_range1 rfl B.range (pa_cons (pv 3) pa_nil)) (pg_name (i := 6) sc__law_rows.nd rfl (by first | exact Or.inl rfl | exact Or.inr rfl)) (pss_cons (ps_set (i := 10) sc__law_rows.nd rfl (by first | exact Or.inl rfl | exact Or.inr rfl) (pe_c c__law_draw hr (by first | decide | omega) rfl (pa_cons (pv 0) (pa_cons (pv 2) pa_nil))))
  (pss_cut (ps_if (pt_cmpR op_eq (pv 1) pe_int (nomark _)) (pss_one (ps_set (i := 10) sc__law_rows.nd rfl (by first | exact Or.inl rfl | exact Or.inr rfl) (pe_op z_mod (pe_callTy zc_int (by rfl) B.int (by decide +kernel) (pa_cons (pe_op z_add (pv 8) (pe_ix (r := rIxL K) ix_list (pv 5) (pv 6) (fun _ _ => rfl))) pa_nil)) (pv 2)))) pss_nil)
  (pss_cut (ps_if (pt_cmpR op_eq (pv 1) pe_int (nomark _)) (pss_one (ps_set (i := 10) sc__law_rows.nd rfl (by first | exact Or.inl rfl | exact Or.inr rfl) (pe_callB (zc_min rfl) (by rfl) B.min (by decide +kernel) (pa_cons (pe_op z_sub (pv 2) pe_int) (pa_cons (pe_op z_add (pv 8) (pe_ix (r := rIxL K) ix_list (pv 5) (pv 6) (fun _ _ => rfl))) pa_nil))))) pss_nil)
  (pss_cut (ps_if (pt_cmpR op_eq (pv 1) pe_int (nomark _)) (pss_cons (ps_set (i := 10) sc__law_rows.nd rfl (by first | exact Or.inl rfl | exact Or.inr rfl) (pv 8))
  (pss_one (ps_if (pt_cmpR op_eq (pv 8) pe_int (nomark _)) (pss_one (ps_set (i := 10) sc__law_rows.nd rfl (by first | exact Or.inl rfl | exact Or.inr rfl) (pe_op z_mod (pe_callTy zc_int (by rfl) B.int (by decide +kernel) (pa_cons (pe_op z_add pe_int (pv 6)) pa_nil)) (pv 2)))) pss_nil))) pss_nil)
  (pss_cut (ps_if (pt_cmpR op_eq (pv 1) pe_int (nomark _)) (pss_one (ps_set (i := 10) sc__law_rows.nd rfl (by first | exact Or.inl rfl | exact Or.inr rfl) (pe_op z_mod (pe_callTy zc_int (by rfl) B.int (by decide +kernel) (pa_cons (pe_op z_add pe_int (pv 6)) pa_nil)) (pv 2)))) pss_nil)
  (pss_cut (ps_if (pt_cmpR op_eq (pv 1) pe_int (nomark _)) (pss_one (ps_set (i := 10) sc__law_rows.nd rfl (by first | exact Or.inl rfl | exact Or.inr rfl) (pe_callB (zc_min rfl) (by rfl) B.min (by decide +kernel) (pa_cons (pe_op z_sub (pv 2) pe_int) (pa_cons (pe_op z_add (pv 8) (pe_callTy zc_int (by rfl) B.int (by decide +kernel) (pa_cons (pe_cmpR op_eq (pe_op z_mod (pv 8) (pv 3)) (pv 6) (nomark _)) pa_nil))) pa_nil))))) pss_nil)
  (pss_cut (ps_if (pt_cmpR op_eq (pv 1) pe_int (nomark _)) (pss_cons (ps_set (i := 10) sc__law_rows.nd rfl (by first | exact Or.inl rfl | exact Or.inr rfl) (pe_op z_sub (pv 2) pe_int))
  (pss_one (ps_if (PW.pt (pw_and (pt_cmpR z_lt (pv 8) (pe_op z_sub (pv 2) pe_int) (nomark _)) (pw_and1 (pt_cmpR op_eq (pe_op z_mod (pv 8) (pv 3)) (pv 6) (nomark _))))) (pss_one (ps_set (i := 10) sc__law_rows.nd rfl (by first | exact Or.inl rfl | exact Or.inr rfl) (pe_op z_mod (pe_callTy zc_int (by rfl) B.int (by decide +kernel) (pa_cons (pe_op z_add (pv 8) pe_int) pa_nil)) (pe_op z_sub (pv 2) pe_int)))) pss_nil))) pss_nil)
  (pss_cut (ps_if (pt_cmpR op_eq (pv 1) pe_int (nomark _)) (pss_one (ps_set (i := 10) sc__law_rows.nd rfl (by first | exact Or.inl rfl | exact Or.inr rfl) (pe_ix (r := rIxL K) ix_list (pe_ix (r := rIxL K) ix_list (pv 7) (pv 6) (fun _ _ => rfl)) (pv 8) (fun _ _ => rfl)))) pss_nil)
  (pss_one (ps_expr (pe_bmZ (K := K) rfl PySem.F.plainAttrs_list PySem.F.slot_list_append PySem.F.type_list_append zm_append (pv 9) (pa_cons (pv 10) pa_nil)))))))))))))
  (pss_one (ps_expr (pe_bmZ (K := K) rfl PySem.F.plainAttrs_list PySem.F.slot_list_append PySem.F.type_list_append zm_append (pv 4) (pa_cons (pe_callTy (r := zTuple K) zc_tuple (by rfl) B.tuple (by decide +kernel) (pa_cons (pv 9) pa_nil)) pa_nil)))))))
  (pss_one (ps_ret (pe_callTy (r := zTuple K) zc_tuple (by rfl) B.tuple (by decide +kernel) (pa_cons (pv 4) pa_nil)))))))), ?_⟩
    refine zstart [some (.ref h), some (.int (kind : Int)), some (.int (size : Int)), some (.int (many : Int)), none, none, none, none, none, none, none] rfl ?_; try dsimp only [zK, zK2]
    walk_at "zz"
    refine ⟨by show 0 ≤ sizeLine; exact Nat.zero_le _, fun ra hra => ?_⟩
    have nrah := hh.ne hra
    have g1 := (Gd.refl hh).new (o := .lst []) hra
    have era : (upd H ra (.lst [])) ra = some (.lst []) := upd_same
    generalize upd H ra (.lst []) = H1 at g1 era ⊢
    walk_at "zz"
    refine i_KR1 (by omega) ?_
    rw [Int.toNat_natCast]
    refine fun sa hsa => ?_
    have nsah := g1.ok.ne hsa
    have nsr : ¬ ra = sa := ne_of_none era hsa
    refine l_comp (walk_range (lo := 0) (n := many)) [some (.ref h), some (.int (kind : Int)), some (.int (size : Int)), some (.int (many : Int)), some (.ref ra), none, none, none, none, none, none] rfl (fun i acc H' => Gd h H1 H' ∧ ∃ steps : List Nat, acc = ivs steps ∧ steps.length = i) ⟨(Gd.refl g1.ok).new hsa, [], rfl, rfl⟩ (fun _ _ _ _ _ _ => trivial) ?_ ?_
    · rintro i x acc H2 H3 hi ⟨g2, steps, rfl, hsl⟩ e hl2 ⟨e2, rfl⟩
      subst e2
      show gName _ (V.int (0 + (i : Int))) _ _ _
      refine i_gname ?_
      refine i_lct rfl ?_
      refine i_yes ?_
      refine iteT ?_
      refine zte [some (.ref h), some (.int (kind : Int)), some (.int (size : Int)), some (.int (many : Int)), some (.ref ra), none, some (.int (0 + (i : Int))), none, none, none, none] rfl ?_
      walk_at "zz"
      refine use_draw g2.ok (by omega) (by omega) fun r H4 hr4 g4 => ?_
      refine cend (g4.kp' e nsah) hl2 (by omega) ⟨(g2.trans g4).mutz hsa, steps ++ [r], ivs_snoc _ _, by rw [List.length_append, hsl]; rfl⟩
    rintro acc H2 ⟨g2, steps, rfl, hsl⟩ esa hl2
    have era2 := g2.kp' era nrah
    walk_at "zz"
    refine i_KR1 (by omega) ?_
    rw [Int.toNat_natCast]
    refine fun ta hta => ?_
    have ntah := g2.ok.ne hta
    refine l_comp (walk_range (lo := 0) (n := many)) [some (.ref h), some (.int (kind : Int)), some (.int (size : Int)), some (.int (many : Int)), some (.ref ra), some (.ref sa), none, none, none, none, none] rfl
      (fun i acc H' => Gd h H2 H' ∧ ∃ ts : List Addr, acc = ts.map V.ref ∧ ts.length = i ∧ ∀ t ∈ ts, (¬ t = h ∧ ¬ t = ta ∧ H2 t = none) ∧ ∃ ys : List Nat, H' t = some (.lst (ivs ys)) ∧ ys.length = size ∧ ∀ y ∈ ys, y < size) ⟨(Gd.refl g2.ok).new hta, [], rfl, rfl, by simp⟩ (fun _ _ _ _ _ _ => trivial) ?_ ?_
    · rintro i x acc H3 H4 hi ⟨g3, ts, rfl, htl, hts⟩ e hl3 ⟨e2, rfl⟩
      subst e2
      show gName _ (V.int (0 + (i : Int))) _ _ _
      refine i_gname ?_
      refine i_lct rfl ?_
      refine i_yes ?_
      refine iteT ?_
      refine zte [some (.ref h), some (.int (kind : Int)), some (.int (size : Int)), some (.int (many : Int)), some (.ref ra), some (.ref sa), some (.int (0 + (i : Int))), none, none, none, none] rfl ?_
      walk_at "zz"
      refine i_listRg ?_
      refine i_rg1 ?_
      walk_at "zz"
      refine ⟨_, rfl, RgOk.of_le (by decide) (by omega) (by decide) (by omega), fun q hq => ?_⟩
      rw [rgV_0]
      have nqh := g3.ok.ne hq
      walk_at "zz"
      have g4 := g3.new (o := .lst (ivs (List.range size))) hq
      have e4 := nw (o := .lst (ivs (List.range size))) hq e
      refine ⟨h, q, List.range size, rfl, g4.ok, upd_same, nqh, by rw [List.length_range]; omega, fun t ys H5 ht et hyl hym g5 => ?_⟩
      have nth : ¬ t = h := g4.ok.ne ht
      have ntt : ¬ t = ta := fun z => by subst z; rw [e4] at ht; cases ht
      have e5 := g5.kp' e4 ntah
      have ht2 : H2 t = none := by
        cases z : H2 t with
        | none => rfl
        | some o => rw [g4.kp' z nth] at ht; cases ht
      refine cend e5 hl3 (by omega) ⟨(g4.trans g5).mutz hta, ts ++ [t], by rw [List.map_append]; rfl, by rw [List.length_append, htl]; rfl, fun t' ht' => ?_⟩
      rcases List.mem_append.mp ht' with z | z
      · obtain ⟨⟨n1, n2, n3⟩, ys', ey, hy1, hy2⟩ := hts t' z
        exact ⟨⟨n1, n2, n3⟩, ys', by rw [upd_ne n2]; exact g5.kp' (nw hq ey) n1, hy1, hy2⟩
      · rw [List.mem_singleton.mp z]
        exact ⟨⟨nth, ntt, ht2⟩, ys, by rw [upd_ne ntt]; exact et, by rw [hyl, List.length_range], fun y hy => List.mem_range.mp (hym y hy)⟩
    rintro acc Hb ⟨g3, ts, rfl, htl, hts⟩ eta hl3
    have erab := g3.kp' era2 nrah
    have esab := g3.kp' esa nsah
    walk_at "zz"
    refine i_KR1 (by omega) ?_
    have gB : Gd h H Hb := (g1.trans g2).trans g3
    have ntr : ¬ ta = ra := fun z => by subst z; rw [era2] at hta; cases hta
    have hHra : H ra = none := hra
    have nl : ∀ {p : Addr}, Hb p = none → H p = none := fun {p} hp => by
      cases z : H p with
      | none => rfl
      | some o =>
        by_cases q : p = h
        · obtain ⟨o', ho'⟩ := gB.ok.some
          rw [q, ho'] at hp; cases hp
        · rw [gB.kp _ _ z q] at hp; cases hp
    rw [Int.toNat_natCast]
    refine l_range (fun i σ H4 => Gd h H H4 ∧ Kp (fun b => b = h ∨ b = ra) Hb H4 ∧ ∃ (vs : List V) (tab : List (List Nat)) (v6 v8 v9 v10 : Option V), H4 ra = some (.lst vs) ∧ RpAll (· = h) H4 vs (tab.map rowD) ∧ tab.length = i ∧ (∀ r ∈ tab, r.length = many ∧ ∀ x ∈ r, x < size) ∧
      σ = [some (.ref h), some (.int (kind : Int)), some (.int (size : Int)), some (.int (many : Int)), some (.ref ra), some (.ref sa), v6, some (.ref ta), v8, v9, v10]) ⟨gB, Kp.refl, [], [], _, _, _, _, erab, .nil, rfl, by simp, rfl⟩ ?_ ?_
    · rintro i σ H4 hi ⟨g4, kb4, vs, tab, v6, v8, v9, v10, era4, RT, htab, hrows, rfl⟩
      walk_at "zz"
      refine ⟨by show 0 ≤ sizeLine; exact Nat.zero_le _, fun rb hrb => ?_⟩
      have nrbh := g4.ok.ne hrb
      have nrr : ¬ ra = rb := ne_of_none era4 hrb
      have hbrb : Hb rb = none := by
        cases z : Hb rb with
        | none => rfl
        | some o => rw [kb4 _ _ z (fun q => q.elim nrbh fun q => nrr q.symm)] at hrb; cases hrb
      have hHrb : H rb = none := nl hbrb
      have vlen : vs.length = i := by rw [RT.length, List.length_map, htab]
      walk_at "zz"
      refine i_KR1 (by omega) ?_
      rw [Int.toNat_natCast]
      refine l_range (fun j σ H5 => Gd h H H5 ∧ Kp (fun b => b = h ∨ b = ra) Hb H5 ∧ TK H4 H5 ∧ H5 ra = some (.lst vs) ∧ ∃ (row : List Nat) (v6 v10 : Option V), H5 rb = some (.lst (ivs row)) ∧ row.length = j ∧ (∀ x ∈ row, x < size) ∧
        σ = [some (.ref h), some (.int (kind : Int)), some (.int (size : Int)), some (.int (many : Int)), some (.ref ra), some (.ref sa), v6, some (.ref ta), some (.int (i : Int)), some (.ref rb), v10])
        ⟨g4.mutz hHrb, mutz' kb4 hbrb, TK.refl.newz hrb, nw hrb era4, [], _, _, upd_same, rfl, by simp, rfl⟩ ?_ ?_
      · rintro j σ H5 hj ⟨g5, kb5, tk5, era5, row, v6, v10, erb5, hrow1, hrow2, rfl⟩
        walk_at "zz"
        refine use_draw g5.ok (by omega) (by omega) fun x Hc hxr g6 => ?_
        have hx : x < size := by omega
        have gc := g5.trans g6
        have kbc := kp_gd kb5 g6 (.inl rfl)
        have tkc := tk5.gd g6
        have erac := g6.kp' era5 nrah
        have erbc := g6.kp' erb5 nrbh
        have ec_s : Hc sa = some (.lst (ivs steps)) := kbc _ _ esab fun q => q.elim nsah fun q => nsr q.symm
        have ec_t : Hc ta = some (.lst (ts.map V.ref)) := kbc _ _ eta fun q => q.elim ntah ntr
        have hjs : j < steps.length := by omega
        have ect : ∀ j, j < many → ∃ (tv : Addr) (ys : List Nat), (ts.map V.ref)[j]? = some (.ref tv) ∧ Hc tv = some (.lst (ivs ys)) ∧ ys.length = size ∧ ∀ y ∈ ys, y < size := fun j hj => by
          have hjt : j < ts.length := by omega
          obtain ⟨⟨n1, n2, n3⟩, ys, ey, hy1, hy2⟩ := hts _ (List.getElem_mem hjt)
          refine ⟨ts[j], ys, by rw [List.getElem?_map, List.getElem?_eq_getElem hjt]; rfl, kbc _ _ ey fun q => q.elim n1 fun q => ?_, hy1, hy2⟩
          rw [q, era2] at n3; cases n3
        walk_at "zz"
        refine i_cut (fun σ' H' => Hc = H' ∧ ∃ x : Nat, x < size ∧ σ' = [some (.ref h), some (.int (kind : Int)), some (.int (size : Int)), some (.int (many : Int)), some (.ref ra), some (.ref sa), some (.int (j : Int)), some (.ref ta), some (.int (i : Int)), some (.ref rb), some (.int (x : Int))]) ?_ ?_
        · walk_at "zz"
          refine brd (fun q => ?_) fun q => ?_
          · walk_at "zz"
            refine i_ixL (SqL.of ec_s) (atI_nat (ivs_get hjs)) ?_
            walk_at "zz"
            obtain ⟨y, hy, ey⟩ := emod_nat ((i : Int) + (steps.getD j 0 : Nat)) (show 0 < size by omega)
            rw [ey]
            exact ⟨rfl, y, hy, rfl⟩
          · walk_at "zz"
            exact ⟨rfl, x, hx, rfl⟩
        rintro σ' H' ⟨rfl, x, hx, rfl⟩
        walk_at "zz"
        refine i_cut (fun σ' H' => Hc = H' ∧ ∃ x : Nat, x < size ∧ σ' = [some (.ref h), some (.int (kind : Int)), some (.int (size : Int)), some (.int (many : Int)), some (.ref ra), some (.ref sa), some (.int (j : Int)), some (.ref ta), some (.int (i : Int)), some (.ref rb), some (.int (x : Int))]) ?_ ?_
        · walk_at "zz"
          refine brd (fun q => ?_) fun q => ?_
          · walk_at "zz"
            refine i_ixL (SqL.of ec_s) (atI_nat (ivs_get hjs)) ?_
            walk_at "zz"
            obtain ⟨y, hy, ey⟩ : ∃ y : Nat, y < size ∧ (if (i : Int) + ((steps.getD j 0 : Nat) : Int) < (size : Int) - 1 then (i : Int) + ((steps.getD j 0 : Nat) : Int) else (size : Int) - 1) = (y : Int) := by
              split
              · exact ⟨i + steps.getD j 0, by omega, by omega⟩
              · exact ⟨size - 1, by omega, by omega⟩
            rw [ey]
            exact ⟨rfl, y, hy, rfl⟩
          · walk_at "zz"
            exact ⟨rfl, x, hx, rfl⟩
        rintro σ' H' ⟨rfl, x, hx, rfl⟩
        walk_at "zz"
        refine i_cut (fun σ' H' => Hc = H' ∧ ∃ x : Nat, x < size ∧ σ' = [some (.ref h), some (.int (kind : Int)), some (.int (size : Int)), some (.int (many : Int)), some (.ref ra), some (.ref sa), some (.int (j : Int)), some (.ref ta), some (.int (i : Int)), some (.ref rb), some (.int (x : Int))]) ?_ ?_
        · walk_at "zz"
          refine brd (fun q => ?_) fun q => ?_
          · walk_at "zz"
            refine brd (fun q2 => ?_) fun q2 => ?_
            · walk_at "zz"
              obtain ⟨y, hy, ey⟩ := emod_nat (1 + (j : Int)) (show 0 < size by omega)
              rw [ey]
              exact ⟨rfl, y, hy, rfl⟩
            · walk_at "zz"
              exact ⟨rfl, i, hi, rfl⟩
          · walk_at "zz"
            exact ⟨rfl, x, hx, rfl⟩
        rintro σ' H' ⟨rfl, x, hx, rfl⟩
        walk_at "zz"
        refine i_cut (fun σ' H' => Hc = H' ∧ ∃ x : Nat, x < size ∧ σ' = [some (.ref h), some (.int (kind : Int)), some (.int (size : Int)), some (.int (many : Int)), some (.ref ra), some (.ref sa), some (.int (j : Int)), some (.ref ta), some (.int (i : Int)), some (.ref rb), some (.int (x : Int))]) ?_ ?_
        · walk_at "zz"
          refine brd (fun q => ?_) fun q => ?_
          · walk_at "zz"
            obtain ⟨y, hy, ey⟩ := emod_nat (1 + (j : Int)) (show 0 < size by omega)
            rw [ey]
            exact ⟨rfl, y, hy, rfl⟩
          · walk_at "zz"
            exact ⟨rfl, x, hx, rfl⟩
        rintro σ' H' ⟨rfl, x, hx, rfl⟩
        walk_at "zz"
        refine i_cut (fun σ' H' => Hc = H' ∧ ∃ x : Nat, x < size ∧ σ' = [some (.ref h), some (.int (kind : Int)), some (.int (size : Int)), some (.int (many : Int)), some (.ref ra), some (.ref sa), some (.int (j : Int)), some (.ref ta), some (.int (i : Int)), some (.ref rb), some (.int (x : Int))]) ?_ ?_
        · walk_at "zz"
          refine brd (fun q => ?_) fun q => ?_
          · walk_at "zz"
            refine i_intB ?_
            walk_at "zz"
            generalize decide ((i : Int) % (many : Int) = (j : Int)) = bb
            obtain ⟨c, hc, ec⟩ : ∃ c : Nat, c ≤ 1 ∧ (if bb = true then (1 : Int) else 0) = (c : Int) := by
              cases bb
              · exact ⟨0, by omega, rfl⟩
              · exact ⟨1, by omega, rfl⟩
            rw [ec]
            obtain ⟨y, hy, ey⟩ : ∃ y : Nat, y < size ∧ (if (i : Int) + (c : Int) < (size : Int) - 1 then (i : Int) + (c : Int) else (size : Int) - 1) = (y : Int) := by
              split
              · exact ⟨i + c, by omega, by omega⟩
              · exact ⟨size - 1, by omega, by omega⟩
            rw [ey]
            exact ⟨rfl, y, hy, rfl⟩
          · walk_at "zz"
            exact ⟨rfl, x, hx, rfl⟩
        rintro σ' H' ⟨rfl, x, hx, rfl⟩
        walk_at "zz"
        refine i_cut (fun σ' H' => Hc = H' ∧ ∃ x : Nat, x < size ∧ σ' = [some (.ref h), some (.int (kind : Int)), some (.int (size : Int)), some (.int (many : Int)), some (.ref ra), some (.ref sa), some (.int (j : Int)), some (.ref ta), some (.int (i : Int)), some (.ref rb), some (.int (x : Int))]) ?_ ?_
        · walk_at "zz"
          refine brd (fun q => ?_) fun q => ?_
          · walk_at "zz"
            refine brd (fun q2 => ?_) fun q2 => ?_
            · walk_at "zz"
              refine brd (fun q3 => ?_) fun q3 => ?_
              · walk_at "zz"
                obtain ⟨y, hy, ey⟩ := emod_nat ((i : Int) + 1) (show 0 < size - 1 by omega)
                rw [show (size : Int) - 1 = ((size - 1 : Nat) : Int) by omega, ey]
                exact ⟨rfl, y, by omega, rfl⟩
              · walk_at "zz"
                exact ⟨rfl, size - 1, by omega, by rw [show ((size - 1 : Nat) : Int) = (size : Int) - 1 by omega]⟩
            · walk_at "zz"
              exact ⟨rfl, size - 1, by omega, by rw [show ((size - 1 : Nat) : Int) = (size : Int) - 1 by omega]⟩
          · walk_at "zz"
            exact ⟨rfl, x, hx, rfl⟩
        rintro σ' H' ⟨rfl, x, hx, rfl⟩
        walk_at "zz"
        refine i_cut (fun σ' H' => Hc = H' ∧ ∃ x : Nat, x < size ∧ σ' = [some (.ref h), some (.int (kind : Int)), some (.int (size : Int)), some (.int (many : Int)), some (.ref ra), some (.ref sa), some (.int (j : Int)), some (.ref ta), some (.int (i : Int)), some (.ref rb), some (.int (x : Int))]) ?_ ?_
        · walk_at "zz"
          refine brd (fun q => ?_) fun q => ?_
          · walk_at "zz"
            obtain ⟨tv, ys, htv, hty, hyl, hym⟩ := ect j (by omega)
            refine i_ixL (SqL.of ec_t) (atI_nat htv) ?_
            walk_at "zz"
            refine i_ixL (SqL.of hty) (atI_nat (ivs_get (by rw [hyl]; exact hi))) ?_
            walk_at "zz"
            exact ⟨rfl, _, hym _ (getD_in (by rw [hyl]; exact hi)), rfl⟩
          · walk_at "zz"
            exact ⟨rfl, x, hx, rfl⟩
        rintro σ' H' ⟨rfl, x, hx, rfl⟩
        walk_at "zz"
        refine i_tyL (SqL.of erbc) ?_
        walk_at "zz"
        refine i_append erbc (by rw [ivs_len]; omega) ?_
        rw [ivs_snoc]
        walk_at "zz"
        refine ⟨gc.mutz hHrb, mutz' kbc hbrb, tkc.mutl erbc, by rw [upd_ne nrr]; exact erac, row ++ [x], _, _, upd_same, by rw [List.length_append, hrow1]; rfl, fun y hy => ?_, rfl⟩
        rcases List.mem_append.mp hy with q | q
        · exact hrow2 y q
        · rw [List.mem_singleton.mp q]; exact hx
      · rintro σ H5 ⟨g5, kb5, tk5, era5, row, v6, v10, erb5, hrow1, hrow2, rfl⟩
        walk_at "zz"
        refine i_tyL (SqL.of era5) ?_
        walk_at "zz"
        refine i_tupleL (SqL.of erb5) fun p hp => ?_
        walk_at "zz"
        have nph := g5.ok.ne hp
        have npr : ¬ ra = p := ne_of_none era5 hp
        have hbp : Hb p = none := by
          cases z : Hb p with
          | none => rfl
          | some o => rw [kb5 _ _ z (fun q => q.elim nph fun q => npr q.symm)] at hp; cases hp
        have era6 := nw (o := .tup (ivs row)) hp era5
        refine i_append era6 (by omega) ?_
        have RT2 := tk_rows ((tk5.newz (o := .tup (ivs row)) hp).mutl (o := .lst (vs ++ [V.ref p])) era6) RT
        walk_at "zz"
        refine ⟨(g5.new hp).mutz hHra, ?_, vs ++ [.ref p], tab ++ [row], _, _, _, _, upd_same, ?_, by rw [List.length_append, htab]; rfl, fun r hr => ?_, rfl⟩
        · exact fun b u e n => by
            rw [upd_ne (fun q => n (.inr q))]
            exact nw hp (kb5 b u e n)
        · rw [List.map_append]
          refine RpAll.append RT2 (.cons ?_ .nil)
          exact .tup (by rw [upd_ne (fun q => npr q.symm)]; exact upd_same) nph (ids_of _)
        · rcases List.mem_append.mp hr with q | q
          · exact hrows r q
          · rw [List.mem_singleton.mp q]; exact ⟨hrow1, hrow2⟩
    · rintro σ H4 ⟨g4, kb4, vs, tab, v6, v8, v9, v10, era4, RT, htab, hrows, rfl⟩
      walk_at "zz"
      refine i_tupleL (SqL.of era4) fun p hp => ?_
      exact k _ tab _ htab hrows (.tup upd_same (g4.ok.ne hp) (RT.mono (Kp.refl.newz hp))) (g4.new hp)
end
end Y

namespace Y
open PySem PySem.Spec PyProof.Rows L2 Z
open C8 (tCut pss_cut Cal pe_c Met pe_mt pe_mt0 Mak pe_mk)
theorem i_joinC {K : PySem.W.Frag} {H : Hp} {Q : VK} {p : Addr} {ys : List Nat} (h : H p = some (.lst (ys.map fun c => V.str (S [c])))) (hl : ys.length ≤ 100000) (q : Q (.str (S ys)) H) : zJoin0 K (.str (S [])) [.ref p] H Q := by
  have e : (ys.map fun c => V.str (S [c])) = (ys.map fun c => [c]).map fun x => V.str (S x) := by rw [List.map_map]; rfl
  refine i_join0 (l := ys.map fun c => [c]) (.inl (SqL.of (by rw [h, e]))) (by rw [flat_one]; exact hl) ?_
  rw [flat_one]; exact q
section
variable {P : Program} {w : World} {K : PySem.W.Frag} {mg : Str → Option Value} {base : Heap}
theorem c__law_parts (d : DF K mg "_law_parts" s__law_parts) (B : Bi mg) (c__law_draw : Cal P w K mg base 1 "_law_draw" spDraw []) (c__law_letters : Cal P w K mg base 2 "_law_letters" spLetters []) (c__law_rows : Cal P w K mg base 3 "_law_rows" spRows []) : Cal P w K mg base 4 "_law_parts" spParts [] := by
  refine d.cal (N := n__law_parts) sc__law_parts (fun _ _ _ _ _ _ us hl => match us, hl with | [_, _, _], _ => rfl) (fun vs H Q E h => ?_) (fun f cdv A outer s H vs Q E hr h => ?_)
  · obtain ⟨h, rfl, _⟩ := h
    rfl
  · obtain ⟨h, rfl, hh, k⟩ := h
    refine ⟨_, (pss_cons (ps_set (i := 3) sc__law_parts.nd rfl (by first | exact Or.inl rfl | exact Or.inr rfl) (pe_c c__law_draw hr (by first | decide | omega) rfl (pa_cons (pv 0) (pa_cons pe_int pa_nil))))
  (pss_cons (ps_set (i := 4) sc__law_parts.nd rfl (by first | exact Or.inl rfl | exact Or.inr rfl) (pe_op z_add pe_int (pe_c c__law_draw hr (by first | decide | omega) rfl (pa_cons (pv 0) (pa_cons (pv 1) pa_nil)))))
  (pss_cons (ps_set (i := 5) sc__law_parts.nd rfl (by first | exact Or.inl rfl | exact Or.inr rfl) (pe_op z_add pe_int (pe_c c__law_draw hr (by first | decide | omega) rfl (pa_cons (pv 0) (pa_cons (pv 2) pa_nil)))))
  (pss_cut (ps_if (pt_cmpR z_gt (pv 3) pe_int (nomark _)) (pss_cons (ps_set (i := 5) sc__law_parts.nd rfl (by first | exact Or.inl rfl | exact Or.inr rfl) (pe_callB (zc_max rfl) (by rfl) B.max (by decide +kernel) (pa_cons pe_int (pa_cons (pv 5) pa_nil))))
  (pss_one (ps_set (i := 4) sc__law_parts.nd rfl (by first | exact Or.inl rfl | exact Or.inr rfl) (pe_callB (zc_max rfl) (by rfl) B.max (by decide +kernel) (pa_cons (pe_callB (zc_min rfl) (by rfl) B.min (by decide +kernel) (pa_cons pe_int (pa_cons (pv 1) pa_nil))) (pa_cons (pv 4) pa_nil)))))) pss_nil)
  (pss_cons (ps_set (i := 6) sc__law_parts.nd rfl (by first | exact Or.inl rfl | exact Or.inr rfl) (pe_joinZ (K := K) rfl pe_str (pe_callB (zc_sortedC rfl) (by rfl) B.sorted (by decide +kernel) (pa_cons (pe_c c__law_letters hr (by first | decide | omega) rfl (pa_cons (pv 0) (pa_cons pe_str (pa_cons (pv 4) pa_nil)))) pa_nil))))
  (pss_cons (ps_set (i := 7) sc__law_parts.nd rfl (by first | exact Or.inl rfl | exact Or.inr rfl) (pe_c c__law_rows hr (by first | decide | omega) rfl (pa_cons (pv 0) (pa_cons (pv 3) (pa_cons (pv 5) (pa_cons (pv 4) pa_nil))))))
  (pss_cons (ps_set (i := 8) sc__law_parts.nd rfl (by first | exact Or.inl rfl | exact Or.inr rfl) (pe_callTy (r := zTuple K) zc_tuple (by rfl) B.tuple (by decide +kernel) (pa_cons (pe_lc (own := [("_law_state", 9)]) (g := gName 9) (by rfl) sc__law_parts.nd (pi_range1 rfl B.range (pa_cons (pv 5) pa_nil)) (blkOk_by (N := n__law_parts) (sc := defScope s__law_parts) (by decide +kernel)) (fun _ _ _ _ _ => (pg_name (i := 9) sc__law_parts.nd rfl (by first | exact Or.inl rfl | exact Or.inr rfl))) (fun _ _ _ _ _ => (pts_one (pt_cmpR op_eq (pe_c c__law_draw hr (by first | decide | omega) rfl (pa_cons (pv 0) (pa_cons pe_int pa_nil))) pe_int (nomark _)))) (fun _ _ _ _ _ => (pv 9))) pa_nil)))
  (pss_one (ps_ret (pe_tup (pa_cons (pv 6) (pa_cons (pv 7) (pa_cons (pv 8) pa_nil))))))))))))), ?_⟩
    refine zstart [some (.ref h), some (.int 4), some (.int 6), none, none, none, none, none, none, none] rfl ?_; try dsimp only [zK, zK2]
    walk_at "zz"
    refine use_draw hh (by decide) (by decide) fun kind H1 hr1 g1 => ?_
    walk_at "zz"
    refine use_draw g1.ok (by decide) (by decide) fun r2 H2 hr2 g2 => ?_
    walk_at "zz"
    refine use_draw g2.ok (by decide) (by decide) fun r3 H3 hr3 g3 => ?_
    walk_at "zz"
    have g03 := (g1.trans g2).trans g3
    refine i_cut (fun σ' H' => H3 = H' ∧ ∃ many size : Nat, 1 ≤ many ∧ many ≤ 4 ∧ 1 ≤ size ∧ size ≤ 6 ∧ σ' = [some (.ref h), some (.int 4), some (.int 6), some (.int (kind : Int)), some (.int (many : Int)), some (.int (size : Int)), none, none, none, none]) ?_ ?_
    · walk_at "zz"
      refine brd (fun q => ?_) fun q => ?_
      · walk_at "zz"
        obtain ⟨sz, h1, h2, e1⟩ : ∃ sz : Nat, 1 ≤ sz ∧ sz ≤ 6 ∧ (if 1 + (r3 : Int) > 2 then 1 + (r3 : Int) else 2) = (sz : Int) := by
          split
          · exact ⟨1 + r3, by omega, by omega, by omega⟩
          · exact ⟨2, by omega, by omega, rfl⟩
        rw [e1]
        obtain ⟨mn, h3, h4, e2⟩ : ∃ mn : Nat, 1 ≤ mn ∧ mn ≤ 4 ∧ (if 1 + (r2 : Int) > (if (4 : Int) < 2 then (4 : Int) else 2) then 1 + (r2 : Int) else (if (4 : Int) < 2 then (4 : Int) else 2)) = (mn : Int) := by
          rw [if_neg (show ¬ (4 : Int) < 2 by decide)]
          split
          · exact ⟨1 + r2, by omega, by omega, by omega⟩
          · exact ⟨2, by omega, by omega, rfl⟩
        rw [e2]
        exact ⟨rfl, mn, sz, h3, h4, h1, h2, rfl⟩
      · walk_at "zz"
        exact ⟨rfl, 1 + r2, 1 + r3, by omega, by omega, by omega, by omega, rfl⟩
    · rintro σ' H' ⟨rfl, many, size, hm1, hm4, hs1, hs6, rfl⟩
      walk_at "zz"
      rw [empty_codes, show codes (PySem.Str.ofString "abcdefghijklmnopqrstuvwxyz") = List.range' 97 26 from az]
      refine ⟨h, List.range' 97 26, many, rfl, g03.ok, by rw [List.length_range']; omega, by rw [List.length_range']; decide, fun found rest H4 hf hp g4 => ?_⟩
      walk_at "zz"
      refine ⟨found, rfl, by omega, fun L p hpm hpw hpn => ?_⟩
      have hnd : L.Nodup := hpm.nodup_iff.mpr (perm_nodup_of hp List.nodup_range')
      have hlen := hpm.length_eq
      have LL : Ltrs L := ⟨asc_of hpw hnd, fun c hc => by
        have := List.mem_range'_1.mp (hp.mem_iff.mp (List.mem_append_left _ (hpm.mem_iff.mp hc))); omega, by omega, by omega⟩
      walk_at "zz"
      refine i_joinC upd_same (by omega) ?_
      have g5 := (g03.trans g4).new (o := .lst (L.map fun c => V.str (S [c]))) hpn
      generalize upd H4 p (.lst (L.map fun c => V.str (S [c]))) = H5 at g5 ⊢
      walk_at "zz"
      refine ⟨h, kind, size, many, rfl, g5.ok, hs1, hs6, hm1, hm4, fun vt tab H6 ht1 ht2 rt g6 => ?_⟩
      have g06 := g5.trans g6
      walk_at "zz"
      refine i_KR1 (by omega) ?_
      rw [Int.toNat_natCast]
      refine fun Al hA => ?_
      have nAh := g06.ok.ne hA
      refine l_comp (walk_range (lo := 0) (n := size)) [some (.ref h), some (.int 4), some (.int 6), some (.int (kind : Int)), some (.int (many : Int)), some (.int (size : Int)), some (.str (S L)), some vt, none, none] rfl (fun i acc H' => Gd h H6 H' ∧ ∃ cs : List Nat, acc = ivs cs ∧ cs.Sublist ((List.range size).take i)) ⟨(Gd.refl g06.ok).new hA, [], rfl, by simp⟩ (fun _ _ _ _ _ _ => trivial) ?_ ?_
      · rintro i x acc H7 H8 hi ⟨g7, cs, rfl, hcs⟩ e hl2 ⟨e2, rfl⟩
        subst e2
        show gName _ (V.int (0 + (i : Int))) _ _ _
        rw [Int.zero_add]
        refine i_gname ?_
        refine i_lct rfl ?_
        refine ztt [some (.ref h), some (.int 4), some (.int 6), some (.int (kind : Int)), some (.int (many : Int)), some (.int (size : Int)), some (.str (S L)), some vt, none, some (.int (i : Int))] rfl ?_
        walk_at "zz"
        refine use_draw g7.ok (by decide) (by decide) fun r H9 hr9 g9 => ?_
        walk_at "zz"
        have hri : (List.range size)[i]? = some i := List.getElem?_range hi
        refine brd (fun q => ?_) fun q => ?_
        · refine zte [some (.ref h), some (.int 4), some (.int 6), some (.int (kind : Int)), some (.int (many : Int)), some (.int (size : Int)), some (.str (S L)), some vt, none, some (.int (i : Int))] rfl ?_
          walk_at "zz"
          exact cend (g9.kp' e nAh) hl2 (by omega) ⟨(g7.trans g9).mutz hA, cs ++ [i], ivs_snoc _ _, sub_snoc hcs hri⟩
        · exact ⟨_, g9.kp' e nAh, by omega, g7.trans g9, cs, rfl, sub_skip hcs⟩
      · rintro acc H7 ⟨g7, cs, rfl, hcs⟩ e hl2
        have hcs : cs.Sublist (List.range size) := hcs.trans (List.take_sublist _ _)
        walk_at "zz"
        refine i_tupleL (SqL.of e) fun q hq => ?_
        have g8 := (g06.trans g7).new (o := .tup (ivs cs)) hq
        have nqh := (g06.trans g7).ok.ne hq
        have rt8 : Rp (· = h) (upd H7 q (.tup (ivs cs))) vt (tabD tab) := (rt.mono g7.toKp).mono (Kp.refl.newz hq)
        have eq8 : (upd H7 q (.tup (ivs cs))) q = some (.tup (ivs cs)) := upd_same
        generalize upd H7 q (.tup (ivs cs)) = H8 at g8 rt8 eq8 ⊢
        walk_at "zz"
        refine ⟨by show 3 ≤ sizeLine; decide, fun pp hpp => ?_⟩
        have PT : Parts L tab cs := ⟨LL, by omega, by omega, fun r hr => ⟨by rw [(ht2 r hr).1]; omega, fun x hx => by rw [ht1]; exact (ht2 r hr).2 x hx⟩, (List.pairwise_lt_range).sublist hcs, fun x hx => by rw [ht1]; exact List.mem_range.mp (hcs.subset hx)⟩
        exact k pp vt (.ref q) L tab cs _ PT upd_same (g8.ok.ne hpp) (rt8.mono (Kp.refl.newz hpp)) (.tup (nw hpp eq8) nqh (ids_of _)) (g8.new hpp)
end
end Y

namespace Y
open PySem PySem.Spec PyProof.Rows L2 Z
open C8 (tCut pss_cut Cal pe_c Met pe_mt pe_mt0 Mak pe_mk)
abbrev s__law_word : Stmt := topS 29
abbrev n__law_word : List Str := ["_law_hand_here", "_law_letters_here", "_law_many", "_law_word_here", "_law_turn"]
theorem sc__law_word : FnScope n__law_word ["_law_hand_here", "_law_letters_here", "_law_many"] (defScope s__law_word) := ⟨rfl, rfl, rfl, by decide +kernel, rfl, by decide +kernel, by decide +kernel⟩

abbrev s__law_signs : Stmt := topS 32
abbrev n__law_signs : List Str := ["_law_hand_here", "_law_many", "_law_signs_here", "_law_text", "_law_turn"]
theorem sc__law_signs : FnScope n__law_signs ["_law_hand_here", "_law_many"] (defScope s__law_signs) := ⟨rfl, rfl, rfl, by decide +kernel, rfl, by decide +kernel, by decide +kernel⟩

abbrev s__law_odd : Stmt := topS 31
abbrev n__law_odd : List Str := ["_law_hand_here", "_law_odd_here"]
theorem sc__law_odd : FnScope n__law_odd ["_law_hand_here"] (defScope s__law_odd) := ⟨rfl, rfl, rfl, by decide +kernel, rfl, by decide +kernel, by decide +kernel⟩

def spWord : Sp := fun vs H Q _ => ∃ (h : Addr) (l : List Nat) (m : Nat), vs = [.ref h, .str (S l), .int (m : Int)] ∧ HandOk H h ∧ (0 < m → 0 < l.length) ∧ l.length ≤ 1000 ∧ m ≤ 1000 ∧
  ∀ (word : List Nat) H', word.length = m → (∀ c ∈ word, c ∈ l) → Gd h H H' → Q (.str (S word)) H'
/-- what is handed to «says» -/
def Thing (d : PyData) : Prop := Sml d ∧ ∀ w, d = .str w → (codes w).length ≤ 200
def spSigns : Sp := fun vs H Q _ => ∃ (h : Addr), vs = [.ref h, .int 1] ∧ HandOk H h ∧ ∀ (c : Nat) H', Gd h H H' → Q (.str (S [c])) H'
def spOdd : Sp := fun vs H Q _ => ∃ (h : Addr), vs = [.ref h] ∧ HandOk H h ∧ ∀ (v : V) (d : PyData) H', Thing d → Rp (· = h) H' v d → Gd h H H' → Q v H'
theorem th_str {w : Str} (h : (codes w).length ≤ 200) : Thing (.str w) := ⟨Nat.le_trans h (by decide), fun _ q => by cases q; exact h⟩
theorem th_lst {l : List PyData} (h : l.length ≤ 90000) : Thing (.list l) := ⟨h, fun _ q => by cases q⟩
theorem th_tup {l : List PyData} (h : l.length ≤ 90000) : Thing (.tuple l) := ⟨h, fun _ q => by cases q⟩
theorem kp_new {h p : Addr} {H : Hp} {o : HO} (hp : H p = none) : Kp (· = h) H (upd H p o) := Kp.refl.newz hp
section
variable {P : Program} {w : World} {K : PySem.W.Frag} {mg : Str → Option Value} {base : Heap}
theorem c__law_word (d : DF K mg "_law_word" s__law_word) (B : Bi mg) (c__law_draw : Cal P w K mg base 1 "_law_draw" spDraw []) : Cal P w K mg base 2 "_law_word" spWord [] := by
  refine d.cal (N := n__law_word) sc__law_word (fun _ _ _ _ _ _ us hl => match us, hl with | [_, _, _], _ => rfl) (fun vs H Q E h => ?_) (fun f cdv A outer s H vs Q E hr h => ?_)
  · obtain ⟨h, l, m, rfl, _⟩ := h
    rfl
  · obtain ⟨h, l, m, rfl, hh, hm, hl, hm2, k⟩ := h
    refine ⟨_, (pss_cons (ps_set (i := 3) sc__law_word.nd rfl (by first | exact Or.inl rfl | exact Or.inr rfl) pe_str)
  (pss_cons (ps_for PassesOwn.never rfl (pi_range1 rfl B.range (pa_cons (pv 2) pa_nil)) (pg_name (i := 4) sc__law_word.nd rfl (by first | exact Or.inl rfl | exact Or.inr rfl)) (pss_one (ps_set (i := 3) sc__law_word.nd rfl (by first | exact Or.inl rfl | exact Or.inr rfl) (pe_op z_adds (pv 3) (pe_ix ix_str (pv 1) (pe_c c__law_draw hr (by first | decide | omega) rfl (pa_cons (pv 0) (pa_cons (pe_callB zc_lens (by rfl) B.len (by decide +kernel) (pa_cons (pv 1) pa_nil)) pa_nil))) (fun _ _ => rfl))))))
  (pss_one (ps_ret (pv 3))))), ?_⟩
    refine zstart [some (.ref h), some (.str (S l)), some (.int m), none, none] rfl ?_; try dsimp only [zK, zK2]
    walk_at "zz"
    refine i_KR1 (by omega) ?_
    refine l_range (fun i σ H1 => ∃ (word : List Nat) (v4 : Option V), σ = [some (.ref h), some (.str (S l)), some (.int m), some (.str (S word)), v4] ∧ word.length = i ∧ (∀ c ∈ word, c ∈ l) ∧ Gd h H H1) ?_ ?_ ?_
    · exact ⟨[], none, rfl, rfl, by simp, Gd.refl hh⟩
    · rintro i σ H1 hi ⟨word, v4, rfl, hw, hin, g⟩
      have hi' : i < m := by omega
      have hl0 := hm (by omega)
      walk_at "zz"
      refine use_draw g.ok (by omega) (by omega) fun r H2 hr2 g2 => ?_
      have hrl : r < l.length := by omega
      refine i_ixS (by omega) (atI_nat (List.getElem?_eq_getElem hrl)) ?_
      walk_at "zz"
      refine ⟨_, _, rfl, by rw [List.length_append, hw]; rfl, fun c hc => ?_, g.trans g2⟩
      rcases List.mem_append.mp hc with q | q
      · exact hin c q
      · rw [List.mem_singleton.mp q]; exact List.getElem_mem hrl
    · rintro σ H1 ⟨word, v4, rfl, hw, hin, g⟩
      walk_at "zz"
      exact k word _ (by omega) hin g
theorem c__law_signs (d : DF K mg "_law_signs" s__law_signs) (B : Bi mg) (c__law_draw : Cal P w K mg base 1 "_law_draw" spDraw []) : Cal P w K mg base 2 "_law_signs" spSigns [] := by
  refine d.cal (N := n__law_signs) sc__law_signs (fun _ _ _ _ _ _ us hl => match us, hl with | [_, _], _ => rfl) (fun vs H Q E h => ?_) (fun f cdv A outer s H vs Q E hr h => ?_)
  · obtain ⟨h, rfl, _⟩ := h
    rfl
  · obtain ⟨h, rfl, hh, k⟩ := h
    refine ⟨_, (pss_cons (ps_set (i := 2) sc__law_signs.nd rfl (by first | exact Or.inl rfl | exact Or.inr rfl) pe_str)
  (pss_cons (ps_set (i := 3) sc__law_signs.nd rfl (by first | exact Or.inl rfl | exact Or.inr rfl) pe_str)
  (pss_cons (ps_for PassesOwn.never rfl (pi_range1 rfl B.range (pa_cons (pv 1) pa_nil)) (pg_name (i := 4) sc__law_signs.nd rfl (by first | exact Or.inl rfl | exact Or.inr rfl)) (pss_one (ps_set (i := 3) sc__law_signs.nd rfl (by first | exact Or.inl rfl | exact Or.inr rfl) (pe_op z_adds (pv 3) (pe_ix ix_str (pv 2) (pe_c c__law_draw hr (by first | decide | omega) rfl (pa_cons (pv 0) (pa_cons (pe_callB zc_lens (by rfl) B.len (by decide +kernel) (pa_cons (pv 2) pa_nil)) pa_nil))) (fun _ _ => rfl))))))
  (pss_one (ps_ret (pv 3)))))), ?_⟩
    refine zstart [some (.ref h), some (.int 1), none, none, none] rfl ?_; try dsimp only [zK, zK2]
    walk_at "zz"
    generalize hsg : codes (PySem.Str.ofString " !\"#$&'()*+,-./0123456789:;<=>?@ABCDEFGHIJKLMNOPQRSTUVWXYZ[]^_abcdefghijklmnopqrstuvwxyz{|}~\n") = sg
    have hsl : sg.length = 93 := by rw [← hsg]; decide +kernel
    refine i_KR1 (by omega) ?_
    refine l_range (fun i σ H1 => ∃ (word : List Nat) (v4 : Option V), σ = [some (.ref h), some (.int 1), some (.str (S sg)), some (.str (S word)), v4] ∧ word.length = i ∧ Gd h H H1) ?_ ?_ ?_
    · exact ⟨[], none, rfl, rfl, Gd.refl hh⟩
    · rintro i σ H1 hi ⟨word, v4, rfl, hw, g⟩
      have hi' : i < 1 := by omega
      walk_at "zz"
      refine use_draw g.ok (by omega) (by omega) fun r H2 hr2 g2 => ?_
      have hrl : r < sg.length := by omega
      refine i_ixS (by omega) (atI_nat (List.getElem?_eq_getElem hrl)) ?_
      walk_at "zz"
      exact ⟨_, _, rfl, by rw [List.length_append, hw]; rfl, g.trans g2⟩
    · rintro σ H1 ⟨word, v4, rfl, hw, g⟩
      walk_at "zz"
      have h1 : word.length = 1 := by omega
      obtain ⟨c, rfl⟩ := List.length_eq_one_iff.mp h1
      exact k c _ g
theorem c__law_odd (d : DF K mg "_law_odd" s__law_odd) (B : Bi mg) (c__law_draw : Cal P w K mg base 1 "_law_draw" spDraw []) : Cal P w K mg base 2 "_law_odd" spOdd [] := by
  refine d.cal (N := n__law_odd) sc__law_odd (fun _ _ _ _ _ _ us hl => match us, hl with | [_], _ => rfl) (fun vs H Q E h => ?_) (fun f cdv A outer s H vs Q E hr h => ?_)
  · obtain ⟨h, rfl, _⟩ := h
    rfl
  · obtain ⟨h, rfl, hh, k⟩ := h
    refine ⟨_, (pss_cons (ps_set (i := 1) sc__law_odd.nd rfl (by first | exact Or.inl rfl | exact Or.inr rfl) (pe_lst (pa_cons pe_non (pa_cons pe_bl (pa_cons pe_bl (pa_cons pe_int (pa_cons (pe_un un_neg pe_int) (pa_cons pe_int (pa_cons pe_str (pa_cons pe_str (pa_cons pe_str (pa_cons (pe_lst pa_nil) (pa_cons (pe_tup pa_nil) (pa_cons pe_dnewK (pa_cons (pe_lst (pa_cons pe_str pa_nil)) (pa_cons (pe_tup (pa_cons pe_str pa_nil)) (pa_cons (pe_disp (pps_cons pe_str pe_int pps_nil) (by rfl) (by rfl) (fun z => by cases z) (by decide)) (pa_cons (pe_lst (pa_cons (pe_lst (pa_cons pe_int pa_nil)) pa_nil)) pa_nil))))))))))))))))))
  (pss_one (ps_ret (pe_ix (r := rIxL K) ix_list (pv 1) (pe_c c__law_draw hr (by first | decide | omega) rfl (pa_cons (pv 0) (pa_cons pe_int pa_nil))) (fun _ _ => rfl))))), ?_⟩
    refine zstart [some (.ref h), none] rfl ?_; try dsimp only [zK, zK2]
    walk_at "zz"
    refine ⟨by decide, fun p1 hp1 => ?_⟩
    have g1 := (Gd.refl hh).new (o := .lst []) hp1
    have r1 : Rp (· = h) (upd H p1 (.lst [])) (.ref p1) (.list []) := .lst upd_same (hh.ne hp1) .nil
    generalize upd H p1 (.lst []) = H1 at g1 r1 ⊢
    walk_at "zz"
    refine ⟨by decide, fun p2 hp2 => ?_⟩
    have g2 := g1.new (o := .tup []) hp2
    have r2 : Rp (· = h) (upd H1 p2 (.tup [])) (.ref p2) (.tuple []) := .tup upd_same (g1.ok.ne hp2) .nil
    have r1 := r1.mono (kp_new (o := .tup []) hp2)
    generalize upd H1 p2 (.tup []) = H2 at g2 r1 r2 ⊢
    walk_at "zz"
    refine fun p3 hp3 => ?_
    have g3 := g2.new (o := .dK []) hp3
    have r3 : Rp (· = h) (upd H2 p3 (.dK [])) (.ref p3) (.dict []) := .dct upd_same (g2.ok.ne hp3)
    have r1 := r1.mono (kp_new (o := .dK []) hp3)
    have r2 := r2.mono (kp_new (o := .dK []) hp3)
    generalize upd H2 p3 (.dK []) = H3 at g3 r1 r2 r3 ⊢
    walk_at "zz"
    refine ⟨by show _ ≤ sizeLine; decide, fun p4 hp4 => ?_⟩
    have g4 := g3.new (o := .lst [.str "a"]) hp4
    have r4 : Rp (· = h) (upd H3 p4 (.lst [.str "a"])) (.ref p4) (.list [.str "a"]) := .lst upd_same (g3.ok.ne hp4) (.cons (.str _) .nil)
    have r1 := r1.mono (kp_new (o := .lst [.str "a"]) hp4)
    have r2 := r2.mono (kp_new (o := .lst [.str "a"]) hp4)
    have r3 := r3.mono (kp_new (o := .lst [.str "a"]) hp4)
    rw [S_codes]
    generalize upd H3 p4 (.lst [.str "a"]) = H4 at g4 r1 r2 r3 r4 ⊢
    walk_at "zz"
    refine ⟨by show _ ≤ sizeLine; decide, fun p5 hp5 => ?_⟩
    have g5 := g4.new (o := .tup [.str "a"]) hp5
    have r5 : Rp (· = h) (upd H4 p5 (.tup [.str "a"])) (.ref p5) (.tuple [.str "a"]) := .tup upd_same (g4.ok.ne hp5) (.cons (.str _) .nil)
    have r1 := r1.mono (kp_new (o := .tup [.str "a"]) hp5)
    have r2 := r2.mono (kp_new (o := .tup [.str "a"]) hp5)
    have r3 := r3.mono (kp_new (o := .tup [.str "a"]) hp5)
    have r4 := r4.mono (kp_new (o := .tup [.str "a"]) hp5)
    rw [S_codes]
    generalize upd H4 p5 (.tup [.str "a"]) = H5 at g5 r1 r2 r3 r4 r5 ⊢
    walk_at "zz"
    refine fun p6 hp6 => ?_
    refine ⟨upd_same, [(.inr "a", .int 0)], rfl, by decide, ?_⟩
    rw [upd_upd]
    generalize ho6 : (HO.dK (mergeK [] [((.inr "a" : Key), V.int 0)])) = o6
    have g6 := g5.new (o := o6) hp6
    have r6 : Rp (· = h) (upd H5 p6 (o6)) (.ref p6) (.dict []) := by
      rw [← ho6]; exact .dct upd_same (g5.ok.ne hp6)
    have r1 := r1.mono (kp_new (o := o6) hp6)
    have r2 := r2.mono (kp_new (o := o6) hp6)
    have r3 := r3.mono (kp_new (o := o6) hp6)
    have r4 := r4.mono (kp_new (o := o6) hp6)
    have r5 := r5.mono (kp_new (o := o6) hp6)
    generalize upd H5 p6 (o6) = H6 at g6 r1 r2 r3 r4 r5 r6 ⊢
    walk_at "zz"
    refine ⟨by show 1 ≤ sizeLine; decide, fun p7 hp7 => ?_⟩
    have g7 := g6.new (o := .lst [.int 0]) hp7
    have r7 : Rp (· = h) (upd H6 p7 (.lst [.int 0])) (.ref p7) (.list [.int 0]) := .lst upd_same (g6.ok.ne hp7) (.cons (.int _) .nil)
    have r1 := r1.mono (kp_new (o := .lst [.int 0]) hp7)
    have r2 := r2.mono (kp_new (o := .lst [.int 0]) hp7)
    have r3 := r3.mono (kp_new (o := .lst [.int 0]) hp7)
    have r4 := r4.mono (kp_new (o := .lst [.int 0]) hp7)
    have r5 := r5.mono (kp_new (o := .lst [.int 0]) hp7)
    have r6 := r6.mono (kp_new (o := .lst [.int 0]) hp7)
    generalize upd H6 p7 (.lst [.int 0]) = H7 at g7 r1 r2 r3 r4 r5 r6 r7 ⊢
    walk_at "zz"
    refine ⟨by show 1 ≤ sizeLine; decide, fun p8 hp8 => ?_⟩
    have r7 := r7.mono (kp_new (o := .lst [.ref p7]) hp8)
    have g8 := g7.new (o := .lst [.ref p7]) hp8
    have r8 : Rp (· = h) (upd H7 p8 (.lst [.ref p7])) (.ref p8) (.list [.list [.int 0]]) := .lst upd_same (g7.ok.ne hp8) (.cons r7 .nil)
    have r1 := r1.mono (kp_new (o := .lst [.ref p7]) hp8)
    have r2 := r2.mono (kp_new (o := .lst [.ref p7]) hp8)
    have r3 := r3.mono (kp_new (o := .lst [.ref p7]) hp8)
    have r4 := r4.mono (kp_new (o := .lst [.ref p7]) hp8)
    have r5 := r5.mono (kp_new (o := .lst [.ref p7]) hp8)
    have r6 := r6.mono (kp_new (o := .lst [.ref p7]) hp8)
    generalize upd H7 p8 (.lst [.ref p7]) = H8 at g8 r1 r2 r3 r4 r5 r6 r8 ⊢
    walk_at "zz"
    refine ⟨by show 16 ≤ sizeLine; decide, fun p9 hp9 => ?_⟩
    have n9 := g8.ok.ne hp9
    generalize hvs : [V.non, .bl true, .bl false, .int 0, .int (-1), .int 7, .str (S (codes (PySem.Str.ofString ""))), .str (S (codes (PySem.Str.ofString "?"))), .str (S (codes (PySem.Str.ofString "A"))), .ref p1, .ref p2, .ref p3, .ref p4, .ref p5, .ref p6, .ref p8] = ws
    have RA : RpAll (· = h) H8 ws [.none, .bool true, .bool false, .int 0, .int (-1), .int 7, .str (S (codes (PySem.Str.ofString ""))), .str (S (codes (PySem.Str.ofString "?"))), .str (S (codes (PySem.Str.ofString "A"))), .list [], .tuple [], .dict [], .list [.str "a"], .tuple [.str "a"], .dict [], .list [.list [.int 0]]] := by
      rw [← hvs]
      exact .cons .non (.cons (.bl _) (.cons (.bl _) (.cons (.int _) (.cons (.int _) (.cons (.int _) (.cons (.str _) (.cons (.str _) (.cons (.str _) (.cons r1 (.cons r2 (.cons r3 (.cons r4 (.cons r5 (.cons r6 (.cons r8 .nil)))))))))))))))
    generalize hds : [PyData.none, .bool true, .bool false, .int 0, .int (-1), .int 7, .str (S (codes (PySem.Str.ofString ""))), .str (S (codes (PySem.Str.ofString "?"))), .str (S (codes (PySem.Str.ofString "A"))), .list [], .tuple [], .dict [], .list [.str "a"], .tuple [.str "a"], .dict [], .list [.list [.int 0]]] = ds at RA
    have TA : ∀ d ∈ ds, Thing d := by
      rw [← hds]
      intro d hd
      simp only [List.mem_cons, List.not_mem_nil, or_false] at hd
      rcases hd with rfl | rfl | rfl | rfl | rfl | rfl | rfl | rfl | rfl | rfl | rfl | rfl | rfl | rfl | rfl | rfl
      · exact ⟨trivial, fun _ q => by cases q⟩
      · exact ⟨trivial, fun _ q => by cases q⟩
      · exact ⟨trivial, fun _ q => by cases q⟩
      · exact ⟨trivial, fun _ q => by cases q⟩
      · exact ⟨trivial, fun _ q => by cases q⟩
      · exact ⟨trivial, fun _ q => by cases q⟩
      · exact th_str (by decide +kernel)
      · exact th_str (by decide +kernel)
      · exact th_str (by decide +kernel)
      · exact th_lst (by decide)
      · exact th_tup (by decide)
      · exact ⟨trivial, fun _ q => by cases q⟩
      · exact th_lst (by show 1 ≤ 90000; decide)
      · exact th_tup (by show 1 ≤ 90000; decide)
      · exact ⟨trivial, fun _ q => by cases q⟩
      · exact th_lst (by show 1 ≤ 90000; decide)
    have hwl : ws.length = 16 := by rw [← hvs]; rfl
    have g9 := g8.new (o := .lst ws) hp9
    have RB := RA.mono (kp_new (o := .lst ws) hp9)
    have e9 : (upd H8 p9 (.lst ws)) p9 = some (.lst ws) := upd_same
    generalize upd H8 p9 (.lst ws) = H9 at g9 RB e9 ⊢
    walk_at "zz"
    refine use_draw g9.ok (by decide) (by decide) fun r H10 hr10 g10 => ?_
    have hrw : r < ws.length := by omega
    have hw := List.getElem?_eq_getElem hrw
    generalize ws[r] = v at hw
    obtain ⟨d1, hd1, rd⟩ := (RB.mono g10.toKp).get' hw
    refine i_ixL (SqL.of (g10.kp' e9 n9)) (atI_nat hw) ?_
    walk_at "zz"
    exact k _ _ _ (TA d1 (List.mem_of_getElem? hd1)) rd (g9.trans g10)
end
end Y

namespace Y
open PySem PySem.Spec PyProof.Rows L2 Z
open C8 (tCut pss_cut Cal pe_c Met pe_mt pe_mt0 Mak pe_mk)
/-- a list as a map -/
def ap (g : List Nat) (s : Nat) : Nat := g.getD s 0
def it (g : List Nat) : Nat → Nat → Nat
  | 0, s => s
  | n + 1, s => it g n (ap g s)
structure Clo (g : List Nat) : Prop where
  lo : 1 ≤ g.length
  hi : g.length ≤ 6
  lt : ∀ x ∈ g, x < g.length
theorem ap_lt {g : List Nat} (c : Clo g) {s : Nat} (h : s < g.length) : ap g s < g.length := by
  unfold ap
  rw [List.getD_eq_getElem?_getD, List.getElem?_eq_getElem h]
  exact c.lt _ (List.getElem_mem h)
theorem it_lt {g : List Nat} (c : Clo g) : ∀ (n : Nat) {s : Nat}, s < g.length → it g n s < g.length
  | 0, _, h => h
  | n + 1, _, h => it_lt c n (ap_lt c h)
theorem it_add (g : List Nat) : ∀ (n m s : Nat), it g (n + m) s = it g m (it g n s)
  | 0, m, s => by rw [Nat.zero_add]; rfl
  | n + 1, m, s => by
    rw [show n + 1 + m = (n + m) + 1 by omega]
    show it g (n + m) (ap g s) = it g m (it g n (ap g s))
    exact it_add g n m _
theorem it_snoc (g : List Nat) (n s : Nat) : it g (n + 1) s = ap g (it g n s) := it_add g n 1 s
def sq (g : List Nat) : List Nat := g.map (ap g)
theorem sq_clo {g : List Nat} (c : Clo g) : Clo (sq g) := by
  have e : (sq g).length = g.length := by unfold sq; rw [List.length_map]
  refine ⟨by rw [e]; exact c.lo, by rw [e]; exact c.hi, fun x hx => ?_⟩
  rw [e]
  obtain ⟨y, hy, rfl⟩ := List.mem_map.mp hx
  exact ap_lt c (c.lt y hy)
theorem ap_sq {g : List Nat} {s : Nat} (h : s < g.length) : ap (sq g) s = ap g (ap g s) := by
  unfold sq
  show (g.map (ap g)).getD s 0 = ap g (g.getD s 0)
  rw [List.getD_eq_getElem?_getD, List.getElem?_map, List.getD_eq_getElem?_getD, List.getElem?_eq_getElem h]; rfl
theorem it_sq {g : List Nat} (c : Clo g) : ∀ (n : Nat) {s : Nat}, s < g.length → it (sq g) n s = it g (2 * n) s
  | 0, _, _ => rfl
  | n + 1, s, h => by
    rw [show 2 * (n + 1) = 2 * n + 1 + 1 by omega]
    show it (sq g) n (ap (sq g) s) = it g (2 * n) (ap g (ap g s))
    rw [ap_sq h, it_sq c n (ap_lt c (ap_lt c h))]
theorem it_half {g : List Nat} (c : Clo g) {n s : Nat} (h : s < g.length) : it g n s = it (sq g) (n / 2) (if n % 2 = 1 then ap g s else s) := by
  split
  · rw [it_sq c _ (ap_lt c h)]
    have : n = 2 * (n / 2) + 1 := by omega
    rw [show it g n s = it g (2 * (n / 2) + 1) s by rw [← this]]
    rfl
  · rw [it_sq c _ h]
    have : n = 2 * (n / 2) := by omega
    rw [← this]
/-! the states come again -/
theorem nd_len : ∀ (n : Nat) (l : List Nat), l.Nodup → (∀ x ∈ l, x < n) → l.length ≤ n
  | 0, l, _, h => by
    cases l with
    | nil => exact Nat.le_refl _
    | cons x l => exact absurd (h x List.mem_cons_self) (Nat.not_lt_zero _)
  | n + 1, l, hn, h => by
    by_cases hm : n ∈ l
    · have := nd_len n (l.erase n) (hn.erase n) fun x hx => by
        have h1 := h x (List.mem_of_mem_erase hx)
        have h2 : x ≠ n := fun e => by
          subst e
          exact (hn.not_mem_erase) hx
        omega
      rw [List.length_erase_of_mem hm] at this
      omega
    · have := nd_len n l hn fun x hx => by
        have h1 := h x hx
        have h2 : x ≠ n := fun e => hm (e ▸ hx)
        omega
      omega
theorem again {g : List Nat} (c : Clo g) : ∃ i j, i < j ∧ j ≤ g.length ∧ it g i 0 = it g j 0 := by
  by_cases h : ∃ i j, i < j ∧ j ≤ g.length ∧ it g i 0 = it g j 0
  · exact h
  exfalso
  have hn : ((List.range (g.length + 1)).map fun i => it g i 0).Nodup := by
    refine List.pairwise_map.mpr (List.pairwise_lt_range.imp_of_mem fun {a b} ha hb hab e => h ⟨a, b, hab, ?_, e⟩)
    have := List.mem_range.mp hb
    omega
  have := nd_len g.length _ hn fun x hx => by
    obtain ⟨i, _, rfl⟩ := List.mem_map.mp hx
    exact it_lt c i c.lo
  rw [List.length_map, List.length_range] at this
  omega
theorem ring {g : List Nat} {a r : Nat} (h : it g (a + r) 0 = it g a 0) : ∀ (q b : Nat), it g (a + (r * q + b)) 0 = it g (a + b) 0
  | 0, b => by rw [Nat.mul_zero, Nat.zero_add]
  | q + 1, b => by
    rw [show a + (r * (q + 1) + b) = (a + r) + (r * q + b) by rw [Nat.mul_succ]; omega, it_add, h, ← it_add]
    exact ring h q b
/-- what is told of the states until one comes again -/
theorem far_ring {g : List Nat} (c : Clo g) {st : Nat} (hst : it g st 0 = it g g.length 0) (hmin : ∀ i < st, it g i 0 ≠ it g g.length 0) (hle : st ≤ g.length) {n : Nat} (hn : g.length < n) :
    st < g.length ∧ it g n 0 = it g (st + (n - st) % (g.length - st)) 0 := by
  obtain ⟨i, j, hij, hj, e⟩ := again c
  have e2 : it g (i + (g.length - j)) 0 = it g g.length 0 := by
    rw [it_add, e, ← it_add, show j + (g.length - j) = g.length by omega]
  have hlt : st < g.length := by
    rcases Nat.lt_or_ge (i + (g.length - j)) st with h | h
    · exact absurd e2 (hmin _ h)
    · omega
  refine ⟨hlt, ?_⟩
  have hr : it g (st + (g.length - st)) 0 = it g st 0 := by rw [show st + (g.length - st) = g.length by omega, hst]
  have := ring hr ((n - st) / (g.length - st)) ((n - st) % (g.length - st))
  rw [Nat.div_add_mod, show st + (n - st) = n by omega] at this
  exact this
/-- where a word leads from each state -/
def endsL (L : List Nat) (t : List (List Nat)) (u : List Nat) : List Nat := (List.range t.length).map fun s => led L t s u
theorem ends_len {L : List Nat} {t : List (List Nat)} {u : List Nat} : (endsL L t u).length = t.length := by unfold endsL; rw [List.length_map, List.length_range]
theorem ap_ends {L : List Nat} {t : List (List Nat)} {u : List Nat} {s : Nat} (h : s < t.length) : ap (endsL L t u) s = led L t s u := by
  unfold ap endsL
  rw [List.getD_eq_getElem?_getD, List.getElem?_map, List.getElem?_range h]; rfl
theorem ends_clo {L : List Nat} {t : List (List Nat)} {a u : List Nat} (pt : Parts L t a) (hu : ∀ c ∈ u, c ∈ L) : Clo (endsL L t u) := by
  refine ⟨by rw [ends_len]; exact pt.lo, by rw [ends_len]; exact pt.hi, fun x hx => ?_⟩
  rw [ends_len]
  obtain ⟨s, hs, rfl⟩ := List.mem_map.mp hx
  exact led_lt pt.row u s (List.mem_range.mp hs) hu
theorem led_append (L : List Nat) (t : List (List Nat)) (s : Nat) (u v : List Nat) : led L t s (u ++ v) = led L t (led L t s u) v := by
  unfold led; rw [List.foldl_append]
theorem led_rep {L : List Nat} {t : List (List Nat)} {a u : List Nat} (pt : Parts L t a) (hu : ∀ c ∈ u, c ∈ L) : ∀ (n s : Nat), s < t.length → led L t s (List.replicate n u).flatten = it (endsL L t u) n s
  | 0, s, _ => rfl
  | n + 1, s, hs => by
    rw [List.replicate_succ, List.flatten_cons, led_append]
    show _ = it (endsL L t u) n (ap (endsL L t u) s)
    rw [ap_ends hs]
    exact led_rep pt hu n _ (led_lt pt.row u s hs hu)
/-- three times the word so many times -/
theorem it_three {L : List Nat} {t : List (List Nat)} {a u : List Nat} (pt : Parts L t a) (hu : ∀ c ∈ u, c ∈ L) : ∀ (n s : Nat), s < t.length → it (endsL L t (List.replicate 3 u).flatten) n s = it (endsL L t u) (n * 3) s
  | 0, s, _ => rfl
  | n + 1, s, hs => by
    have e := led_rep pt hu 3 s hs
    show it _ n (ap _ s) = _
    rw [ap_ends hs, e, show (n + 1) * 3 = 3 + n * 3 by omega, it_add]
    refine it_three pt hu n _ ?_
    have := it_lt (ends_clo pt hu) 3 (s := s) (by rw [ends_len]; exact hs)
    rw [ends_len] at this
    exact this
end Y

namespace Y
open PySem PySem.Spec PyProof.Rows L2 Z
open C8 (tCut pss_cut Cal pe_c Met pe_mt pe_mt0 Mak pe_mk)
abbrev s_ends_of : Stmt := topS 13
abbrev n_ends_of : List Str := ["letters", "table", "word", "state"]
theorem sc_ends_of : FnScope n_ends_of ["letters", "table", "word"] (defScope s_ends_of) := ⟨rfl, rfl, rfl, by decide +kernel, rfl, by decide +kernel, by decide +kernel⟩

abbrev s_then : Stmt := topS 14
abbrev n_then : List Str := ["one", "other", "state"]
theorem sc_then : FnScope n_then ["one", "other"] (defScope s_then) := ⟨rfl, rfl, rfl, by decide +kernel, rfl, by decide +kernel, by decide +kernel⟩

abbrev s_says_far : Stmt := topS 18
abbrev n_says_far : List Str := ["machine", "word", "times", "ends", "state", "left"]
theorem sc_says_far : FnScope n_says_far ["machine", "word", "times"] (defScope s_says_far) := ⟨rfl, rfl, rfl, by decide +kernel, rfl, by decide +kernel, by decide +kernel⟩

def spEndsOf : Sp := fun vs H Q _ => ∃ (L : List Nat) (vt : V) (t : List (List Nat)) (a u : List Nat), vs = [.str (S L), vt, .str (S u)] ∧ Rp N0 H vt (tabD t) ∧ Parts L t a ∧ (∀ c ∈ u, c ∈ L) ∧ ∀ (p : Addr) H', Same H H' → H' p = some (.tup (ivs (endsL L t u))) → Q (.ref p) H'
def spThen : Sp := fun vs H Q _ => ∃ (p q : Addr) (g k : List Nat), vs = [.ref p, .ref q] ∧ H p = some (.tup (ivs g)) ∧ H q = some (.tup (ivs k)) ∧ g.length ≤ 6 ∧ (∀ x ∈ g, x < k.length) ∧ ∀ (r : Addr) H', Same H H' → H' r = some (.tup (ivs (g.map (ap k)))) → Q (.ref r) H'
/-- whether it is a number of times -/
def isTimes : PyData → Bool := btw 0 (10 ^ 30)
def natOf : PyData → Nat
  | .int i => i.toNat
  | _ => 0
theorem isTimes_int {d : PyData} (h : isTimes d = true) : ∃ n : Nat, d = .int (n : Int) ∧ n ≤ 10 ^ 30 := by
  cases d with
  | int i =>
    have h : (decide (0 ≤ i) && decide (i ≤ 10 ^ 30)) = true := h
    rw [Bool.and_eq_true, decide_eq_true_eq, decide_eq_true_eq] at h
    exact ⟨i.toNat, by rw [Int.toNat_of_nonneg h.1], by have := h.2; omega⟩
  | _ => cases h
def farSays (L : List Nat) (t : List (List Nat)) (a u : List Nat) (n : Nat) : Bool := decide (it (endsL L t u) n 0 ∈ a)
def spSaysFar (K : PySem.W.Frag) (C C2 C3 : Addr) : Sp := fun vs H Q E => ∃ (m : Addr) (L : List Nat) (t : List (List Nat)) (a : List Nat) (v x : V) (d e : PyData), vs = [.ref m, v, x] ∧ IsM K H C m L t a ∧ Parts L t a ∧ Rp N0 H v d ∧ Sml d ∧ Rp N0 H x e ∧
  (isWord L d = false → ∀ H', Same H H' → E (.ref C2) none H') ∧ (isWord L d = true → isTimes e = false → ∀ H', Same H H' → E (.ref C3) none H') ∧
  (∀ u n, d = .str (S u) → isWord L d = true → e = .int (n : Nat) → isTimes e = true → ∀ H', Same H H' → Q (.bl (farSays L t a u n)) H')
section
variable {P : Program} {w : World} {K : PySem.W.Frag} {mg : Str → Option Value} {base : Heap}
theorem c_ends_of (d : DF K mg "ends_of" s_ends_of) (B : Bi mg) (c_end_of : Cal P w K mg base 1 "end_of" spEndOf []) : Cal P w K mg base 2 "ends_of" spEndsOf [] := by
  refine d.cal (N := n_ends_of) sc_ends_of (fun _ _ _ _ _ _ us hl => match us, hl with | [_, _, _], _ => rfl) (fun vs H Q E h => ?_) (fun f cdv A outer s H vs Q E hr h => ?_)
  · obtain ⟨L, vt, t, a, u, rfl, _⟩ := h
    rfl
  · obtain ⟨L, vt, t, a, u, rfl, rt, pt, hu, k⟩ := h
    refine ⟨_, (pss_one (ps_ret (pe_callTy (r := zTuple K) zc_tuple (by rfl) B.tuple (by decide +kernel) (pa_cons (pe_lc (own := [("state", 3)]) (g := gName 3) (tt := tYes) (by rfl) sc_ends_of.nd (pi_range1 rfl B.range (pa_cons (pe_callB (r := zLen K) zc_len (by rfl) B.len (by decide +kernel) (pa_cons (pv 1) pa_nil)) pa_nil)) (blkOk_by (N := n_ends_of) (sc := defScope s_ends_of) (by decide +kernel)) (fun _ _ _ _ _ => (pg_name (i := 3) sc_ends_of.nd rfl (by first | exact Or.inl rfl | exact Or.inr rfl))) (fun _ _ _ _ _ => pts_nil) (fun _ _ _ _ _ => (pe_c c_end_of hr (by first | decide | omega) rfl (pa_cons (pv 0) (pa_cons (pv 1) (pa_cons (pv 3) (pa_cons (pv 2) pa_nil))))))) pa_nil)))), ?_⟩
    refine zstart [some (.str (S L)), some (vt), some (.str (S u)), none] rfl ?_; try dsimp only [zK, zK2]
    obtain ⟨p, xs, rfl, ep, _, ra⟩ := Rp.tupS rt
    have hxl : xs.length = t.length := by rw [ra.length, List.length_map]
    have hL4 := pt.ltr.2.2.2
    have h6 := pt.hi
    walk_at "zz"
    refine i_lenT (SqT.of ep) ?_
    rw [hxl]
    refine i_KR1 (by omega) ?_
    rw [Int.toNat_natCast]
    refine fun Dl hD => ?_
    refine l_mapR hD [some (.str (S L)), some (.ref p), some (.str (S u)), none] rfl (fun _ => rfl) (by omega) (fun i => .int (led L t i u : Int)) (fun i H1 P1 hi s1 hP => ?_) fun H1 s1 e => ?_
    · refine zte [some (.str (S L)), some (.ref p), some (.str (S u)), some (.int (i : Int))] rfl ?_
      walk_at "zz"
      exact ⟨L, .ref p, t, i, u, rfl, rt.same s1, by omega, pt.row, hi, hu, fun H2 s2 => hP _ s2⟩
    · walk_at "zz"
      refine i_tupleL (SqL.of e) fun q hq => ?_
      refine k q _ (s1.newz hq) ?_
      rw [upd_same]
      unfold ivs endsL
      rw [List.map_map]; rfl
theorem c_then (d : DF K mg "then" s_then) (B : Bi mg) : Cal P w K mg base 1 "then" spThen [] := by
  refine d.cal (N := n_then) sc_then (fun _ _ _ _ _ _ us hl => match us, hl with | [_, _], _ => rfl) (fun vs H Q E h => ?_) (fun f cdv A outer s H vs Q E hr h => ?_)
  · obtain ⟨p, q, g, k, rfl, _⟩ := h
    rfl
  · obtain ⟨p, q, g, k, rfl, ep, eq, hg, hlt, kk⟩ := h
    refine ⟨_, (pss_one (ps_ret (pe_callTy (r := zTuple K) zc_tuple (by rfl) B.tuple (by decide +kernel) (pa_cons (pe_lc (own := [("state", 2)]) (g := gName 2) (tt := tYes) (by rfl) sc_then.nd (pi_tup (pv 0)) (blkOk_by (N := n_then) (sc := defScope s_then) (by decide +kernel)) (fun _ _ _ _ _ => (pg_name (i := 2) sc_then.nd rfl (by first | exact Or.inl rfl | exact Or.inr rfl))) (fun _ _ _ _ _ => pts_nil) (fun _ _ _ _ _ => (pe_ix (r := rIxT K) ix_tup (pv 1) (pv 2) (fun _ _ => rfl)))) pa_nil)))), ?_⟩
    refine zstart [some (.ref p), some (.ref q), none] rfl ?_; try dsimp only [zK, zK2]
    walk_at "zz"
    refine i_KT (SqT.of ep) ?_
    refine fun Dl hD => ?_
    refine l_map (walk_tup (xs := ivs g)) hD [some (.ref p), some (.ref q), none] rfl (fun _ => rfl) (ivs g) rfl (by unfold ivs; rw [List.length_map]; omega) (fun i H1 x H2 _ _ y => ⟨y.1, y.2⟩) (fun H1 s1 => SqT.of (s1 _ _ ep)) (fun v => match v with | .int i => .int (ap k i.toNat : Int) | _ => .non) (fun x H1 P1 hx1 s1 hP => ?_) fun H1 s1 e => ?_
    · obtain ⟨z, hz, rfl⟩ := List.mem_map.mp hx1
      have hzk := hlt z hz
      refine zte [some (.ref p), some (.ref q), some (.int (z : Int))] rfl ?_
      walk_at "zz"
      refine i_ixT (SqT.of (s1 _ _ eq)) (atI_nat (v := .int (ap k z : Int)) (by
        unfold ivs ap
        rw [List.getElem?_map, List.getD_eq_getElem?_getD, List.getElem?_eq_getElem hzk]; rfl)) ?_
      exact hP _ (Same.refl _)
    · walk_at "zz"
      refine i_tupleL (SqL.of e) fun r hr2 => ?_
      refine kk r _ (s1.newz hr2) ?_
      rw [upd_same]
      unfold ivs
      rw [List.map_map, List.map_map]; rfl
theorem c_says_far {C C2 C3 : Addr} (d : DF K mg "says_far" s_says_far) (B : Bi mg) (T_NoWord : OwnX K mg "NoWord" C2) (T_NoNumber : OwnX K mg "NoNumber" C3) (c_Machine_letters : Met P w K mg base 1 C "letters" (spLettersOf K C) []) (c_Machine_table : Met P w K mg base 1 C "table" (spTableOf K C) []) (c_Machine_accepts : Met P w K mg base 1 C "accepts" (spAcceptsOf K C) [])
    (c_is_word : Cal P w K mg base 1 "is_word" spIsWord []) (c_is_between : Cal P w K mg base 2 "is_between" spIsBetween []) (c_ends_of : Cal P w K mg base 2 "ends_of" spEndsOf []) (c_then : Cal P w K mg base 1 "then" spThen []) : CalX P w K mg base 3 "says_far" (spSaysFar K C C2 C3) := by
  refine calX d (N := n_says_far) sc_says_far (fun _ _ _ _ _ _ us hl => match us, hl with | [_, _, _], _ => rfl) (fun vs H Q E h => ?_) (fun f cdv A outer s H vs Q E hr h => ?_)
  · obtain ⟨m, L, t, a, v, x, d, e, rfl, _⟩ := h
    rfl
  · obtain ⟨m, L, t, a, v, x, d, e, rfl, hm, pt, r, sm, rx, k1, k2, k3⟩ := h
    refine ⟨_, (pss_cons (ps_if (pt_not (pt_val (pe_c c_is_word hr (by first | decide | omega) rfl (pa_cons (pe_mt0 c_Machine_letters hr (by first | decide | omega) (pv 0)) (pa_cons (pv 1) pa_nil))))) (pss_one (ps_raise0 rfl T_NoWord (takes_of rfl rfl rfl rfl) rfl)) pss_nil)
  (pss_cons (ps_if (pt_not (pt_val (pe_c c_is_between hr (by first | decide | omega) rfl (pa_cons (pv 2) (pa_cons pe_int (pa_cons (pe_op z_pow pe_int pe_int) pa_nil)))))) (pss_one (ps_raise0 rfl T_NoNumber (takes_of rfl rfl rfl rfl) rfl)) pss_nil)
  (PSs.nox (pss_cons (ps_set (i := 3) sc_says_far.nd rfl (by first | exact Or.inl rfl | exact Or.inr rfl) (pe_c c_ends_of hr (by first | decide | omega) rfl (pa_cons (pe_mt0 c_Machine_letters hr (by first | decide | omega) (pv 0)) (pa_cons (pe_mt0 c_Machine_table hr (by first | decide | omega) (pv 0)) (pa_cons (pv 1) pa_nil)))))
  (pss_cons (ps_set (i := 4) sc_says_far.nd rfl (by first | exact Or.inl rfl | exact Or.inr rfl) pe_int)
  (pss_cons (ps_set (i := 5) sc_says_far.nd rfl (by first | exact Or.inl rfl | exact Or.inr rfl) (pv 2))
  (pss_cons (ps_while PassesOwn.never (pt_cmpR z_gt (pv 5) pe_int (nomark _)) (pss_cons (ps_if (pt_cmpR op_eq (pe_op z_mod (pv 5) pe_int) pe_int (nomark _)) (pss_one (ps_set (i := 4) sc_says_far.nd rfl (by first | exact Or.inl rfl | exact Or.inr rfl) (pe_ix (r := rIxT K) ix_tup (pv 3) (pv 4) (fun _ _ => rfl)))) pss_nil)
  (pss_cons (ps_set (i := 3) sc_says_far.nd rfl (by first | exact Or.inl rfl | exact Or.inr rfl) (pe_c c_then hr (by first | decide | omega) rfl (pa_cons (pv 3) (pa_cons (pv 3) pa_nil))))
  (pss_one (ps_set (i := 5) sc_says_far.nd rfl (by first | exact Or.inl rfl | exact Or.inr rfl) (pe_op z_div (pv 5) pe_int))))))
  (pss_one (ps_ret (pe_cmpR (r := rIn K false) op_in_seq (pv 4) (pe_mt0 c_Machine_accepts hr (by first | decide | omega) (pv 0)) (by rfl))))))))))), ?_⟩
    refine zstart [some (.ref m), some (v), some (x), none, none, none] rfl ?_; try dsimp only [zK, zK2]
    have hL4 := pt.ltr.2.2.2
    obtain ⟨dx, vt, va, em, rt, ra⟩ := hm.ex
    walk_at "zz"
    refine i_meth ?_
    walk_at "zz"
    refine ⟨m, dx, _, rfl, em, rfl, m, L, t, a, rfl, hm, ?_⟩
    walk_at "zz"
    refine ⟨L, v, d, rfl, r, sm, fun H1 s1 => ?_⟩
    walk_at "zz"
    refine brnb (fun hb => ?_) fun hb => ?_
    · walk_at "zz"
      exact k1 hb _ s1
    obtain ⟨u, rfl, rfl⟩ := r.isStr (isWord_str hb)
    have hu : ∀ c ∈ u, c ∈ L := fun c hc => of_decide_eq_true (List.all_eq_true.mp hb c hc)
    walk_at "zz"
    refine i_pow ⟨by decide, by decide, by decide⟩ ?_
    refine ⟨x, e, 0, 10 ^ 30, rfl, rx.same s1, fun H2 s2 => ?_⟩
    have s02 := s1.trans s2
    walk_at "zz"
    refine brnb (fun hb2 => ?_) fun hb2 => ?_
    · walk_at "zz"
      exact k2 hb hb2 _ s02
    obtain ⟨n, rfl, hn⟩ := isTimes_int hb2
    have ex := rx.intS
    subst ex
    walk_at "zz"
    refine i_meth ?_
    walk_at "zz"
    have hm2 := hm.same s02
    refine ⟨m, dx, _, rfl, s02 _ _ em, rfl, m, L, t, a, rfl, hm2, ?_⟩
    walk_at "zz"
    refine i_meth ?_
    walk_at "zz"
    refine ⟨m, dx, _, rfl, s02 _ _ em, rfl, m, L, t, a, rfl, hm2, fun vt2 rt2 => ?_⟩
    walk_at "zz"
    refine ⟨L, vt2, t, a, u, rfl, rt2, pt, hu, fun p H3 s3 ep => ?_⟩
    have s03 := s02.trans s3
    have G0 := ends_clo pt hu
    walk_at "zz"
    have htl : (endsL L t u).length = t.length := ends_len
    obtain ⟨W, hW⟩ : ∃ W : Nat → L2.St → Hp → Prop, W = fun k σ H' => Same H H' ∧ ∃ (q : Addr) (g : List Nat) (s : Nat), Clo g ∧ s < g.length ∧ H' q = some (.tup (ivs g)) ∧ it g k s = it (endsL L t u) n 0 ∧ σ = [some (.ref m), some (.str (S u)), some (.int (n : Int)), some (.ref q), some (.int (s : Int)), some (.int (k : Int))] := ⟨_, rfl⟩
    refine ⟨W, ⟨n, by rw [hW]; exact ⟨s03, p, _, 0, G0, G0.lo, ep, rfl, rfl⟩⟩, fun k σ H4 w => ?_⟩
    rw [hW] at w
    obtain ⟨s4, q, g, s, cg, hs, eq, hit, rfl⟩ := w
    walk_at "zz"
    refine brd (fun hk => ?_) fun hk => ?_
    · refine ⟨W (k / 2), fun σ' H' w => ⟨k / 2, by omega, w⟩, ?_⟩
      have hh := it_half cg (n := k) hs
      walk_at "zz"
      refine brd (fun ho => ?_) fun ho => ?_
      · rw [if_pos (show k % 2 = 1 by omega)] at hh
        walk_at "zz"
        refine i_ixT (SqT.of eq) (atI_nat (v := .int (ap g s : Int)) (by
          unfold ivs ap
          rw [List.getElem?_map, List.getD_eq_getElem?_getD, List.getElem?_eq_getElem hs]; rfl)) ?_
        walk_at "zz"
        refine ⟨q, q, g, g, rfl, eq, eq, cg.hi, cg.lt, fun r H5 s5 er => ?_⟩
        walk_at "zz"
        rw [hW]
        exact ⟨s4.trans s5, r, sq g, ap g s, sq_clo cg, by unfold sq; rw [List.length_map]; exact ap_lt cg hs, er, by rw [← hit, hh], by rw [show ((k / 2 : Nat) : Int) = (k : Int) / 2 by omega]⟩
      · rw [if_neg (show ¬ k % 2 = 1 by omega)] at hh
        walk_at "zz"
        refine ⟨q, q, g, g, rfl, eq, eq, cg.hi, cg.lt, fun r H5 s5 er => ?_⟩
        walk_at "zz"
        rw [hW]
        exact ⟨s4.trans s5, r, sq g, s, sq_clo cg, by unfold sq; rw [List.length_map]; exact hs, er, by rw [← hit, hh], by rw [show ((k / 2 : Nat) : Int) = (k : Int) / 2 by omega]⟩
    · have hk0 : k = 0 := by omega
      subst hk0
      have hit : s = it (endsL L t u) n 0 := hit
      walk_at "zz"
      refine i_meth ?_
      walk_at "zz"
      refine ⟨m, dx, _, rfl, s4 _ _ em, rfl, m, L, t, a, rfl, hm.same s4, fun va2 ra2 => ?_⟩
      obtain ⟨pa, rfl, epa, _⟩ := rowD_rp ra2
      refine ⟨pa, _, rfl, .inr (SqT.of epa), rfl, by unfold ivs; rw [List.all_map]; exact List.all_eq_true.mpr fun _ _ => rfl, ?_⟩
      rw [inI, if_neg (by decide), hit]
      exact k3 u n rfl hb rfl hb2 _ s4
end
end Y

namespace Y
open PySem PySem.Spec PyProof.Rows L2 Z
open C8 (tCut pss_cut Cal pe_c Met pe_mt pe_mt0 Mak pe_mk)
abbrev s__law_is_word : Stmt := topS 30
abbrev n__law_is_word : List Str := ["_law_letters_here", "_law_word_here", "_law_most", "_law_letter"]
theorem sc__law_is_word : FnScope n__law_is_word ["_law_letters_here", "_law_word_here", "_law_most"] (defScope s__law_is_word) := ⟨rfl, rfl, rfl, by decide +kernel, rfl, by decide +kernel, by decide +kernel⟩

abbrev s__law_is_whole : Stmt := topS 33
abbrev n__law_is_whole : List Str := ["_law_thing"]
theorem sc__law_is_whole : FnScope n__law_is_whole ["_law_thing"] (defScope s__law_is_whole) := ⟨rfl, rfl, rfl, by decide +kernel, rfl, by decide +kernel, by decide +kernel⟩

abbrev s__law_flag : Stmt := topS 34
abbrev n__law_flag : List Str := ["_law_found", "_law_due_here"]
theorem sc__law_flag : FnScope n__law_flag ["_law_found", "_law_due_here"] (defScope s__law_flag) := ⟨rfl, rfl, rfl, by decide +kernel, rfl, by decide +kernel, by decide +kernel⟩

abbrev s__law_told : Stmt := topS 35
abbrev n__law_told : List Str := ["_law_machine", "_law_word_here", "_law_times_here", "_law_found"]
theorem sc__law_told : FnScope n__law_told ["_law_machine", "_law_word_here", "_law_times_here"] (defScope s__law_told) := ⟨rfl, rfl, rfl, by decide +kernel, rfl, by decide +kernel, by decide +kernel⟩

abbrev s__law_far : Stmt := topS 36
abbrev n__law_far : List Str := ["_law_letters_here", "_law_table", "_law_accepts", "_law_word_here", "_law_times_here", "_law_states", "_law_turn", "_law_state", "_law_letter", "_law_last", "_law_start", "_law_ring"]
theorem sc__law_far : FnScope n__law_far ["_law_letters_here", "_law_table", "_law_accepts", "_law_word_here", "_law_times_here"] (defScope s__law_far) := ⟨rfl, rfl, rfl, by decide +kernel, rfl, by decide +kernel, by decide +kernel⟩

def spLawIsWord : Sp := fun vs H Q _ => ∃ (L : List Nat) (v : V) (d : PyData), vs = [.str (S L), v, .int 200] ∧ Rp N0 H v d ∧ (∀ w, d = .str w → (codes w).length ≤ 200) ∧ ∀ H', Same H H' → Q (.bl (isWord L d)) H'
def spWhole : Sp := fun vs H Q _ => ∃ x d, vs = [x] ∧ Rp N0 H x d ∧ ∀ H', Same H H' → Q (.bl (isInt d)) H'
def spFlag : Sp := fun vs H Q _ => ∃ b c : Bool, vs = [.bl b, .bl c] ∧ ∀ H', Same H H' → Q (.bl (b == c)) H'
def wordD : PyData := .tuple [.str "word"]
def numD : PyData := .tuple [.str "number"]
def toldD (b : Bool) : PyData := .tuple [.str "told", .bool b]
/-- what is found of a thing and a number of times -/
def due6 (L : List Nat) (t : List (List Nat)) (a : List Nat) (d e : PyData) : PyData :=
  if isWord L d then (if isTimes e then toldD (farSays L t a (match d with | .str w => codes w | _ => []) (natOf e)) else numD) else wordD
def spTold (K : PySem.W.Frag) (C : Addr) : Sp := fun vs H Q _ => ∃ (m : Addr) (L : List Nat) (t : List (List Nat)) (a : List Nat) (v x : V) (d e : PyData), vs = [.ref m, v, x] ∧ IsM K H C m L t a ∧ Parts L t a ∧ Rp N0 H v d ∧ Sml d ∧ Rp N0 H x e ∧
  ∀ v' H', Same H H' → Rp N0 H' v' (due6 L t a d e) → Q v' H'
def spFar : Sp := fun vs H Q _ => ∃ (L : List Nat) (vt va : V) (t : List (List Nat)) (a u : List Nat) (n : Nat), vs = [.str (S L), vt, va, .str (S u), .int (n : Int)] ∧ Rp N0 H vt (tabD t) ∧ Rp N0 H va (rowD a) ∧ Parts L t a ∧ (∀ c ∈ u, c ∈ L) ∧ ∀ H', Same H H' → Q (.bl (farSays L t a u n)) H'
theorem find1_of {L : List Nat} {c : Nat} (h : c ∈ L) : find1 c L = ((L.idxOf c : Nat) : Int) := by
  have e := idx_of h
  unfold find1
  cases z : idx c L 0 with
  | nil => rw [z] at e; cases e
  | cons i r => rw [z] at e; cases e; rfl
theorem first_of {p : Nat → Prop} : ∀ (n : Nat), p n → ∃ j, j ≤ n ∧ p j ∧ ∀ i < j, ¬ p i := by
  intro n
  induction n using Nat.strongRecOn with
  | ind n ih =>
    intro h
    by_cases q : ∃ i, i < n ∧ p i
    · obtain ⟨i, hi, pi⟩ := q
      obtain ⟨j, hj, pj, mj⟩ := ih i hi pi
      exact ⟨j, by omega, pj, mj⟩
    · exact ⟨n, Nat.le_refl _, h, fun i hi pi => q ⟨i, hi, pi⟩⟩
theorem modc (a b : Nat) : ((a % b : Nat) : Int) = (a : Int) % (b : Int) := by first | exact Int.natCast_emod a b | exact Int.natCast_mod a b | exact Int.ofNat_emod a b | rfl
section
variable {P : Program} {w : World} {K : PySem.W.Frag} {mg : Str → Option Value} {base : Heap}
theorem c__law_is_word (d : DF K mg "_law_is_word" s__law_is_word) (B : Bi mg) : Cal P w K mg base 1 "_law_is_word" spLawIsWord [] := by
  refine d.cal (N := n__law_is_word) sc__law_is_word (fun _ _ _ _ _ _ us hl => match us, hl with | [_, _, _], _ => rfl) (fun vs H Q E h => ?_) (fun f cdv A outer s H vs Q E hr h => ?_)
  · obtain ⟨l, x, d, rfl, _⟩ := h
    rfl
  · obtain ⟨l, x, d, rfl, r, sm, k⟩ := h
    refine ⟨_, (pss_one (ps_ret (pe_and (pe_callB (r := zIsi K) zc_isi (by rfl) B.isinstance (by decide +kernel) (pa_cons (pv 1) (pa_cons (pe_bltn (by rfl) B.str (by decide +kernel) (rel_ty "str")) pa_nil))) (pe_and (pe_cmpR z_le (pe_callB zc_lens (by rfl) B.len (by decide +kernel) (pa_cons (pv 1) pa_nil)) (pv 2) (nomark _)) (pe_one (pe_callB (r := zAll K) (zc_all rfl) (by rfl) B.all (by decide +kernel) (pa_cons (pe_lc (own := [("_law_letter", 3)]) (g := gName 3) (tt := tYes) (by rfl) sc__law_is_word.nd (pi_str (pv 1)) (blkOk_by (N := n__law_is_word) (sc := defScope s__law_is_word) (by decide +kernel)) (fun _ _ _ _ _ => (pg_name (i := 3) sc__law_is_word.nd rfl (by first | exact Or.inl rfl | exact Or.inr rfl))) (fun _ _ _ _ _ => pts_nil) (fun _ _ _ _ _ => (pe_cmpR z_ins (pv 3) (pv 0) (by rfl)))) pa_nil))))))), ?_⟩
    refine zstart [some (.str (S l)), some (x), some (.int 200), none] rfl ?_; try dsimp only [zK, zK2]
    walk_at "zz"
    refine i_isi r (by decide) ?_
    walk_at "zz"
    refine brb (fun hb => ?_) fun hb => ?_
    · obtain ⟨a, rfl, rfl⟩ := r.isStr hb
      have ha : a.length ≤ 200 := sm _ rfl
      walk_at "zz"
      refine brd (fun _ => ?_) fun q => absurd (show (a.length : Int) ≤ 200 by omega) q
      walk_at "zz"
      refine fun Dl hD => ?_
      refine l_mapS hD [some (.str (S l)), some (.str (S a)), some (.int 200), none] rfl (fun _ => rfl) (by omega) (fun c => .bl (decide (c ∈ l))) (fun c H1 P hc s1 hP => ?_) fun H1 s1 e => ?_
      · refine zte [some (.str (S l)), some (.str (S a)), some (.int 200), some (.str (S [c]))] rfl ?_
        walk_at "zz"
        exact hP _ (Same.refl _)
      · walk_at "zz"
        refine i_all (bs := a.map fun c => decide (c ∈ l)) (SqL.of (by rw [List.map_map]; exact e)) ?_
        rw [List.all_map]
        exact k _ s1
    · walk_at "zz"
      have e : isWord l d = false := by cases r <;> first | rfl | (simp [isTy, tyN] at hb)
      rw [← e]
      exact k _ (Same.refl _)
theorem c__law_is_whole (d : DF K mg "_law_is_whole" s__law_is_whole) (B : Bi mg) : Cal P w K mg base 1 "_law_is_whole" spWhole [] := by
  refine d.cal (N := n__law_is_whole) sc__law_is_whole (fun _ _ _ _ _ _ us hl => match us, hl with | [_], _ => rfl) (fun vs H Q E h => ?_) (fun f cdv A outer s H vs Q E hr h => ?_)
  · obtain ⟨x, d, rfl, _⟩ := h
    rfl
  · obtain ⟨x, d, rfl, r, k⟩ := h
    refine ⟨_, (pss_one (ps_ret (pe_and (pe_callB (r := zIsi K) zc_isi (by rfl) B.isinstance (by decide +kernel) (pa_cons (pv 0) (pa_cons (pe_bltn (by rfl) B.int (by decide +kernel) (rel_ty "int")) pa_nil))) (pe_one (pe_not (pe_callB (r := zIsi K) zc_isi (by rfl) B.isinstance (by decide +kernel) (pa_cons (pv 0) (pa_cons (pe_bltn (by rfl) B.bool (by decide +kernel) (rel_ty "bool")) pa_nil)))))))), ?_⟩
    refine zstart [some (x)] rfl ?_; try dsimp only [zK, zK2]
    walk_at "zz"
    refine i_isi r (by decide) ?_
    walk_at "zz"
    refine brb (fun hb => ?_) fun hb => ?_
    · walk_at "zz"
      refine i_isi r (by decide) ?_
      walk_at "zz"
      have e : isInt d = !isTy d "bool" := by cases r <;> first | rfl | (simp [isTy, tyN, isInt] at hb)
      rw [← e]
      exact k _ (Same.refl _)
    · walk_at "zz"
      have e : isInt d = false := by cases r <;> first | rfl | (simp [isTy, tyN, isInt] at hb)
      rw [← e]
      exact k _ (Same.refl _)
theorem c__law_flag (d : DF K mg "_law_flag" s__law_flag) (B : Bi mg) : Cal P w K mg base 1 "_law_flag" spFlag [] := by
  refine d.cal (N := n__law_flag) sc__law_flag (fun _ _ _ _ _ _ us hl => match us, hl with | [_, _], _ => rfl) (fun vs H Q E h => ?_) (fun f cdv A outer s H vs Q E hr h => ?_)
  · obtain ⟨b, c, rfl, _⟩ := h
    rfl
  · obtain ⟨b, c, rfl, k⟩ := h
    refine ⟨_, (pss_one (ps_ret (pe_and (pe_callB (r := zIsi K) zc_isi (by rfl) B.isinstance (by decide +kernel) (pa_cons (pv 0) (pa_cons (pe_bltn (by rfl) B.bool (by decide +kernel) (rel_ty "bool")) pa_nil))) (pe_one (pe_cmpR (r := rEqD K) (op_eqD hr.units) (pv 0) (pv 1) (nomark _)))))), ?_⟩
    refine zstart [some (.bl b), some (.bl c)] rfl ?_; try dsimp only [zK, zK2]
    walk_at "zz"
    refine i_isi (N := N0) (.bl b) (by decide) ?_
    rw [show isTy (.bool b) "bool" = true from rfl]
    walk_at "zz"
    refine ⟨.bool b, .bool c, (Rp.bl b : Rp N0 _ _ _).dp rfl, (Rp.bl c : Rp N0 _ _ _).dp rfl, by cases b <;> decide +kernel, by cases c <;> decide +kernel, ?_⟩
    rw [show PyData.eqv (.bool b) (.bool c) = (b == c) by cases b <;> cases c <;> decide +kernel]
    exact k _ (Same.refl _)
theorem c__law_told {C C2 C3 : Addr} (d : DF K mg "_law_told" s__law_told) (B : Bi mg) (T_NoWord : OwnX K mg "NoWord" C2) (T_NoNumber : OwnX K mg "NoNumber" C3) (x22 : PySem.W.exmOne K (.ref C2) (.ref C2) = some true) (x32 : PySem.W.exmOne K (.ref C3) (.ref C2) = some false) (x33 : PySem.W.exmOne K (.ref C3) (.ref C3) = some true)
    (c_says_far : CalX P w K mg base 3 "says_far" (spSaysFar K C C2 C3)) : Cal P w K mg base 4 "_law_told" (spTold K C) [] := by
  refine d.cal (N := n__law_told) sc__law_told (fun _ _ _ _ _ _ us hl => match us, hl with | [_, _, _], _ => rfl) (fun vs H Q E h => ?_) (fun f cdv A outer s H vs Q E hr h => ?_)
  · obtain ⟨m, L, t, a, v, x, d, e, rfl, _⟩ := h
    rfl
  · obtain ⟨m, L, t, a, v, x, d, e, rfl, hm, pt, r, sm, rx, k⟩ := h
    refine ⟨_, (pss_cons (ps_set (i := 3) sc__law_told.nd rfl (by first | exact Or.inl rfl | exact Or.inr rfl) (pe_tup (pa_cons pe_str pa_nil)))
  (pss_cons (ps_try_many rfl rfl takes0 (fun W pn xe tk _ => (pss_one (ps_set (i := 3) sc__law_told.nd rfl (by first | exact Or.inl rfl | exact Or.inr rfl) (pe_tup (pa_cons pe_str (pa_cons (pe_cX c_says_far hr (by first | decide | omega) rfl tk (pa_cons (pv 0) (pa_cons (pv 1) (pa_cons (pv 2) pa_nil)))) pa_nil)))))) (HdsOk.cons ⟨rfl, by decide, .inl T_NoWord.g⟩ (fun a oe cls d pn _ _ => (pss_one (ps_set (i := 3) sc__law_told.nd rfl (by first | exact Or.inl rfl | exact Or.inr rfl) (pe_tup (pa_cons pe_str pa_nil))))) (HdsOk.cons ⟨rfl, by decide, .inl T_NoNumber.g⟩ (fun a oe cls d pn _ _ => (pss_one (ps_set (i := 3) sc__law_told.nd rfl (by first | exact Or.inl rfl | exact Or.inr rfl) (pe_tup (pa_cons pe_str pa_nil))))) HdsOk.nil)))
  (pss_one (ps_ret (pv 3))))), ?_⟩
    refine zstart [some (.ref m), some (v), some (x), none] rfl ?_; try dsimp only [zK, zK2]
    walk_at "zz"
    refine ⟨by show _ ≤ sizeLine; decide, fun p hp => ?_⟩
    have s1 : Same H (upd H p (.tup [.str "nothing"])) := fun b o e => nw hp e
    generalize upd H p (.tup [.str "nothing"]) = H1 at s1 ⊢
    walk_at "zz"
    refine i_callS ?_
    walk_at "zz"
    refine ⟨m, L, t, a, v, x, d, e, rfl, hm.same s1, pt, r.same s1, sm, rx.same s1, fun hb H2 s2 => ?_, fun hb he H2 s2 => ?_, fun u n ed hb ee he H2 s2 => ?_⟩
    · refine ⟨true, x22, fun _ e he => ?_, fun q => by cases q⟩
      walk_at "zz"
      refine ⟨by show _ ≤ sizeLine; decide, fun p2 hp2 => ?_⟩
      walk_at "zz"
      refine k _ _ ((s1.trans s2).newz hp2) ?_
      unfold due6
      rw [hb]
      exact .tup upd_same id (.cons (.str _) .nil)
    · refine ⟨false, x32, (fun q => by cases q), fun _ => ⟨true, x33, (fun _ e1 he1 => ?_), (fun q => by cases q)⟩⟩
      walk_at "zz"
      refine ⟨by show _ ≤ sizeLine; decide, fun p2 hp2 => ?_⟩
      walk_at "zz"
      refine k _ _ ((s1.trans s2).newz hp2) ?_
      unfold due6
      rw [hb, he]
      exact .tup upd_same id (.cons (.str _) .nil)
    · subst ed ee
      walk_at "zz"
      refine ⟨by show 2 ≤ sizeLine; decide, fun p2 hp2 => ?_⟩
      walk_at "zz"
      refine k _ _ ((s1.trans s2).newz hp2) ?_
      unfold due6
      rw [hb, he]
      exact .tup upd_same id (.cons (.str _) (.cons (.bl _) .nil))
theorem c__law_far (d : DF K mg "_law_far" s__law_far) (B : Bi mg) : Cal P w K mg base 1 "_law_far" spFar [] := by
  refine d.cal (N := n__law_far) sc__law_far (fun _ _ _ _ _ _ us hl => match us, hl with | [_, _, _, _, _], _ => rfl) (fun vs H Q E h => ?_) (fun f cdv A outer s H vs Q E hr h => ?_)
  · obtain ⟨L, vt, va, t, a, u, n, rfl, _⟩ := h
    rfl
  · obtain ⟨L, vt, va, t, a, u, n, rfl, rt, ra0, pt, hu, k⟩ := h
    refine ⟨_, (pss_cons (ps_set (i := 5) sc__law_far.nd rfl (by first | exact Or.inl rfl | exact Or.inr rfl) (pe_lst (pa_cons pe_int pa_nil)))
  (pss_cons (ps_for PassesOwn.never rfl (pi_range1 rfl B.range (pa_cons (pe_callB (r := zLen K) zc_len (by rfl) B.len (by decide +kernel) (pa_cons (pv 1) pa_nil)) pa_nil)) (pg_name (i := 6) sc__law_far.nd rfl (by first | exact Or.inl rfl | exact Or.inr rfl)) (pss_cons (ps_set (i := 7) sc__law_far.nd rfl (by first | exact Or.inl rfl | exact Or.inr rfl) (pe_ix (r := rIxL K) ix_list (pv 5) (pv 6) (fun _ _ => rfl)))
  (pss_cons (ps_for PassesOwn.never rfl (pi_str (pv 3)) (pg_name (i := 8) sc__law_far.nd rfl (by first | exact Or.inl rfl | exact Or.inr rfl)) (pss_one (ps_set (i := 7) sc__law_far.nd rfl (by first | exact Or.inl rfl | exact Or.inr rfl) (pe_ix (r := rIxT K) ix_tup (pe_ix (r := rIxT K) ix_tup (pv 1) (pv 7) (fun _ _ => rfl)) (pe_bmZ (K := K) rfl PySem.F.plainAttrs_str PySem.F.slot_str_find PySem.F.type_str_find zm_find (pv 0) (pa_cons (pv 8) pa_nil)) (fun _ _ => rfl)))))
  (pss_one (ps_expr (pe_bmZ (K := K) rfl PySem.F.plainAttrs_list PySem.F.slot_list_append PySem.F.type_list_append zm_append (pv 5) (pa_cons (pv 7) pa_nil)))))))
  (pss_cons (ps_set (i := 9) sc__law_far.nd rfl (by first | exact Or.inl rfl | exact Or.inr rfl) (pe_ix (r := rIxL K) ix_list (pv 5) (pe_callB (r := zLen K) zc_len (by rfl) B.len (by decide +kernel) (pa_cons (pv 1) pa_nil)) (fun _ _ => rfl)))
  (pss_cons (ps_set (i := 10) sc__law_far.nd rfl (by first | exact Or.inl rfl | exact Or.inr rfl) (pe_bmZ (K := K) (r := rIndex K) rfl PySem.F.plainAttrs_list PySem.F.slot_list_index PySem.F.type_list_index mt_index (pv 5) (pa_cons (pv 9) pa_nil)))
  (pss_cons (ps_if (pt_cmpR z_lt (pv 4) (pe_callB (r := zLen K) zc_len (by rfl) B.len (by decide +kernel) (pa_cons (pv 5) pa_nil)) (nomark _)) (pss_one (ps_ret (pe_cmpR (r := rIn K false) op_in_seq (pe_ix (r := rIxL K) ix_list (pv 5) (pv 4) (fun _ _ => rfl)) (pv 2) (by rfl)))) pss_nil)
  (pss_cons (ps_set (i := 11) sc__law_far.nd rfl (by first | exact Or.inl rfl | exact Or.inr rfl) (pe_op z_sub (pe_callB (r := zLen K) zc_len (by rfl) B.len (by decide +kernel) (pa_cons (pv 1) pa_nil)) (pv 10)))
  (pss_one (ps_ret (pe_cmpR (r := rIn K false) op_in_seq (pe_ix (r := rIxL K) ix_list (pv 5) (pe_op z_add (pv 10) (pe_op z_mod (pe_callTy zc_int (by rfl) B.int (by decide +kernel) (pa_cons (pe_op z_sub (pv 4) (pv 10)) pa_nil)) (pv 11))) (fun _ _ => rfl)) (pv 2) (by rfl)))))))))), ?_⟩
    refine zstart [some (.str (S L)), some (vt), some (va), some (.str (S u)), some (.int (n : Int)), none, none, none, none, none, none, none] rfl ?_; try dsimp only [zK, zK2]
    have hL4 := pt.ltr.2.2.2
    have hrow := pt.row
    have hs := pt.lo
    have h6 := pt.hi
    have G0 := ends_clo pt hu
    have hgl : (endsL L t u).length = t.length := ends_len
    obtain ⟨p, xs, rfl, ep, _, ra⟩ := Rp.tupS rt
    obtain ⟨pa, rfl, epa, _⟩ := rowD_rp ra0
    have hxl : xs.length = t.length := by rw [ra.length, List.length_map]
    walk_at "zz"
    refine ⟨by show 1 ≤ sizeLine; decide, fun sa hsa => ?_⟩
    have s1 : Same H (upd H sa (.lst [.int 0])) := fun b o e => nw hsa e
    have e1 : (upd H sa (.lst [.int 0])) sa = some (.lst [.int 0]) := upd_same
    generalize upd H sa (.lst [.int 0]) = H1 at s1 e1 ⊢
    walk_at "zz"
    refine i_lenT (SqT.of (s1 _ _ ep)) ?_
    rw [hxl]
    refine i_KR1 (by omega) ?_
    rw [Int.toNat_natCast]
    generalize hst : endsL L t u = g at *
    refine l_range (fun i σ H' => Same H H' ∧ H' sa = some (.lst (ivs ((List.range (i + 1)).map fun j => it g j 0))) ∧ ∃ v6 v7 v8 : Option V, σ = [some (.str (S L)), some (.ref p), some (.ref pa), some (.str (S u)), some (.int (n : Int)), some (.ref sa), v6, v7, v8, none, none, none]) ⟨s1, e1, none, none, none, rfl⟩ ?_ ?_
    · rintro i σ H2 hi ⟨s2, e2, v6, v7, v8, rfl⟩
      have hlt := it_lt G0 i G0.lo
      rw [hgl] at hlt
      walk_at "zz"
      refine i_ixL (SqL.of e2) (atI_nat (v := .int (it g i 0 : Int)) (by
        unfold ivs
        rw [List.getElem?_map, List.getElem?_map, List.getElem?_range (by omega)]; rfl)) ?_
      walk_at "zz"
      generalize hq : it g i 0 = q0 at hlt ⊢
      refine l_str (fun j σ H' => H' = H2 ∧ ∃ v8 : Option V, σ = [some (.str (S L)), some (.ref p), some (.ref pa), some (.str (S u)), some (.int (n : Int)), some (.ref sa), some (.int (i : Int)), some (.int (led L t q0 (u.take j) : Int)), v8, none, none, none]) ⟨rfl, _, rfl⟩ ?_ ?_
      · rintro j c σ H3 hc ⟨rfl, v8, rfl⟩
        have hcL := hu c (List.mem_of_getElem? hc)
        have hlt2 := led_lt hrow (u.take j) q0 hlt fun d hd => hu d (List.mem_of_mem_take hd)
        have e5 : led L t q0 (u.take (j + 1)) = (t.getD (led L t q0 (u.take j)) []).getD (L.idxOf c) 0 := by
          unfold led
          rw [List.take_add_one, hc]
          show List.foldl _ _ (u.take j ++ [c]) = _
          rw [List.foldl_append]; rfl
        generalize led L t q0 (u.take j) = q at hlt2 e5 ⊢
        have e6 : t.getD q [] = t[q] := by rw [List.getD_eq_getElem?_getD, List.getElem?_eq_getElem hlt2]; rfl
        obtain ⟨h1, h2⟩ := hrow _ (List.getElem_mem hlt2)
        have hii : L.idxOf c < t[q].length := by rw [h1]; exact List.idxOf_lt_length_of_mem hcL
        obtain ⟨x, hx, rx⟩ := (ra.mono (Kp.of_same s2)).get (i := q) (d := rowD t[q]) (by rw [List.getElem?_map, List.getElem?_eq_getElem hlt2]; rfl)
        obtain ⟨pr, rfl, epr, _⟩ := rowD_rp rx
        walk_at "zz"
        refine i_ixT (SqT.of (s2 _ _ ep)) (atI_nat hx) ?_
        walk_at "zz"
        rw [find1_of hcL]
        refine i_ixT (SqT.of epr) (atI_nat (v := .int ((t[q].getD (L.idxOf c) 0 : Nat) : Int)) (by
          unfold ivs
          rw [List.getElem?_map, List.getD_eq_getElem?_getD, List.getElem?_eq_getElem hii]; rfl)) ?_
        walk_at "zz"
        exact ⟨rfl, _, by rw [e5, e6]⟩
      · rintro σ H3 ⟨rfl, v8, rfl⟩
        rw [List.take_length]
        walk_at "zz"
        refine i_tyL (SqL.of e2) ?_
        walk_at "zz"
        refine i_append e2 (by unfold ivs; rw [List.length_map, List.length_map, List.length_range]; omega) ?_
        walk_at "zz"
        refine ⟨s2.mutz hsa, ?_, _, _, _, rfl⟩
        rw [upd_same]
        have e7 : it g (i + 1) 0 = led L t q0 u := by rw [it_snoc, hq, ← hst, ap_ends hlt]
        rw [List.range_succ (n := i + 1), List.map_append]
        unfold ivs
        rw [List.map_append]
        show some (HO.lst (_ ++ [V.int _])) = some (HO.lst (_ ++ [V.int _]))
        rw [← e7]
    · rintro σ H2 ⟨s2, e2, v6, v7, v8, rfl⟩
      have at_ : ∀ j, j ≤ t.length → (ivs ((List.range (t.length + 1)).map fun j => it g j 0))[j]? = some (.int (it g j 0 : Int)) := fun j hj => by
        unfold ivs
        rw [List.getElem?_map, List.getElem?_map, List.getElem?_range (by omega)]; rfl
      have hyl : (ivs ((List.range (t.length + 1)).map fun j => it g j 0)).length = t.length + 1 := by
        unfold ivs
        rw [List.length_map, List.length_map, List.length_range]
      have hfl : (ivs ((List.range (t.length + 1)).map fun j => it g j 0)).all flatV = true := by
        unfold ivs; rw [List.all_map]; exact List.all_eq_true.mpr fun _ _ => rfl
      generalize ivs ((List.range (t.length + 1)).map fun j => it g j 0) = ys at e2 at_ hyl hfl
      walk_at "zz"
      refine i_lenT (SqT.of (s2 _ _ ep)) ?_
      rw [hxl]
      refine i_ixL (SqL.of e2) (atI_nat (at_ t.length (Nat.le_refl _))) ?_
      walk_at "zz"
      refine i_tyL (SqL.of e2) ?_
      walk_at "zz"
      obtain ⟨st, hst1, hst2, hst3⟩ := first_of (p := fun j => it g j 0 = it g t.length 0) t.length rfl
      refine ⟨sa, ys, _, st, _, rfl, rfl, SqL.of e2, rfl, hfl, at_ st hst1, by show ((it g st 0 : Int) == (it g t.length 0 : Int)) = true; rw [hst2]; simp, fun m z' hm hz => ?_, ?_⟩
      · rw [at_ m (by omega)] at hz
        cases hz
        have := hst3 m hm
        show ((it g m 0 : Int) == (it g t.length 0 : Int)) = false
        simp
        omega
      walk_at "zz"
      rw [hyl]
      have inA : ∀ (j : Nat) {H' : Hp} {Qq : VK}, Same H H' → Qq (.bl (decide (it g j 0 ∈ a))) H' → rIn K false (.int (it g j 0 : Int)) (.ref pa) H' Qq := fun j H' Qq sH q => by
        refine ⟨pa, _, rfl, .inr (SqT.of (sH _ _ epa)), rfl, by unfold ivs; rw [List.all_map]; exact List.all_eq_true.mpr fun _ _ => rfl, ?_⟩
        rw [inI, if_neg (by decide)]
        exact q
      have fe : ∀ j, it g j 0 = it g n 0 → decide (it g j 0 ∈ a) = farSays L t a u n := fun j e => by unfold farSays; rw [hst, e]
      refine brd (fun hn => ?_) fun hn => ?_
      · walk_at "zz"
        refine i_ixL (SqL.of e2) (atI_nat (at_ n (by omega))) ?_
        walk_at "zz"
        refine inA n s2 ?_
        rw [fe n rfl]
        exact k _ s2
      · obtain ⟨hlt, hfar⟩ := far_ring G0 (st := st) (by rw [hgl]; exact hst2) (fun i hi => by rw [hgl]; exact hst3 i hi) (by rw [hgl]; exact hst1) (n := n) (by rw [hgl]; omega)
        rw [hgl] at hlt hfar
        walk_at "zz"
        refine i_lenT (SqT.of (s2 _ _ ep)) ?_
        rw [hxl]
        walk_at "zz"
        have a1 : ((n - st : Nat) : Int) = (n : Int) - st := by omega
        have a2 : ((t.length - st : Nat) : Int) = (t.length : Int) - st := by omega
        have hb := Nat.mod_lt (n - st) (show 0 < t.length - st by omega)
        rw [← a1, ← a2, ← modc]
        generalize (n - st) % (t.length - st) = z at hfar hb ⊢
        rw [show (st : Int) + (z : Int) = ((st + z : Nat) : Int) by omega]
        refine i_ixL (SqL.of e2) (atI_nat (at_ (st + z) (by omega))) ?_
        walk_at "zz"
        refine inA (st + z) s2 ?_
        rw [fe (st + z) hfar.symm]
        exact k _ s2
end
end Y

namespace Y
open PySem PySem.Spec PyProof.Rows L2 Z
open C8 (tCut pss_cut Cal pe_c Met pe_mt pe_mt0 Mak pe_mk)
abbrev s__law_times : Stmt := topS 37
abbrev n__law_times : List Str := ["_law_hand_here", "_law_way"]
theorem sc__law_times : FnScope n__law_times ["_law_hand_here"] (defScope s__law_times) := ⟨rfl, rfl, rfl, by decide +kernel, rfl, by decide +kernel, by decide +kernel⟩

abbrev s__law_due : Stmt := topS 38
abbrev n__law_due : List Str := ["_law_letters_here", "_law_table", "_law_accepts", "_law_word_here", "_law_times_here"]
theorem sc__law_due : FnScope n__law_due ["_law_letters_here", "_law_table", "_law_accepts", "_law_word_here", "_law_times_here"] (defScope s__law_due) := ⟨rfl, rfl, rfl, by decide +kernel, rfl, by decide +kernel, by decide +kernel⟩

def spTimes : Sp := fun vs H Q _ => ∃ (h : Addr), vs = [.ref h] ∧ HandOk H h ∧ ∀ (v : V) (d : PyData) H', Rp (· = h) H' v d → Gd h H H' → Q v H'
def spDue : Sp := fun vs H Q _ => ∃ (L : List Nat) (vt va : V) (t : List (List Nat)) (a : List Nat) (v x : V) (d e : PyData), vs = [.str (S L), vt, va, v, x] ∧ Rp N0 H vt (tabD t) ∧ Rp N0 H va (rowD a) ∧ Parts L t a ∧ Rp N0 H v d ∧ (∀ w, d = .str w → (codes w).length ≤ 200) ∧ Rp N0 H x e ∧
  ∀ y H', Same H H' → Rp N0 H' y (due6 L t a d e) → Q y H'
theorem i_mulW {i j : Int} {H : Hp} {Q : VK} (h : CMulW i j) (q : Q (.int (i * j)) H) : rI CMulW (fun i j => .int (i * j)) (.int i) (.int j) H Q := ⟨i, j, rfl, rfl, h, q⟩
theorem log_small {x : Nat} (h : x < 2 ^ 200) : x.log2 < 200 := by
  by_cases e : x = 0
  · subst e; decide
  · exact (Nat.log2_lt e).mpr h
section
variable {P : Program} {w : World} {K : PySem.W.Frag} {mg : Str → Option Value} {base : Heap}
theorem c__law_times (d : DF K mg "_law_times" s__law_times) (B : Bi mg) (c__law_draw : Cal P w K mg base 1 "_law_draw" spDraw []) (c__law_odd : Cal P w K mg base 2 "_law_odd" spOdd []) : Cal P w K mg base 3 "_law_times" spTimes [] := by
  refine d.cal (N := n__law_times) sc__law_times (fun _ _ _ _ _ _ us hl => match us, hl with | [_], _ => rfl) (fun vs H Q E h => ?_) (fun f cdv A outer s H vs Q E hr h => ?_)
  · obtain ⟨h, rfl, _⟩ := h
    rfl
  · obtain ⟨h, rfl, hh, k⟩ := h
    refine ⟨_, (pss_cons (ps_set (i := 1) sc__law_times.nd rfl (by first | exact Or.inl rfl | exact Or.inr rfl) (pe_c c__law_draw hr (by first | decide | omega) rfl (pa_cons (pv 0) (pa_cons pe_int pa_nil))))
  (pss_cons (ps_if (pt_cmpR op_eq (pv 1) pe_int (nomark _)) (pss_one (ps_ret (pe_c c__law_odd hr (by first | decide | omega) rfl (pa_cons (pv 0) pa_nil)))) pss_nil)
  (pss_cons (ps_if (pt_cmpR op_eq (pv 1) pe_int (nomark _)) (pss_one (ps_ret (pe_ix (r := rIxL K) ix_list (pe_lst (pa_cons (pe_op z_pow pe_int pe_int) (pa_cons (pe_op z_add (pe_op z_pow pe_int pe_int) pe_int) (pa_cons (pe_un un_neg pe_int) (pa_cons pe_int (pa_cons pe_int (pa_cons (pe_op z_sub (pe_op z_pow pe_int pe_int) pe_int) pa_nil))))))) (pe_c c__law_draw hr (by first | decide | omega) rfl (pa_cons (pv 0) (pa_cons pe_int pa_nil))) (fun _ _ => rfl)))) pss_nil)
  (pss_cons (ps_if (pt_cmpR z_lt (pv 1) pe_int (nomark _)) (pss_one (ps_ret (pe_c c__law_draw hr (by first | decide | omega) rfl (pa_cons (pv 0) (pa_cons pe_int pa_nil))))) pss_nil)
  (pss_one (ps_ret (pe_op z_mod (pe_op op_mulW (pe_c c__law_draw hr (by first | decide | omega) rfl (pa_cons (pv 0) (pa_cons (pe_op z_add (pe_op z_pow pe_int pe_int) pe_int) pa_nil))) (pe_op z_add pe_int (pe_c c__law_draw hr (by first | decide | omega) rfl (pa_cons (pv 0) (pa_cons (pe_op z_pow pe_int pe_int) pa_nil))))) (pe_op z_add (pe_op z_pow pe_int pe_int) pe_int)))))))), ?_⟩
    refine zstart [some (.ref h), none] rfl ?_; try dsimp only [zK, zK2]
    walk_at "zz"
    refine use_draw hh (by decide) (by decide) fun way H1 hr1 g1 => ?_
    walk_at "zz"
    refine brd (fun q => ?_) fun q => ?_
    · walk_at "zz"
      refine ⟨h, rfl, g1.ok, fun v d H2 td rd g2 => ?_⟩
      walk_at "zz"
      exact k v d H2 rd (g1.trans g2)
    walk_at "zz"
    refine brd (fun q => ?_) fun q => ?_
    · walk_at "zz"
      refine i_pow ⟨by decide, by decide, by decide⟩ ?_
      walk_at "zz"
      refine i_pow ⟨by decide, by decide, by decide⟩ ?_
      walk_at "zz"
      refine i_pow ⟨by decide, by decide, by decide⟩ ?_
      walk_at "zz"
      refine ⟨by show 6 ≤ sizeLine; decide, fun p hp => ?_⟩
      generalize hvs : [V.int (10 ^ Int.toNat 30), .int (10 ^ Int.toNat 30 + 1), .int (-1), .int 0, .int 1, .int (10 ^ Int.toNat 30 - 1)] = ws
      have hwl : ws.length = 6 := by rw [← hvs]; rfl
      have hwi : ∀ v ∈ ws, ∃ i, v = V.int i := by
        rw [← hvs]
        intro v hv
        simp only [List.mem_cons, List.not_mem_nil, or_false] at hv
        rcases hv with rfl | rfl | rfl | rfl | rfl | rfl <;> exact ⟨_, rfl⟩
      have g2 := g1.new (o := .lst ws) hp
      have np := g1.ok.ne hp
      have e2 : (upd H1 p (.lst ws)) p = some (.lst ws) := upd_same
      generalize upd H1 p (.lst ws) = H2 at g2 e2 ⊢
      walk_at "zz"
      refine use_draw g2.ok (by decide) (by decide) fun r H3 hr3 g3 => ?_
      have hrw : r < ws.length := by omega
      have hw := List.getElem?_eq_getElem hrw
      obtain ⟨i, ei⟩ := hwi _ (List.getElem_mem hrw)
      rw [ei] at hw
      refine i_ixL (SqL.of (g3.kp' e2 np)) (atI_nat hw) ?_
      walk_at "zz"
      exact k _ _ _ (.int i) (g2.trans g3)
    walk_at "zz"
    refine brd (fun q => ?_) fun q => ?_
    · walk_at "zz"
      refine use_draw g1.ok (by decide) (by decide) fun r H2 hr2 g2 => ?_
      walk_at "zz"
      exact k _ _ _ (.int _) (g1.trans g2)
    walk_at "zz"
    refine i_pow ⟨by decide, by decide, by decide⟩ ?_
    walk_at "zz"
    refine use_draw g1.ok (by decide) (by decide) fun r H2 hr2 g2 => ?_
    walk_at "zz"
    refine i_pow ⟨by decide, by decide, by decide⟩ ?_
    walk_at "zz"
    refine use_draw g2.ok (by decide) (by decide) fun r3 H3 hr3 g3 => ?_
    walk_at "zz"
    have l1 : r < 2 ^ 200 := by
      have : (10 : Int) ^ Int.toNat 30 + 1 < 2 ^ 200 := by decide
      omega
    have l2 : 1 + r3 < 2 ^ 200 := by
      have : (10 : Int) ^ Int.toNat 24 < 2 ^ 199 := by decide
      have : (2 : Nat) ^ 200 = 2 * 2 ^ 199 := by decide
      omega
    refine i_mulW ?_ ?_
    · have a1 := log_small l1
      have a2 := log_small l2
      show ((r : Int)).natAbs.log2 + (1 + (r3 : Int)).natAbs.log2 < 1000000
      rw [show (1 + (r3 : Int)).natAbs = 1 + r3 by omega, Int.natAbs_natCast]
      omega
    walk_at "zz"
    refine i_pow ⟨by decide, by decide, by decide⟩ ?_
    walk_at "zz"
    exact k _ _ _ (.int _) ((g1.trans g2).trans g3)
theorem c__law_due (d : DF K mg "_law_due" s__law_due) (B : Bi mg) (c__law_is_word : Cal P w K mg base 1 "_law_is_word" spLawIsWord []) (c__law_is_whole : Cal P w K mg base 1 "_law_is_whole" spWhole []) (c__law_far : Cal P w K mg base 1 "_law_far" spFar []) : Cal P w K mg base 2 "_law_due" spDue [] := by
  refine d.cal (N := n__law_due) sc__law_due (fun _ _ _ _ _ _ us hl => match us, hl with | [_, _, _, _, _], _ => rfl) (fun vs H Q E h => ?_) (fun f cdv A outer s H vs Q E hr h => ?_)
  · obtain ⟨L, vt, va, t, a, v, x, d, e, rfl, _⟩ := h
    rfl
  · obtain ⟨L, vt, va, t, a, v, x, d, e, rfl, rt, ra, pt, rv, sv, rx, k⟩ := h
    refine ⟨_, (pss_cons (ps_if (pt_not (pt_val (pe_c c__law_is_word hr (by first | decide | omega) rfl (pa_cons (pv 0) (pa_cons (pv 3) (pa_cons pe_int pa_nil)))))) (pss_one (ps_ret (pe_tup (pa_cons pe_str pa_nil)))) pss_nil)
  (pss_cons (ps_if (PW.pt (pw_or (pt_not (pt_val (pe_c c__law_is_whole hr (by first | decide | omega) rfl (pa_cons (pv 4) pa_nil)))) (pw_or (pt_cmpR z_lt (pv 4) pe_int (nomark _)) (pw_or1 (pt_cmpR z_gt (pv 4) (pe_op z_pow pe_int pe_int) (nomark _)))))) (pss_one (ps_ret (pe_tup (pa_cons pe_str pa_nil)))) pss_nil)
  (pss_one (ps_ret (pe_tup (pa_cons pe_str (pa_cons (pe_c c__law_far hr (by first | decide | omega) rfl (pa_cons (pv 0) (pa_cons (pv 1) (pa_cons (pv 2) (pa_cons (pv 3) (pa_cons (pv 4) pa_nil)))))) pa_nil))))))), ?_⟩
    refine zstart [some (.str (S L)), some (vt), some (va), some (v), some (x)] rfl ?_; try dsimp only [zK, zK2]
    walk_at "zz"
    refine ⟨L, v, d, rfl, rv, sv, fun H1 s1 => ?_⟩
    walk_at "zz"
    refine brnb (fun hb => ?_) fun hb => ?_
    · walk_at "zz"
      refine ⟨by show 1 ≤ sizeLine; decide, fun p hp => ?_⟩
      refine k _ _ (s1.newz hp) ?_
      unfold due6
      rw [hb]
      exact .tup upd_same id (.cons (.str _) .nil)
    obtain ⟨u, rfl, rfl⟩ := rv.isStr (isWord_str hb)
    have hu : ∀ c ∈ u, c ∈ L := fun c hc => of_decide_eq_true (List.all_eq_true.mp hb c hc)
    walk_at "zz"
    refine ⟨x, e, rfl, rx.same s1, fun H2 s2 => ?_⟩
    have s02 := s1.trans s2
    have numb : ∀ (H' : Hp) (p : Addr), Same H H' → H' p = none → isTimes e = false → Rp N0 (upd H' p (.tup [.str (S (codes (PySem.Str.ofString "number")))])) (.ref p) (due6 L t a (.str (S u)) e) := fun H' p _ hp he => by
      unfold due6
      rw [hb, he]
      exact .tup upd_same id (.cons (.str _) .nil)
    walk_at "zz"
    refine brnb (fun hi => ?_) fun hi => ?_
    · walk_at "zz"
      refine ⟨by show 1 ≤ sizeLine; decide, fun p hp => ?_⟩
      exact k _ _ (s02.newz hp) (numb _ p s02 hp (by cases e <;> first | rfl | (simp [isInt] at hi)))
    obtain ⟨i, rfl⟩ : ∃ i, e = .int i := by cases e <;> first | exact ⟨_, rfl⟩ | (simp [isInt] at hi)
    have ex := rx.intS
    subst ex
    walk_at "zz"
    refine brd (fun h0 => ?_) fun h0 => ?_
    · walk_at "zz"
      refine ⟨by show 1 ≤ sizeLine; decide, fun p hp => ?_⟩
      refine k _ _ (s02.newz hp) (numb _ p s02 hp ?_)
      show (decide (0 ≤ i) && decide (i ≤ 10 ^ 30)) = false
      rw [decide_eq_false (show ¬ 0 ≤ i by omega), Bool.false_and]
    walk_at "zz"
    refine i_pow ⟨by decide, by decide, by decide⟩ ?_
    rw [show Int.toNat 30 = 30 from rfl]
    walk_at "zz"
    refine brd (fun h1 => ?_) fun h1 => ?_
    · walk_at "zz"
      refine ⟨by show 1 ≤ sizeLine; decide, fun p hp => ?_⟩
      refine k _ _ (s02.newz hp) (numb _ p s02 hp ?_)
      show (decide (0 ≤ i) && decide (i ≤ 10 ^ 30)) = false
      rw [decide_eq_false (show ¬ i ≤ 10 ^ 30 by omega), Bool.and_false]
    obtain ⟨n, rfl⟩ := Int.eq_ofNat_of_zero_le (show 0 ≤ i by omega)
    have he : isTimes (.int (n : Int)) = true := by
      show (decide (0 ≤ (n : Int)) && decide ((n : Int) ≤ 10 ^ 30)) = true
      rw [decide_eq_true (show 0 ≤ (n : Int) by omega), decide_eq_true (show (n : Int) ≤ 10 ^ 30 by omega)]; rfl
    walk_at "zz"
    refine ⟨L, vt, va, t, a, u, n, rfl, rt.same s02, ra.same s02, pt, hu, fun H3 s3 => ?_⟩
    walk_at "zz"
    refine ⟨by show 2 ≤ sizeLine; decide, fun p hp => ?_⟩
    refine k _ _ ((s02.trans s3).newz hp) ?_
    unfold due6
    rw [hb, he]
    exact .tup upd_same id (.cons (.str _) (.cons (.bl _) .nil))
end
end Y

namespace Y
open PySem PySem.Spec PyProof.Rows L2 Z
open C8 (tCut pss_cut Cal pe_c Met pe_mt pe_mt0 Mak pe_mk)
abbrev s_law : Stmt := topS 39
abbrev n_law : List Str := ["_law_script", "_law_hand_here", "_law_letters_here", "_law_table", "_law_accepts", "_law_machine", "_law_turn", "_law_word_here", "_law_way", "_law_times_here", "_law_due_here", "_law_found"]
theorem sc_law : FnScope n_law ["_law_script"] (defScope s_law) := ⟨rfl, rfl, rfl, by decide +kernel, rfl, by decide +kernel, by decide +kernel⟩

theorem i_make {C : Addr} {sp : Sp} {dvs : List V} {E : XK} {t : TA} {σ : L2.St} {H : Hp} {Q : VK} (q : t σ H fun vs H1 => ∀ x dx, H1 x = none → H1 dx = none → dx ≠ x →
  sp (.ref x :: (vs ++ dvs)) (upd (upd H1 dx (.own x)) x (.ins C dx [])) (fun v H2 => v = .non ∧ Q (.ref x) H2) E) : tMake C sp dvs E t σ H Q := q
theorem due_three (L : List Nat) (t : List (List Nat)) (a : List Nat) (d e : PyData) : due6 L t a d e = wordD ∨ due6 L t a d e = numD ∨
    ∃ u n, d = .str (S u) ∧ isWord L d = true ∧ e = .int (n : Nat) ∧ n ≤ 10 ^ 30 ∧ due6 L t a d e = toldD (farSays L t a u n) := by
  unfold due6
  cases hb : isWord L d with
  | false => exact .inl rfl
  | true =>
    cases he : isTimes e with
    | false => exact .inr (.inl rfl)
    | true =>
      obtain ⟨n, rfl, hn⟩ := isTimes_int he
      cases d with
      | str w => exact .inr (.inr ⟨codes w, n, by rw [S_codes], rfl, rfl, hn, rfl⟩)
      | _ => simp [isWord] at hb
theorem due_told {L : List Nat} {t : List (List Nat)} {a u : List Nat} {n : Nat} (hb : isWord L (.str (S u)) = true) (hn : n ≤ 10 ^ 30) : due6 L t a (.str (S u)) (.int (n : Int)) = toldD (farSays L t a u n) := by
  unfold due6
  have he : isTimes (.int (n : Int)) = true := by
    show (decide (0 ≤ (n : Int)) && decide ((n : Int) ≤ 10 ^ 30)) = true
    rw [decide_eq_true (show 0 ≤ (n : Int) by omega), decide_eq_true (show (n : Int) ≤ 10 ^ 30 by omega)]; rfl
  rw [hb, he]; rfl
theorem due_no (L : List Nat) (t : List (List Nat)) (a : List Nat) (d e : PyData) : noD (due6 L t a d e) = true := by
  rcases due_three L t a d e with h | h | ⟨u, n, _, _, _, _, h⟩ <;> rw [h] <;> rfl
theorem told_shaped (b : Bool) : SeqAt.shaped (toldD b) = true := by cases b <;> decide +kernel
theorem told_eqv (b : Bool) : PyData.eqv (toldD b) (toldD b) = true := by cases b <;> decide +kernel
theorem due_shaped (L : List Nat) (t : List (List Nat)) (a : List Nat) (d e : PyData) : SeqAt.shaped (due6 L t a d e) = true := by
  rcases due_three L t a d e with h | h | ⟨u, n, _, _, _, _, h⟩ <;> rw [h]
  · decide +kernel
  · decide +kernel
  · exact told_shaped _
theorem due_eqv (L : List Nat) (t : List (List Nat)) (a : List Nat) (d e : PyData) : PyData.eqv (due6 L t a d e) (due6 L t a d e) = true := by
  rcases due_three L t a d e with h | h | ⟨u, n, _, _, _, _, h⟩ <;> rw [h]
  · decide +kernel
  · decide +kernel
  · exact told_eqv _
theorem one_tup {H : Hp} {v : V} {x : PyData} (r : Rp N0 H v (.tuple [x])) : ∃ q y, v = .ref q ∧ H q = some (.tup [y]) := by
  obtain ⟨q, xs, rfl, e, _, rx⟩ := Rp.tupS r
  obtain ⟨x0, ys, rfl, _, rx2⟩ := RpAll.consS rx
  rw [RpAll.nilS rx2] at e
  exact ⟨q, x0, rfl, e⟩
theorem told_tup {H : Hp} {v : V} {b : Bool} (r : Rp N0 H v (toldD b)) : ∃ q y, v = .ref q ∧ H q = some (.tup [y, .bl b]) := by
  obtain ⟨q, xs, rfl, e, _, rx⟩ := Rp.tupS r
  obtain ⟨x0, ys, rfl, _, rx2⟩ := RpAll.consS rx
  obtain ⟨x1, zs, rfl, rb, rx3⟩ := RpAll.consS rx2
  rw [RpAll.nilS rx3] at e
  cases rb
  exact ⟨q, x0, rfl, e⟩
theorem rep_in {L u : List Nat} (hu : ∀ c ∈ u, c ∈ L) (k : Nat) : ∀ c ∈ (List.replicate k u).flatten, c ∈ L := fun c hc => by
  obtain ⟨l, hl, hcl⟩ := List.mem_flatten.mp hc
  rw [(List.mem_replicate.mp hl).2] at hcl
  exact hu c hcl
theorem word_of {L u : List Nat} (hu : ∀ c ∈ u, c ∈ L) : isWord L (.str (S u)) = true := List.all_eq_true.mpr fun c hc => decide_eq_true (hu c hc)
theorem rep_len (k : Nat) (u : List Nat) : (List.replicate k u).flatten.length = k * u.length := by
  rw [List.length_flatten, List.map_replicate, List.sum_replicate_nat]
/-- the word so many times is said as it is told -/
theorem says_far_eq {L : List Nat} {t : List (List Nat)} {a u : List Nat} (pt : Parts L t a) (hu : ∀ c ∈ u, c ∈ L) {n mn : Nat} (h : n * u.length ≤ 200) (hm : mn = n ∨ 200 < n) : decide (led L t 0 (List.replicate mn u).flatten ∈ a) = farSays L t a u n := by
  unfold farSays
  rcases hm with rfl | hm
  · rw [led_rep pt hu _ _ pt.lo]
  · have h0 : u.length = 0 := by
      rcases Nat.eq_zero_or_pos u.length with z | z
      · exact z
      · have := Nat.mul_le_mul (show 201 ≤ n by omega) z
        omega
    have hn : u = [] := List.eq_nil_of_length_eq_zero h0
    subst hn
    rw [← led_rep pt hu n _ pt.lo]
    simp
theorem three_eq {L : List Nat} {t : List (List Nat)} {a u : List Nat} (pt : Parts L t a) (hu : ∀ c ∈ u, c ∈ L) (n : Nat) : farSays L t a (List.replicate 3 u).flatten n = farSays L t a u (n * 3) := by
  unfold farSays
  rw [it_three pt hu n 0 pt.lo]
section
variable {P : Program} {w : World} {K : PySem.W.Frag} {mg : Str → Option Value} {base : Heap}
theorem ok_law {C C2 : Addr} {f : Addr} {fd : FuncData} (F : Fun K "law" "law" s_law f fd) (B : Bi mg) (c__law_hand : Cal P w K mg base 1 "_law_hand" (spHand K) []) (c__law_draw : Cal P w K mg base 1 "_law_draw" spDraw []) (c__law_parts : Cal P w K mg base 4 "_law_parts" spParts []) (m_Machine : Mak P w K mg base 5 "Machine" C (spInit C) [])
    (c__law_word : Cal P w K mg base 2 "_law_word" spWord []) (c__law_odd : Cal P w K mg base 2 "_law_odd" spOdd []) (c__law_signs : Cal P w K mg base 2 "_law_signs" spSigns []) (c__law_times : Cal P w K mg base 3 "_law_times" spTimes []) (c__law_due : Cal P w K mg base 2 "_law_due" spDue [])
    (c__law_told : Cal P w K mg base 4 "_law_told" (spTold K C) []) (c__law_flag : Cal P w K mg base 1 "_law_flag" spFlag []) (c_says : CalX P w K mg base 2 "says" (spSays K C C2)) : FnOk P w K mg base CX0 7 f fd ["_law_script"] (spLaw K) := by
  refine F.ok sc_law (fun vs H Q E h => ?_) (fun cdv A outer s H vs Q E hr h => ?_)
  · obtain ⟨a, ns, rfl, _⟩ := h
    rfl
  · obtain ⟨a, ns, rfl, hs, hl, k⟩ := h
    refine ⟨_, (pss_cons (ps_set (i := 1) sc_law.nd rfl (by first | exact Or.inl rfl | exact Or.inr rfl) (pe_c c__law_hand hr (by first | decide | omega) rfl (pa_cons (pv 0) pa_nil)))
  (pss_cons (ps_asg (pe_c c__law_parts hr (by first | decide | omega) rfl (pa_cons (pv 1) (pa_cons pe_int (pa_cons pe_int pa_nil)))) (pg_tup rfl (pgs_cons (pg_name (i := 2) sc_law.nd rfl (by first | exact Or.inl rfl | exact Or.inr rfl)) (pgs_cons (pg_name (i := 3) sc_law.nd rfl (by first | exact Or.inl rfl | exact Or.inr rfl)) (pgs_cons (pg_name (i := 4) sc_law.nd rfl (by first | exact Or.inl rfl | exact Or.inr rfl)) pgs_nil)))))
  (pss_cons (ps_set (i := 5) sc_law.nd rfl (by first | exact Or.inl rfl | exact Or.inr rfl) (pe_mk m_Machine hr (by first | decide | omega) rfl (pa_cons (pv 2) (pa_cons (pv 3) (pa_cons (pv 4) pa_nil)))))
  (pss_cons (ps_for PassesOwn.never rfl (pi_range1 rfl B.range (pa_cons pe_int pa_nil)) (pg_name (i := 6) sc_law.nd rfl (by first | exact Or.inl rfl | exact Or.inr rfl)) (pss_cons (ps_set (i := 7) sc_law.nd rfl (by first | exact Or.inl rfl | exact Or.inr rfl) (pe_c c__law_word hr (by first | decide | omega) rfl (pa_cons (pv 1) (pa_cons (pv 2) (pa_cons (pe_c c__law_draw hr (by first | decide | omega) rfl (pa_cons (pv 1) (pa_cons pe_int pa_nil))) pa_nil)))))
  (pss_cons (ps_set (i := 8) sc_law.nd rfl (by first | exact Or.inl rfl | exact Or.inr rfl) (pe_c c__law_draw hr (by first | decide | omega) rfl (pa_cons (pv 1) (pa_cons pe_int pa_nil))))
  (pss_cut (ps_if (pt_cmpR op_eq (pv 8) pe_int (nomark _)) (pss_one (ps_set (i := 7) sc_law.nd rfl (by first | exact Or.inl rfl | exact Or.inr rfl) (pe_c c__law_odd hr (by first | decide | omega) rfl (pa_cons (pv 1) pa_nil)))) pss_nil)
  (pss_cut (ps_if (pt_cmpR op_eq (pv 8) pe_int (nomark _)) (pss_one (ps_set (i := 7) sc_law.nd rfl (by first | exact Or.inl rfl | exact Or.inr rfl) (pe_op z_adds (pv 7) (pe_c c__law_signs hr (by first | decide | omega) rfl (pa_cons (pv 1) (pa_cons pe_int pa_nil)))))) pss_nil)
  (pss_cut (ps_if (pt_cmpR op_eq (pv 8) pe_int (nomark _)) (pss_one (ps_set (i := 7) sc_law.nd rfl (by first | exact Or.inl rfl | exact Or.inr rfl) (pe_slice sl_str (pe_op op_rep_str (pv 7) pe_int) po_none (po_some pe_int)))) pss_nil)
  (pss_cons (ps_set (i := 9) sc_law.nd rfl (by first | exact Or.inl rfl | exact Or.inr rfl) (pe_c c__law_times hr (by first | decide | omega) rfl (pa_cons (pv 1) pa_nil)))
  (pss_cons (ps_set (i := 10) sc_law.nd rfl (by first | exact Or.inl rfl | exact Or.inr rfl) (pe_c c__law_due hr (by first | decide | omega) rfl (pa_cons (pv 2) (pa_cons (pv 3) (pa_cons (pv 4) (pa_cons (pv 7) (pa_cons (pv 9) pa_nil)))))))
  (pss_cons (ps_set (i := 11) sc_law.nd rfl (by first | exact Or.inl rfl | exact Or.inr rfl) (pe_c c__law_told hr (by first | decide | omega) rfl (pa_cons (pv 5) (pa_cons (pv 7) (pa_cons (pv 9) pa_nil)))))
  (pss_cons (ps_if (PW.pt (pw_or (pt_cmpR (r := rNeD K) (op_neD hr.units) (pv 11) (pv 10) (nomark _)) (pw_or1 (PW.pt (pw_and (pt_cmpR op_eq (pe_callB (r := zLen K) zc_len (by rfl) B.len (by decide +kernel) (pa_cons (pv 10) pa_nil)) pe_int (nomark _)) (pw_and1 (pt_not (pt_val (pe_callB (r := zIsi K) zc_isi (by rfl) B.isinstance (by decide +kernel) (pa_cons (pe_ix (r := rIxT K) ix_tup (pv 11) pe_int (fun _ _ => rfl)) (pa_cons (pe_bltn (by rfl) B.bool (by decide +kernel) (rel_ty "bool")) pa_nil))))))))))) (pss_one ps_never) pss_nil)
  (pss_cut (ps_if (PW.pt (pw_and (pt_cmpR op_eq (pe_callB (r := zLen K) zc_len (by rfl) B.len (by decide +kernel) (pa_cons (pv 10) pa_nil)) pe_int (nomark _)) (pw_and1 (pt_cmpR z_le (pe_op z_mul (pv 9) (pe_callB zc_lens (by rfl) B.len (by decide +kernel) (pa_cons (pv 7) pa_nil))) pe_int (nomark _))))) (pss_one (ps_if (pt_not (pt_val (pe_c c__law_flag hr (by first | decide | omega) rfl (pa_cons (pe_cX c_says hr (by first | decide | omega) rfl takes0 (pa_cons (pv 5) (pa_cons (pe_op op_rep_str (pv 7) (pe_callB (zc_min rfl) (by rfl) B.min (by decide +kernel) (pa_cons (pv 9) (pa_cons pe_int pa_nil)))) pa_nil))) (pa_cons (pe_ix (r := rIxT K) ix_tup (pv 10) pe_int (fun _ _ => rfl)) pa_nil))))) (pss_one ps_never) pss_nil)) pss_nil)
  (pss_one (ps_if (PW.pt (pw_and (pt_cmpR op_eq (pe_callB (r := zLen K) zc_len (by rfl) B.len (by decide +kernel) (pa_cons (pv 10) pa_nil)) pe_int (nomark _)) (pw_and (pt_cmpR z_le (pe_callB zc_lens (by rfl) B.len (by decide +kernel) (pa_cons (pv 7) pa_nil)) pe_int (nomark _)) (pw_and1 (pt_cmpR z_le (pv 9) (pe_op z_pow pe_int pe_int) (nomark _)))))) (pss_one (ps_if (pt_cmpR (r := rNeD K) (op_neD hr.units) (pe_c c__law_told hr (by first | decide | omega) rfl (pa_cons (pv 5) (pa_cons (pe_op op_rep_str (pv 7) pe_int) (pa_cons (pv 9) pa_nil)))) (pe_c c__law_told hr (by first | decide | omega) rfl (pa_cons (pv 5) (pa_cons (pv 7) (pa_cons (pe_op z_mul (pv 9) pe_int) pa_nil)))) (nomark _)) (pss_one ps_never) pss_nil)) pss_nil)))))))))))))
  (pss_one (ps_ret pe_bl)))))), ?_⟩
    refine zstart [some (.ref a), none, none, none, none, none, none, none, none, none, none, none] rfl ?_; try dsimp only [zK, zK2]
    walk_at "zz"
    refine ⟨a, ns, rfl, hs, by omega, fun h H1 hn ok1 s1 => ?_⟩
    walk_at "zz"
    refine ⟨h, rfl, ok1, fun p vt va L tab acc H2 PT ep nph rt ra g2 => ?_⟩
    walk_at "zz"
    refine i_make ?_
    walk_at "zz"
    refine fun m dx hm hdx ndx => ?_
    have nmh := g2.ok.ne hm
    have gA := ((Gd.refl g2.ok).new (o := .own m) hdx).new (o := .ins C dx []) (by rw [upd_ne (fun q => ndx q.symm)]; exact hm)
    have em : (upd (upd H2 dx (.own m)) m (.ins C dx [])) m = some (.ins C dx []) := upd_same
    generalize upd (upd H2 dx (.own m)) m (.ins C dx []) = H3 at gA em ⊢
    refine ⟨m, dx, vt, va, L, tab, acc, rfl, em, PT, (rt.mono gA.toKp).free, (ra.mono gA.toKp).free, fun H4 H5 s4 e5 => ⟨rfl, ?_⟩⟩
    have gB : Gd h H2 H5 := by rw [e5]; exact (gd_same gA s4).mutz hm
    have em5 : H5 m = some (.ins C dx [("_letters", .str (S L)), ("_table", vt), ("_accepts", va)]) := by rw [e5]; exact upd_same
    have rt5 := rt.mono gB.toKp
    have ra5 := ra.mono gB.toKp
    have ok5 := gB.ok
    clear e5 em gA gB s4
    have hL1 := PT.ltr.2.2.1
    have hL4 := PT.ltr.2.2.2
    walk_at "zz"
    refine i_KR1 (by omega) ?_
    have IM : ∀ {H' : Hp}, Gd h H5 H' → IsM K H' C m L tab acc := fun g => ⟨dx, vt, va, g.kp _ _ em5 nmh, (rt5.mono g.toKp).free, (ra5.mono g.toKp).free⟩
    refine l_range (fun i σ H' => Gd h H5 H' ∧ ∃ v6 v7 v8 v9 v10 v11 : Option V, σ = [some (.ref a), some (.ref h), some (.str (S L)), some vt, some va, some (.ref m), v6, v7, v8, v9, v10, v11]) ⟨Gd.refl ok5, none, none, none, none, none, none, rfl⟩ ?_ ?_
    · rintro i σ H6 hi ⟨g6, v6, v7, v8, v9, v10, v11, rfl⟩
      walk_at "zz"
      refine use_draw g6.ok (by decide) (by decide) fun r1 H7 hr1 g7 => ?_
      walk_at "zz"
      refine ⟨h, L, r1, rfl, g7.ok, by omega, by omega, by omega, fun wd H8 hwl _ g8 => ?_⟩
      walk_at "zz"
      have g08 := (g6.trans g7).trans g8
      refine use_draw g08.ok (by decide) (by decide) fun way H9 hr2 g9 => ?_
      have g09 := g08.trans g9
      walk_at "zz"
      refine i_cut (fun σ' H' => Gd h H5 H' ∧ ∃ (v : V) (d : PyData), Thing d ∧ Rp (· = h) H' v d ∧ (¬ (way : Int) = 0 → ∃ u : List Nat, u.length ≤ 11 ∧ v = .str (S u) ∧ d = .str (S u)) ∧ σ' = [some (.ref a), some (.ref h), some (.str (S L)), some vt, some va, some (.ref m), some (.int (i : Int)), some v, some (.int (way : Int)), v9, v10, v11]) ?_ ?_
      · walk_at "zz"
        refine brd (fun q => ?_) fun q => ?_
        · walk_at "zz"
          refine ⟨h, rfl, g09.ok, fun v d H10 td rd g10 => ?_⟩
          walk_at "zz"
          exact ⟨g09.trans g10, v, d, td, rd, fun z => absurd q z, rfl⟩
        · walk_at "zz"
          exact ⟨g09, _, _, th_str (w := S wd) (by show wd.length ≤ 200; omega), .str _, fun _ => ⟨wd, by omega, rfl, rfl⟩, rfl⟩
      rintro σ' H10 ⟨g10, v, d, td, rd, hv, rfl⟩
      refine i_cut (fun σ' H' => Gd h H5 H' ∧ ∃ (v : V) (d : PyData), Thing d ∧ Rp (· = h) H' v d ∧ (¬ (way : Int) = 0 → ¬ (way : Int) = 1 → ∃ u : List Nat, u.length ≤ 11 ∧ v = .str (S u) ∧ d = .str (S u)) ∧ σ' = [some (.ref a), some (.ref h), some (.str (S L)), some vt, some va, some (.ref m), some (.int (i : Int)), some v, some (.int (way : Int)), v9, v10, v11]) ?_ ?_
      · walk_at "zz"
        refine brd (fun q => ?_) fun q => ?_
        · obtain ⟨u, hul, rfl, rfl⟩ := hv (by omega)
          walk_at "zz"
          refine ⟨h, rfl, g10.ok, fun c H11 g11 => ?_⟩
          walk_at "zz"
          exact ⟨g10.trans g11, _, _, th_str (w := S (u ++ [c])) (by show (u ++ [c]).length ≤ 200; rw [List.length_append]; show _ + 1 ≤ _; omega), .str _, fun _ z => absurd q z, rfl⟩
        · walk_at "zz"
          exact ⟨g10, v, d, td, rd, fun z _ => hv z, rfl⟩
      rintro σ' H11 ⟨g11, v, d, td, rd, hv, rfl⟩
      refine i_cut (fun σ' H' => Gd h H5 H' ∧ ∃ (v : V) (d : PyData), Thing d ∧ Rp (· = h) H' v d ∧ σ' = [some (.ref a), some (.ref h), some (.str (S L)), some vt, some va, some (.ref m), some (.int (i : Int)), some v, some (.int (way : Int)), v9, v10, v11]) ?_ ?_
      · walk_at "zz"
        refine brd (fun q => ?_) fun q => ?_
        · obtain ⟨u, hul, rfl, rfl⟩ := hv (by omega) (by omega)
          walk_at "zz"
          refine i_repS (by decide) (by show u.length * 20 ≤ _; omega) (by decide) ?_
          walk_at "zz"
          rw [show Int.toNat 20 = 20 from rfl]
          refine i_slTo (n := 200) (by rw [rep_len]; omega) ?_
          walk_at "zz"
          exact ⟨g11, _, _, th_str (w := S ((List.replicate 20 u).flatten.take 200)) (by show ((List.replicate 20 u).flatten.take 200).length ≤ 200; rw [List.length_take]; omega), .str _, rfl⟩
        · walk_at "zz"
          exact ⟨g11, v, d, td, rd, rfl⟩
      rintro σ' H12 ⟨g12, v, d, td, rd, rfl⟩
      clear hv
      walk_at "zz"
      refine ⟨h, rfl, g12.ok, fun x e H13 rx g13' => ?_⟩
      have g13 := g12.trans g13'
      have rd13 := rd.mono g13'.toKp
      walk_at "zz"
      refine ⟨L, vt, va, tab, acc, v, x, d, e, rfl, (rt5.mono g13.toKp).free, (ra5.mono g13.toKp).free, PT, rd13.free, td.2, rx.free, fun y H14 s14 ry => ?_⟩
      have g14 := gd_same g13 s14
      have rd14 := rd13.same s14
      have rx14 := rx.same s14
      walk_at "zz"
      refine ⟨m, L, tab, acc, v, x, d, e, rfl, IM g14, PT, rd14.free, td.1, rx14.free, fun z H15 s15 rz => ?_⟩
      have g15 := gd_same g14 s15
      have rd15 := rd14.same s15
      have rx15 := rx14.same s15
      have ry15 := ry.same s15
      walk_at "zz"
      refine ⟨_, _, rz.dp (due_no L tab acc d e), ry15.dp (due_no L tab acc d e), due_shaped L tab acc d e, due_shaped L tab acc d e, ?_⟩
      rw [due_eqv]
      walk_at "zz"
      have ST : (∃ q1 y1, y = .ref q1 ∧ H15 q1 = some (.tup [y1])) ∨ ∃ u n, d = .str (S u) ∧ isWord L d = true ∧ e = .int (n : Nat) ∧ n ≤ 10 ^ 30 ∧ due6 L tab acc d e = toldD (farSays L tab acc u n) := by
        rcases due_three L tab acc d e with E | E | h
        · rw [E] at ry15
          exact .inl (one_tup ry15)
        · rw [E] at ry15
          exact .inl (one_tup ry15)
        · exact .inr h
      rcases ST with ⟨q1, y1, rfl, ey⟩ | ⟨u, n, rfl, hb, rfl, hn30, E⟩
      · refine i_lenT (SqT.of ey) ?_
        walk_at "zz"
        refine i_cut (fun σ' H' => H' = H15 ∧ σ' = [some (.ref a), some (.ref h), some (.str (S L)), some vt, some va, some (.ref m), some (.int (i : Int)), some v, some (.int (way : Int)), some x, some (.ref q1), some z]) ?_ ?_
        · walk_at "zz"
          refine i_lenT (SqT.of ey) ?_
          walk_at "zz"
          exact ⟨rfl, rfl⟩
        · rintro σ' H16 ⟨rfl, rfl⟩
          walk_at "zz"
          refine i_lenT (SqT.of ey) ?_
          walk_at "zz"
          exact ⟨g15, _, _, _, _, _, _, rfl⟩
      · rw [E] at ry15 rz
        obtain ⟨q1, y0, rfl, ey⟩ := told_tup ry15
        obtain ⟨q2, z0, rfl, ez⟩ := told_tup rz
        obtain rfl : v = .str (S u) := by cases rd15; rfl
        obtain rfl : x = .int (n : Int) := rx15.intS
        have hul : u.length ≤ 200 := td.2 _ rfl
        have hu : ∀ c ∈ u, c ∈ L := fun c hc => of_decide_eq_true (List.all_eq_true.mp hb c hc)
        refine i_lenT (SqT.of ey) ?_
        walk_at "zz"
        refine brd (fun _ => ?_) fun z => absurd rfl z
        walk_at "zz"
        refine i_isi (N := N0) (.bl _) (by decide) ?_
        rw [show isTy (.bool (farSays L tab acc u n)) "bool" = true from rfl]
        walk_at "zz"
        refine i_cut (fun σ' H' => Gd h H5 H' ∧ Same H15 H' ∧ σ' = [some (.ref a), some (.ref h), some (.str (S L)), some vt, some va, some (.ref m), some (.int (i : Int)), some (.str (S u)), some (.int (way : Int)), some (.int (n : Int)), some (.ref q1), some (.ref q2)]) ?_ ?_
        · walk_at "zz"
          refine i_lenT (SqT.of ey) ?_
          walk_at "zz"
          refine brd (fun _ => ?_) fun z => absurd rfl z
          walk_at "zz"
          refine brd (fun h200 => ?_) fun _ => ?_
          · walk_at "zz"
            refine i_callS ?_
            walk_at "zz"
            obtain ⟨mn, hm1, hm2, e1⟩ : ∃ mn : Nat, mn ≤ 200 ∧ (mn = n ∨ 200 < n) ∧ (if (200 : Int) < (n : Int) then (200 : Int) else (n : Int)) = (mn : Int) := by
              split
              · exact ⟨200, by omega, .inr (by omega), rfl⟩
              · exact ⟨n, by omega, .inl rfl, rfl⟩
            have hml := Nat.mul_le_mul hul hm1
            first | rw [e1] | (rw [show (if (n : Int) < 200 then (n : Int) else 200) = (mn : Int) by split <;> (split at e1 <;> omega)])
            refine i_repS (by omega) (by rw [Int.toNat_natCast]; omega) (by omega) ?_
            rw [Int.toNat_natCast]
            walk_at "zz"
            have hi2 := rep_in hu mn
            refine ⟨m, L, tab, acc, _, .str (S (List.replicate mn u).flatten), rfl, IM g15, PT, .str _, (by show (List.replicate mn u).flatten.length ≤ 90000; rw [rep_len, Nat.mul_comm]; omega), (fun q => by rw [word_of hi2] at q; cases q), fun u2 e2 _ H16 s16 => ?_⟩
            have e3 : (List.replicate mn u).flatten = u2 := congrArg codes (PyData.str.inj e2)
            subst e3
            rw [says_far_eq PT hu (show n * u.length ≤ 200 by exact_mod_cast h200) hm2]
            have ey16 := s16 _ _ ey
            walk_at "zz"
            refine ⟨_, _, rfl, fun H17 s17 => ?_⟩
            rw [beq_self_eq_true]
            walk_at "zz"
            exact ⟨gd_same (gd_same g15 s16) s17, s16.trans s17, rfl⟩
          · walk_at "zz"
            exact ⟨g15, Same.refl _, rfl⟩
        · rintro σ' H16 ⟨g16, s16, rfl⟩
          walk_at "zz"
          refine i_lenT (SqT.of (s16 _ _ ey)) ?_
          walk_at "zz"
          refine brd (fun _ => ?_) fun z => absurd rfl z
          walk_at "zz"
          refine brd (fun h60 => ?_) fun _ => ?_
          · walk_at "zz"
            refine i_pow ⟨by decide, by decide, by decide⟩ ?_
            rw [show Int.toNat 29 = 29 from rfl]
            walk_at "zz"
            refine brd (fun h29 => ?_) fun _ => ?_
            · walk_at "zz"
              refine i_repS (by decide) (by show u.length * 3 ≤ _; omega) (by decide) ?_
              rw [show Int.toNat 3 = 3 from rfl]
              walk_at "zz"
              refine ⟨m, L, tab, acc, _, _, .str (S (List.replicate 3 u).flatten), .int (n : Int), rfl, IM g16, PT, .str _, by show (List.replicate 3 u).flatten.length ≤ 90000; rw [rep_len]; omega, .int _, fun w1 H17 s17 rw1 => ?_⟩
              rw [due_told (word_of (rep_in hu 3)) (show n ≤ 10 ^ 30 by omega), three_eq PT hu] at rw1
              have g17 := gd_same g16 s17
              walk_at "zz"
              refine ⟨m, L, tab, acc, _, _, .str (S u), .int ((n * 3 : Nat) : Int), rfl, IM g17, PT, .str _, td.1, .int _, fun w2 H18 s18 rw2 => ?_⟩
              rw [due_told hb (show n * 3 ≤ 10 ^ 30 by omega)] at rw2
              have g18 := gd_same g17 s18
              refine ⟨_, _, (rw1.same s18).dp rfl, rw2.dp rfl, told_shaped _, told_shaped _, ?_⟩
              rw [told_eqv]
              walk_at "zz"
              exact ⟨g18, _, _, _, _, _, _, rfl⟩
            · walk_at "zz"
              exact ⟨g16, _, _, _, _, _, _, rfl⟩
          · walk_at "zz"
            exact ⟨g16, _, _, _, _, _, _, rfl⟩
    · rintro σ H6 ⟨g6, v6, v7, v8, v9, v10, v11, rfl⟩
      walk_at "zz"
      exact k _
end
end Y

namespace Y
open PySem PySem.Spec PyProof.Rows L2 Z
open C8 (tCut pss_cut Cal pe_c Met pe_mt pe_mt0 Mak pe_mk)
theorem all_mk {l : PySem.W.OpenLaw} {w : World} {K : PySem.W.Frag} {h : Heap} {mg : Str → Option Value} {fa f_is_integer f_is_between f_is_ascending f_is_letters f_is_word f_end_of f_ends_of f_then f_says f_says_far f__is_table f__is_accepts f__is_states f__law_hand f__law_draw f__law_letters f__law_rows f__law_shuffled f__law_parts f__law_word f__law_is_word f__law_odd f__law_signs f__law_is_whole f__law_flag f__law_told f__law_far f__law_times f__law_due f_law : Addr} (X : K.In h) (G : h.Ns mainGlobals mg) (hfa : mg "law" = some (.ref fa))
    {od_is_integer an_is_integer od_is_between an_is_between od_is_ascending an_is_ascending od_is_letters an_is_letters od_is_word an_is_word od_end_of an_end_of od_ends_of an_ends_of od_then an_then od_says an_says od_says_far an_says_far od__is_table an__is_table od__is_accepts an__is_accepts od__is_states an__is_states od__law_hand an__law_hand od__law_draw an__law_draw od__law_letters an__law_letters od__law_rows an__law_rows od__law_shuffled an__law_shuffled od__law_parts an__law_parts od__law_word an__law_word od__law_is_word an__law_is_word od__law_odd an__law_odd od__law_signs an__law_signs od__law_is_whole an__law_is_whole od__law_flag an__law_flag od__law_told an__law_told od__law_far an__law_far od__law_times an__law_times od__law_due an__law_due od_law an_law : Option Addr} {sl_is_integer sl_is_between sl_is_ascending sl_is_letters sl_is_word sl_end_of sl_ends_of sl_then sl_says sl_says_far sl__is_table sl__is_accepts sl__is_states sl__law_hand sl__law_draw sl__law_letters sl__law_rows sl__law_shuffled sl__law_parts sl__law_word sl__law_is_word sl__law_odd sl__law_signs sl__law_is_whole sl__law_flag sl__law_told sl__law_far sl__law_times sl__law_due sl_law : Array (Option Value)} {oc_is_integer kV_is_integer dc_is_integer pm_is_integer cd_is_integer ct_is_integer oc_is_between kV_is_between dc_is_between pm_is_between cd_is_between ct_is_between oc_is_ascending kV_is_ascending dc_is_ascending pm_is_ascending cd_is_ascending ct_is_ascending oc_is_letters kV_is_letters dc_is_letters pm_is_letters cd_is_letters ct_is_letters oc_is_word kV_is_word dc_is_word pm_is_word cd_is_word ct_is_word oc_end_of kV_end_of dc_end_of pm_end_of cd_end_of ct_end_of oc_ends_of kV_ends_of dc_ends_of pm_ends_of cd_ends_of ct_ends_of oc_then kV_then dc_then pm_then cd_then ct_then oc_says kV_says dc_says pm_says cd_says ct_says oc_says_far kV_says_far dc_says_far pm_says_far cd_says_far ct_says_far oc__is_table kV__is_table dc__is_table pm__is_table cd__is_table ct__is_table oc__is_accepts kV__is_accepts dc__is_accepts pm__is_accepts cd__is_accepts ct__is_accepts oc__is_states kV__is_states dc__is_states pm__is_states cd__is_states ct__is_states oc__law_hand kV__law_hand dc__law_hand pm__law_hand cd__law_hand ct__law_hand oc__law_draw kV__law_draw dc__law_draw pm__law_draw cd__law_draw ct__law_draw oc__law_letters kV__law_letters dc__law_letters pm__law_letters cd__law_letters ct__law_letters oc__law_rows kV__law_rows dc__law_rows pm__law_rows cd__law_rows ct__law_rows oc__law_shuffled kV__law_shuffled dc__law_shuffled pm__law_shuffled cd__law_shuffled ct__law_shuffled oc__law_parts kV__law_parts dc__law_parts pm__law_parts cd__law_parts ct__law_parts oc__law_word kV__law_word dc__law_word pm__law_word cd__law_word ct__law_word oc__law_is_word kV__law_is_word dc__law_is_word pm__law_is_word cd__law_is_word ct__law_is_word oc__law_odd kV__law_odd dc__law_odd pm__law_odd cd__law_odd ct__law_odd oc__law_signs kV__law_signs dc__law_signs pm__law_signs cd__law_signs ct__law_signs oc__law_is_whole kV__law_is_whole dc__law_is_whole pm__law_is_whole cd__law_is_whole ct__law_is_whole oc__law_flag kV__law_flag dc__law_flag pm__law_flag cd__law_flag ct__law_flag oc__law_told kV__law_told dc__law_told pm__law_told cd__law_told ct__law_told oc__law_far kV__law_far dc__law_far pm__law_far cd__law_far ct__law_far oc__law_times kV__law_times dc__law_times pm__law_times cd__law_times ct__law_times oc__law_due kV__law_due dc__law_due pm__law_due cd__law_due ct__law_due oc_law kV_law dc_law pm_law cd_law ct_law : Value} {C C2 C3 : Addr} {f_Machine___init__ f_Machine_letters f_Machine_table f_Machine_accepts : Addr} {od_Machine___init__ an_Machine___init__ od_Machine_letters an_Machine_letters od_Machine_table an_Machine_table od_Machine_accepts an_Machine_accepts : Option Addr} {sl_Machine___init__ sl_Machine_letters sl_Machine_table sl_Machine_accepts : Array (Option Value)} {oc_Machine___init__ kV_Machine___init__ dc_Machine___init__ pm_Machine___init__ cd_Machine___init__ ct_Machine___init__ oc_Machine_letters kV_Machine_letters dc_Machine_letters pm_Machine_letters cd_Machine_letters ct_Machine_letters oc_Machine_table kV_Machine_table dc_Machine_table pm_Machine_table cd_Machine_table ct_Machine_table oc_Machine_accepts kV_Machine_accepts dc_Machine_accepts pm_Machine_accepts cd_Machine_accepts ct_Machine_accepts : Value}
    (a_is_integer : PySem.W.nsIn K mainGlobals "is_integer" = some (some (.ref f_is_integer)))
    (l_is_integer : K.lookup f_is_integer = some ⟨oc_is_integer, od_is_integer, .func (PySem.W.fnOf "is_integer" "is_integer" (defArgs s_is_integer) (defBody s_is_integer) (defScope s_is_integer) .none kV_is_integer dc_is_integer pm_is_integer an_is_integer cd_is_integer ct_is_integer), sl_is_integer⟩)
    (c_is_integer : PySem.W.codeIn K cd_is_integer "is_integer" = true) (k_is_integer : PySem.W.keepIn K (.ref f_is_integer) = true)
    (a_is_between : PySem.W.nsIn K mainGlobals "is_between" = some (some (.ref f_is_between)))
    (l_is_between : K.lookup f_is_between = some ⟨oc_is_between, od_is_between, .func (PySem.W.fnOf "is_between" "is_between" (defArgs s_is_between) (defBody s_is_between) (defScope s_is_between) .none kV_is_between dc_is_between pm_is_between an_is_between cd_is_between ct_is_between), sl_is_between⟩)
    (c_is_between : PySem.W.codeIn K cd_is_between "is_between" = true) (k_is_between : PySem.W.keepIn K (.ref f_is_between) = true)
    (a_is_ascending : PySem.W.nsIn K mainGlobals "is_ascending" = some (some (.ref f_is_ascending)))
    (l_is_ascending : K.lookup f_is_ascending = some ⟨oc_is_ascending, od_is_ascending, .func (PySem.W.fnOf "is_ascending" "is_ascending" (defArgs s_is_ascending) (defBody s_is_ascending) (defScope s_is_ascending) .none kV_is_ascending dc_is_ascending pm_is_ascending an_is_ascending cd_is_ascending ct_is_ascending), sl_is_ascending⟩)
    (c_is_ascending : PySem.W.codeIn K cd_is_ascending "is_ascending" = true) (k_is_ascending : PySem.W.keepIn K (.ref f_is_ascending) = true)
    (a_is_letters : PySem.W.nsIn K mainGlobals "is_letters" = some (some (.ref f_is_letters)))
    (l_is_letters : K.lookup f_is_letters = some ⟨oc_is_letters, od_is_letters, .func (PySem.W.fnOf "is_letters" "is_letters" (defArgs s_is_letters) (defBody s_is_letters) (defScope s_is_letters) .none kV_is_letters dc_is_letters pm_is_letters an_is_letters cd_is_letters ct_is_letters), sl_is_letters⟩)
    (c_is_letters : PySem.W.codeIn K cd_is_letters "is_letters" = true) (k_is_letters : PySem.W.keepIn K (.ref f_is_letters) = true)
    (a_is_word : PySem.W.nsIn K mainGlobals "is_word" = some (some (.ref f_is_word)))
    (l_is_word : K.lookup f_is_word = some ⟨oc_is_word, od_is_word, .func (PySem.W.fnOf "is_word" "is_word" (defArgs s_is_word) (defBody s_is_word) (defScope s_is_word) .none kV_is_word dc_is_word pm_is_word an_is_word cd_is_word ct_is_word), sl_is_word⟩)
    (c_is_word : PySem.W.codeIn K cd_is_word "is_word" = true) (k_is_word : PySem.W.keepIn K (.ref f_is_word) = true)
    (a_end_of : PySem.W.nsIn K mainGlobals "end_of" = some (some (.ref f_end_of)))
    (l_end_of : K.lookup f_end_of = some ⟨oc_end_of, od_end_of, .func (PySem.W.fnOf "end_of" "end_of" (defArgs s_end_of) (defBody s_end_of) (defScope s_end_of) .none kV_end_of dc_end_of pm_end_of an_end_of cd_end_of ct_end_of), sl_end_of⟩)
    (c_end_of : PySem.W.codeIn K cd_end_of "end_of" = true) (k_end_of : PySem.W.keepIn K (.ref f_end_of) = true)
    (a_ends_of : PySem.W.nsIn K mainGlobals "ends_of" = some (some (.ref f_ends_of)))
    (l_ends_of : K.lookup f_ends_of = some ⟨oc_ends_of, od_ends_of, .func (PySem.W.fnOf "ends_of" "ends_of" (defArgs s_ends_of) (defBody s_ends_of) (defScope s_ends_of) .none kV_ends_of dc_ends_of pm_ends_of an_ends_of cd_ends_of ct_ends_of), sl_ends_of⟩)
    (c_ends_of : PySem.W.codeIn K cd_ends_of "ends_of" = true) (k_ends_of : PySem.W.keepIn K (.ref f_ends_of) = true)
    (a_then : PySem.W.nsIn K mainGlobals "then" = some (some (.ref f_then)))
    (l_then : K.lookup f_then = some ⟨oc_then, od_then, .func (PySem.W.fnOf "then" "then" (defArgs s_then) (defBody s_then) (defScope s_then) .none kV_then dc_then pm_then an_then cd_then ct_then), sl_then⟩)
    (c_then : PySem.W.codeIn K cd_then "then" = true) (k_then : PySem.W.keepIn K (.ref f_then) = true)
    (a_says : PySem.W.nsIn K mainGlobals "says" = some (some (.ref f_says)))
    (l_says : K.lookup f_says = some ⟨oc_says, od_says, .func (PySem.W.fnOf "says" "says" (defArgs s_says) (defBody s_says) (defScope s_says) .none kV_says dc_says pm_says an_says cd_says ct_says), sl_says⟩)
    (c_says : PySem.W.codeIn K cd_says "says" = true) (k_says : PySem.W.keepIn K (.ref f_says) = true)
    (a_says_far : PySem.W.nsIn K mainGlobals "says_far" = some (some (.ref f_says_far)))
    (l_says_far : K.lookup f_says_far = some ⟨oc_says_far, od_says_far, .func (PySem.W.fnOf "says_far" "says_far" (defArgs s_says_far) (defBody s_says_far) (defScope s_says_far) .none kV_says_far dc_says_far pm_says_far an_says_far cd_says_far ct_says_far), sl_says_far⟩)
    (c_says_far : PySem.W.codeIn K cd_says_far "says_far" = true) (k_says_far : PySem.W.keepIn K (.ref f_says_far) = true)
    (a__is_table : PySem.W.nsIn K mainGlobals "_is_table" = some (some (.ref f__is_table)))
    (l__is_table : K.lookup f__is_table = some ⟨oc__is_table, od__is_table, .func (PySem.W.fnOf "_is_table" "_is_table" (defArgs s__is_table) (defBody s__is_table) (defScope s__is_table) .none kV__is_table dc__is_table pm__is_table an__is_table cd__is_table ct__is_table), sl__is_table⟩)
    (c__is_table : PySem.W.codeIn K cd__is_table "_is_table" = true) (k__is_table : PySem.W.keepIn K (.ref f__is_table) = true)
    (a__is_accepts : PySem.W.nsIn K mainGlobals "_is_accepts" = some (some (.ref f__is_accepts)))
    (l__is_accepts : K.lookup f__is_accepts = some ⟨oc__is_accepts, od__is_accepts, .func (PySem.W.fnOf "_is_accepts" "_is_accepts" (defArgs s__is_accepts) (defBody s__is_accepts) (defScope s__is_accepts) .none kV__is_accepts dc__is_accepts pm__is_accepts an__is_accepts cd__is_accepts ct__is_accepts), sl__is_accepts⟩)
    (c__is_accepts : PySem.W.codeIn K cd__is_accepts "_is_accepts" = true) (k__is_accepts : PySem.W.keepIn K (.ref f__is_accepts) = true)
    (a__is_states : PySem.W.nsIn K mainGlobals "_is_states" = some (some (.ref f__is_states)))
    (l__is_states : K.lookup f__is_states = some ⟨oc__is_states, od__is_states, .func (PySem.W.fnOf "_is_states" "_is_states" (defArgs s__is_states) (defBody s__is_states) (defScope s__is_states) .none kV__is_states dc__is_states pm__is_states an__is_states cd__is_states ct__is_states), sl__is_states⟩)
    (c__is_states : PySem.W.codeIn K cd__is_states "_is_states" = true) (k__is_states : PySem.W.keepIn K (.ref f__is_states) = true)
    (a__law_hand : PySem.W.nsIn K mainGlobals "_law_hand" = some (some (.ref f__law_hand)))
    (l__law_hand : K.lookup f__law_hand = some ⟨oc__law_hand, od__law_hand, .func (PySem.W.fnOf "_law_hand" "_law_hand" (defArgs s__law_hand) (defBody s__law_hand) (defScope s__law_hand) .none kV__law_hand dc__law_hand pm__law_hand an__law_hand cd__law_hand ct__law_hand), sl__law_hand⟩)
    (c__law_hand : PySem.W.codeIn K cd__law_hand "_law_hand" = true) (k__law_hand : PySem.W.keepIn K (.ref f__law_hand) = true)
    (a__law_draw : PySem.W.nsIn K mainGlobals "_law_draw" = some (some (.ref f__law_draw)))
    (l__law_draw : K.lookup f__law_draw = some ⟨oc__law_draw, od__law_draw, .func (PySem.W.fnOf "_law_draw" "_law_draw" (defArgs s__law_draw) (defBody s__law_draw) (defScope s__law_draw) .none kV__law_draw dc__law_draw pm__law_draw an__law_draw cd__law_draw ct__law_draw), sl__law_draw⟩)
    (c__law_draw : PySem.W.codeIn K cd__law_draw "_law_draw" = true) (k__law_draw : PySem.W.keepIn K (.ref f__law_draw) = true)
    (a__law_letters : PySem.W.nsIn K mainGlobals "_law_letters" = some (some (.ref f__law_letters)))
    (l__law_letters : K.lookup f__law_letters = some ⟨oc__law_letters, od__law_letters, .func (PySem.W.fnOf "_law_letters" "_law_letters" (defArgs s__law_letters) (defBody s__law_letters) (defScope s__law_letters) .none kV__law_letters dc__law_letters pm__law_letters an__law_letters cd__law_letters ct__law_letters), sl__law_letters⟩)
    (c__law_letters : PySem.W.codeIn K cd__law_letters "_law_letters" = true) (k__law_letters : PySem.W.keepIn K (.ref f__law_letters) = true)
    (a__law_rows : PySem.W.nsIn K mainGlobals "_law_rows" = some (some (.ref f__law_rows)))
    (l__law_rows : K.lookup f__law_rows = some ⟨oc__law_rows, od__law_rows, .func (PySem.W.fnOf "_law_rows" "_law_rows" (defArgs s__law_rows) (defBody s__law_rows) (defScope s__law_rows) .none kV__law_rows dc__law_rows pm__law_rows an__law_rows cd__law_rows ct__law_rows), sl__law_rows⟩)
    (c__law_rows : PySem.W.codeIn K cd__law_rows "_law_rows" = true) (k__law_rows : PySem.W.keepIn K (.ref f__law_rows) = true)
    (a__law_shuffled : PySem.W.nsIn K mainGlobals "_law_shuffled" = some (some (.ref f__law_shuffled)))
    (l__law_shuffled : K.lookup f__law_shuffled = some ⟨oc__law_shuffled, od__law_shuffled, .func (PySem.W.fnOf "_law_shuffled" "_law_shuffled" (defArgs s__law_shuffled) (defBody s__law_shuffled) (defScope s__law_shuffled) .none kV__law_shuffled dc__law_shuffled pm__law_shuffled an__law_shuffled cd__law_shuffled ct__law_shuffled), sl__law_shuffled⟩)
    (c__law_shuffled : PySem.W.codeIn K cd__law_shuffled "_law_shuffled" = true) (k__law_shuffled : PySem.W.keepIn K (.ref f__law_shuffled) = true)
    (a__law_parts : PySem.W.nsIn K mainGlobals "_law_parts" = some (some (.ref f__law_parts)))
    (l__law_parts : K.lookup f__law_parts = some ⟨oc__law_parts, od__law_parts, .func (PySem.W.fnOf "_law_parts" "_law_parts" (defArgs s__law_parts) (defBody s__law_parts) (defScope s__law_parts) .none kV__law_parts dc__law_parts pm__law_parts an__law_parts cd__law_parts ct__law_parts), sl__law_parts⟩)
    (c__law_parts : PySem.W.codeIn K cd__law_parts "_law_parts" = true) (k__law_parts : PySem.W.keepIn K (.ref f__law_parts) = true)
    (a__law_word : PySem.W.nsIn K mainGlobals "_law_word" = some (some (.ref f__law_word)))
    (l__law_word : K.lookup f__law_word = some ⟨oc__law_word, od__law_word, .func (PySem.W.fnOf "_law_word" "_law_word" (defArgs s__law_word) (defBody s__law_word) (defScope s__law_word) .none kV__law_word dc__law_word pm__law_word an__law_word cd__law_word ct__law_word), sl__law_word⟩)
    (c__law_word : PySem.W.codeIn K cd__law_word "_law_word" = true) (k__law_word : PySem.W.keepIn K (.ref f__law_word) = true)
    (a__law_is_word : PySem.W.nsIn K mainGlobals "_law_is_word" = some (some (.ref f__law_is_word)))
    (l__law_is_word : K.lookup f__law_is_word = some ⟨oc__law_is_word, od__law_is_word, .func (PySem.W.fnOf "_law_is_word" "_law_is_word" (defArgs s__law_is_word) (defBody s__law_is_word) (defScope s__law_is_word) .none kV__law_is_word dc__law_is_word pm__law_is_word an__law_is_word cd__law_is_word ct__law_is_word), sl__law_is_word⟩)
    (c__law_is_word : PySem.W.codeIn K cd__law_is_word "_law_is_word" = true) (k__law_is_word : PySem.W.keepIn K (.ref f__law_is_word) = true)
    (a__law_odd : PySem.W.nsIn K mainGlobals "_law_odd" = some (some (.ref f__law_odd)))
    (l__law_odd : K.lookup f__law_odd = some ⟨oc__law_odd, od__law_odd, .func (PySem.W.fnOf "_law_odd" "_law_odd" (defArgs s__law_odd) (defBody s__law_odd) (defScope s__law_odd) .none kV__law_odd dc__law_odd pm__law_odd an__law_odd cd__law_odd ct__law_odd), sl__law_odd⟩)
    (c__law_odd : PySem.W.codeIn K cd__law_odd "_law_odd" = true) (k__law_odd : PySem.W.keepIn K (.ref f__law_odd) = true)
    (a__law_signs : PySem.W.nsIn K mainGlobals "_law_signs" = some (some (.ref f__law_signs)))
    (l__law_signs : K.lookup f__law_signs = some ⟨oc__law_signs, od__law_signs, .func (PySem.W.fnOf "_law_signs" "_law_signs" (defArgs s__law_signs) (defBody s__law_signs) (defScope s__law_signs) .none kV__law_signs dc__law_signs pm__law_signs an__law_signs cd__law_signs ct__law_signs), sl__law_signs⟩)
    (c__law_signs : PySem.W.codeIn K cd__law_signs "_law_signs" = true) (k__law_signs : PySem.W.keepIn K (.ref f__law_signs) = true)
    (a__law_is_whole : PySem.W.nsIn K mainGlobals "_law_is_whole" = some (some (.ref f__law_is_whole)))
    (l__law_is_whole : K.lookup f__law_is_whole = some ⟨oc__law_is_whole, od__law_is_whole, .func (PySem.W.fnOf "_law_is_whole" "_law_is_whole" (defArgs s__law_is_whole) (defBody s__law_is_whole) (defScope s__law_is_whole) .none kV__law_is_whole dc__law_is_whole pm__law_is_whole an__law_is_whole cd__law_is_whole ct__law_is_whole), sl__law_is_whole⟩)
    (c__law_is_whole : PySem.W.codeIn K cd__law_is_whole "_law_is_whole" = true) (k__law_is_whole : PySem.W.keepIn K (.ref f__law_is_whole) = true)
    (a__law_flag : PySem.W.nsIn K mainGlobals "_law_flag" = some (some (.ref f__law_flag)))
    (l__law_flag : K.lookup f__law_flag = some ⟨oc__law_flag, od__law_flag, .func (PySem.W.fnOf "_law_flag" "_law_flag" (defArgs s__law_flag) (defBody s__law_flag) (defScope s__law_flag) .none kV__law_flag dc__law_flag pm__law_flag an__law_flag cd__law_flag ct__law_flag), sl__law_flag⟩)
    (c__law_flag : PySem.W.codeIn K cd__law_flag "_law_flag" = true) (k__law_flag : PySem.W.keepIn K (.ref f__law_flag) = true)
    (a__law_told : PySem.W.nsIn K mainGlobals "_law_told" = some (some (.ref f__law_told)))
    (l__law_told : K.lookup f__law_told = some ⟨oc__law_told, od__law_told, .func (PySem.W.fnOf "_law_told" "_law_told" (defArgs s__law_told) (defBody s__law_told) (defScope s__law_told) .none kV__law_told dc__law_told pm__law_told an__law_told cd__law_told ct__law_told), sl__law_told⟩)
    (c__law_told : PySem.W.codeIn K cd__law_told "_law_told" = true) (k__law_told : PySem.W.keepIn K (.ref f__law_told) = true)
    (a__law_far : PySem.W.nsIn K mainGlobals "_law_far" = some (some (.ref f__law_far)))
    (l__law_far : K.lookup f__law_far = some ⟨oc__law_far, od__law_far, .func (PySem.W.fnOf "_law_far" "_law_far" (defArgs s__law_far) (defBody s__law_far) (defScope s__law_far) .none kV__law_far dc__law_far pm__law_far an__law_far cd__law_far ct__law_far), sl__law_far⟩)
    (c__law_far : PySem.W.codeIn K cd__law_far "_law_far" = true) (k__law_far : PySem.W.keepIn K (.ref f__law_far) = true)
    (a__law_times : PySem.W.nsIn K mainGlobals "_law_times" = some (some (.ref f__law_times)))
    (l__law_times : K.lookup f__law_times = some ⟨oc__law_times, od__law_times, .func (PySem.W.fnOf "_law_times" "_law_times" (defArgs s__law_times) (defBody s__law_times) (defScope s__law_times) .none kV__law_times dc__law_times pm__law_times an__law_times cd__law_times ct__law_times), sl__law_times⟩)
    (c__law_times : PySem.W.codeIn K cd__law_times "_law_times" = true) (k__law_times : PySem.W.keepIn K (.ref f__law_times) = true)
    (a__law_due : PySem.W.nsIn K mainGlobals "_law_due" = some (some (.ref f__law_due)))
    (l__law_due : K.lookup f__law_due = some ⟨oc__law_due, od__law_due, .func (PySem.W.fnOf "_law_due" "_law_due" (defArgs s__law_due) (defBody s__law_due) (defScope s__law_due) .none kV__law_due dc__law_due pm__law_due an__law_due cd__law_due ct__law_due), sl__law_due⟩)
    (c__law_due : PySem.W.codeIn K cd__law_due "_law_due" = true) (k__law_due : PySem.W.keepIn K (.ref f__law_due) = true)
    (a_law : PySem.W.nsIn K mainGlobals "law" = some (some (.ref f_law)))
    (l_law : K.lookup f_law = some ⟨oc_law, od_law, .func (PySem.W.fnOf "law" "law" (defArgs s_law) (defBody s_law) (defScope s_law) .none kV_law dc_law pm_law an_law cd_law ct_law), sl_law⟩)
    (c_law : PySem.W.codeIn K cd_law "law" = true) (k_law : PySem.W.keepIn K (.ref f_law) = true)
    (z_range : PySem.W.nsIn K mainGlobals "range" = some none)
    (z_len : PySem.W.nsIn K mainGlobals "len" = some none)
    (z_abs : PySem.W.nsIn K mainGlobals "abs" = some none)
    (z_int : PySem.W.nsIn K mainGlobals "int" = some none)
    (z_str : PySem.W.nsIn K mainGlobals "str" = some none)
    (z_bool : PySem.W.nsIn K mainGlobals "bool" = some none)
    (z_list : PySem.W.nsIn K mainGlobals "list" = some none)
    (z_tuple : PySem.W.nsIn K mainGlobals "tuple" = some none)
    (z_dict : PySem.W.nsIn K mainGlobals "dict" = some none)
    (z_set : PySem.W.nsIn K mainGlobals "set" = some none)
    (z_isinstance : PySem.W.nsIn K mainGlobals "isinstance" = some none)
    (z_all : PySem.W.nsIn K mainGlobals "all" = some none)
    (z_any : PySem.W.nsIn K mainGlobals "any" = some none)
    (z_sum : PySem.W.nsIn K mainGlobals "sum" = some none)
    (z_max : PySem.W.nsIn K mainGlobals "max" = some none)
    (z_min : PySem.W.nsIn K mainGlobals "min" = some none)
    (z_sorted : PySem.W.nsIn K mainGlobals "sorted" = some none)
    (z_zip : PySem.W.nsIn K mainGlobals "zip" = some none)
    (z_enumerate : PySem.W.nsIn K mainGlobals "enumerate" = some none)
    (z_reversed : PySem.W.nsIn K mainGlobals "reversed" = some none)
    (a_Machine : PySem.W.nsIn K mainGlobals "Machine" = some (some (.ref C)))
    (a_NoWord : PySem.W.nsIn K mainGlobals "NoWord" = some (some (.ref C2)))
    (a_NoNumber : PySem.W.nsIn K mainGlobals "NoNumber" = some (some (.ref C3)))
    (fi_Machine___init__ : PySem.W.findIn K (.ref C) "__init__" = some (some (.ref f_Machine___init__)))
    (l_Machine___init__ : K.lookup f_Machine___init__ = some ⟨oc_Machine___init__, od_Machine___init__, .func (PySem.W.fnOf "__init__" "Machine.__init__" (defArgs s_Machine___init__) (defBody s_Machine___init__) (defScope s_Machine___init__) .none kV_Machine___init__ dc_Machine___init__ pm_Machine___init__ an_Machine___init__ cd_Machine___init__ ct_Machine___init__), sl_Machine___init__⟩)
    (c_Machine___init__ : PySem.W.codeIn K cd_Machine___init__ "Machine.__init__" = true)
    (k_Machine___init__ : PySem.W.keepIn K (.ref f_Machine___init__) = true)
    (fn_Machine___init__ : PySem.W.isFn K (.ref f_Machine___init__) = true)
    (fi_Machine_letters : PySem.W.findIn K (.ref C) "letters" = some (some (.ref f_Machine_letters)))
    (l_Machine_letters : K.lookup f_Machine_letters = some ⟨oc_Machine_letters, od_Machine_letters, .func (PySem.W.fnOf "letters" "Machine.letters" (defArgs s_Machine_letters) (defBody s_Machine_letters) (defScope s_Machine_letters) .none kV_Machine_letters dc_Machine_letters pm_Machine_letters an_Machine_letters cd_Machine_letters ct_Machine_letters), sl_Machine_letters⟩)
    (c_Machine_letters : PySem.W.codeIn K cd_Machine_letters "Machine.letters" = true)
    (k_Machine_letters : PySem.W.keepIn K (.ref f_Machine_letters) = true)
    (fn_Machine_letters : PySem.W.isFn K (.ref f_Machine_letters) = true)
    (fi_Machine_table : PySem.W.findIn K (.ref C) "table" = some (some (.ref f_Machine_table)))
    (l_Machine_table : K.lookup f_Machine_table = some ⟨oc_Machine_table, od_Machine_table, .func (PySem.W.fnOf "table" "Machine.table" (defArgs s_Machine_table) (defBody s_Machine_table) (defScope s_Machine_table) .none kV_Machine_table dc_Machine_table pm_Machine_table an_Machine_table cd_Machine_table ct_Machine_table), sl_Machine_table⟩)
    (c_Machine_table : PySem.W.codeIn K cd_Machine_table "Machine.table" = true)
    (k_Machine_table : PySem.W.keepIn K (.ref f_Machine_table) = true)
    (fn_Machine_table : PySem.W.isFn K (.ref f_Machine_table) = true)
    (fi_Machine_accepts : PySem.W.findIn K (.ref C) "accepts" = some (some (.ref f_Machine_accepts)))
    (l_Machine_accepts : K.lookup f_Machine_accepts = some ⟨oc_Machine_accepts, od_Machine_accepts, .func (PySem.W.fnOf "accepts" "Machine.accepts" (defArgs s_Machine_accepts) (defBody s_Machine_accepts) (defScope s_Machine_accepts) .none kV_Machine_accepts dc_Machine_accepts pm_Machine_accepts an_Machine_accepts cd_Machine_accepts ct_Machine_accepts), sl_Machine_accepts⟩)
    (c_Machine_accepts : PySem.W.codeIn K cd_Machine_accepts "Machine.accepts" = true)
    (k_Machine_accepts : PySem.W.keepIn K (.ref f_Machine_accepts) = true)
    (fn_Machine_accepts : PySem.W.isFn K (.ref f_Machine_accepts) = true)
    (c_pg : PySem.W.plainGet K C Str.empty = true)
    (c_hd : PySem.W.hasDictIn K C = true)
    (c_po : PySem.W.plainOver K C = true)
    (c_sa : PySem.W.findIn K (.ref C) "__setattr__" = some (some (.builtin "object.__setattr__")))
    (n_letters : PySem.W.findIn K (.ref C) "_letters" = some none)
    (n_table : PySem.W.findIn K (.ref C) "_table" = some none)
    (n_accepts : PySem.W.findIn K (.ref C) "_accepts" = some none)
    (h_makes : PySem.W.makesIn K C = true)
    (kp_Machine : PySem.W.keepIn K (.ref C) = true)
    (x_NoWord : PySem.W.excIn K C2 [.type "ValueError", .type "Exception", .type "BaseException", .type "object"] "ValueError.__new__" = true)
    (kp_NoWord : PySem.W.keepIn K (.ref C2) = true)
    (x_NoNumber : PySem.W.excIn K C3 [.type "ValueError", .type "Exception", .type "BaseException", .type "object"] "ValueError.__new__" = true)
    (kp_NoNumber : PySem.W.keepIn K (.ref C3) = true)
    (b_NoWord : PySem.W.subIn K (.ref C2) (.type "BaseException") = some true)
    (t_NoWord : PySem.W.typeIn K (.ref C2) = some (.type "type"))
    (i_NoWord : PySem.W.isClsIn K C2 = true)
    (b_NoNumber : PySem.W.subIn K (.ref C3) (.type "BaseException") = some true)
    (t_NoNumber : PySem.W.typeIn K (.ref C3) = some (.type "type"))
    (i_NoNumber : PySem.W.isClsIn K C3 = true)
    (s22 : PySem.W.subIn K (.ref C2) (.ref C2) = some true)
    (s32 : PySem.W.subIn K (.ref C3) (.ref C2) = some false)
    (s33 : PySem.W.subIn K (.ref C3) (.ref C3) = some true) :
    ∃ fd : FuncData, (∀ (s : Shared) (v : Value), BindsTo s fd ⟨[v], []⟩ [("_law_script", v)]) ∧ ∀ base : Heap, K.In base → base.Ns mainGlobals mg → FnOk l.prog w K mg base CX0 7 fa fd ["_law_script"] (spLaw K) := by
  have e := hfa.symm.trans (PySem.W.mg_of X G a_law)
  cases e
  have B : Bi mg := ⟨PySem.W.mg_none_of X G z_range, PySem.W.mg_none_of X G z_len, PySem.W.mg_none_of X G z_abs, PySem.W.mg_none_of X G z_int, PySem.W.mg_none_of X G z_str, PySem.W.mg_none_of X G z_bool, PySem.W.mg_none_of X G z_list, PySem.W.mg_none_of X G z_tuple, PySem.W.mg_none_of X G z_dict, PySem.W.mg_none_of X G z_set, PySem.W.mg_none_of X G z_isinstance, PySem.W.mg_none_of X G z_all, PySem.W.mg_none_of X G z_any, PySem.W.mg_none_of X G z_sum, PySem.W.mg_none_of X G z_max, PySem.W.mg_none_of X G z_min, PySem.W.mg_none_of X G z_sorted, PySem.W.mg_none_of X G z_zip, PySem.W.mg_none_of X G z_enumerate, PySem.W.mg_none_of X G z_reversed⟩
  have d_is_integer : DF K mg "is_integer" s_is_integer := ⟨_, _, fun_mk (st := s_is_integer) l_is_integer c_is_integer k_is_integer, PySem.W.mg_of X G a_is_integer⟩
  have d_is_between : DF K mg "is_between" s_is_between := ⟨_, _, fun_mk (st := s_is_between) l_is_between c_is_between k_is_between, PySem.W.mg_of X G a_is_between⟩
  have d_is_ascending : DF K mg "is_ascending" s_is_ascending := ⟨_, _, fun_mk (st := s_is_ascending) l_is_ascending c_is_ascending k_is_ascending, PySem.W.mg_of X G a_is_ascending⟩
  have d_is_letters : DF K mg "is_letters" s_is_letters := ⟨_, _, fun_mk (st := s_is_letters) l_is_letters c_is_letters k_is_letters, PySem.W.mg_of X G a_is_letters⟩
  have d_is_word : DF K mg "is_word" s_is_word := ⟨_, _, fun_mk (st := s_is_word) l_is_word c_is_word k_is_word, PySem.W.mg_of X G a_is_word⟩
  have d_end_of : DF K mg "end_of" s_end_of := ⟨_, _, fun_mk (st := s_end_of) l_end_of c_end_of k_end_of, PySem.W.mg_of X G a_end_of⟩
  have d_ends_of : DF K mg "ends_of" s_ends_of := ⟨_, _, fun_mk (st := s_ends_of) l_ends_of c_ends_of k_ends_of, PySem.W.mg_of X G a_ends_of⟩
  have d_then : DF K mg "then" s_then := ⟨_, _, fun_mk (st := s_then) l_then c_then k_then, PySem.W.mg_of X G a_then⟩
  have d_says : DF K mg "says" s_says := ⟨_, _, fun_mk (st := s_says) l_says c_says k_says, PySem.W.mg_of X G a_says⟩
  have d_says_far : DF K mg "says_far" s_says_far := ⟨_, _, fun_mk (st := s_says_far) l_says_far c_says_far k_says_far, PySem.W.mg_of X G a_says_far⟩
  have d__is_table : DF K mg "_is_table" s__is_table := ⟨_, _, fun_mk (st := s__is_table) l__is_table c__is_table k__is_table, PySem.W.mg_of X G a__is_table⟩
  have d__is_accepts : DF K mg "_is_accepts" s__is_accepts := ⟨_, _, fun_mk (st := s__is_accepts) l__is_accepts c__is_accepts k__is_accepts, PySem.W.mg_of X G a__is_accepts⟩
  have d__is_states : DF K mg "_is_states" s__is_states := ⟨_, _, fun_mk (st := s__is_states) l__is_states c__is_states k__is_states, PySem.W.mg_of X G a__is_states⟩
  have d__law_hand : DF K mg "_law_hand" s__law_hand := ⟨_, _, fun_mk (st := s__law_hand) l__law_hand c__law_hand k__law_hand, PySem.W.mg_of X G a__law_hand⟩
  have d__law_draw : DF K mg "_law_draw" s__law_draw := ⟨_, _, fun_mk (st := s__law_draw) l__law_draw c__law_draw k__law_draw, PySem.W.mg_of X G a__law_draw⟩
  have d__law_letters : DF K mg "_law_letters" s__law_letters := ⟨_, _, fun_mk (st := s__law_letters) l__law_letters c__law_letters k__law_letters, PySem.W.mg_of X G a__law_letters⟩
  have d__law_rows : DF K mg "_law_rows" s__law_rows := ⟨_, _, fun_mk (st := s__law_rows) l__law_rows c__law_rows k__law_rows, PySem.W.mg_of X G a__law_rows⟩
  have d__law_shuffled : DF K mg "_law_shuffled" s__law_shuffled := ⟨_, _, fun_mk (st := s__law_shuffled) l__law_shuffled c__law_shuffled k__law_shuffled, PySem.W.mg_of X G a__law_shuffled⟩
  have d__law_parts : DF K mg "_law_parts" s__law_parts := ⟨_, _, fun_mk (st := s__law_parts) l__law_parts c__law_parts k__law_parts, PySem.W.mg_of X G a__law_parts⟩
  have d__law_word : DF K mg "_law_word" s__law_word := ⟨_, _, fun_mk (st := s__law_word) l__law_word c__law_word k__law_word, PySem.W.mg_of X G a__law_word⟩
  have d__law_is_word : DF K mg "_law_is_word" s__law_is_word := ⟨_, _, fun_mk (st := s__law_is_word) l__law_is_word c__law_is_word k__law_is_word, PySem.W.mg_of X G a__law_is_word⟩
  have d__law_odd : DF K mg "_law_odd" s__law_odd := ⟨_, _, fun_mk (st := s__law_odd) l__law_odd c__law_odd k__law_odd, PySem.W.mg_of X G a__law_odd⟩
  have d__law_signs : DF K mg "_law_signs" s__law_signs := ⟨_, _, fun_mk (st := s__law_signs) l__law_signs c__law_signs k__law_signs, PySem.W.mg_of X G a__law_signs⟩
  have d__law_is_whole : DF K mg "_law_is_whole" s__law_is_whole := ⟨_, _, fun_mk (st := s__law_is_whole) l__law_is_whole c__law_is_whole k__law_is_whole, PySem.W.mg_of X G a__law_is_whole⟩
  have d__law_flag : DF K mg "_law_flag" s__law_flag := ⟨_, _, fun_mk (st := s__law_flag) l__law_flag c__law_flag k__law_flag, PySem.W.mg_of X G a__law_flag⟩
  have d__law_told : DF K mg "_law_told" s__law_told := ⟨_, _, fun_mk (st := s__law_told) l__law_told c__law_told k__law_told, PySem.W.mg_of X G a__law_told⟩
  have d__law_far : DF K mg "_law_far" s__law_far := ⟨_, _, fun_mk (st := s__law_far) l__law_far c__law_far k__law_far, PySem.W.mg_of X G a__law_far⟩
  have d__law_times : DF K mg "_law_times" s__law_times := ⟨_, _, fun_mk (st := s__law_times) l__law_times c__law_times k__law_times, PySem.W.mg_of X G a__law_times⟩
  have d__law_due : DF K mg "_law_due" s__law_due := ⟨_, _, fun_mk (st := s__law_due) l__law_due c__law_due k__law_due, PySem.W.mg_of X G a__law_due⟩

  refine ⟨PySem.W.fnOf "law" "law" (defArgs s_law) (defBody s_law) (defScope s_law) .none kV_law dc_law pm_law an_law cd_law ct_law, fun s v => .of_eq rfl, fun base _ _ => ?_⟩
  have T : MTxt K C := ⟨⟨c_pg, c_hd, c_po, c_sa⟩, n_letters, n_table, n_accepts⟩
  have TW : OwnX K mg "NoWord" C2 := ⟨⟨_, _, _, PySem.F.excBase_ValueError, x_NoWord⟩, PySem.W.mg_of X G a_NoWord, kp_NoWord, b_NoWord, t_NoWord⟩
  have TN : OwnX K mg "NoNumber" C3 := ⟨⟨_, _, _, PySem.F.excBase_ValueError, x_NoNumber⟩, PySem.W.mg_of X G a_NoNumber, kp_NoNumber, b_NoNumber, t_NoNumber⟩
  have d_Machine___init__ : MF K C "__init__" "Machine.__init__" s_Machine___init__ := ⟨_, _, fun_mk (st := s_Machine___init__) l_Machine___init__ c_Machine___init__ k_Machine___init__, fi_Machine___init__, fn_Machine___init__⟩
  have d_Machine_letters : MF K C "letters" "Machine.letters" s_Machine_letters := ⟨_, _, fun_mk (st := s_Machine_letters) l_Machine_letters c_Machine_letters k_Machine_letters, fi_Machine_letters, fn_Machine_letters⟩
  have d_Machine_table : MF K C "table" "Machine.table" s_Machine_table := ⟨_, _, fun_mk (st := s_Machine_table) l_Machine_table c_Machine_table k_Machine_table, fi_Machine_table, fn_Machine_table⟩
  have d_Machine_accepts : MF K C "accepts" "Machine.accepts" s_Machine_accepts := ⟨_, _, fun_mk (st := s_Machine_accepts) l_Machine_accepts c_Machine_accepts k_Machine_accepts, fi_Machine_accepts, fn_Machine_accepts⟩
  have t_is_integer := Y.c_is_integer (P := l.prog) (w := w) (base := base) d_is_integer B
  have t_is_between := Y.c_is_between (P := l.prog) (w := w) (base := base) d_is_between B t_is_integer
  have t_is_word := Y.c_is_word (P := l.prog) (w := w) (base := base) d_is_word B
  have t_is_ascending := Y.c_is_ascending (P := l.prog) (w := w) (base := base) d_is_ascending B
  have t_is_letters := Y.c_is_letters (P := l.prog) (w := w) (base := base) d_is_letters B t_is_ascending
  have t_is_states := Y.c__is_states (P := l.prog) (w := w) (base := base) d__is_states B t_is_between
  have t_is_table := Y.c__is_table (P := l.prog) (w := w) (base := base) d__is_table B t_is_states
  have t_is_accepts := Y.c__is_accepts (P := l.prog) (w := w) (base := base) d__is_accepts B t_is_states t_is_ascending
  have t_Machine := Y.m_Machine (P := l.prog) (w := w) (base := base) T (PySem.W.mg_of X G a_Machine) h_makes kp_Machine d_Machine___init__ B t_is_letters t_is_table t_is_accepts
  have t_letters := Y.c_Machine_letters (P := l.prog) (w := w) (mg := mg) (base := base) T d_Machine_letters
  have t_table := Y.c_Machine_table (P := l.prog) (w := w) (mg := mg) (base := base) T d_Machine_table
  have t_accepts := Y.c_Machine_accepts (P := l.prog) (w := w) (mg := mg) (base := base) T d_Machine_accepts
  have t_end_of := Y.c_end_of (P := l.prog) (w := w) (base := base) d_end_of B
  have t_says := Y.c_says (P := l.prog) (w := w) (base := base) d_says B TW t_letters t_table t_accepts t_is_word t_end_of
  have t_draw := Y.c__law_draw (P := l.prog) (w := w) (base := base) d__law_draw B
  have t_hand := Y.c__law_hand (P := l.prog) (w := w) (base := base) d__law_hand B
  have t_lletters := Y.c__law_letters (P := l.prog) (w := w) (base := base) d__law_letters B t_draw
  have t_shuffled := Y.c__law_shuffled (P := l.prog) (w := w) (base := base) d__law_shuffled B t_draw
  have t_rows := Y.c__law_rows (P := l.prog) (w := w) (base := base) d__law_rows B t_draw t_shuffled
  have t_parts := Y.c__law_parts (P := l.prog) (w := w) (base := base) d__law_parts B t_draw t_lletters t_rows
  have t_word := Y.c__law_word (P := l.prog) (w := w) (base := base) d__law_word B t_draw
  have t_odd := Y.c__law_odd (P := l.prog) (w := w) (base := base) d__law_odd B t_draw
  have t_signs := Y.c__law_signs (P := l.prog) (w := w) (base := base) d__law_signs B t_draw
  have t_ends_of := Y.c_ends_of (P := l.prog) (w := w) (base := base) d_ends_of B t_end_of
  have t_then := Y.c_then (P := l.prog) (w := w) (base := base) d_then B
  have t_far := Y.c_says_far (P := l.prog) (w := w) (base := base) d_says_far B TW TN t_letters t_table t_accepts t_is_word t_is_between t_ends_of t_then
  have t_lis := Y.c__law_is_word (P := l.prog) (w := w) (base := base) d__law_is_word B
  have t_whole := Y.c__law_is_whole (P := l.prog) (w := w) (base := base) d__law_is_whole B
  have t_flag := Y.c__law_flag (P := l.prog) (w := w) (base := base) d__law_flag B
  have t_told := Y.c__law_told (P := l.prog) (w := w) (base := base) d__law_told B TW TN (exm_pair b_NoWord i_NoWord t_NoWord s22) (exm_pair b_NoWord i_NoWord t_NoWord s32) (exm_pair b_NoNumber i_NoNumber t_NoNumber s33) t_far
  have t_lfar := Y.c__law_far (P := l.prog) (w := w) (base := base) d__law_far B
  have t_times := Y.c__law_times (P := l.prog) (w := w) (base := base) d__law_times B t_draw t_odd
  have t_due := Y.c__law_due (P := l.prog) (w := w) (base := base) d__law_due B t_lis t_whole t_lfar
  exact Y.ok_law (fun_mk (st := s_law) l_law c_law k_law) B t_hand t_draw t_parts t_Machine t_word t_odd t_signs t_times t_due t_told t_flag t_says
theorem walk {l : PySem.W.OpenLaw} {q : Program} {loose : List Str} {XP : (Str → Option Value) → Heap → Prop} {YP : World → Heap → Prop} {d : DefRec} {K : Params → PySem.W.Frag} (hn : l.most = some 63) (hdf : d.params.defaults = [])
    (hY : ∀ (w : World) (h : Heap), YP w h → (K w.params).In h)
    (F : ∀ (w : World) (mg : Str → Option Value) (fa : Addr) (h : Heap), (K w.params).In h → h.Ns mainGlobals mg → mg d.name = some (.ref fa) →
      ∃ fd : FuncData, (∀ (s : Shared) (u : Value), BindsTo s fd ⟨[u], []⟩ [("_law_script", u)]) ∧ ∀ base : Heap, (K w.params).In base → base.Ns mainGlobals mg → FnOk l.prog w (K w.params) mg base CX0 7 fa fd ["_law_script"] (spLaw (K w.params))) :
    PySem.W.WalkO q loose XP YP l.row.toRowW d [] (fun f vs => PySem.call f vs) :=
  L2.walk_of (n := 63) (k := 7) (x := "_law_script") (CX := fun _ => CX0) (sp := fun w => spLaw (K w.params)) hn (by decide) hdf ⟨rfl, by decide, by decide⟩ hY F (fun _ _ a ns hl _ hS => ⟨a, ns, rfl, hS, hl, fun _ => rfl⟩) fun _ _ _ _ _ z => z
end Y
open PySem PySem.W PyProof.Rows
set_option maxRecDepth 100000 in
set_option maxHeartbeats 0 in
theorem PySem.Challenge.cw_saidacross_k06_whole_words_said_far_holds : PySem.Challenge.rw_saidacross_k06_whole_words_said_far.Holds := by
  w_on; o_law; k_head; (case hw => w_witness2)
  k_fill
  refine Y.walk (l := PySem.Challenge.rw_saidacross_k06_whole_words_said_far) rfl rfl (fun w h Y => PySem.W.kIn_of Y) ?F
  case F =>
    intro w mg fa h KX G hmg
    refine' Y.all_mk KX G hmg ?a_is_integer ?l_is_integer ?c_is_integer ?k_is_integer ?a_is_between ?l_is_between ?c_is_between ?k_is_between ?a_is_ascending ?l_is_ascending ?c_is_ascending ?k_is_ascending ?a_is_letters ?l_is_letters ?c_is_letters ?k_is_letters ?a_is_word ?l_is_word ?c_is_word ?k_is_word ?a_end_of ?l_end_of ?c_end_of ?k_end_of ?a_ends_of ?l_ends_of ?c_ends_of ?k_ends_of ?a_then ?l_then ?c_then ?k_then ?a_says ?l_says ?c_says ?k_says ?a_says_far ?l_says_far ?c_says_far ?k_says_far ?a__is_table ?l__is_table ?c__is_table ?k__is_table ?a__is_accepts ?l__is_accepts ?c__is_accepts ?k__is_accepts ?a__is_states ?l__is_states ?c__is_states ?k__is_states ?a__law_hand ?l__law_hand ?c__law_hand ?k__law_hand ?a__law_draw ?l__law_draw ?c__law_draw ?k__law_draw ?a__law_letters ?l__law_letters ?c__law_letters ?k__law_letters ?a__law_rows ?l__law_rows ?c__law_rows ?k__law_rows ?a__law_shuffled ?l__law_shuffled ?c__law_shuffled ?k__law_shuffled ?a__law_parts ?l__law_parts ?c__law_parts ?k__law_parts ?a__law_word ?l__law_word ?c__law_word ?k__law_word ?a__law_is_word ?l__law_is_word ?c__law_is_word ?k__law_is_word ?a__law_odd ?l__law_odd ?c__law_odd ?k__law_odd ?a__law_signs ?l__law_signs ?c__law_signs ?k__law_signs ?a__law_is_whole ?l__law_is_whole ?c__law_is_whole ?k__law_is_whole ?a__law_flag ?l__law_flag ?c__law_flag ?k__law_flag ?a__law_told ?l__law_told ?c__law_told ?k__law_told ?a__law_far ?l__law_far ?c__law_far ?k__law_far ?a__law_times ?l__law_times ?c__law_times ?k__law_times ?a__law_due ?l__law_due ?c__law_due ?k__law_due ?a_law ?l_law ?c_law ?k_law ?z_range ?z_len ?z_abs ?z_int ?z_str ?z_bool ?z_list ?z_tuple ?z_dict ?z_set ?z_isinstance ?z_all ?z_any ?z_sum ?z_max ?z_min ?z_sorted ?z_zip ?z_enumerate ?z_reversed ?a_Machine ?a_NoWord ?a_NoNumber ?fi_Machine___init__ ?l_Machine___init__ ?c_Machine___init__ ?k_Machine___init__ ?fn_Machine___init__ ?fi_Machine_letters ?l_Machine_letters ?c_Machine_letters ?k_Machine_letters ?fn_Machine_letters ?fi_Machine_table ?l_Machine_table ?c_Machine_table ?k_Machine_table ?fn_Machine_table ?fi_Machine_accepts ?l_Machine_accepts ?c_Machine_accepts ?k_Machine_accepts ?fn_Machine_accepts ?c_pg ?c_hd ?c_po ?c_sa ?n_letters ?n_table ?n_accepts ?h_makes ?kp_Machine ?x_NoWord ?kp_NoWord ?x_NoNumber ?kp_NoNumber ?b_NoWord ?t_NoWord ?i_NoWord ?b_NoNumber ?t_NoNumber ?i_NoNumber ?s22 ?s32 ?s33
    (case a_is_integer => k_is)
    (case l_is_integer => k_is)
    (case c_is_integer => k_is)
    (case k_is_integer => k_is)
    (case a_is_between => k_is)
    (case l_is_between => k_is)
    (case c_is_between => k_is)
    (case k_is_between => k_is)
    (case a_is_ascending => k_is)
    (case l_is_ascending => k_is)
    (case c_is_ascending => k_is)
    (case k_is_ascending => k_is)
    (case a_is_letters => k_is)
    (case l_is_letters => k_is)
    (case c_is_letters => k_is)
    (case k_is_letters => k_is)
    (case a_is_word => k_is)
    (case l_is_word => k_is)
    (case c_is_word => k_is)
    (case k_is_word => k_is)
    (case a_end_of => k_is)
    (case l_end_of => k_is)
    (case c_end_of => k_is)
    (case k_end_of => k_is)
    (case a_ends_of => k_is)
    (case l_ends_of => k_is)
    (case c_ends_of => k_is)
    (case k_ends_of => k_is)
    (case a_then => k_is)
    (case l_then => k_is)
    (case c_then => k_is)
    (case k_then => k_is)
    (case a_says => k_is)
    (case l_says => k_is)
    (case c_says => k_is)
    (case k_says => k_is)
    (case a_says_far => k_is)
    (case l_says_far => k_is)
    (case c_says_far => k_is)
    (case k_says_far => k_is)
    (case a__is_table => k_is)
    (case l__is_table => k_is)
    (case c__is_table => k_is)
    (case k__is_table => k_is)
    (case a__is_accepts => k_is)
    (case l__is_accepts => k_is)
    (case c__is_accepts => k_is)
    (case k__is_accepts => k_is)
    (case a__is_states => k_is)
    (case l__is_states => k_is)
    (case c__is_states => k_is)
    (case k__is_states => k_is)
    (case a__law_hand => k_is)
    (case l__law_hand => k_is)
    (case c__law_hand => k_is)
    (case k__law_hand => k_is)
    (case a__law_draw => k_is)
    (case l__law_draw => k_is)
    (case c__law_draw => k_is)
    (case k__law_draw => k_is)
    (case a__law_letters => k_is)
    (case l__law_letters => k_is)
    (case c__law_letters => k_is)
    (case k__law_letters => k_is)
    (case a__law_rows => k_is)
    (case l__law_rows => k_is)
    (case c__law_rows => k_is)
    (case k__law_rows => k_is)
    (case a__law_shuffled => k_is)
    (case l__law_shuffled => k_is)
    (case c__law_shuffled => k_is)
    (case k__law_shuffled => k_is)
    (case a__law_parts => k_is)
    (case l__law_parts => k_is)
    (case c__law_parts => k_is)
    (case k__law_parts => k_is)
    (case a__law_word => k_is)
    (case l__law_word => k_is)
    (case c__law_word => k_is)
    (case k__law_word => k_is)
    (case a__law_is_word => k_is)
    (case l__law_is_word => k_is)
    (case c__law_is_word => k_is)
    (case k__law_is_word => k_is)
    (case a__law_odd => k_is)
    (case l__law_odd => k_is)
    (case c__law_odd => k_is)
    (case k__law_odd => k_is)
    (case a__law_signs => k_is)
    (case l__law_signs => k_is)
    (case c__law_signs => k_is)
    (case k__law_signs => k_is)
    (case a__law_is_whole => k_is)
    (case l__law_is_whole => k_is)
    (case c__law_is_whole => k_is)
    (case k__law_is_whole => k_is)
    (case a__law_flag => k_is)
    (case l__law_flag => k_is)
    (case c__law_flag => k_is)
    (case k__law_flag => k_is)
    (case a__law_told => k_is)
    (case l__law_told => k_is)
    (case c__law_told => k_is)
    (case k__law_told => k_is)
    (case a__law_far => k_is)
    (case l__law_far => k_is)
    (case c__law_far => k_is)
    (case k__law_far => k_is)
    (case a__law_times => k_is)
    (case l__law_times => k_is)
    (case c__law_times => k_is)
    (case k__law_times => k_is)
    (case a__law_due => k_is)
    (case l__law_due => k_is)
    (case c__law_due => k_is)
    (case k__law_due => k_is)
    (case a_law => k_is)
    (case l_law => k_is)
    (case c_law => k_is)
    (case k_law => k_is)
    (case z_range => k_is)
    (case z_len => k_is)
    (case z_abs => k_is)
    (case z_int => k_is)
    (case z_str => k_is)
    (case z_bool => k_is)
    (case z_list => k_is)
    (case z_tuple => k_is)
    (case z_dict => k_is)
    (case z_set => k_is)
    (case z_isinstance => k_is)
    (case z_all => k_is)
    (case z_any => k_is)
    (case z_sum => k_is)
    (case z_max => k_is)
    (case z_min => k_is)
    (case z_sorted => k_is)
    (case z_zip => k_is)
    (case z_enumerate => k_is)
    (case z_reversed => k_is)
    (case a_Machine => k_is)
    (case a_NoWord => k_is)
    (case a_NoNumber => k_is)
    (case fi_Machine___init__ => k_is)
    (case l_Machine___init__ => k_is)
    (case c_Machine___init__ => k_is)
    (case k_Machine___init__ => k_is)
    (case fn_Machine___init__ => k_is)
    (case fi_Machine_letters => k_is)
    (case l_Machine_letters => k_is)
    (case c_Machine_letters => k_is)
    (case k_Machine_letters => k_is)
    (case fn_Machine_letters => k_is)
    (case fi_Machine_table => k_is)
    (case l_Machine_table => k_is)
    (case c_Machine_table => k_is)
    (case k_Machine_table => k_is)
    (case fn_Machine_table => k_is)
    (case fi_Machine_accepts => k_is)
    (case l_Machine_accepts => k_is)
    (case c_Machine_accepts => k_is)
    (case k_Machine_accepts => k_is)
    (case fn_Machine_accepts => k_is)
    (case c_pg => first | rfl | k_is)
    (case c_hd => k_is)
    (case c_po => k_is)
    (case c_sa => k_is)
    (case n_letters => k_is)
    (case n_table => k_is)
    (case n_accepts => k_is)
    (case h_makes => k_is)
    (case kp_Machine => k_is)
    (case x_NoWord => k_exc)
    (case kp_NoWord => k_is)
    (case x_NoNumber => k_exc)
    (case kp_NoNumber => k_is)
    (case b_NoWord => k_is)
    (case t_NoWord => k_is)
    (case i_NoWord => k_is)
    (case b_NoNumber => k_is)
    (case t_NoNumber => k_is)
    (case i_NoNumber => k_is)
    (case s22 => first | rfl | k_is)
    (case s32 => first | rfl | k_is)
    (case s33 => first | rfl | k_is)
