import PyProof.Rows.All
import Wide.All
import OpenK.AllK
import Wide.FinOn
import HandS.ForMost
import HandS.ForExc
import HandS.StrMore
import HandS.Zip
import HandS.IsInst
import HandS.Conv
import HandS.Codes
import HandS.Evl
import HandS.Wide
import HandS.Replace
import HandS.Walk
import HandS.More
import HandS.TupAny
import KE.GoesZip
import KE.GoesMore
import PySem.Challenge.RW_saidacross_k01_parts_and_equal_machines
import HandS.Small
import HandS.TryMany
import HandS.Style
import PyProof.ReprRoads
import HandS.SortInts
set_option Elab.async false
set_option linter.all false
set_option maxRecDepth 100000
set_option maxHeartbeats 4000000
namespace Z
open PySem PySem.Spec PyProof.Rows L2
open C8 (tCut pss_cut Cal pe_c Met pe_mt pe_mt0 Mak pe_mk)
/-! ### texts as lists of codes -/
abbrev S (l : List Nat) : Str := ⟨l.toArray⟩
abbrev codes (w : Str) : List Nat := w.cps.toList
theorem S_codes (w : Str) : S (codes w) = w := rfl
theorem codes_S (l : List Nat) : codes (S l) = l := rfl
theorem S_len (l : List Nat) : (S l).length = l.length := by show l.toArray.size = _; simp
theorem S_inj {a b : List Nat} (h : S a = S b) : a = b := by
  have := congrArg codes h
  simpa using this
theorem S_app (a b : List Nat) : S a ++ S b = S (a ++ b) := by
  show (⟨a.toArray ++ b.toArray⟩ : Str) = _
  simp [S]
/-! ### readings under names, and how one goes into them -/
def zAdd : R2 := rI0 fun i j => .int (i + j)
def zSub : R2 := rI0 fun i j => .int (i - j)
def zMul : R2 := rI CMul fun i j => .int (i * j)
def zMod : R2 := rI (fun _ j => 0 < j) fun i j => .int (i % j)
def zDiv : R2 := rI CDivW fun i j => .int (i / j)
def zPow : R2 := rI CPow fun i j => .int (i ^ Int.toNat j)
def zAddS : R2 := fun x y H Q => ∃ i j : Str, x = V.str i ∧ y = V.str j ∧ i.length + j.length ≤ sizeLine ∧ Q (V.str (i ++ j)) H
def zLt : R2 := rI0 fun i j => .bl (decide (i < j))
def zLe : R2 := rI0 fun i j => .bl (decide (i ≤ j))
def zGt : R2 := rI0 fun i j => .bl (decide (j < i))
def zGe : R2 := rI0 fun i j => .bl (decide (j ≤ i))
def zLtS : R2 := fun x y H Q => ∃ i j : Str, x = V.str i ∧ y = V.str j ∧ Q (V.bl (decide (i.cps.toList < j.cps.toList))) H
def zLeS : R2 := fun x y H Q => ∃ i j : Str, x = V.str i ∧ y = V.str j ∧ Q (V.bl (!decide (j.cps.toList < i.cps.toList))) H
def zInS : R2 := fun x y H Q => ∃ (c : Nat) (z : Str), x = V.str ⟨#[c]⟩ ∧ y = V.str z ∧ Q (V.bl (decide (c ∈ z.cps.toList))) H
def zNInS : R2 := fun x y H Q => ∃ (c : Nat) (z : Str), x = V.str ⟨#[c]⟩ ∧ y = V.str z ∧ Q (V.bl (!decide (c ∈ z.cps.toList))) H
section
variable {X : Cx}
theorem z_add : OpR X (binaryOp .Add) zAdd := op_add
theorem z_sub : OpR X (binaryOp .Sub) zSub := op_sub
theorem z_mul : OpR X (binaryOp .Mult) zMul := op_mul
theorem z_mod : OpR X (binaryOp .Mod) zMod := op_mod
theorem z_div : OpR X (binaryOp .FloorDiv) zDiv := op_fdivW
theorem z_pow : OpR X (binaryOp .Pow) zPow := op_pow
theorem z_adds : OpR X (binaryOp .Add) zAddS := op_add_str
theorem z_lt : OpR X (compareOp .Lt) zLt := op_lt
theorem z_le : OpR X (compareOp .LtE) zLe := op_le
theorem z_gt : OpR X (compareOp .Gt) zGt := op_gt
theorem z_ge : OpR X (compareOp .GtE) zGe := op_ge
theorem z_lts : OpR X (compareOp .Lt) zLtS := op_lt_str
theorem z_les : OpR X (compareOp .LtE) zLeS := op_le_str
theorem z_ins : OpR X (compareOp .In) zInS := op_in_sign
theorem z_nins : OpR X (compareOp .NotIn) zNInS := op_notIn_sign
end
/-- what a boolean value is for what follows -/
def KB (x : V) (P : Bool → Prop) : Prop := ∃ c, x = V.bl c ∧ P c
theorem i_KB {b : Bool} {P : Bool → Prop} (h : P b) : KB (.bl b) P := ⟨b, rfl, h⟩
section
variable {σ : L2.St} {H : Hp} {Q : VK} {D : Ends} {K : PySem.W.Frag} {ta tb tc te : TE} {t u : TS} {r r' : R2} {i j : Int} {a b : List Nat} {x y v : V} {P : V → Hp → Prop}
theorem i_var {n : Nat} (h : σ[n]? = some (some v)) (q : Q v H) : tVar n σ H Q := ⟨v, h, q⟩
theorem i_c (q : Q v H) : tC v σ H Q := q
theorem i_cs {w : Str} (q : Q (.str (S (codes w))) H) : tC (.str w) σ H Q := q
theorem i_op (q : ta σ H fun x H1 => tb σ H1 fun y H2 => r x y H2 Q) : tOp r ta tb σ H Q := q
theorem i_un {r : V → Hp → VK → Prop} (q : ta σ H fun x H1 => r x H1 Q) : tUn r ta σ H Q := q
theorem i_add (q : Q (.int (i + j)) H) : zAdd (.int i) (.int j) H Q := ⟨i, j, rfl, rfl, q⟩
theorem i_sub (q : Q (.int (i - j)) H) : zSub (.int i) (.int j) H Q := ⟨i, j, rfl, rfl, q⟩
theorem i_mul (h : -2 ^ 64 < i ∧ i < 2 ^ 64 ∨ -2 ^ 64 < j ∧ j < 2 ^ 64) (q : Q (.int (i * j)) H) : zMul (.int i) (.int j) H Q := ⟨i, j, rfl, rfl, h, q⟩
theorem i_mod (h : 0 < j) (q : Q (.int (i % j)) H) : zMod (.int i) (.int j) H Q := ⟨i, j, rfl, rfl, h, q⟩
theorem i_div (h : CDivW i j) (q : Q (.int (i / j)) H) : zDiv (.int i) (.int j) H Q := ⟨i, j, rfl, rfl, h, q⟩
theorem i_pow (h : CPow i j) (q : Q (.int (i ^ Int.toNat j)) H) : zPow (.int i) (.int j) H Q := ⟨i, j, rfl, rfl, h, q⟩
theorem i_adds (h : a.length + b.length ≤ 100000) (q : Q (.str (S (a ++ b))) H) : zAddS (.str (S a)) (.str (S b)) H Q :=
  ⟨_, _, rfl, rfl, by rw [S_len, S_len]; exact Nat.le_trans h (by decide), by rw [S_app]; exact q⟩
theorem i_lt (q : Q (.bl (decide (i < j))) H) : zLt (.int i) (.int j) H Q := ⟨i, j, rfl, rfl, q⟩
theorem i_le (q : Q (.bl (decide (i ≤ j))) H) : zLe (.int i) (.int j) H Q := ⟨i, j, rfl, rfl, q⟩
theorem i_gt (q : Q (.bl (decide (j < i))) H) : zGt (.int i) (.int j) H Q := ⟨i, j, rfl, rfl, q⟩
theorem i_ge (q : Q (.bl (decide (j ≤ i))) H) : zGe (.int i) (.int j) H Q := ⟨i, j, rfl, rfl, q⟩
theorem i_lts (q : Q (.bl (decide (a < b))) H) : zLtS (.str (S a)) (.str (S b)) H Q := ⟨_, _, rfl, rfl, q⟩
theorem i_les (q : Q (.bl (!decide (b < a))) H) : zLeS (.str (S a)) (.str (S b)) H Q := ⟨_, _, rfl, rfl, q⟩
theorem i_ins {c : Nat} (q : Q (.bl (decide (c ∈ a))) H) : zInS (.str (S [c])) (.str (S a)) H Q := ⟨c, S a, rfl, rfl, q⟩
theorem i_nins {c : Nat} (q : Q (.bl (!decide (c ∈ a))) H) : zNInS (.str (S [c])) (.str (S a)) H Q := ⟨c, S a, rfl, rfl, q⟩
theorem i_eqI (q : Q (.bl (decide (i = j))) H) : rEq (.int i) (.int j) H Q := ⟨rfl, by have e : decide (V.int i = V.int j) = decide (i = j) := by simp
                                                                                       rw [e]; exact q⟩
theorem i_neI (q : Q (.bl (!decide (i = j))) H) : rNe (.int i) (.int j) H Q := ⟨rfl, by have e : decide (V.int i = V.int j) = decide (i = j) := by simp
                                                                                        rw [e]; exact q⟩
theorem eq_S : decide (V.str (S a) = V.str (S b)) = decide (a = b) := by
  by_cases h : a = b
  · subst h; simp
  · rw [decide_eq_false h]; exact decide_eq_false fun e => h (S_inj (V.str.inj e))
theorem i_eqS (q : Q (.bl (decide (a = b))) H) : rEq (.str (S a)) (.str (S b)) H Q := ⟨rfl, by rw [eq_S]; exact q⟩
theorem i_neS (q : Q (.bl (!decide (a = b))) H) : rNe (.str (S a)) (.str (S b)) H Q := ⟨rfl, by rw [eq_S]; exact q⟩
theorem i_eqB {c d : Bool} (q : Q (.bl (decide (c = d))) H) : rEq (.bl c) (.bl d) H Q := ⟨rfl, by have e : decide (V.bl c = V.bl d) = decide (c = d) := by simp
                                                                                                  rw [e]; exact q⟩
theorem i_neg (q : Q (.int (-i)) H) : rU (fun i => V.int (-i)) (.int i) H Q := ⟨i, rfl, q⟩
/-! booleans as values -/
theorem i_and (q : ta σ H fun x H1 => KB x fun c => if c = true then tb σ H1 Q else Q (.bl false) H1) : tAndV ta tb σ H Q := q
theorem i_or (q : ta σ H fun x H1 => KB x fun c => if c = true then Q (.bl true) H1 else tb σ H1 Q) : tOrV ta tb σ H Q := q
theorem i_not (q : ta σ H fun x H1 => KB x fun c => Q (.bl (!c)) H1) : tNotV ta σ H Q := q
theorem i_chain (q : ta σ H fun x H1 => tb σ H1 fun y H2 => r x y H2 fun z H3 => KB z fun k => if k = true then tc σ H3 fun w' H4 => r' y w' H4 Q else Q (.bl false) H3) : tChain r r' ta tb tc σ H Q := q
theorem i_tB {R : Bool → Hp → Prop} (q : te σ H fun x H1 => KB x fun c => R c H1) : tB te σ H R := q
theorem i_ifS {c : TT} (q : c σ H fun b H1 => if b = true then t D σ H1 else u D σ H1) : tIfS c t u D σ H := q
theorem i_if {c : TT} (q : c σ H fun b H1 => if b = true then ta σ H1 Q else tb σ H1 Q) : tIf c ta tb σ H Q := q
theorem i_test {R : Bool → Hp → Prop} (q : te σ H fun x H1 => KB x fun c => R c H1) : tTest te σ H R := q
theorem i_tand {c d : TT} {R : Bool → Hp → Prop} (q : c σ H fun b H1 => if b = true then d σ H1 R else R false H1) : tAnd c d σ H R := q
theorem i_tor {c d : TT} {R : Bool → Hp → Prop} (q : c σ H fun b H1 => if b = true then R true H1 else d σ H1 R) : tOr c d σ H R := q
theorem i_tnot {c : TT} {R : Bool → Hp → Prop} (q : c σ H fun b H1 => R (!b) H1) : tNot c σ H R := q
theorem brb {c : Bool} {A B : Prop} (h1 : c = true → A) (h2 : c = false → B) : if c = true then A else B := by
  cases c
  · exact iteF (h2 rfl)
  · exact iteT (h1 rfl)
theorem brd {p : Prop} [Decidable p] {A B : Prop} (h1 : p → A) (h2 : ¬ p → B) : if decide p = true then A else B := by
  by_cases h : p
  · rw [decide_eq_true h]; exact iteT (h1 h)
  · rw [decide_eq_false h]; exact iteF (h2 h)
theorem brn {p : Prop} [Decidable p] {A B : Prop} (h1 : ¬ p → A) (h2 : p → B) : if (!decide p) = true then A else B := by
  by_cases h : p
  · rw [decide_eq_true h]; exact iteF (h2 h)
  · rw [decide_eq_false h]; exact iteT (h1 h)
/-! arguments, calls, displays -/
theorem i_nil {R : List V → Hp → Prop} (q : R [] H) : tNil σ H R := q
theorem i_cons {tr : TA} {R : List V → Hp → Prop} (q : ta σ H fun x H1 => tr σ H1 fun xs H2 => R (x :: xs) H2) : tCons ta tr σ H R := q
theorem i_call {sp : Sp} {dvs : List V} {E : XK} {t : TA} (q : t σ H fun vs H1 => sp (vs ++ dvs) H1 Q E) : tCall sp dvs E t σ H Q := q
theorem i_cb {r : List V → Hp → VK → Prop} {t : TA} (q : t σ H fun vs H1 => r vs H1 Q) : tCB r t σ H Q := q
theorem i_tup {t : TA} (q : t σ H fun xs H1 => xs.length ≤ sizeLine ∧ ∀ p, H1 p = none → Q (.ref p) (upd H1 p (.tup xs))) : tTup t σ H Q := q
theorem i_lst {t : TA} (q : t σ H fun xs H1 => xs.length ≤ sizeLine ∧ ∀ p, H1 p = none → Q (.ref p) (upd H1 p (.lst xs))) : tLst t σ H Q := q
theorem i_bm {T : String} {r : V → List V → Hp → VK → Prop} {t : TA} (q : ta σ H fun x H1 => tyV K T x H1 ∧ t σ H1 fun xs H2 => r x xs H2 Q) : tBM K T r ta t σ H Q := q
theorem i_bm0 {T : String} {r : V → List V → Hp → VK → Prop} (q : ta σ H fun x H1 => tyV K T x H1 ∧ r x [] H1 Q) : tBM0 K T r ta σ H Q := q
theorem i_sl {r : V → Option Int → Option Int → Hp → VK → Prop} {tl th : TO} (q : te σ H fun x H1 => tl σ H1 fun l H2 => th σ H2 fun u H3 => r x l u H3 Q) : L2.tSl r te tl th σ H Q := q
theorem i_po0 {R : Option Int → Hp → Prop} (q : R none H) : tNoPart σ H R := q
def KI (x : V) (P : Int → Prop) : Prop := ∃ i, x = V.int i ∧ P i
theorem i_KI {P : Int → Prop} (h : P i) : KI (.int i) P := ⟨i, rfl, h⟩
theorem i_po1 {R : Option Int → Hp → Prop} (q : te σ H fun x H1 => KI x fun i => R (some i) H1) : tPart te σ H R := q
/-! statements -/
theorem i_seq (q : t { D with nx := u D } σ H) : tSeq t u D σ H := q
theorem i_next (q : D.nx σ H) : tNext D σ H := q
theorem i_asg {g : TG} (q : te σ H fun x H1 => g x σ H1 D.nx) : tAsg te g D σ H := q
theorem i_gname {n : Nat} {R : L2.St → Hp → Prop} (q : R (σ.set n (some v)) H) : gName n v σ H R := q
theorem i_ret (q : te σ H D.rt) : tRet te D σ H := q
theorem i_retN (q : D.rt .non H) : tRetN D σ H := q
theorem i_drop (q : te σ H fun _ H1 => D.nx σ H1) : tDrop te D σ H := q
theorem i_brk (q : D.bk σ H) : tBreak D σ H := q
theorem i_cont (q : D.ct σ H) : tCont D σ H := q
theorem i_gsub {to ti : TE} {s : TSet} {R : L2.St → Hp → Prop} (q : to σ H fun o H1 => ti σ H1 fun i H2 => s o i v H2 fun H3 => R σ H3) : gSub to ti s v σ H R := q
/-! loops -/
def FOR (J : It) (g : TG) (tb : TS) (D : Ends) (σ : L2.St) (H : Hp) : Prop := ∃ W : Nat → Nat → L2.St → Hp → Prop, (∃ m, W 0 m σ H) ∧ ∀ i m σ H, W i m σ H →
  (J.stop i H ∧ D.nx σ H) ∨ (J.go i H ∧ ∃ N : L2.St → Hp → Prop, (∀ σ' H', N σ' H' → ∃ m', m' < m ∧ W (i + 1) m' σ' H') ∧ ∀ x H', J.yld i H x H' → g x σ H' fun σ2 H2 => tb { D with nx := N, ct := N, bk := D.nx } σ2 H2)
theorem i_for {wi : TI} {g : TG} {tb : TS} (q : wi σ H fun J H1 => FOR J g tb D σ H1) : tFor wi g tb D σ H := q
def LC (J : It) (g : TG) (tt : TT) (te : TE) (vs : List Nat) (σ : L2.St) (H1 : Hp) (Q : VK) (D : Addr) : Prop := ∃ W : Nat → Nat → Hp → Prop, (∃ m, W 0 m (upd H1 D (.lst []))) ∧ ∀ i m H, W i m H →
  (J.stop i H ∧ Q (.ref D) H) ∨ (J.go i H ∧ ∃ Nx : Hp → Prop, (∀ H', Nx H' → ∃ m', m' < m ∧ W (i + 1) m' H') ∧ ∀ x H', J.yld i H x H' → g x (wipe σ vs) H' fun σ2 H2 => wipe σ2 vs = wipe σ vs ∧ tt σ2 H2 fun b H3 =>
    if b = true then te σ2 H3 fun y H4 => ∃ acc, H4 D = some (.lst acc) ∧ acc.length < sizeLine ∧ Nx (upd H4 D (.lst (acc ++ [y]))) else Nx H3)
theorem i_lc {wi : TI} {g : TG} {tt : TT} {vs : List Nat} (q : wi σ H fun J H1 => ∀ D, H1 D = none → LC J g tt te vs σ H1 Q D) : tLc wi g tt te vs σ H Q := q
theorem i_yes {R : Bool → Hp → Prop} (q : R true H) : tYes σ H R := q
def KR1 (vs : List V) (P : Int → Prop) : Prop := ∃ j : Int, vs = [.int j] ∧ -(2 ^ 62) ≤ j ∧ j < 2 ^ 62 ∧ P j
theorem i_r1 {ta : TA} {R : It → Hp → Prop} (q : ta σ H fun vs H1 => KR1 vs fun j => R (Itr 0 j.toNat) H1) : iRng1 ta σ H R := q
theorem i_KR1 {P : Int → Prop} (h : -100000 ≤ j ∧ j ≤ 100000) (q : P j) : KR1 [.int j] P := ⟨j, rfl, by omega, by omega, q⟩
def KS (x : V) (P : Str → Prop) : Prop := ∃ z, x = V.str z ∧ P z
theorem i_KS {P : Str → Prop} (q : P (S a)) : KS (.str (S a)) P := ⟨_, rfl, q⟩
theorem i_istr {R : It → Hp → Prop} (q : te σ H fun x H1 => KS x fun z => R (Its z) H1) : iStr te σ H R := q
def KL (K : PySem.W.Frag) (x : V) (H1 : Hp) (P : Addr → Prop) : Prop := ∃ a, x = V.ref a ∧ (∃ xs, SqL K H1 a xs) ∧ P a
theorem i_ilist {R : It → Hp → Prop} (q : te σ H fun x H1 => KL K x H1 fun a => R (Itl K a) H1) : iList K te σ H R := q
theorem i_KL {a : Addr} {xs : List V} {P : Addr → Prop} (h : SqL K H a xs) (q : P a) : KL K (.ref a) H P := ⟨a, rfl, ⟨xs, h⟩, q⟩
def KT (K : PySem.W.Frag) (x : V) (H1 : Hp) (P : Addr → Prop) : Prop := ∃ a, x = V.ref a ∧ (∃ xs, SqT K H1 a xs) ∧ P a
theorem i_itup {R : It → Hp → Prop} (q : te σ H fun x H1 => KT K x H1 fun a => R (Itt K a) H1) : iTup K te σ H R := q
theorem i_KT {a : Addr} {xs : List V} {P : Addr → Prop} (h : SqT K H a xs) (q : P a) : KT K (.ref a) H P := ⟨a, rfl, ⟨xs, h⟩, q⟩
theorem l_for {J : It} {n : Nat} {G : Hp → Prop} {Y : Nat → Hp → V → Hp → Prop} (w : Walk J n G Y) {g : TG} {tb : TS} (Pv : Nat → L2.St → Hp → Prop) (h0 : Pv 0 σ H) (hG : ∀ i σ H, i ≤ n → Pv i σ H → G H)
    (hs : ∀ i x σ H H', i < n → Pv i σ H → Y i H x H' → g x σ H' fun σ2 H2 => tb { D with nx := Pv (i + 1), ct := Pv (i + 1), bk := D.nx } σ2 H2) (hd : ∀ σ H, Pv n σ H → D.nx σ H) : FOR J g tb D σ H :=
  for_it w Pv h0 hG hs hd
theorem l_range {n : Nat} {g : TG} {tb : TS} (Pv : Nat → L2.St → Hp → Prop) (h0 : Pv 0 σ H)
    (hs : ∀ i σ H, i < n → Pv i σ H → g (.int i) σ H fun σ2 H2 => tb { D with nx := Pv (i + 1), ct := Pv (i + 1), bk := D.nx } σ2 H2) (hd : ∀ σ H, Pv n σ H → D.nx σ H) : FOR (Itr 0 n) g tb D σ H :=
  for_range (lo := 0) Pv h0 (fun i σ H hi p => by rw [Int.zero_add]; exact hs i σ H hi p) hd
theorem l_str {g : TG} {tb : TS} (Pv : Nat → L2.St → Hp → Prop) (h0 : Pv 0 σ H)
    (hs : ∀ i c σ H, a[i]? = some c → Pv i σ H → g (.str (S [c])) σ H fun σ2 H2 => tb { D with nx := Pv (i + 1), ct := Pv (i + 1), bk := D.nx } σ2 H2) (hd : ∀ σ H, Pv a.length σ H → D.nx σ H) : FOR (Its (S a)) g tb D σ H :=
  for_it walk_str Pv h0 (fun _ _ _ _ _ => trivial) (fun i x σ H H' hi p y => by
    obtain ⟨e, c, hc, ex⟩ := y
    subst e; subst ex
    exact hs i c σ _ (by simpa using hc) p) fun σ H p => hd σ H (by simpa using p)
theorem l_lc {J : It} {n : Nat} {G : Hp → Prop} {Y : Nat → Hp → V → Hp → Prop} (w : Walk J n G Y) {g : TG} {tt : TT} {te : TE} {vs : List Nat} {Dl : Addr} (Pv : Nat → Hp → Prop) (h0 : Pv 0 (upd H Dl (.lst []))) (hG : ∀ i H, i ≤ n → Pv i H → G H)
    (hs : ∀ i x H H', i < n → Pv i H → Y i H x H' → g x (wipe σ vs) H' fun σ2 H2 => wipe σ2 vs = wipe σ vs ∧ tt σ2 H2 fun b H3 =>
      if b = true then te σ2 H3 fun y H4 => ∃ acc, H4 Dl = some (.lst acc) ∧ acc.length < sizeLine ∧ Pv (i + 1) (upd H4 Dl (.lst (acc ++ [y]))) else Pv (i + 1) H3) (hd : ∀ H, Pv n H → Q (.ref Dl) H) : LC J g tt te vs σ H Q Dl :=
  lc_it w Pv h0 hG hs hd
theorem l_lcstr {g : TG} {tt : TT} {te : TE} {vs : List Nat} {Dl : Addr} (Pv : Nat → Hp → Prop) (h0 : Pv 0 (upd H Dl (.lst [])))
    (hs : ∀ i c H, a[i]? = some c → Pv i H → g (.str (S [c])) (wipe σ vs) H fun σ2 H2 => wipe σ2 vs = wipe σ vs ∧ tt σ2 H2 fun b H3 =>
      if b = true then te σ2 H3 fun y H4 => ∃ acc, H4 Dl = some (.lst acc) ∧ acc.length < sizeLine ∧ Pv (i + 1) (upd H4 Dl (.lst (acc ++ [y]))) else Pv (i + 1) H3) (hd : ∀ H, Pv a.length H → Q (.ref Dl) H) : LC (Its (S a)) g tt te vs σ H Q Dl :=
  lc_it walk_str Pv h0 (fun _ _ _ _ => trivial) (fun i x H H' hi p y => by
    obtain ⟨e, c, hc, ex⟩ := y
    subst e; subst ex
    exact hs i c _ (by simpa using hc) p) fun H p => hd H (by simpa using p)
end
end Z
namespace Z
open PySem PySem.Spec PyProof.Rows L2
open C8 (tCut pss_cut Cal pe_c Met pe_mt pe_mt0 Mak pe_mk)
section
variable {H : Hp} {Q : VK} {v : V} {R : L2.St → Hp → Prop} {y : Option V} {r : L2.St}
theorem i_v0 (q : Q v H) : tVar 0 (some v :: r) H Q := ⟨v, rfl, q⟩
theorem i_g0 (q : R (some v :: r) H) : gName 0 v (y :: r) H R := q
theorem i_v1 {x0 : Option V} (q : Q v H) : tVar 1 (x0 :: some v :: r) H Q := ⟨v, rfl, q⟩
theorem i_g1 {x0 : Option V} (q : R (x0 :: some v :: r) H) : gName 1 v (x0 :: y :: r) H R := q
theorem i_v2 {x0 x1 : Option V} (q : Q v H) : tVar 2 (x0 :: x1 :: some v :: r) H Q := ⟨v, rfl, q⟩
theorem i_g2 {x0 x1 : Option V} (q : R (x0 :: x1 :: some v :: r) H) : gName 2 v (x0 :: x1 :: y :: r) H R := q
theorem i_v3 {x0 x1 x2 : Option V} (q : Q v H) : tVar 3 (x0 :: x1 :: x2 :: some v :: r) H Q := ⟨v, rfl, q⟩
theorem i_g3 {x0 x1 x2 : Option V} (q : R (x0 :: x1 :: x2 :: some v :: r) H) : gName 3 v (x0 :: x1 :: x2 :: y :: r) H R := q
theorem i_v4 {x0 x1 x2 x3 : Option V} (q : Q v H) : tVar 4 (x0 :: x1 :: x2 :: x3 :: some v :: r) H Q := ⟨v, rfl, q⟩
theorem i_g4 {x0 x1 x2 x3 : Option V} (q : R (x0 :: x1 :: x2 :: x3 :: some v :: r) H) : gName 4 v (x0 :: x1 :: x2 :: x3 :: y :: r) H R := q
theorem i_v5 {x0 x1 x2 x3 x4 : Option V} (q : Q v H) : tVar 5 (x0 :: x1 :: x2 :: x3 :: x4 :: some v :: r) H Q := ⟨v, rfl, q⟩
theorem i_g5 {x0 x1 x2 x3 x4 : Option V} (q : R (x0 :: x1 :: x2 :: x3 :: x4 :: some v :: r) H) : gName 5 v (x0 :: x1 :: x2 :: x3 :: x4 :: y :: r) H R := q
theorem i_v6 {x0 x1 x2 x3 x4 x5 : Option V} (q : Q v H) : tVar 6 (x0 :: x1 :: x2 :: x3 :: x4 :: x5 :: some v :: r) H Q := ⟨v, rfl, q⟩
theorem i_g6 {x0 x1 x2 x3 x4 x5 : Option V} (q : R (x0 :: x1 :: x2 :: x3 :: x4 :: x5 :: some v :: r) H) : gName 6 v (x0 :: x1 :: x2 :: x3 :: x4 :: x5 :: y :: r) H R := q
theorem i_v7 {x0 x1 x2 x3 x4 x5 x6 : Option V} (q : Q v H) : tVar 7 (x0 :: x1 :: x2 :: x3 :: x4 :: x5 :: x6 :: some v :: r) H Q := ⟨v, rfl, q⟩
theorem i_g7 {x0 x1 x2 x3 x4 x5 x6 : Option V} (q : R (x0 :: x1 :: x2 :: x3 :: x4 :: x5 :: x6 :: some v :: r) H) : gName 7 v (x0 :: x1 :: x2 :: x3 :: x4 :: x5 :: x6 :: y :: r) H R := q
theorem i_v8 {x0 x1 x2 x3 x4 x5 x6 x7 : Option V} (q : Q v H) : tVar 8 (x0 :: x1 :: x2 :: x3 :: x4 :: x5 :: x6 :: x7 :: some v :: r) H Q := ⟨v, rfl, q⟩
theorem i_g8 {x0 x1 x2 x3 x4 x5 x6 x7 : Option V} (q : R (x0 :: x1 :: x2 :: x3 :: x4 :: x5 :: x6 :: x7 :: some v :: r) H) : gName 8 v (x0 :: x1 :: x2 :: x3 :: x4 :: x5 :: x6 :: x7 :: y :: r) H R := q
theorem i_v9 {x0 x1 x2 x3 x4 x5 x6 x7 x8 : Option V} (q : Q v H) : tVar 9 (x0 :: x1 :: x2 :: x3 :: x4 :: x5 :: x6 :: x7 :: x8 :: some v :: r) H Q := ⟨v, rfl, q⟩
theorem i_g9 {x0 x1 x2 x3 x4 x5 x6 x7 x8 : Option V} (q : R (x0 :: x1 :: x2 :: x3 :: x4 :: x5 :: x6 :: x7 :: x8 :: some v :: r) H) : gName 9 v (x0 :: x1 :: x2 :: x3 :: x4 :: x5 :: x6 :: x7 :: x8 :: y :: r) H R := q
theorem i_v10 {x0 x1 x2 x3 x4 x5 x6 x7 x8 x9 : Option V} (q : Q v H) : tVar 10 (x0 :: x1 :: x2 :: x3 :: x4 :: x5 :: x6 :: x7 :: x8 :: x9 :: some v :: r) H Q := ⟨v, rfl, q⟩
theorem i_g10 {x0 x1 x2 x3 x4 x5 x6 x7 x8 x9 : Option V} (q : R (x0 :: x1 :: x2 :: x3 :: x4 :: x5 :: x6 :: x7 :: x8 :: x9 :: some v :: r) H) : gName 10 v (x0 :: x1 :: x2 :: x3 :: x4 :: x5 :: x6 :: x7 :: x8 :: x9 :: y :: r) H R := q
theorem i_v11 {x0 x1 x2 x3 x4 x5 x6 x7 x8 x9 x10 : Option V} (q : Q v H) : tVar 11 (x0 :: x1 :: x2 :: x3 :: x4 :: x5 :: x6 :: x7 :: x8 :: x9 :: x10 :: some v :: r) H Q := ⟨v, rfl, q⟩
theorem i_g11 {x0 x1 x2 x3 x4 x5 x6 x7 x8 x9 x10 : Option V} (q : R (x0 :: x1 :: x2 :: x3 :: x4 :: x5 :: x6 :: x7 :: x8 :: x9 :: x10 :: some v :: r) H) : gName 11 v (x0 :: x1 :: x2 :: x3 :: x4 :: x5 :: x6 :: x7 :: x8 :: x9 :: x10 :: y :: r) H R := q
theorem i_v12 {x0 x1 x2 x3 x4 x5 x6 x7 x8 x9 x10 x11 : Option V} (q : Q v H) : tVar 12 (x0 :: x1 :: x2 :: x3 :: x4 :: x5 :: x6 :: x7 :: x8 :: x9 :: x10 :: x11 :: some v :: r) H Q := ⟨v, rfl, q⟩
theorem i_g12 {x0 x1 x2 x3 x4 x5 x6 x7 x8 x9 x10 x11 : Option V} (q : R (x0 :: x1 :: x2 :: x3 :: x4 :: x5 :: x6 :: x7 :: x8 :: x9 :: x10 :: x11 :: some v :: r) H) : gName 12 v (x0 :: x1 :: x2 :: x3 :: x4 :: x5 :: x6 :: x7 :: x8 :: x9 :: x10 :: x11 :: y :: r) H R := q
theorem i_v13 {x0 x1 x2 x3 x4 x5 x6 x7 x8 x9 x10 x11 x12 : Option V} (q : Q v H) : tVar 13 (x0 :: x1 :: x2 :: x3 :: x4 :: x5 :: x6 :: x7 :: x8 :: x9 :: x10 :: x11 :: x12 :: some v :: r) H Q := ⟨v, rfl, q⟩
theorem i_g13 {x0 x1 x2 x3 x4 x5 x6 x7 x8 x9 x10 x11 x12 : Option V} (q : R (x0 :: x1 :: x2 :: x3 :: x4 :: x5 :: x6 :: x7 :: x8 :: x9 :: x10 :: x11 :: x12 :: some v :: r) H) : gName 13 v (x0 :: x1 :: x2 :: x3 :: x4 :: x5 :: x6 :: x7 :: x8 :: x9 :: x10 :: x11 :: x12 :: y :: r) H R := q
theorem i_v14 {x0 x1 x2 x3 x4 x5 x6 x7 x8 x9 x10 x11 x12 x13 : Option V} (q : Q v H) : tVar 14 (x0 :: x1 :: x2 :: x3 :: x4 :: x5 :: x6 :: x7 :: x8 :: x9 :: x10 :: x11 :: x12 :: x13 :: some v :: r) H Q := ⟨v, rfl, q⟩
theorem i_g14 {x0 x1 x2 x3 x4 x5 x6 x7 x8 x9 x10 x11 x12 x13 : Option V} (q : R (x0 :: x1 :: x2 :: x3 :: x4 :: x5 :: x6 :: x7 :: x8 :: x9 :: x10 :: x11 :: x12 :: x13 :: some v :: r) H) : gName 14 v (x0 :: x1 :: x2 :: x3 :: x4 :: x5 :: x6 :: x7 :: x8 :: x9 :: x10 :: x11 :: x12 :: x13 :: y :: r) H R := q
theorem i_v15 {x0 x1 x2 x3 x4 x5 x6 x7 x8 x9 x10 x11 x12 x13 x14 : Option V} (q : Q v H) : tVar 15 (x0 :: x1 :: x2 :: x3 :: x4 :: x5 :: x6 :: x7 :: x8 :: x9 :: x10 :: x11 :: x12 :: x13 :: x14 :: some v :: r) H Q := ⟨v, rfl, q⟩
theorem i_g15 {x0 x1 x2 x3 x4 x5 x6 x7 x8 x9 x10 x11 x12 x13 x14 : Option V} (q : R (x0 :: x1 :: x2 :: x3 :: x4 :: x5 :: x6 :: x7 :: x8 :: x9 :: x10 :: x11 :: x12 :: x13 :: x14 :: some v :: r) H) : gName 15 v (x0 :: x1 :: x2 :: x3 :: x4 :: x5 :: x6 :: x7 :: x8 :: x9 :: x10 :: x11 :: x12 :: x13 :: x14 :: y :: r) H R := q
theorem i_v16 {x0 x1 x2 x3 x4 x5 x6 x7 x8 x9 x10 x11 x12 x13 x14 x15 : Option V} (q : Q v H) : tVar 16 (x0 :: x1 :: x2 :: x3 :: x4 :: x5 :: x6 :: x7 :: x8 :: x9 :: x10 :: x11 :: x12 :: x13 :: x14 :: x15 :: some v :: r) H Q := ⟨v, rfl, q⟩
theorem i_g16 {x0 x1 x2 x3 x4 x5 x6 x7 x8 x9 x10 x11 x12 x13 x14 x15 : Option V} (q : R (x0 :: x1 :: x2 :: x3 :: x4 :: x5 :: x6 :: x7 :: x8 :: x9 :: x10 :: x11 :: x12 :: x13 :: x14 :: x15 :: some v :: r) H) : gName 16 v (x0 :: x1 :: x2 :: x3 :: x4 :: x5 :: x6 :: x7 :: x8 :: x9 :: x10 :: x11 :: x12 :: x13 :: x14 :: x15 :: y :: r) H R := q
theorem i_v17 {x0 x1 x2 x3 x4 x5 x6 x7 x8 x9 x10 x11 x12 x13 x14 x15 x16 : Option V} (q : Q v H) : tVar 17 (x0 :: x1 :: x2 :: x3 :: x4 :: x5 :: x6 :: x7 :: x8 :: x9 :: x10 :: x11 :: x12 :: x13 :: x14 :: x15 :: x16 :: some v :: r) H Q := ⟨v, rfl, q⟩
theorem i_g17 {x0 x1 x2 x3 x4 x5 x6 x7 x8 x9 x10 x11 x12 x13 x14 x15 x16 : Option V} (q : R (x0 :: x1 :: x2 :: x3 :: x4 :: x5 :: x6 :: x7 :: x8 :: x9 :: x10 :: x11 :: x12 :: x13 :: x14 :: x15 :: x16 :: some v :: r) H) : gName 17 v (x0 :: x1 :: x2 :: x3 :: x4 :: x5 :: x6 :: x7 :: x8 :: x9 :: x10 :: x11 :: x12 :: x13 :: x14 :: x15 :: x16 :: y :: r) H R := q
theorem i_v18 {x0 x1 x2 x3 x4 x5 x6 x7 x8 x9 x10 x11 x12 x13 x14 x15 x16 x17 : Option V} (q : Q v H) : tVar 18 (x0 :: x1 :: x2 :: x3 :: x4 :: x5 :: x6 :: x7 :: x8 :: x9 :: x10 :: x11 :: x12 :: x13 :: x14 :: x15 :: x16 :: x17 :: some v :: r) H Q := ⟨v, rfl, q⟩
theorem i_g18 {x0 x1 x2 x3 x4 x5 x6 x7 x8 x9 x10 x11 x12 x13 x14 x15 x16 x17 : Option V} (q : R (x0 :: x1 :: x2 :: x3 :: x4 :: x5 :: x6 :: x7 :: x8 :: x9 :: x10 :: x11 :: x12 :: x13 :: x14 :: x15 :: x16 :: x17 :: some v :: r) H) : gName 18 v (x0 :: x1 :: x2 :: x3 :: x4 :: x5 :: x6 :: x7 :: x8 :: x9 :: x10 :: x11 :: x12 :: x13 :: x14 :: x15 :: x16 :: x17 :: y :: r) H R := q
theorem i_v19 {x0 x1 x2 x3 x4 x5 x6 x7 x8 x9 x10 x11 x12 x13 x14 x15 x16 x17 x18 : Option V} (q : Q v H) : tVar 19 (x0 :: x1 :: x2 :: x3 :: x4 :: x5 :: x6 :: x7 :: x8 :: x9 :: x10 :: x11 :: x12 :: x13 :: x14 :: x15 :: x16 :: x17 :: x18 :: some v :: r) H Q := ⟨v, rfl, q⟩
theorem i_g19 {x0 x1 x2 x3 x4 x5 x6 x7 x8 x9 x10 x11 x12 x13 x14 x15 x16 x17 x18 : Option V} (q : R (x0 :: x1 :: x2 :: x3 :: x4 :: x5 :: x6 :: x7 :: x8 :: x9 :: x10 :: x11 :: x12 :: x13 :: x14 :: x15 :: x16 :: x17 :: x18 :: some v :: r) H) : gName 19 v (x0 :: x1 :: x2 :: x3 :: x4 :: x5 :: x6 :: x7 :: x8 :: x9 :: x10 :: x11 :: x12 :: x13 :: x14 :: x15 :: x16 :: x17 :: x18 :: y :: r) H R := q
theorem i_v20 {x0 x1 x2 x3 x4 x5 x6 x7 x8 x9 x10 x11 x12 x13 x14 x15 x16 x17 x18 x19 : Option V} (q : Q v H) : tVar 20 (x0 :: x1 :: x2 :: x3 :: x4 :: x5 :: x6 :: x7 :: x8 :: x9 :: x10 :: x11 :: x12 :: x13 :: x14 :: x15 :: x16 :: x17 :: x18 :: x19 :: some v :: r) H Q := ⟨v, rfl, q⟩
theorem i_g20 {x0 x1 x2 x3 x4 x5 x6 x7 x8 x9 x10 x11 x12 x13 x14 x15 x16 x17 x18 x19 : Option V} (q : R (x0 :: x1 :: x2 :: x3 :: x4 :: x5 :: x6 :: x7 :: x8 :: x9 :: x10 :: x11 :: x12 :: x13 :: x14 :: x15 :: x16 :: x17 :: x18 :: x19 :: some v :: r) H) : gName 20 v (x0 :: x1 :: x2 :: x3 :: x4 :: x5 :: x6 :: x7 :: x8 :: x9 :: x10 :: x11 :: x12 :: x13 :: x14 :: x15 :: x16 :: x17 :: x18 :: x19 :: y :: r) H R := q
theorem i_v21 {x0 x1 x2 x3 x4 x5 x6 x7 x8 x9 x10 x11 x12 x13 x14 x15 x16 x17 x18 x19 x20 : Option V} (q : Q v H) : tVar 21 (x0 :: x1 :: x2 :: x3 :: x4 :: x5 :: x6 :: x7 :: x8 :: x9 :: x10 :: x11 :: x12 :: x13 :: x14 :: x15 :: x16 :: x17 :: x18 :: x19 :: x20 :: some v :: r) H Q := ⟨v, rfl, q⟩
theorem i_g21 {x0 x1 x2 x3 x4 x5 x6 x7 x8 x9 x10 x11 x12 x13 x14 x15 x16 x17 x18 x19 x20 : Option V} (q : R (x0 :: x1 :: x2 :: x3 :: x4 :: x5 :: x6 :: x7 :: x8 :: x9 :: x10 :: x11 :: x12 :: x13 :: x14 :: x15 :: x16 :: x17 :: x18 :: x19 :: x20 :: some v :: r) H) : gName 21 v (x0 :: x1 :: x2 :: x3 :: x4 :: x5 :: x6 :: x7 :: x8 :: x9 :: x10 :: x11 :: x12 :: x13 :: x14 :: x15 :: x16 :: x17 :: x18 :: x19 :: x20 :: y :: r) H R := q
theorem i_v22 {x0 x1 x2 x3 x4 x5 x6 x7 x8 x9 x10 x11 x12 x13 x14 x15 x16 x17 x18 x19 x20 x21 : Option V} (q : Q v H) : tVar 22 (x0 :: x1 :: x2 :: x3 :: x4 :: x5 :: x6 :: x7 :: x8 :: x9 :: x10 :: x11 :: x12 :: x13 :: x14 :: x15 :: x16 :: x17 :: x18 :: x19 :: x20 :: x21 :: some v :: r) H Q := ⟨v, rfl, q⟩
theorem i_g22 {x0 x1 x2 x3 x4 x5 x6 x7 x8 x9 x10 x11 x12 x13 x14 x15 x16 x17 x18 x19 x20 x21 : Option V} (q : R (x0 :: x1 :: x2 :: x3 :: x4 :: x5 :: x6 :: x7 :: x8 :: x9 :: x10 :: x11 :: x12 :: x13 :: x14 :: x15 :: x16 :: x17 :: x18 :: x19 :: x20 :: x21 :: some v :: r) H) : gName 22 v (x0 :: x1 :: x2 :: x3 :: x4 :: x5 :: x6 :: x7 :: x8 :: x9 :: x10 :: x11 :: x12 :: x13 :: x14 :: x15 :: x16 :: x17 :: x18 :: x19 :: x20 :: x21 :: y :: r) H R := q
theorem i_v23 {x0 x1 x2 x3 x4 x5 x6 x7 x8 x9 x10 x11 x12 x13 x14 x15 x16 x17 x18 x19 x20 x21 x22 : Option V} (q : Q v H) : tVar 23 (x0 :: x1 :: x2 :: x3 :: x4 :: x5 :: x6 :: x7 :: x8 :: x9 :: x10 :: x11 :: x12 :: x13 :: x14 :: x15 :: x16 :: x17 :: x18 :: x19 :: x20 :: x21 :: x22 :: some v :: r) H Q := ⟨v, rfl, q⟩
theorem i_g23 {x0 x1 x2 x3 x4 x5 x6 x7 x8 x9 x10 x11 x12 x13 x14 x15 x16 x17 x18 x19 x20 x21 x22 : Option V} (q : R (x0 :: x1 :: x2 :: x3 :: x4 :: x5 :: x6 :: x7 :: x8 :: x9 :: x10 :: x11 :: x12 :: x13 :: x14 :: x15 :: x16 :: x17 :: x18 :: x19 :: x20 :: x21 :: x22 :: some v :: r) H) : gName 23 v (x0 :: x1 :: x2 :: x3 :: x4 :: x5 :: x6 :: x7 :: x8 :: x9 :: x10 :: x11 :: x12 :: x13 :: x14 :: x15 :: x16 :: x17 :: x18 :: x19 :: x20 :: x21 :: x22 :: y :: r) H R := q
end
section
variable {σ : L2.St} {H : Hp} {v : V} {a c d : L2.St → Hp → Prop} {b : VK}
theorem i_nx (q : a σ H) : Ends.nx ⟨a, b, c, d⟩ σ H := q
theorem i_rt (q : b v H) : Ends.rt ⟨a, b, c, d⟩ v H := q
theorem i_bk (q : c σ H) : Ends.bk ⟨a, b, c, d⟩ σ H := q
theorem i_ct (q : d σ H) : Ends.ct ⟨a, b, c, d⟩ σ H := q
end
end Z
namespace Z
open PySem PySem.Spec PyProof.Rows L2
open C8 (tCut pss_cut Cal pe_c Met pe_mt pe_mt0 Mak pe_mk)
/-! ### calls of built-ins, items, methods, by names -/
def zInt : List V → Hp → VK → Prop := fun xs H Q => (∃ i, xs = [.int i] ∧ Q (.int i) H) ∨ ∃ k, xs = [.bl k] ∧ Q (.int (if k = true then 1 else 0)) H
def zLenS : List V → Hp → VK → Prop := fun xs H Q => ∃ z : Str, xs = [.str z] ∧ z.length ≤ sizeLine ∧ Q (.int z.length) H
def zLen (K : PySem.W.Frag) : List V → Hp → VK → Prop := fun xs H Q => ∃ p ys, xs = [.ref p] ∧ (SqL K H p ys ∨ SqT K H p ys) ∧ Q (.int ys.length) H
def zAbs : List V → Hp → VK → Prop := fun xs H Q => ∃ i : Int, xs = [.int i] ∧ Q (.int (if i < 0 then -i else i)) H
def zMax : List V → Hp → VK → Prop := fun xs H Q => ∃ i j : Int, xs = [.int i, .int j] ∧ Q (.int (if j > i then j else i)) H
def zMin : List V → Hp → VK → Prop := fun xs H Q => ∃ i j : Int, xs = [.int i, .int j] ∧ Q (.int (if j < i then j else i)) H
def zList (K : PySem.W.Frag) : List V → Hp → VK → Prop := fun xs H Q => ∃ p ys, xs = [.ref p] ∧ (SqL K H p ys ∨ SqT K H p ys) ∧ ∀ l, H l = none → Q (.ref l) (upd H l (.lst ys))
def zTuple (K : PySem.W.Frag) : List V → Hp → VK → Prop := fun xs H Q => ∃ p ys, xs = [.ref p] ∧ ((SqL K H p ys ∧ ∀ l, H l = none → Q (.ref l) (upd H l (.tup ys))) ∨ SqT K H p ys ∧ Q (.ref p) H)
section
variable {X : Cx}
theorem zc_int : CallR X (.type "int") zInt := call_int1
theorem zc_lens : CallR X (.builtin "len") zLenS := call_len_str
theorem zc_len : CallR X (.builtin "len") (zLen X.K) := call_len_seq
theorem zc_abs : CallR X (.builtin "abs") zAbs := call_abs
theorem zc_max (hc : X.calm = true) : CallR X (.builtin "max") zMax := call_max2 hc
theorem zc_min (hc : X.calm = true) : CallR X (.builtin "min") zMin := call_min2 hc
theorem zc_list : CallR X (.type "list") (zList X.K) := call_list_of
theorem zc_tuple : CallR X (.type "tuple") (zTuple X.K) := call_tuple_of
end
section
variable {σ : L2.St} {H : Hp} {Q : VK} {D : Ends} {K : PySem.W.Frag} {i j : Int} {a b : List Nat} {x y v : V} {p : Addr} {xs : List V}
theorem i_int (q : Q (.int i) H) : zInt [.int i] H Q := .inl ⟨i, rfl, q⟩
theorem i_intB {k : Bool} (q : Q (.int (if k = true then 1 else 0)) H) : zInt [.bl k] H Q := .inr ⟨k, rfl, q⟩
theorem le_line {n : Nat} (h : n ≤ 100000) : n ≤ sizeLine := Nat.le_trans h (by decide)
theorem lt_line {n : Nat} (h : n < 100000) : n < sizeLine := Nat.lt_of_lt_of_le h (by decide)
theorem i_lens (h : a.length ≤ 100000) (q : Q (.int (a.length : Int)) H) : zLenS [.str (S a)] H Q := ⟨_, rfl, by rw [S_len]; exact le_line h, by rw [S_len]; exact q⟩
theorem i_lenL (h : SqL K H p xs) (q : Q (.int (xs.length : Int)) H) : zLen K [.ref p] H Q := ⟨p, xs, rfl, .inl h, q⟩
theorem i_lenT (h : SqT K H p xs) (q : Q (.int (xs.length : Int)) H) : zLen K [.ref p] H Q := ⟨p, xs, rfl, .inr h, q⟩
theorem i_abs (q : Q (.int (if i < 0 then -i else i)) H) : zAbs [.int i] H Q := ⟨i, rfl, q⟩
theorem i_max (q : Q (.int (if j > i then j else i)) H) : zMax [.int i, .int j] H Q := ⟨i, j, rfl, q⟩
theorem i_min (q : Q (.int (if j < i then j else i)) H) : zMin [.int i, .int j] H Q := ⟨i, j, rfl, q⟩
theorem i_listL (h : SqL K H p xs) (q : ∀ l, H l = none → Q (.ref l) (upd H l (.lst xs))) : zList K [.ref p] H Q := ⟨p, xs, rfl, .inl h, q⟩
theorem i_tupleL (h : SqL K H p xs) (q : ∀ l, H l = none → Q (.ref l) (upd H l (.tup xs))) : zTuple K [.ref p] H Q := ⟨p, xs, rfl, .inl ⟨h, q⟩⟩
theorem i_ixL (h : SqL K H p xs) (ha : atI xs i = some v) (q : Q v H) : rIxL K (.ref p) (.int i) H Q := ⟨p, xs, i, v, rfl, rfl, h, ha, q⟩
theorem i_ixT (h : SqT K H p xs) (ha : atI xs i = some v) (q : Q v H) : rIxT K (.ref p) (.int i) H Q := ⟨p, xs, i, v, rfl, rfl, h, ha, q⟩
theorem i_ixS {c : Nat} (hz : a.length ≤ 100000) (ha : atI a i = some c) (q : Q (.str (S [c])) H) : rIxS (.str (S a)) (.int i) H Q :=
  ⟨S a, i, c, rfl, rfl, by rw [S_len]; exact le_line hz, ha, q⟩
theorem i_setL {k : Int} {n : Nat} {R : Hp → Prop} (h : H p = some (.lst xs)) (hn : ixN xs.length k = some n) (q : R (upd H p (.lst (xs.set n v)))) : rSetL (.ref p) (.int k) v H R := ⟨p, xs, k, n, rfl, rfl, h, hn, q⟩
theorem at_nat {α : Type} {xs : List α} {i : Int} {v : α} (h0 : 0 ≤ i) (h : xs[i.toNat]? = some v) : atI xs i = some v := by
  obtain ⟨n, rfl⟩ : ∃ n : Nat, i = n := ⟨i.toNat, by omega⟩
  exact atI_nat (by simpa using h)
theorem at_lt {α : Type} {xs : List α} {i : Int} (h0 : 0 ≤ i) (h1 : i < xs.length) : atI xs i = some (xs[i.toNat]'(by omega)) :=
  at_nat h0 (List.getElem?_eq_getElem (by omega))
theorem i_cut {t u : TS} (Mid : L2.St → Hp → Prop) (h1 : t { D with nx := Mid } σ H) (h2 : ∀ σ' H', Mid σ' H' → u D σ' H') : tCut t u D σ H := ⟨Mid, h1, h2⟩
theorem cdivw (h0 : 0 < j) (h : j < 2 ^ 200) : CDivW i j := by
  refine ⟨h0, ?_⟩
  have h2 : j.natAbs < 2 ^ 200 := by omega
  have h3 : j.natAbs ≠ 0 := by omega
  have h4 : Nat.log2 j.natAbs < 200 := (Nat.log2_lt h3).2 h2
  omega
end
/-! ### what the hand of a law is, and what a draw leaves -/
structure HandOk (H : Hp) (h : Addr) : Prop where
  ex : ∃ (c : Addr) (cells : List Int) (a1 a2 a3 a4 : Int), H h = some (.lst [.ref c, .int a1, .int a2, .int a3, .int a4]) ∧ H c = some (.lst (cells.map V.int)) ∧ (∀ x ∈ cells, 0 ≤ x) ∧ 0 ≤ a1 ∧ 0 ≤ a2 ∧ 0 ≤ a3 ∧ a3 < 2147483647 ∧ 0 ≤ a4
/-- all but the hand is as it was, the hand is one, over the same cells -/
structure Gd (h : Addr) (H H' : Hp) : Prop where
  ok : HandOk H' h
  kp : ∀ b o, H b = some o → b ≠ h → H' b = some o
  ok0 : HandOk H h
  cell : ∃ (c : Addr) (r r' : List V), H h = some (.lst (.ref c :: r)) ∧ H' h = some (.lst (.ref c :: r'))
theorem Gd.of {h c : Addr} {H H' : Hp} {r r' : List V} (k0 : HandOk H h) (e0 : H h = some (.lst (.ref c :: r))) (e1 : H' h = some (.lst (.ref c :: r'))) (k : HandOk H' h) (kp : ∀ b o, H b = some o → b ≠ h → H' b = some o) : Gd h H H' :=
  ⟨k, kp, k0, c, r, r', e0, e1⟩
theorem Gd.refl {h : Addr} {H : Hp} (k : HandOk H h) : Gd h H H := by
  obtain ⟨c, _, _, _, _, _, e, _⟩ := k.ex
  exact ⟨k, fun _ _ e _ => e, k, c, _, _, e, e⟩
theorem Gd.trans {h : Addr} {H H1 H2 : Hp} (a : Gd h H H1) (b : Gd h H1 H2) : Gd h H H2 := by
  obtain ⟨c, r, r1, e0, e1⟩ := a.cell
  obtain ⟨c', r1', r2, e1', e2⟩ := b.cell
  have q := Option.some.inj (e1.symm.trans e1')
  have q2 : c = c' := by
    have := (List.cons.inj (HO.lst.inj q)).1
    exact V.ref.inj this
  subst q2
  exact ⟨b.ok, fun c o e n => b.kp c o (a.kp c o e n) n, a.ok0, c, r, r2, e0, e2⟩
theorem HandOk.some {h : Addr} {H : Hp} (k : HandOk H h) : ∃ o, H h = some o := by obtain ⟨_, _, _, _, _, _, e, _⟩ := k.ex; exact ⟨_, e⟩
theorem map_int_ne {c : Addr} {cells : List Int} {r : List V} : HO.lst (.ref c :: r) ≠ HO.lst (cells.map V.int) := fun e => by
  cases cells with
  | nil => cases e
  | cons a l =>
    have e2 := (List.cons.inj (HO.lst.inj e)).1
    cases e2
theorem HandOk.new {h p : Addr} {o : HO} {H : Hp} (k : HandOk H h) (hp : H p = none) : HandOk (upd H p o) h := by
  obtain ⟨c, cells, a1, a2, a3, a4, e1, e2, r⟩ := k.ex
  exact ⟨c, cells, a1, a2, a3, a4, by rw [upd_ne (ne_of_none e1 hp)]; exact e1, by rw [upd_ne (ne_of_none e2 hp)]; exact e2, r⟩
theorem Gd.new {h p : Addr} {o : HO} {H H' : Hp} (g : Gd h H H') (hp : H' p = none) : Gd h H (upd H' p o) := by
  obtain ⟨c, r, r', e0, e1⟩ := g.cell
  exact ⟨g.ok.new hp, fun b u e n => by have := g.kp b u e n; rw [upd_ne (ne_of_none this hp)]; exact this, g.ok0, c, r, r', e0, by rw [upd_ne (ne_of_none e1 hp)]; exact e1⟩
theorem Gd.mutz {h p : Addr} {o : HO} {H H' : Hp} (g : Gd h H H') (hp : H p = none) : Gd h H (upd H' p o) := by
  obtain ⟨c, r, r', e0, e1⟩ := g.cell
  obtain ⟨c0, cells0, _, _, _, _, f0, f1, _⟩ := g.ok0.ex
  obtain ⟨c1, cells, a1, a2, a3, a4, g0, g1, rest⟩ := g.ok.ex
  have q0 : c = c0 := by
    have := (List.cons.inj (HO.lst.inj (Option.some.inj (e0.symm.trans f0)))).1
    exact V.ref.inj this
  have q1 : c = c1 := by
    have := (List.cons.inj (HO.lst.inj (Option.some.inj (e1.symm.trans g0)))).1
    exact V.ref.inj this
  subst q0 q1
  have n1 : h ≠ p := ne_of_none e0 hp
  have n2 : c ≠ p := ne_of_none f1 hp
  exact ⟨⟨c, cells, a1, a2, a3, a4, by rw [upd_ne n1]; exact g0, by rw [upd_ne n2]; exact g1, rest⟩, fun b u e n => by rw [upd_ne (ne_of_none e hp)]; exact g.kp b u e n, g.ok0, c, r, r', e0, by rw [upd_ne n1]; exact e1⟩
end Z
namespace Z
open PySem PySem.Spec PyProof.Rows L2
theorem i_setH {H : Hp} {p : Addr} {xs : List V} {k : Int} {n : Nat} {v : V} {R : Hp → Prop} (h : H p = some (.lst xs)) (hn : ixN xs.length k = some n) (L : List V) (hL : xs.set n v = L) (q : ∀ H1, H1 = upd H p (.lst L) → R H1) : rSetL (.ref p) (.int k) v H R := by
  subst hL
  exact ⟨p, xs, k, n, rfl, rfl, h, hn, q _ rfl⟩
theorem hstep {h c : Addr} {H0 H H1 : Hp} {L : List V} {cells : List Int} (e : H1 = upd H h (.lst L)) (hne : c ≠ h) (e2 : H c = some (.lst (cells.map V.int))) (kp : ∀ b o, H0 b = some o → b ≠ h → H b = some o) :
    H1 h = some (.lst L) ∧ H1 c = some (.lst (cells.map V.int)) ∧ (∀ b o, H0 b = some o → b ≠ h → H1 b = some o) := by
  subst e
  exact ⟨upd_same, by rw [upd_ne hne]; exact e2, fun b o e n => by rw [upd_ne n]; exact kp b o e n⟩
end Z
namespace Z
open PySem PySem.Spec PyProof.Rows L2
open C8 (tCut pss_cut Cal pe_c Met pe_mt pe_mt0 Mak pe_mk)
/-! ### defs of the text -/
structure DF (K : PySem.W.Frag) (mg : Str → Option Value) (x : Str) (st : Stmt) : Prop where
  ex : ∃ (f : Addr) (fd : FuncData), Fun K x x st f fd ∧ mg x = some (.ref f)
section
variable {P : Program} {w : World} {K : PySem.W.Frag} {mg : Str → Option Value} {base : Heap}
theorem DF.cal {x : Str} {st : Stmt} {N ps : List Str} {k : Nat} {sp : Sp} (d : DF K mg x st) (S : FnScope N ps (defScope st))
    (hb : ∀ (kV doc pm : Value) (an : Option Addr) (cdv ct : Value) (us : List Value), us.length = ps.length → bindArgs (PySem.W.fnOf x x (defArgs st) (defBody st) (defScope st) .none kV doc pm an cdv ct) ⟨us, []⟩ = pure (ps.zip us))
    (len : ∀ vs H Q E, sp vs H Q E → vs.length = ps.length)
    (hbody : ∀ (f : Addr) (cdv : Value) (A : Around) (outer : List Env) (s : Shared) (H : Hp) (vs : List V) (Q : VK) (E : XK), Room k (A.deeper (envOfC x (defScope st) s.heap.objs.size f cdv)) → sp vs H Q E →
      ∃ t, PSs (cxOf CX0 P w K mg base N x (defScope st) f cdv A outer s H E).nox (defBody st) t ∧ t { nx := fun _ H' => Q .non H', rt := Q } (start N vs) H) : Cal P w K mg base (k + 1) x sp [] := by
  obtain ⟨f, fd, F, hm⟩ := d.ex
  exact ⟨f, fd, ps, [], F.ok S len (hbody f), hm, F.kp, F.binds hb, .nil⟩
end
/-- the built-ins stand as they are -/
structure Bi (mg : Str → Option Value) : Prop where
  range : mg "range" = none
  len : mg "len" = none
  abs : mg "abs" = none
  int : mg "int" = none
  str : mg "str" = none
  bool : mg "bool" = none
  list : mg "list" = none
  tuple : mg "tuple" = none
  dict : mg "dict" = none
  set : mg "set" = none
  isinstance : mg "isinstance" = none
  all : mg "all" = none
  any : mg "any" = none
  sum : mg "sum" = none
  max : mg "max" = none
  min : mg "min" = none
  sorted : mg "sorted" = none
  zip : mg "zip" = none
  enumerate : mg "enumerate" = none
  reversed : mg "reversed" = none
/-! ### the promises of the hand -/
def spHand (K : PySem.W.Frag) : Sp := fun vs H Q _ => ∃ (a : Addr) (ns : List Int), vs = [.ref a] ∧ SqL K H a (ns.map V.int) ∧ ns.length ≤ 1000 ∧ ∀ h H', H h = none → HandOk H' h → Same H H' → Q (.ref h) H'
def spDraw : Sp := fun vs H Q _ => ∃ (h : Addr) (m : Int), vs = [.ref h, .int m] ∧ HandOk H h ∧ 0 < m ∧ m < 2 ^ 200 ∧ ∀ (r : Nat) H', (r : Int) < m → Gd h H H' → Q (.int (r : Int)) H'
theorem use_draw {h : Addr} {m : Int} {H : Hp} {Q : VK} {E : XK} (hh : HandOk H h) (h0 : 0 < m) (h1 : m < 2 ^ 200) (k : ∀ (r : Nat) H', (r : Int) < m → Gd h H H' → Q (.int (r : Int)) H') : spDraw ([.ref h, .int m] ++ []) H Q E :=
  ⟨h, m, rfl, hh, h0, h1, k⟩
theorem draw_k {h : Addr} {m r : Int} {H H' : Hp} {Q : VK} (k : ∀ (r : Nat) H', (r : Int) < m → Gd h H H' → Q (.int (r : Int)) H') (h0 : 0 ≤ r) (h1 : r < m) (g : Gd h H H') : Q (.int r) H' := by
  obtain ⟨n, rfl⟩ := Int.eq_ofNat_of_zero_le h0
  exact k n H' h1 g
end Z
namespace Z
open PySem PySem.Spec PyProof.Rows L2
theorem zstart {t : TS} {D : Ends} {σ : L2.St} {H : Hp} (L : L2.St) (h : σ = L) (q : t D L H) : t D σ H := h ▸ q
end Z
namespace Z
open PySem PySem.Spec PyProof.Rows L2
theorem zK {CX : CXT} {P : Program} {w : World} {K : PySem.W.Frag} {mg : Str → Option Value} {base : Heap} {N : List Str} {qual : Str} {scope : Scope} {f : Addr} {cd : Value} {A : Around} {outer : List Env} {s : Shared} {H : Hp} {E : XK} :
    (cxOf CX P w K mg base N qual scope f cd A outer s H E).nox.K = K := rfl
theorem zK2 {CX : CXT} {P : Program} {w : World} {K : PySem.W.Frag} {mg : Str → Option Value} {base : Heap} {N : List Str} {qual : Str} {scope : Scope} {f : Addr} {cd : Value} {A : Around} {outer : List Env} {s : Shared} {H : Hp} {E : XK} :
    (cxOf CX P w K mg base N qual scope f cd A outer s H E).K = K := rfl
end Z
namespace Z
open PySem PySem.Spec PyProof.Rows L2
open PySem.Sem (wp)
/-! ### zip over texts, lists, tuples, in any mixture -/
inductive Sd where
  | str (z : Str) | lst (a : Addr) | tup (a : Addr)
def Sd.is (K : PySem.W.Frag) (H : Hp) : Sd → List V → Prop
  | .str z, xs => xs = (codes z).map fun c => V.str (S [c])
  | .lst a, xs => SqL K H a xs
  | .tup a, xs => SqT K H a xs
def Sd.cell (it : Addr) (i : Nat) (h : Heap) : Sd → Prop
  | .str z => ∃ t, h.IsStrIter it (strIterType z) z t i
  | .lst a => h.IsListIter it a i
  | .tup a => h.IsTupleIter it a i
def Sd.off (b : Addr) : Sd → Prop
  | .str _ => True
  | .lst a => a ≠ b
  | .tup a => a ≠ b
def Sd.val : V → Sd → Prop
  | v, .str z => v = .str z
  | v, .lst a => v = .ref a
  | v, .tup a => v = .ref a
theorem Draws.tuple {prog : Program} {w : World} {A : Around} (hh : A.handled = none) (it l : Addr) (hne : l ≠ it) (items : Array Value) :
    Draws prog w A it [it, l] items.size (fun i v => items[i]? = some v) (fun i h => h.IsTupleIter it l i ∧ h.IsTuple l items) where
  live := fun _ _ st => let ⟨o, ho, _⟩ := st.1; ⟨o, ho⟩
  frame := fun _ _ _ st hk => ⟨st.1.at fun o e => hk it (by simp) o e, st.2.at fun o e => hk l (by simp) o e⟩
  item := fun i s Q E hi st hQ => by
    refine RZ.nextOf_tuple_item st.1 st.2 (x := items[i]) (by simp [hi]) fun h' hit' hs' => ?_
    exact hQ _ h' s.toks (by simp [hi]) ⟨hit', st.2.at fun o e => hs'.extBut _ _ hne e⟩ hs'
  done := fun s Q E st hE => RZ.nextOf_tuple_end hh st.1 st.2 (by simp) hE
section
variable {X : Cx} {pins : List (Addr × Obj)} {σ : L2.St} {H : Hp} {s : Shared}
theorem Sd.cell_keep {c : Sd} {it : Addr} {i : Nat} {h h' : Heap} (st : c.cell it i h) (k : ∀ o, h.get? it = some o → h'.get? it = some o) : c.cell it i h' := by
  cases c with
  | str z => obtain ⟨t, o, ho, r⟩ := st; exact ⟨t, o, k o ho, r⟩
  | lst a => exact Heap.IsListIter.at st k
  | tup a => exact Heap.IsTupleIter.at st k
theorem Sd.cell_obj {c : Sd} {it : Addr} {i : Nat} {h : Heap} (st : c.cell it i h) : ∃ o, h.get? it = some o ∧ ∀ v, o.data ≠ .cell v := by
  cases c with
  | str z => obtain ⟨t, o, ho, _, d⟩ := st; exact ⟨o, ho, fun v q => by rw [d] at q; cases q⟩
  | lst a => obtain ⟨o, ho, _, d⟩ := st; exact ⟨o, ho, fun v q => by rw [d] at q; cases q⟩
  | tup a => obtain ⟨o, ho, _, d⟩ := st; exact ⟨o, ho, fun v q => by rw [d] at q; cases q⟩
/-- one side of a zip as an iterator that draws -/
theorem Sd.draws {A : Around} (hh : A.handled = none) {c : Sd} {it : Addr} {i : Nat} {xs : List V} (I : Inv X pins σ H s) (st : c.cell it i s.heap) (hx : c.is X.K H xs) (ho : c.off it) :
    ∃ fp P St, Draws X.prog X.w A it fp xs.length P St ∧ St i s.heap ∧ it ∈ fp ∧ (∀ b, b ∈ fp → b = it ∨ ¬ c.off b) ∧ (∀ j v, P j v → ∃ x, xs[j]? = some x ∧ RelV x v) ∧ ∀ j h, St j h → c.cell it j h := by
  cases c with
  | str z =>
    obtain ⟨t, st⟩ := st
    have hx : xs = (codes z).map fun c => V.str (S [c]) := hx
    have hl : xs.length = z.cps.size := by rw [hx]; simp
    have hP : ∀ (j : Nat) (v : Value), (∃ c u, z.cps[j]? = some c ∧ v = .str ⟨#[c]⟩ u) → ∃ x, xs[j]? = some x ∧ RelV x v := by
      rintro j v ⟨c, u, hc, rfl⟩
      refine ⟨.str (S [c]), ?_, ⟨u, rfl⟩⟩
      rw [hx, List.getElem?_map]
      have : (codes z)[j]? = some c := by simpa using hc
      rw [this]; rfl
    rw [hl]
    by_cases ha : z.cps.all (· < 128) = true
    · have e : strIterType z = "str_ascii_iterator" := if_pos ha
      rw [e] at st
      refine ⟨_, _, _, Draws.strAscii hh it z t, st, by simp, fun b hb => .inl (by simpa using hb), hP, fun j h q => ⟨t, ?_⟩⟩
      rw [e]; exact q
    · have e : strIterType z = "str_iterator" := if_neg ha
      rw [e] at st
      refine ⟨_, _, _, Draws.strWide hh it z t, st, by simp, fun b hb => .inl (by simpa using hb), hP, fun j h q => ⟨t, ?_⟩⟩
      rw [e]; exact q
  | lst a =>
    obtain ⟨its, rv, p, _⟩ := I.list hx
    have hl : xs.length = its.toArray.size := by rw [rv.length]; simp
    rw [hl]
    refine ⟨_, _, _, Draws.list hh it a ho its.toArray, ⟨st, p.isList⟩, by simp, fun b hb => ?_, fun j v hv => ?_, fun j h q => q.1⟩
    · rcases List.mem_cons.mp hb with q | q
      · exact .inl q
      · exact .inr fun o => o (List.mem_singleton.mp q).symm
    · have hv' : its[j]? = some v := by simpa using hv
      cases e : xs[j]? with
      | none => rw [rv.none_of e] at hv'; cases hv'
      | some x => obtain ⟨u, hu, ru⟩ := rv.get e; rw [hu] at hv'; cases hv'; exact ⟨x, rfl, ru⟩
  | tup a =>
    obtain ⟨its, rv, p, _⟩ := I.tuple hx
    have hl : xs.length = its.toArray.size := by rw [rv.length]; simp
    rw [hl]
    refine ⟨_, _, _, Draws.tuple hh it a ho its.toArray, ⟨st, p⟩, by simp, fun b hb => ?_, fun j v hv => ?_, fun j h q => q.1⟩
    · rcases List.mem_cons.mp hb with q | q
      · exact .inl q
      · exact .inr fun o => o (List.mem_singleton.mp q).symm
    · have hv' : its[j]? = some v := by simpa using hv
      cases e : xs[j]? with
      | none => rw [rv.none_of e] at hv'; cases hv'
      | some x => obtain ⟨u, hu, ru⟩ := rv.get e; rw [hu] at hv'; cases hv'; exact ⟨x, rfl, ru⟩
theorem Sd.is_inj {c : Sd} {xs ys : List V} (I : Inv X pins σ H s) (a : c.is X.K H xs) (b : c.is X.K H ys) : xs = ys := by
  cases c with
  | str z => exact a.trans b.symm
  | lst p => exact I.list_inj a b
  | tup p => exact I.tuple_inj a b
theorem Sd.is_new {K : PySem.W.Frag} {c : Sd} {xs : List V} {p : Addr} {o : HO} {H : Hp} (hp : H p = none) (a : c.is K H xs) : c.is K (upd H p o) xs := by
  have e : Same H (upd H p o) := fun b u q => by rw [upd_ne (ne_of_none q hp)]; exact q
  cases c with
  | str z => exact a
  | lst q => exact e.seq a
  | tup q =>
    rcases a with (h | ⟨u, h⟩) | h
    · exact .inl (.inl (e _ _ h))
    · exact .inl (.inr ⟨u, e _ _ h⟩)
    · exact .inr h
end
def ItZ (K : PySem.W.Frag) (c d : Sd) : It :=
  ⟨fun i H => ∃ (xs ys : List V), c.is K H xs ∧ d.is K H ys ∧ i < xs.length ∧ i < ys.length,
    fun i H v H' => ∃ T x y, v = .ref T ∧ H T = none ∧ H' = upd H T (.tup [x, y]) ∧ (∀ xs, c.is K H xs → xs[i]? = some x) ∧ ∀ ys, d.is K H ys → ys[i]? = some y,
    fun i H => ∃ xs ys : List V, c.is K H xs ∧ d.is K H ys ∧ i ≤ xs.length ∧ i ≤ ys.length ∧ (i = xs.length ∨ i = ys.length)⟩
structure ZApart (z TI TO i1 i2 : Addr) (c d : Sd) : Prop where
  TIz : TI ≠ z
  TOz : TO ≠ z
  TITO : TI ≠ TO
  TIi1 : TI ≠ i1
  TIi2 : TI ≠ i2
  i1z : i1 ≠ z
  i2z : i2 ≠ z
  i1T : i1 ≠ TO
  i2T : i2 ≠ TO
  i12 : i1 ≠ i2
  cf : ∀ b, b ∈ [z, TI, TO, i1, i2] → c.off b
  df : ∀ b, b ∈ [z, TI, TO, i1, i2] → d.off b
theorem turn_zipZ {P : Program} {w : World} {K : PySem.W.Frag} {elts : List Expr} {kk : Nat} {tpos : Pos} {c d : Sd} {z TI TO i1 i2 : Addr} (D : ZApart z TI TO i1 i2 c d) :
    Turn P w K (.Tuple elts kk tpos) (ItZ K c d) [z, TI, TO, i1, i2] z (fun i h => IsZip h z TI TO .none ∧ IsTupOf2 h TI (.ref i1) (.ref i2) ∧ (∃ x y, IsTupOf2 h TO x y) ∧ c.cell i1 i h ∧ d.cell i2 i h) where
  mem := by simp
  obj := fun i h st b hb => by
    obtain ⟨hz, hTI, ⟨x, y, hTO⟩, h1, h2⟩ := st
    have e' : b = z ∨ b = TI ∨ b = TO ∨ b = i1 ∨ b = i2 := by simpa using hb
    rcases e' with q | q | q | q | q
    · rw [q]; exact ⟨_, hz, fun v q => nomatch q⟩
    · rw [q]; exact ⟨_, hTI, fun v q => nomatch q⟩
    · rw [q]; exact ⟨_, hTO, fun v q => nomatch q⟩
    · rw [q]; exact Sd.cell_obj h1
    · rw [q]; exact Sd.cell_obj h2
  keep := fun i h h' st k => by
    obtain ⟨hz, hTI, ⟨x, y, hTO⟩, h1, h2⟩ := st
    exact ⟨k z (by simp) _ hz, k TI (by simp) _ hTI, ⟨x, y, k TO (by simp) _ hTO⟩, Sd.cell_keep h1 fun o q => k i1 (by simp) o q, Sd.cell_keep h2 fun o q => k i2 (by simp) o q⟩
  item := by
    intro X hP hw hK hc i pins s σ H E I hf st hg
    subst hP hw hK
    obtain ⟨hz, hTI, ⟨x0, y0, hTO⟩, h1, h2⟩ := st
    obtain ⟨xs, ys, hx, hy, li, lj⟩ := hg
    have hh : X.A.in1.handled = none := I.ok.hd hc
    obtain ⟨fp1, P1, St1, D1, s1, m1, f1, r1, b1⟩ := Sd.draws hh I h1 hx (D.cf i1 (by simp))
    obtain ⟨fp2, P2, St2, D2, s2, m2, f2, r2, b2⟩ := Sd.draws hh I h2 hy (D.df i2 (by simp))
    have nin : ∀ b, b ∈ [z, TI, TO, i1, i2] → b ≠ i1 → b ∉ fp1 := fun b hb n hm => by
      rcases f1 b hm with q | q
      · exact n q
      · exact q (D.cf b hb)
    have nin2 : ∀ b, b ∈ [z, TI, TO, i1, i2] → b ≠ i2 → b ∉ fp2 := fun b hb n hm => by
      rcases f2 b hm with q | q
      · exact n q
      · exact q (D.df b hb)
    have Zs : ZipSep2 z TI TO i1 i2 fp1 fp2 := ⟨D.TIz, D.TOz, D.TITO, D.TIi1, m1, nin z (by simp) D.i1z.symm, nin TO (by simp) D.i1T.symm, D.TIi2, m2, nin2 z (by simp) D.i2z.symm, nin2 TO (by simp) D.i2T.symm, nin2 i1 (by simp) D.i12, nin i2 (by simp) D.i12.symm⟩
    have hzl : z < s.heap.objs.size := Heap.lt_size hz
    refine wpAny_pyNext_zipD2_item Zs D1 D2 hz hTI hTO s1 s2 li lj fun u u2 h' tk p1 p2 z' TO' t1 t2 hT hsz hk => ?_
    obtain ⟨x, hxi, ru⟩ := r1 i u p1
    obtain ⟨y, hyi, ru2⟩ := r2 i u2 p2
    refine ⟨_, rfl, wpAny_letOwnedTupleGo_zip (s := { s with heap := h', toks := tk }) z' fun h'' z'' sb => ?_⟩
    have hT2 : h''.get? s.heap.objs.size = some { cls := .type "tuple", data := .seq #[u, u2] } := (sb.2 _ (Nat.ne_of_gt hzl)).trans hT
    have new : ObjOk X.prog X.w (upd H s.heap.objs.size (.tup [x, y])) h'' s.heap.objs.size (.tup [x, y]) :=
      ⟨by show 2 ≤ sizeLine; decide, [u, u2], .cons ru (.cons ru2 .nil), ⟨_, hT2, rfl, _, rfl⟩⟩
    have I1 : Inv X pins σ (upd H s.heap.objs.size (.tup [x, y])) { s with heap := h'', toks := tk } :=
      I.turnedNew (t' := tk) (ch := [z, TI, TO, i1, i2]) (fun c o hb q => (sb.2 c (fun q' => hb (by simp [q']))).trans (hk c o (fun q' => hb (by simp [q'])) (fun q' => hb (by simp [q'])) (fun q' => hb (by simp [q'])) (fun q' => hb (by simp [q'])) q)) hf (Nat.le_refl _) new
    refine ⟨.ref s.heap.objs.size, _, I1, rfl, ⟨_, x, y, rfl, I.hok.fresh (Nat.le_refl _), rfl, fun l hl => by rw [Sd.is_inj I hl hx]; exact hxi, fun l hl => by rw [Sd.is_inj I hl hy]; exact hyi⟩, ⟨z'', ?_, ⟨u, u2, ?_⟩, ?_, ?_⟩, fun c hcm => ?_⟩
    · exact (sb.2 _ D.TIz).trans (hk _ _ D.TIz D.TITO D.TIi1 D.TIi2 hTI)
    · exact (sb.2 _ D.TOz).trans TO'
    · exact Sd.cell_keep (b1 _ _ t1) fun o q => (sb.2 _ D.i1z).trans q
    · exact Sd.cell_keep (b2 _ _ t2) fun o q => (sb.2 _ D.i2z).trans q
    · have hlt : c < s.heap.objs.size := by
        have e' : c = z ∨ c = TI ∨ c = TO ∨ c = i1 ∨ c = i2 := by simpa using hcm
        rcases e' with q | q | q | q | q
        · rw [q]; exact hzl
        · rw [q]; exact Heap.lt_size hTI
        · rw [q]; exact Heap.lt_size hTO
        · rw [q]; obtain ⟨_, e1, _⟩ := Sd.cell_obj h1; exact Heap.lt_size e1
        · rw [q]; obtain ⟨_, e1, _⟩ := Sd.cell_obj h2; exact Heap.lt_size e1
      rw [upd_ne (Nat.ne_of_lt hlt)]
      exact (hf c hcm).1
  done := by
    intro X hP hw hK hc i pins s σ H E I hf st hg
    subst hP hw hK
    obtain ⟨hz, hTI, ⟨x0, y0, hTO⟩, h1, h2⟩ := st
    obtain ⟨xs, ys, hx, hy, li, lj, hend⟩ := hg
    have hh : X.A.in1.handled = none := I.ok.hd hc
    obtain ⟨fp1, P1, St1, D1, s1, m1, f1, r1, b1⟩ := Sd.draws hh I h1 hx (D.cf i1 (by simp))
    obtain ⟨fp2, P2, St2, D2, s2, m2, f2, r2, b2⟩ := Sd.draws hh I h2 hy (D.df i2 (by simp))
    have nin : ∀ b, b ∈ [z, TI, TO, i1, i2] → b ≠ i1 → b ∉ fp1 := fun b hb n hm => by
      rcases f1 b hm with q | q
      · exact n q
      · exact q (D.cf b hb)
    have nin2 : ∀ b, b ∈ [z, TI, TO, i1, i2] → b ≠ i2 → b ∉ fp2 := fun b hb n hm => by
      rcases f2 b hm with q | q
      · exact n q
      · exact q (D.df b hb)
    have Zs : ZipSep2 z TI TO i1 i2 fp1 fp2 := ⟨D.TIz, D.TOz, D.TITO, D.TIi1, m1, nin z (by simp) D.i1z.symm, nin TO (by simp) D.i1T.symm, D.TIi2, m2, nin2 z (by simp) D.i2z.symm, nin2 TO (by simp) D.i2T.symm, nin2 i1 (by simp) D.i12, nin i2 (by simp) D.i12.symm⟩
    exact wpAny_pyNext_zipD2_end Zs D1 D2 hz hTI hTO s1 s2 li lj hend fun h' tk hk => ⟨rfl, I.turnedL (t' := tk) (ch := [z, TI, TO, i1, i2]) (fun c o hb q =>
      hk c o (fun q' => hb (by simp [q'])) (fun q' => hb (by simp [q'])) (fun q' => hb (by simp [q'])) (fun q' => hb (by simp [q'])) q) hf⟩
  self := fun A i s Q E st h => wpAny_pyIter_zip st.1 h
/-- how a side begins -/
def Sd.hh (its : List Value) : Sd → Heap → Prop
  | .str _, _ => True
  | .lst a, h => h.IsList a its.toArray
  | .tup a, h => h.IsTuple a its.toArray
theorem Sd.begins {X : Cx} {pins : List (Addr × Obj)} {σ : L2.St} {H : Hp} {s : Shared} {c : Sd} {v : V} {u : Value} {xs : List V} (I : Inv X pins σ H s) (hv : c.val v) (r : RelV v u) (hx : c.is X.K H xs) :
    ∃ (o : Obj) (its : List Value), Begins u o (c.hh its) ∧ c.hh its s.heap ∧ (∀ b, s.heap.objs.size ≤ b → c.off b) ∧ ∀ (it : Addr) (h : Heap), h.get? it = some o → c.cell it 0 h := by
  cases c with
  | str z =>
    have e : v = .str z := hv
    subst e
    obtain ⟨t, rfl⟩ := r
    exact ⟨_, [], begins_text z t, trivial, fun _ _ => trivial, fun it h e => ⟨t, _, e, rfl, rfl⟩⟩
  | lst a =>
    have e : v = .ref a := hv
    subst e
    cases r
    obtain ⟨its, rv, p, _⟩ := I.list hx
    exact ⟨_, its, begins_list a its.toArray, p.isList, fun b hb => Nat.ne_of_lt (Nat.lt_of_lt_of_le p.lt hb), fun it h e => ⟨_, e, rfl, rfl⟩⟩
  | tup a =>
    have e : v = .ref a := hv
    subst e
    cases r
    obtain ⟨its, rv, p, _⟩ := I.tuple hx
    exact ⟨_, its, begins_tuple a its.toArray, p, fun b hb => Nat.ne_of_lt (Nat.lt_of_lt_of_le p.lt hb), fun it h e => ⟨_, e, rfl, rfl⟩⟩
theorem nadd {N i j : Nat} (h : i ≠ j) : (N + i : Nat) ≠ N + j := by omega
theorem nad0 {N i : Nat} (h : i ≠ 0) : (N + i : Nat) ≠ N := by omega
theorem zap (N : Nat) (c d : Sd) (h1 : ∀ b, b ∈ [N + 4, N + 2, N + 3, N, N + 1] → c.off b) (h2 : ∀ b, b ∈ [N + 4, N + 2, N + 3, N, N + 1] → d.off b) : ZApart (N + 4) (N + 2) (N + 3) N (N + 1) c d :=
  ⟨nadd (by decide), nadd (by decide), nadd (by decide), nad0 (by decide), nadd (by decide), (nad0 (by decide)).symm, nadd (by decide), (nad0 (by decide)).symm, nadd (by decide), (nad0 (by decide)).symm, h1, h2⟩
def KZ (K : PySem.W.Frag) (vs : List V) (H : Hp) (R : It → Prop) : Prop := ∃ (x y : V) (c d : Sd) (xs ys : List V), vs = [x, y] ∧ c.val x ∧ d.val y ∧ c.is K H xs ∧ d.is K H ys ∧ R (ItZ K c d)
def iZipZ (K : PySem.W.Frag) (ta : TA) : TI := fun σ H R => ta σ H fun vs H1 => KZ K vs H1 fun J => R J H1
theorem pi_zipZ {X : Cx} {e e2 : Expr} {ta : TA} {p pos tpos : Pos} {elts : List Expr} {kk : Nat} (hg : Gl X "zip") (hm : X.mg "zip" = none) (ha : PA X [e, e2] ta)
    (hs : starEach [e, e2] X.env = (false, eval e X.env) :: starEach [e2] X.env := by rfl) (hpl : (backTo pos (starEach [e2] X.env)).any (·.1) = false := by rfl) :
    PI X (.Tuple elts kk tpos) (.Call (.Name "zip" p) [e, e2] [] pos) (iZipZ X.K ta) := by
  refine ⟨fun pins s σ H R I h => ?_⟩
  refine PyProof.Rows.Call_ (ld_blt I hg hm PyProof.Rows.boot_zip (PyProof.Rows.callWith_type1 (thn (ha.run pos pins s σ H _ I h) fun us s1 ⟨vs, H1, I1, r1, q1⟩ => ?_) hs hpl))
  obtain ⟨x, y, c, d, xs, ys, ex, vc, vd, hx, hy, q⟩ := q1
  subst ex
  cases r1 with
  | cons r rr =>
    cases rr with
    | cons r' rr =>
      cases rr
      obtain ⟨o1, its1, B1, g1, off1, cell1⟩ := Sd.begins I1 vc r hx
      obtain ⟨o2, its2, B2, g2, off2, cell2⟩ := Sd.begins I1 vd r' hy
      have fresh5 : ∀ c, c ∈ [s1.heap.objs.size + 4, s1.heap.objs.size + 2, s1.heap.objs.size + 3, s1.heap.objs.size, s1.heap.objs.size + 1] → s1.heap.objs.size ≤ c := fun c hcm => by
        have e' : c = s1.heap.objs.size + 4 ∨ c = s1.heap.objs.size + 2 ∨ c = s1.heap.objs.size + 3 ∨ c = s1.heap.objs.size ∨ c = s1.heap.objs.size + 1 := by simpa using hcm
        rcases e' with z | z | z | z | z
        · rw [z]; exact Nat.le_add_right _ _
        · rw [z]; exact Nat.le_add_right _ _
        · rw [z]; exact Nat.le_add_right _ _
        · rw [z]; exact Nat.le_refl _
        · rw [z]; exact Nat.le_add_right _ _
      refine zip_begins2 B1 B2 g1 g2 fun h' hz hTI hTO h1 h2 hsz hk => wpAny_pyIter_zip hz ?_
      have I2 : Inv X pins σ H1 { s1 with heap := h' } := I1.kept (t' := s1.toks) hk
      have ap : ZApart (s1.heap.objs.size + 4) (s1.heap.objs.size + 2) (s1.heap.objs.size + 3) s1.heap.objs.size (s1.heap.objs.size + 1) c d :=
        zap s1.heap.objs.size c d (fun b hb => off1 b (fresh5 b hb)) (fun b hb => off2 b (fresh5 b hb))
      exact ⟨s1.heap.objs.size + 4, [s1.heap.objs.size + 4, s1.heap.objs.size + 2, s1.heap.objs.size + 3, s1.heap.objs.size, s1.heap.objs.size + 1], _, _, H1, rfl, I2, turn_zipZ ap, ⟨hz, hTI, ⟨_, _, hTO⟩, cell1 _ _ h1, cell2 _ _ h2⟩, fun c hc => I1.fpOk (fresh5 c hc) (I1.hok.fresh (fresh5 c hc)), q⟩
theorem walk_zipZ {K : PySem.W.Frag} {c d : Sd} {xs ys : List V} {n : Nat} (hn : n = min xs.length ys.length) :
    Walk (ItZ K c d) n (fun H => c.is K H xs ∧ d.is K H ys) (YPair (fun i => xs[i]?) (fun i => ys[i]?)) := by
  subst hn
  refine ⟨fun i _ hi q => ⟨xs, ys, q.1, q.2, by omega, by omega⟩, fun _ q => ⟨xs, ys, q.1, q.2, by omega, by omega, by omega⟩, fun i H v H' hi q y => ?_⟩
  obtain ⟨T, x, z, h1, h2, h3, h4, h5⟩ := y
  exact ⟨T, x, z, h1, h2, h3, h4 xs q.1, h5 ys q.2⟩
end Z
namespace Z
open PySem PySem.Spec PyProof.Rows L2
open PySem.Sem (wp)
/-! ### sorted of a text, a text times a number -/
theorem strs_of_signs : ∀ (l : List Nat) (vs : List Value), vs.length = l.length → (∀ (j : Nat) (v : Value), vs[j]? = some v → ∃ c u, l[j]? = some c ∧ v = .str ⟨#[c]⟩ u) → StrsAre vs (l.map fun c => S [c])
  | [], [], _, _ => .nil
  | [], _ :: _, h, _ => by simp at h
  | _ :: _, [], h, _ => by simp at h
  | c :: l, v :: vs, h, q => by
    obtain ⟨c', u, e1, e2⟩ := q 0 v (by simp)
    have : c = c' := by simpa using e1
    subst this
    subst e2
    exact .cons _ u (strs_of_signs l vs (by simpa using h) fun j w hw => by
      have := q (j + 1) w (by simpa using hw)
      simpa using this)
theorem rising_pw : ∀ (p : Nat) (l : List Nat), risingS (S [p]) (l.map fun c => S [c]) = true → (p :: l).Pairwise (· ≤ ·)
  | p, [], _ => by simp
  | p, c :: l, h => by
    have h' : (!ltCps [c] [p] && risingS (S [c]) (l.map fun c => S [c])) = true := h
    rw [Bool.and_eq_true] at h'
    obtain ⟨h1, h2⟩ := h'
    have ih := rising_pw c l h2
    have hpc : p ≤ c := by
      have e : ltCps [c] [p] = false := by simpa using h1
      rw [ltCps_eq] at e
      have : ¬ ([c] < [p]) := by simpa using e
      have h3 : ¬ c < p := fun q => this (List.Lex.rel q)
      omega
    refine List.pairwise_cons.mpr ⟨fun d hd => ?_, ih⟩
    rcases List.mem_cons.mp hd with q | q
    · rw [q]; exact hpc
    · exact Nat.le_trans hpc (List.rel_of_pairwise_cons ih q)
theorem sorted_pw : ∀ (l : List Nat), sortedS (l.map fun c => S [c]) = true → l.Pairwise (· ≤ ·)
  | [], _ => by simp
  | p :: l, h => rising_pw p l h
theorem unmap_S : ∀ {l : List Nat} {ys : List Str}, ys.Perm (l.map fun c => S [c]) → ∃ zs : List Nat, ys = zs.map (fun c => S [c]) ∧ zs.Perm l := fun {l ys} h => by
  have e : ys = (ys.map fun y => (codes y).headD 0).map fun c => S [c] := by
    rw [List.map_map]
    refine (List.map_congr_left (fun y hy => ?_)).symm.trans (List.map_id _) |>.symm
    obtain ⟨c, _, rfl⟩ := List.mem_map.mp (h.mem_iff.mp hy)
    rfl
  refine ⟨ys.map fun y => (codes y).headD 0, e, ?_⟩
  have := h.map fun y => (codes y).headD 0
  rw [List.map_map] at this
  refine this.trans (List.Perm.of_eq ?_)
  exact (List.map_congr_left (g := id) fun c _ => rfl).trans (List.map_id _)
def zSortedC : List V → Hp → VK → Prop := fun vs H Q => ∃ z : List Nat, vs = [.str (S z)] ∧ z.length < 64 ∧ ∀ (ys : List Nat) (p : Addr), ys.Perm z → ys.Pairwise (· ≤ ·) → H p = none → Q (.ref p) (upd H p (.lst (ys.map fun c => V.str (S [c]))))
theorem zc_sortedC {X : Cx} (hc : X.calm = true) : CallR X (.builtin "sorted") zSortedC := by
  intro pins s σ H vs us Q I r h
  obtain ⟨z, rfl, h64, q⟩ := h
  obtain ⟨u, rfl, rx⟩ := vals1 r
  obtain ⟨t, rfl⟩ := rx
  refine Calls.call_function_entry kind_sorted plain_sorted entry_sorted (args_sorted1 _) ?_
  unfold Builtin.«sorted»
  refine wpAny_bind (m := checkCount "sorted" 1 1 _) (wpAny_pure ?_)
  have h64' : (S z).cps.size = z.length := by simp
  have hh : X.A.in1.handled = none := I.ok.hd hc
  refine wpAny_bind (wpAny_collect_str (A := X.A.in1) hh (S z) t (fun s1 acc k g dr os it => ?_) (by rw [h64']; exact Nat.le_trans (Nat.le_of_lt h64) (by decide)))
  obtain ⟨h1, g1, d1, t1, o1⟩ := s1
  subst g dr os
  replace k : ∀ b o, s.heap.get? b = some o → h1.get? b = some o := k
  have hl64 : acc.toList.length < 64 := by rw [Array.length_toList, it.1, h64']; exact h64
  refine wpAny_bind (wpAny_newList ?_ (by exact Nat.le_trans (Nat.le_of_lt hl64) (by decide)))
  have hS : StrsAre acc.toList (z.map fun c => S [c]) := strs_of_signs z acc.toList (by rw [Array.length_toList, it.1, h64']) fun j v hv => by
    obtain ⟨c, u, e1, e2⟩ := it.2 j v (by simpa using hv)
    exact ⟨c, u, by simpa using e1, e2⟩
  have hoL : (h1.push (seqObj "list" acc.toList.toArray 0)).get? h1.objs.size = some (seqObj "list" acc.toList.toArray 0) := Heap.get?_push_size _ rfl
  refine wpAny_bind (wpAny_holding (wpAny_call_entry slot_list_sort ⟨_, hoL, rfl⟩ entry_list_sort (list_sort_treeK strKind_oneLt hoL hS.keysOf (fun v₁ v₂ rest e => keyKind_strs (by rw [← e]; exact hS)) hl64 fun st' a1 a2 => ⟨_, rfl, ?_⟩) (args_list_sort _)))
  refine wpAny_pure ⟨_, rfl, ?_⟩
  obtain ⟨ss', b1, b2, b3⟩ := sorted_out_str hS a1 a2
  obtain ⟨zs, rfl, pz⟩ := unmap_S b2
  obtain ⟨ep, he'⟩ := PyProof.Rows.sortedHeap_at (vs := acc.toList) (out := (arrOf st').map (·.2)) hoL
  have hlen : (zs.map fun c => V.str (S [c])).length ≤ sizeLine := by rw [List.length_map, pz.length_eq]; exact Nat.le_trans (Nat.le_of_lt h64) (by decide)
  have I1 : Inv X pins σ H ⟨h1, s.gens, s.drawn, t1, s.os⟩ := I.kept (t' := t1) k
  refine ⟨.ref _, upd H h1.objs.size (.lst (zs.map fun c => V.str (S [c]))), I1.laid (t' := t1) (fun b u e => ?_) (Nat.le_refl _) ⟨hlen, _, ep, ?_, he'⟩, rfl, q zs _ pz (sorted_pw zs b3) (I1.hok.fresh (Nat.le_refl _))⟩
  · have hb : b ≠ h1.objs.size := Nat.ne_of_lt (Heap.lt_size e)
    exact PyProof.Rows.sortedHeap_old hb (Heap.lt_size (Heap.get?_push_of_some _ e)) |>.trans (Heap.get?_push_of_some _ e)
  · have := vals_of_strs b1
    rwa [List.map_map] at this
end Z
namespace Z
open PySem PySem.Spec PyProof.Rows L2
open PySem.Sem (wp)
def zRepS : R2 := fun x y H Q => ∃ (z : List Nat) (n : Int), x = .str (S z) ∧ y = .int n ∧ 0 ≤ n ∧ z.length * n.toNat ≤ 100000 ∧ n ≤ 100000 ∧ Q (.str (S (List.replicate n.toNat z).flatten)) H
theorem foldl_app : ∀ (k : Nat) (z : Array Nat) (a : Array Nat), ((List.replicate k z).foldl (· ++ ·) a).toList = a.toList ++ (List.replicate k z.toList).flatten
  | 0, z, a => by simp
  | k + 1, z, a => by
    rw [List.replicate_succ, List.foldl_cons, foldl_app k z (a ++ z), List.replicate_succ, List.flatten_cons, Array.toList_append, List.append_assoc]
theorem mul_S (z : List Nat) (n : Int) (h0 : 0 ≤ n) : Txt.mul (S z) n = S (List.replicate n.toNat z).flatten := by
  unfold Txt.mul
  by_cases h1 : n < 1
  · rw [if_pos h1]
    have : n = 0 := by omega
    subst this
    rfl
  · rw [if_neg h1]
    by_cases h2 : (n == 1 || (S z).length == 0) = true
    · rw [if_pos h2]
      rcases (Bool.or_eq_true _ _).mp h2 with h3 | h3
      · have : n = 1 := by simpa using h3
        subst this
        simp
      · have : z = [] := by
          have h4 : (S z).length = 0 := by simpa using h3
          rw [S_len] at h4
          exact List.eq_nil_of_length_eq_zero h4
        subst this
        simp
    · rw [if_neg h2]
      have := foldl_app n.toNat z.toArray #[]
      rw [List.nil_append] at this
      show (⟨_⟩ : Str) = ⟨_⟩
      rw [← Array.toArray_toList (xs := (List.replicate n.toNat (S z).cps).foldl (· ++ ·) #[])]
      exact congrArg (fun l : List Nat => (⟨l.toArray⟩ : Str)) this
theorem op_rep_str {X : Cx} : OpR X (binaryOp .Mult) zRepS := by
  intro pins s σ H x y v u Q I rx ry h
  obtain ⟨z, n, rfl, rfl, h0, hl, hn, q⟩ := h
  obtain ⟨t, rfl⟩ := rx
  obtain ⟨t', rfl⟩ := ry
  have hmul : MulOk (S z) n := by
    refine ⟨?_, fun h1 h2 => ?_, fun h1 h2 => ?_⟩
    · rw [Bool.or_eq_false_iff]
      exact ⟨decide_eq_false (by omega), decide_eq_false (by omega)⟩
    · have e : ((S z).length : Int) = z.length := by rw [S_len]
      have hz : z.length ≤ 100000 := by
        have : 1 ≤ n.toNat := by omega
        exact Nat.le_trans (Nat.le_mul_of_pos_right _ this) hl
      have h3 : (100000 : Int) ≤ (2 ^ 63 - 1) / n := by
        rw [Int.le_ediv_iff_mul_le (by omega)]
        have : (100000 : Int) * n ≤ 100000 * 100000 := Int.mul_le_mul_of_nonneg_left hn (by decide)
        omega
      omega
    · unfold Builtin.Str.tooLong
      rw [S_len]
      exact decide_eq_false (Nat.not_lt.mpr (Nat.le_trans hl (by decide)))
  refine SB.mul hmul fun tk k => ?_
  rw [mul_S z n h0]
  exact ⟨.str (S (List.replicate n.toNat z).flatten), H, I.tok k, ⟨tk, rfl⟩, q⟩
theorem i_repS {a : List Nat} {n : Int} {H : Hp} {Q : VK} (h0 : 0 ≤ n) (hl : a.length * n.toNat ≤ 100000) (hn : n ≤ 100000) (q : Q (.str (S (List.replicate n.toNat a).flatten)) H) : zRepS (.str (S a)) (.int n) H Q := ⟨a, n, rfl, rfl, h0, hl, hn, q⟩
end Z
namespace Z
open PySem PySem.Spec PyProof.Rows L2
open PySem.Builtin.Str (occurrences subAt lastOccurrence)
/-! ### texts: what find, count and their kin are on lists of codes -/
theorem cutS_S (a : List Nat) (lo hi : Option Int) : cutS (S a) lo hi = S ((a.drop (HT.sIx a.length 0 lo)).take (HT.sIx a.length a.length hi - HT.sIx a.length 0 lo)) := by
  unfold cutS
  rw [S_len]
theorem sub_iff (a b : List Nat) (i : Nat) : subAt (S a) (S b) i = true ↔ (a.drop i).take b.length = b := by
  unfold subAt
  have e : ((S a).cps.extract i (i + (S b).length)) = ((a.drop i).take b.length).toArray := by
    rw [S_len]
    show a.toArray.extract i (i + b.length) = _
    rw [List.extract_toArray, List.extract_eq_take_drop]
    have : i + b.length - i = b.length := by omega
    rw [this]
  rw [e]
  constructor
  · intro h
    have := eq_of_beq h
    exact congrArg Array.toList this
  · intro h
    rw [h]
    exact beq_self_eq_true _
def idx (c : Nat) : List Nat → Nat → List Nat
  | [], _ => []
  | x :: r, i => if x = c then i :: idx c r (i + 1) else idx c r (i + 1)
theorem idx_len (c : Nat) : ∀ (l : List Nat) (i : Nat), (idx c l i).length = l.count c
  | [], _ => rfl
  | x :: r, i => by
    unfold idx
    by_cases h : x = c
    · subst h; rw [if_pos rfl, List.length_cons, idx_len x r, List.count_cons_self]
    · rw [if_neg h, idx_len c r, List.count_cons_of_ne h]
theorem idx_lo (c : Nat) : ∀ (l : List Nat) (i j : Nat), j ∈ idx c l i → i ≤ j
  | [], _, _, h => by simp [idx] at h
  | x :: r, i, j, h => by
    unfold idx at h
    split at h
    · rcases List.mem_cons.mp h with e | h
      · omega
      · have := idx_lo c r (i + 1) j h; omega
    · have := idx_lo c r (i + 1) j h; omega
theorem take1 (c : Nat) (a : List Nat) (i : Nat) : ((a.drop i).take 1 = [c]) ↔ a[i]? = some c := by
  rcases h : a[i]? with _ | x
  · have : a.drop i = [] := List.drop_eq_nil_iff.mpr (List.getElem?_eq_none_iff.mp h)
    rw [this]; simp
  · obtain ⟨hl, e⟩ := List.getElem?_eq_some_iff.mp h
    have : a.drop i = x :: a.drop (i + 1) := by rw [List.drop_eq_getElem_cons hl, e]
    rw [this]; simp
theorem occ_loop (a : List Nat) (c lim : Nat) : ∀ (k i : Nat) (st : Array Nat × Nat), i + k = a.length + 1 → st.2 ≤ i →
    (forIn (List.range' i k) st (StrLaws.occBody (S a) (S [c]) a.length lim)).run.fst.toList = st.1.toList ++ (idx c (a.drop i) i).take (lim - st.1.size)
  | 0, i, st, hk, _ => by
    have : a.drop i = [] := List.drop_eq_nil_iff.mpr (by omega)
    rw [this]
    simp [idx]
  | k + 1, i, st, hk, hf => by
    rw [List.range'_succ, List.forIn_cons]
    unfold StrLaws.occBody
    have hS : (S [c]).length = 1 := S_len [c]
    by_cases hc : ((st.fst.size < lim ∧ st.snd ≤ i) ∧ i + (S [c]).length ≤ a.length) ∧ subAt (S a) (S [c]) i = true
    · rw [if_pos hc]
      have h1 : a[i]? = some c := (take1 c a i).mp ((sub_iff a [c] i).mp hc.2)
      obtain ⟨hl, e⟩ := List.getElem?_eq_some_iff.mp h1
      have hd : a.drop i = c :: a.drop (i + 1) := by rw [List.drop_eq_getElem_cons hl, e]
      have ih := occ_loop a c lim k (i + 1) (st.fst.push i, i + (S [c]).length) (by omega) (by rw [hS]; exact Nat.le_refl _)
      refine ih.trans ?_
      rw [hd, show idx c (c :: a.drop (i + 1)) i = i :: idx c (a.drop (i + 1)) (i + 1) from if_pos rfl]
      have hlt := hc.1.1.1
      obtain ⟨n, hn⟩ : ∃ n, lim - st.fst.size = n + 1 := ⟨lim - st.fst.size - 1, by omega⟩
      have hn2 : lim - (st.fst.push i).size = n := by rw [Array.size_push]; omega
      rw [hn, List.take_succ_cons, Array.toList_push, List.append_assoc]
      show _ ++ ([i] ++ _) = _
      rw [hn2]
      rfl
    · rw [if_neg hc]
      have ih := occ_loop a c lim k (i + 1) st (by omega) (by omega)
      refine ih.trans ?_
      by_cases hz : lim - st.fst.size = 0
      · rw [hz]; simp
      · have hne : ¬ a[i]? = some c := fun h1 => hc ⟨⟨⟨by omega, hf⟩, by obtain ⟨hl, _⟩ := List.getElem?_eq_some_iff.mp h1; rw [hS]; omega⟩, (sub_iff a [c] i).mpr ((take1 c a i).mpr h1)⟩
        rcases h : a[i]? with _ | x
        · have e0 : a.drop i = [] := List.drop_eq_nil_iff.mpr (List.getElem?_eq_none_iff.mp h)
          have e1 : a.drop (i + 1) = [] := List.drop_eq_nil_iff.mpr (by have := List.getElem?_eq_none_iff.mp h; omega)
          rw [e0, e1]; simp [idx]
        · obtain ⟨hl, e⟩ := List.getElem?_eq_some_iff.mp h
          have hd : a.drop i = x :: a.drop (i + 1) := by rw [List.drop_eq_getElem_cons hl, e]
          rw [hd]
          have hx : ¬ x = c := fun q => hne (by rw [h, q])
          show _ = _ ++ List.take _ (idx c (x :: a.drop (i + 1)) i)
          rw [show idx c (x :: a.drop (i + 1)) i = idx c (a.drop (i + 1)) (i + 1) from if_neg hx]
theorem occ_idx (a : List Nat) (c lo lim : Nat) (h : lo ≤ a.length) : occurrences (S a) (S [c]) lo a.length lim = (idx c (a.drop lo) lo).take lim := by
  rw [StrLaws.occ_eq, occ_loop a c lim (a.length + 1 - lo) lo (#[], lo) (by omega) (Nat.le_refl _)]
  simp
theorem find_S (a : List Nat) (c : Nat) : Txt.find (S a) (S [c]) = match idx c a 0 with | i :: _ => (i : Int) | [] => -1 := by
  unfold Txt.find
  rw [S_len, occ_idx a c 0 1 (Nat.zero_le _), List.drop_zero]
  cases idx c a 0 <;> rfl
theorem count_S (a : List Nat) (c : Nat) : Txt.count (S a) (S [c]) = (a.count c : Nat) := by
  unfold Txt.count
  rw [S_len, occ_idx a c 0 (a.length + 1) (Nat.zero_le _), List.drop_zero, List.take_of_length_le (by rw [idx_len]; have := List.count_le_length (a := c) (l := a); omega), idx_len]
theorem starts_S (a b : List Nat) : Txt.startswith (S a) (S b) = decide (b <+: a) := by
  unfold Txt.startswith
  rw [S_len, S_len]
  by_cases h : b <+: a
  · rw [decide_eq_true h]
    obtain ⟨r, rfl⟩ := h
    have h1 : subAt (S (b ++ r)) (S b) 0 = true := (sub_iff _ _ _).mpr (by simp)
    rw [h1]; simp
  · rw [decide_eq_false h]
    rw [Bool.and_eq_false_iff]
    refine .inr ?_
    cases q : subAt (S a) (S b) 0 with
    | false => rfl
    | true =>
      have := (sub_iff a b 0).mp q
      rw [List.drop_zero] at this
      exact absurd (by rw [← this]; exact List.take_prefix _ _) h
theorem ends_S (a b : List Nat) : Txt.endswith (S a) (S b) = decide (b <:+ a) := by
  unfold Txt.endswith
  rw [S_len, S_len]
  by_cases h : b <:+ a
  · rw [decide_eq_true h]
    obtain ⟨r, rfl⟩ := h
    have h1 : subAt (S (r ++ b)) (S b) ((r ++ b).length - b.length) = true := (sub_iff _ _ _).mpr (by simp)
    rw [h1]; simp
  · rw [decide_eq_false h]
    cases q : (decide (0 + b.length ≤ a.length) && subAt (S a) (S b) (a.length - b.length)) with
    | false => rfl
    | true =>
      obtain ⟨q1, q2⟩ := (Bool.and_eq_true _ _).mp q
      have q1 : 0 + b.length ≤ a.length := of_decide_eq_true q1
      have := (sub_iff a b _).mp q2
      have hl : (a.drop (a.length - b.length)).length = b.length := by rw [List.length_drop]; omega
      rw [List.take_of_length_le (by omega)] at this
      exact absurd (by rw [← this]; exact List.drop_suffix _ _) h
theorem in_S (a b : List Nat) : (!(occurrences (S a) (S b) 0 (S a).length 1).isEmpty) = decide (b <:+: a) := by
  rw [Bool.eq_iff_iff, StrLaws.found_iff, decide_eq_true_iff]
  constructor
  · rintro ⟨i, h1, h2⟩
    have := (sub_iff a b i).mp h2
    rw [← this]
    exact (List.take_prefix _ _).isInfix.trans (List.drop_suffix _ _).isInfix
  · rintro ⟨r, t, rfl⟩
    refine ⟨r.length, by rw [S_len, S_len, List.length_append, List.length_append]; omega, (sub_iff _ _ _).mpr (by simp)⟩
end Z
namespace Z
open PySem PySem.Spec PyProof.Rows L2
open PySem.Builtin.Str (occurrences subAt lastOccurrence)
/-! ### methods of texts by name -/
def find1 (c : Nat) (a : List Nat) : Int := match idx c a 0 with | i :: _ => (i : Int) | [] => -1
def zJoin0 (K : PySem.W.Frag) : V → List V → Hp → VK → Prop := fun x xs H Q => ∃ a p, ∃ ys : List Str, x = V.str a ∧ xs = [.ref p] ∧ (SqL K H p (ys.map V.str) ∨ SqT K H p (ys.map V.str)) ∧ (ys.map (·.length)).sum + ys.length * a.length ≤ 16777216 ∧ Q (.str (Txt.join a ys)) H
def zFind : V → List V → Hp → VK → Prop := fun x xs H Q => ∃ a b : Str, x = V.str a ∧ xs = [.str b] ∧ Q (.int (Txt.find a b)) H
def zFind3 : V → List V → Hp → VK → Prop := fun x xs H Q => ∃ (a b : Str) (i : Int), x = V.str a ∧ xs = [.str b, .int i] ∧ Q (.int (Txt.find3 a b i)) H
def zCount : V → List V → Hp → VK → Prop := fun x xs H Q => ∃ a b : Str, x = V.str a ∧ xs = [.str b] ∧ Q (.int (Txt.count a b)) H
def zStarts : V → List V → Hp → VK → Prop := fun x xs H Q => ∃ a b : Str, x = V.str a ∧ xs = [.str b] ∧ Q (.bl (Txt.startswith a b)) H
def zEnds : V → List V → Hp → VK → Prop := fun x xs H Q => ∃ a b : Str, x = V.str a ∧ xs = [.str b] ∧ Q (.bl (Txt.endswith a b)) H
def zIndex : V → List V → Hp → VK → Prop := fun x xs H Q => ∃ (a b : Str) (i : Nat) (rest : List Nat), x = V.str a ∧ xs = [.str b] ∧ occurrences a b 0 a.length 1 = i :: rest ∧ Q (.int (i : Nat)) H
def zUpper : V → List V → Hp → VK → Prop := fun x xs H Q => ∃ a : Str, x = V.str a ∧ xs = [] ∧ a.length ≤ 5592405 ∧ Q (.str (Txt.upper a)) H
def zInStr : R2 := fun x y H Q => ∃ i j : Str, x = V.str i ∧ y = V.str j ∧ Q (V.bl (!(occurrences j i 0 j.length 1).isEmpty)) H
def zAppend : V → List V → Hp → VK → Prop := fun x vs H Q => ∃ l xs y, x = V.ref l ∧ vs = [y] ∧ H l = some (.lst xs) ∧ xs.length < sizeLine ∧ Q .non (upd H l (.lst (xs ++ [y])))
def zPopAt : V → List V → Hp → VK → Prop := fun x vs H Q => ∃ l xs i k y, x = V.ref l ∧ vs = [.int i] ∧ H l = some (.lst xs) ∧ -(2 ^ 63) ≤ i ∧ i < 2 ^ 63 ∧ seqIndex? i xs.length = some k ∧ xs[k]? = some y ∧ Q y (upd H l (.lst (xs.eraseIdx k)))
section
variable {X : Cx}
theorem zm_find : MtR X "str.find" zFind := mt_find
theorem zm_find3 : MtR X "str.find" zFind3 := mt_find3
theorem zm_count : MtR X "str.count" zCount := mt_count
theorem zm_starts : MtR X "str.startswith" zStarts := mt_startswith
theorem zm_ends : MtR X "str.endswith" zEnds := mt_endswith
theorem zm_index : MtR X "str.index" zIndex := mt_sindex
theorem zm_upper : MtR X "str.upper" zUpper := mt_upper
theorem zm_append : MtR X "list.append" zAppend := mt_append
theorem zm_popAt : MtR X "list.pop" zPopAt := mt_popAt
theorem z_instr : OpR X (compareOp .In) zInStr := op_in_str
theorem pe_joinZ {K : PySem.W.Frag} {o e : Expr} {to te : TE} {apos pos : Pos} (hK : X.K = K) (ho : PE X o to) (he : PE X e te) (h1 : starEach [e] X.env = [(false, eval e X.env)] := by rfl)
    (h2 : attributeBase o "join" X.env (eval o X.env) = eval o X.env := by rfl) (h3 : (apos.endLine == pos.line) = true := by rfl) :
    PE X (.Call (.Attribute o "join" apos) [e] [] pos) (tM1 (zJoin0 K) to te) := hK ▸ pe_join ho he h1 h2 h3
theorem pe_bmZ {K : PySem.W.Frag} {o e : Expr} {es : List Expr} {to : TE} {t : TA} {name : Str} {apos cpos : Pos} {T id : String} {r : V → List V → Hp → VK → Prop} (hK : X.K = K)
    (pa : PlainAttrs T) (slot : Slot T name id) (hty : typeOf (.builtin id) = pure (.type "method_descriptor")) (hm : MtR X id r) (ho : PE X o to) (ha : PA X (e :: es) t)
    (h1 : attributeBase o name X.env (eval o X.env) = eval o X.env := by rfl)
    (h2 : ((((backTo cpos (starEach (e :: es) X.env)).all fun x => !x.1) && (backToKw cpos (keywordEach [] X.env)).all fun x => x.1.isSome) && decide (((e :: es).length + ([] : List Keyword).length + if ([] : List Keyword).isEmpty = true then 0 else 1) < 30)) = true := by rfl)
    (h3 : (apos.endLine == cpos.line) = true := by rfl) (h4 : starEach (e :: es) X.env = (false, eval e X.env) :: starEach es X.env := by rfl) (h5 : (backTo cpos (starEach es X.env)).any (fun x => x.1) = false := by rfl) :
    PE X (.Call (.Attribute o name apos) (e :: es) [] cpos) (tBM K T r to t) := hK ▸ pe_bm pa slot hty hm ho ha h1 h2 h3 h4 h5
theorem pe_bm0Z {K : PySem.W.Frag} {o : Expr} {to : TE} {name : Str} {apos cpos : Pos} {T id : String} {r : V → List V → Hp → VK → Prop} (hK : X.K = K)
    (pa : PlainAttrs T) (slot : Slot T name id) (hty : typeOf (.builtin id) = pure (.type "method_descriptor")) (hm : MtR X id r) (ho : PE X o to)
    (h1 : attributeBase o name X.env (eval o X.env) = eval o X.env := by rfl) (h3 : (apos.endLine == cpos.line) = true := by rfl) :
    PE X (.Call (.Attribute o name apos) [] [] cpos) (tBM0 K T r to) := hK ▸ pe_bm0 pa slot hty hm ho h1 h3
theorem pe_fldZ {K : PySem.W.Frag} {e : Expr} {f : Str} {pos : Pos} {ta : TE} (hK : X.K = K) (he : PE X e ta) (hb : attributeBase e f X.env (eval e X.env) = eval e X.env) : PE X (.Attribute e f pos) (tFld K ta f) := hK ▸ pe_fld he hb
end
section
variable {σ : L2.St} {H : Hp} {Q : VK} {D : Ends} {K : PySem.W.Frag} {i j : Int} {a b : List Nat} {x y v : V} {p : Addr} {xs : List V} {te : TE}
theorem i_m1 {r : V → List V → Hp → VK → Prop} {to : TE} (q : to σ H fun x H1 => KS x fun z => te σ H1 fun y H2 => r (.str z) [y] H2 Q) : tM1 r to te σ H Q := by
  have e : (fun (x : V) (H1 : Hp) => KS x fun z => te σ H1 fun y H2 => r (.str z) [y] H2 Q) = fun x H1 => (∃ a, x = V.str a) ∧ te σ H1 fun y H2 => r x [y] H2 Q := by
    funext x H1
    refine propext ⟨?_, ?_⟩
    · rintro ⟨z, rfl, h⟩; exact ⟨⟨z, rfl⟩, h⟩
    · rintro ⟨⟨z, rfl⟩, h⟩; exact ⟨z, rfl, h⟩
  rw [e] at q
  exact q
theorem i_tyS {t : TA} {R : List V → Hp → Prop} (q : t σ H R) : tyV K "str" (.str (S a)) H ∧ t σ H R := ⟨rfl, q⟩
theorem i_tyS0 {A : Prop} (q : A) : tyV K "str" (.str (S a)) H ∧ A := ⟨rfl, q⟩
theorem i_tyL {A : Prop} (h : SqL K H p xs) (q : A) : tyV K "list" (.ref p) H ∧ A := ⟨.inl ⟨rfl, xs, h⟩, q⟩
theorem i_find {c : Nat} (q : Q (.int (find1 c a)) H) : zFind (.str (S a)) [.str (S [c])] H Q := ⟨_, _, rfl, rfl, by rw [find_S]; exact q⟩
theorem i_count {c : Nat} (q : Q (.int (a.count c : Nat)) H) : zCount (.str (S a)) [.str (S [c])] H Q := ⟨_, _, rfl, rfl, by rw [count_S]; exact q⟩
theorem i_starts (q : Q (.bl (decide (b <+: a))) H) : zStarts (.str (S a)) [.str (S b)] H Q := ⟨_, _, rfl, rfl, by rw [starts_S]; exact q⟩
theorem i_ends (q : Q (.bl (decide (b <:+ a))) H) : zEnds (.str (S a)) [.str (S b)] H Q := ⟨_, _, rfl, rfl, by rw [ends_S]; exact q⟩
theorem i_instr (q : Q (.bl (decide (b <:+: a))) H) : zInStr (.str (S b)) (.str (S a)) H Q := ⟨_, _, rfl, rfl, by rw [in_S]; exact q⟩
theorem i_index {c n : Nat} (h : (idx c a 0).head? = some n) (q : Q (.int (n : Nat)) H) : zIndex (.str (S a)) [.str (S [c])] H Q := by
  cases e : idx c a 0 with
  | nil => rw [e] at h; cases h
  | cons m r =>
    rw [e] at h; cases h
    exact ⟨_, _, n, [], rfl, rfl, by rw [S_len, occ_idx a c 0 1 (Nat.zero_le _), List.drop_zero, e]; rfl, q⟩
theorem placed_len (x : Str) (f : Nat → Nat → Array Nat) : True := trivial
theorem i_append (h : H p = some (.lst xs)) (hl : xs.length < 100000) (q : Q .non (upd H p (.lst (xs ++ [v])))) : zAppend (.ref p) [v] H Q := ⟨p, xs, v, rfl, rfl, h, lt_line hl, q⟩
theorem i_slS {lo hi : Option Int} (hl : a.length ≤ 100000) (q : Q (.str (S ((a.drop (HT.sIx a.length 0 lo)).take (HT.sIx a.length a.length hi - HT.sIx a.length 0 lo)))) H) : rSlS (.str (S a)) lo hi H Q :=
  ⟨S a, rfl, by rw [S_len]; exact le_line hl, by rw [cutS_S]; exact q⟩
/-- the slices that a text is cut by: [:i], [i:], [i:j] with places in it -/
theorem i_slTo {n : Nat} (hl : a.length ≤ 100000) (q : Q (.str (S (a.take n))) H) : rSlS (.str (S a)) none (some (n : Int)) H Q := by
  refine i_slS hl ?_
  rw [HT.sIx_none, HT.sIx_nat, List.drop_zero, Nat.sub_zero]
  have : a.take (min n a.length) = a.take n := by
    rcases Nat.le_total n a.length with h | h
    · rw [Nat.min_eq_left h]
    · rw [Nat.min_eq_right h, List.take_of_length_le (Nat.le_refl _), List.take_of_length_le h]
  rw [this]; exact q
theorem i_slFrom {n : Nat} (hl : a.length ≤ 100000) (q : Q (.str (S (a.drop n))) H) : rSlS (.str (S a)) (some (n : Int)) none H Q := by
  refine i_slS hl ?_
  rw [HT.sIx_none, HT.sIx_nat]
  have : (a.drop (min n a.length)).take (a.length - min n a.length) = a.drop n := by
    rcases Nat.le_total n a.length with h | h
    · rw [Nat.min_eq_left h, List.take_of_length_le (by rw [List.length_drop]; exact Nat.le_refl _)]
    · rw [Nat.min_eq_right h, Nat.sub_self, List.take_zero, List.drop_of_length_le h]
  rw [this]; exact q
theorem i_slBoth {n m : Nat} (hl : a.length ≤ 100000) (q : Q (.str (S ((a.drop n).take (m - n)))) H) : rSlS (.str (S a)) (some (n : Int)) (some (m : Int)) H Q := by
  refine i_slS hl ?_
  rw [HT.sIx_nat, HT.sIx_nat]
  have e : (a.drop (min n a.length)).take (min m a.length - min n a.length) = (a.drop n).take (m - n) := by
    rcases Nat.le_total n a.length with h | h
    · rw [Nat.min_eq_left h]
      rcases Nat.le_total m a.length with h2 | h2
      · rw [Nat.min_eq_left h2]
      · rw [Nat.min_eq_right h2, List.take_of_length_le (by rw [List.length_drop]; exact Nat.le_refl _), List.take_of_length_le (by rw [List.length_drop]; omega)]
    · rw [Nat.min_eq_right h, List.drop_length, List.drop_of_length_le h, List.take_nil, List.take_nil]
  rw [e]; exact q
theorem glued_nil : ∀ (l : List (List Nat)) (acc : Array Nat), ((l.map S).foldl (fun (acc : Array Nat) (p : Str) => acc ++ (S []).cps ++ p.cps) acc).toList = acc.toList ++ l.flatten
  | [], acc => by simp
  | x :: l, acc => by
    rw [List.map_cons, List.foldl_cons, glued_nil l]
    simp
theorem join_nil (l : List (List Nat)) : Txt.join (S []) (l.map S) = S l.flatten := by
  cases l with
  | nil => rfl
  | cons x l =>
    have := glued_nil l x.toArray
    show (⟨_⟩ : Str) = ⟨_⟩
    refine congrArg Str.mk ?_
    rw [← Array.toArray_toList (xs := List.foldl _ _ _)]
    exact congrArg List.toArray this
theorem i_join0 {l : List (List Nat)} (h : SqL K H p (l.map fun x => V.str (S x)) ∨ SqT K H p (l.map fun x => V.str (S x))) (hl : l.flatten.length ≤ 100000) (q : Q (.str (S l.flatten)) H) : zJoin0 K (.str (S [])) [.ref p] H Q := by
  refine ⟨S [], p, l.map S, rfl, rfl, ?_, ?_, by rw [join_nil]; exact q⟩
  · rw [List.map_map]; exact h
  · have e : ((l.map S).map (·.length)).sum = l.flatten.length := by
      rw [List.map_map, List.length_flatten]
      exact congrArg List.sum (List.map_congr_left fun x _ => S_len x)
    have e0 : (S []).length = 0 := rfl
    rw [e, e0]; omega
end
end Z
namespace Z
open PySem PySem.Spec PyProof.Rows L2
/-! ### comprehensions by an invariant over what is made so far -/
section
variable {σ : L2.St} {H : Hp} {Q : VK} {K : PySem.W.Frag}
/-- the list at D is acc, and I speaks of it -/
def LcI (Dl : Addr) (I : Nat → List V → Hp → Prop) (i : Nat) (H : Hp) : Prop := ∃ acc, H Dl = some (.lst acc) ∧ acc.length ≤ i ∧ I i acc H
def CEnd (Dl : Addr) (P : Hp → Prop) (y : V) (H4 : Hp) : Prop := ∃ acc, H4 Dl = some (.lst acc) ∧ acc.length < sizeLine ∧ P (upd H4 Dl (.lst (acc ++ [y])))
def LcT (Dl : Addr) (I : Nat → List V → Hp → Prop) (i : Nat) (te : TE) (W : L2.St) (vs : List Nat) (tt : TT) (σ2 : L2.St) (H2 : Hp) : Prop := wipe σ2 vs = W ∧ tt σ2 H2 fun b H3 => if b = true then te σ2 H3 (CEnd Dl (LcI Dl I (i + 1))) else LcI Dl I (i + 1) H3
theorem l_comp {J : It} {n : Nat} {G : Hp → Prop} {Y : Nat → Hp → V → Hp → Prop} (w : Walk J n G Y) {g : TG} {tt : TT} {te : TE} {vs : List Nat} {Dl : Addr} (W : L2.St) (hw : wipe σ vs = W) (I : Nat → List V → Hp → Prop)
    (h0 : I 0 [] (upd H Dl (.lst []))) (hG : ∀ i acc H, i ≤ n → I i acc H → H Dl = some (.lst acc) → G H)
    (hs : ∀ i x acc H H', i < n → I i acc H → H Dl = some (.lst acc) → acc.length ≤ i → Y i H x H' → g x W H' (LcT Dl I i te W vs tt))
    (hd : ∀ acc H, I n acc H → H Dl = some (.lst acc) → acc.length ≤ n → Q (.ref Dl) H) : LC J g tt te vs σ H Q Dl := by
  subst hw
  refine l_lc w (LcI Dl I) ⟨[], upd_same, Nat.le_refl _, h0⟩ (fun i H hi ⟨acc, e, _, p⟩ => hG i acc H hi p e) (fun i x H H' hi ⟨acc, e, hl, p⟩ y => ?_) fun H ⟨acc, e, hl, p⟩ => hd acc H p e hl
  exact hs i x acc H H' hi p e hl y
theorem cend {Dl : Addr} {I : Nat → List V → Hp → Prop} {i : Nat} {y : V} {acc : List V} (h : H Dl = some (.lst acc)) (hl : acc.length ≤ i) (hi : i < 100000) (p : I (i + 1) (acc ++ [y]) (upd H Dl (.lst (acc ++ [y])))) : CEnd Dl (LcI Dl I (i + 1)) y H :=
  ⟨acc, h, lt_line (by omega), acc ++ [y], upd_same, by rw [List.length_append]; simp; omega, p⟩
theorem i_lct {Dl : Addr} {I : Nat → List V → Hp → Prop} {i : Nat} {te : TE} {W : L2.St} {vs : List Nat} {tt : TT} {σ2 : L2.St} (hw : wipe σ2 vs = W) (q : tt σ2 H fun b H3 => if b = true then te σ2 H3 (CEnd Dl (LcI Dl I (i + 1))) else LcI Dl I (i + 1) H3) :
    LcT Dl I i te W vs tt σ2 H := ⟨hw, q⟩
theorem i_slL {p : Addr} {xs : List V} {lo hi : Option Int} (h : SqL K H p xs) (q : ∀ l, H l = none → Q (.ref l) (upd H l (.lst (cutV xs lo hi)))) : rSlL K (.ref p) lo hi H Q := ⟨p, xs, rfl, h, q⟩
theorem cutV_to (xs : List V) (n : Nat) : cutV xs none (some (n : Int)) = xs.take n := by
  unfold cutV
  rw [HT.sIx_none, HT.sIx_nat, List.drop_zero, Nat.sub_zero]
  rcases Nat.le_total n xs.length with h | h
  · rw [Nat.min_eq_left h]
  · rw [Nat.min_eq_right h, List.take_of_length_le (Nat.le_refl _), List.take_of_length_le h]
theorem cutV_from (xs : List V) (n : Nat) : cutV xs (some (n : Int)) none = xs.drop n := by
  unfold cutV
  rw [HT.sIx_none, HT.sIx_nat]
  rcases Nat.le_total n xs.length with h | h
  · rw [Nat.min_eq_left h, List.take_of_length_le (by rw [List.length_drop]; exact Nat.le_refl _)]
  · rw [Nat.min_eq_right h, Nat.sub_self, List.take_zero, List.drop_of_length_le h]
end
theorem _root_.L2.Same.newz {H H' : Hp} {p : Addr} {o : HO} (e : Same H H') (hp : H' p = none) : Same H (upd H' p o) := fun b u q => by have := e b u q; rw [upd_ne (ne_of_none this hp)]; exact this
theorem _root_.L2.Same.mutz {H H' : Hp} {p : Addr} {o : HO} (e : Same H H') (hp : H p = none) : Same H (upd H' p o) := fun b u q => by rw [upd_ne (ne_of_none q hp)]; exact e b u q
end Z
namespace Z
theorem perm_pick {α : Type} {found rest l : List α} {r : Nat} (hr : r < rest.length) (hp : (found ++ rest).Perm l) : ((found ++ [rest[r]]) ++ (rest.take r ++ rest.drop (r + 1))).Perm l := by
  refine List.Perm.trans ?_ hp
  rw [List.append_assoc]
  refine List.Perm.append_left found ?_
  have e : rest = rest.take r ++ rest[r] :: rest.drop (r + 1) := by
    rw [List.getElem_cons_drop, List.take_append_drop]
  refine List.Perm.trans ?_ (List.Perm.of_eq e.symm)
  show (rest[r] :: (rest.take r ++ rest.drop (r + 1))).Perm _
  exact List.perm_middle.symm
theorem az : codes (PySem.Str.ofString "abcdefghijklmnopqrstuvwxyz") = List.range' 97 26 := by decide +kernel
theorem empty_codes : codes (PySem.Str.ofString "") = [] := by decide +kernel
theorem perm_nodup_of {α : Type} {found rest l : List α} (hp : (found ++ rest).Perm l) (hn : l.Nodup) : found.Nodup := (List.nodup_append.mp (hp.nodup_iff.mpr hn)).1
/-- a sorted arrangement of different ones ascends -/
theorem asc_of {ys : List Nat} (h : ys.Pairwise (· ≤ ·)) (hn : ys.Nodup) : ys.Pairwise (· < ·) :=
  (h.and hn).imp fun {a b} q => by have := q.1; have := q.2; omega
theorem flat_one : ∀ ys : List Nat, (ys.map fun c => [c]).flatten = ys
  | [] => rfl
  | a :: l => by rw [List.map_cons, List.flatten_cons, flat_one l]; rfl
end Z
namespace Z
open PySem PySem.Spec PyProof.Rows L2
/-! ### data in the heap: what a value stands for; N tells the addresses that may change -/
mutual
inductive Rp (N : Addr → Prop) (H : Hp) : V → PyData → Prop
  | non : Rp N H .non .none
  | bl (b : Bool) : Rp N H (.bl b) (.bool b)
  | int (i : Int) : Rp N H (.int i) (.int i)
  | str (x : Str) : Rp N H (.str x) (.str x)
  | lst {a : Addr} {xs : List V} {ds : List PyData} : H a = some (.lst xs) → ¬ N a → RpAll N H xs ds → Rp N H (.ref a) (.list ds)
  | tup {a : Addr} {xs : List V} {ds : List PyData} : H a = some (.tup xs) → ¬ N a → RpAll N H xs ds → Rp N H (.ref a) (.tuple ds)
  | dct {a : Addr} {kvs : List (Key × V)} : H a = some (.dK kvs) → ¬ N a → Rp N H (.ref a) (.dict [])
inductive RpAll (N : Addr → Prop) (H : Hp) : List V → List PyData → Prop
  | nil : RpAll N H [] []
  | cons {v : V} {vs : List V} {d : PyData} {ds : List PyData} : Rp N H v d → RpAll N H vs ds → RpAll N H (v :: vs) (d :: ds)
end
/-- all but what may change is as it was -/
def Kp (N : Addr → Prop) (H H' : Hp) : Prop := ∀ b o, H b = some o → ¬ N b → H' b = some o
theorem Kp.refl {N : Addr → Prop} {H : Hp} : Kp N H H := fun _ _ e _ => e
theorem Kp.trans {N : Addr → Prop} {H H1 H2 : Hp} (a : Kp N H H1) (b : Kp N H1 H2) : Kp N H H2 := fun c o e n => b c o (a c o e n) n
theorem Kp.of_same {N : Addr → Prop} {H H' : Hp} (s : Same H H') : Kp N H H' := fun b o e _ => s b o e
theorem Gd.toKp {h : Addr} {H H' : Hp} (g : Gd h H H') : Kp (· = h) H H' := g.kp
theorem Kp.newz {N : Addr → Prop} {H H' : Hp} {p : Addr} {o : HO} (k : Kp N H H') (hp : H' p = none) : Kp N H (upd H' p o) := fun b u e n => by
  have := k b u e n
  rw [upd_ne (ne_of_none this hp)]; exact this
mutual
theorem Rp.mono {N : Addr → Prop} {H H' : Hp} (k : Kp N H H') : ∀ {v : V} {d : PyData}, Rp N H v d → Rp N H' v d
  | _, _, .non => .non
  | _, _, .bl b => .bl b
  | _, _, .int i => .int i
  | _, _, .str x => .str x
  | _, _, .lst e n r => .lst (k _ _ e n) n (RpAll.mono k r)
  | _, _, .tup e n r => .tup (k _ _ e n) n (RpAll.mono k r)
  | _, _, .dct e n => .dct (k _ _ e n) n
theorem RpAll.mono {N : Addr → Prop} {H H' : Hp} (k : Kp N H H') : ∀ {vs : List V} {ds : List PyData}, RpAll N H vs ds → RpAll N H' vs ds
  | _, _, .nil => .nil
  | _, _, .cons a b => .cons (Rp.mono k a) (RpAll.mono k b)
end
mutual
theorem Rp.sub {N M : Addr → Prop} {H : Hp} (k : ∀ b, M b → N b) : ∀ {v : V} {d : PyData}, Rp N H v d → Rp M H v d
  | _, _, .non => .non
  | _, _, .bl b => .bl b
  | _, _, .int i => .int i
  | _, _, .str x => .str x
  | _, _, .lst e n r => .lst e (fun q => n (k _ q)) (RpAll.sub k r)
  | _, _, .tup e n r => .tup e (fun q => n (k _ q)) (RpAll.sub k r)
  | _, _, .dct e n => .dct e fun q => n (k _ q)
theorem RpAll.sub {N M : Addr → Prop} {H : Hp} (k : ∀ b, M b → N b) : ∀ {vs : List V} {ds : List PyData}, RpAll N H vs ds → RpAll M H vs ds
  | _, _, .nil => .nil
  | _, _, .cons a b => .cons (Rp.sub k a) (RpAll.sub k b)
end
/-- nothing may change -/
abbrev N0 : Addr → Prop := fun _ => False
theorem Rp.same {H H' : Hp} {N : Addr → Prop} {v : V} {d : PyData} (s : Same H H') (r : Rp N H v d) : Rp N H' v d := r.mono (Kp.of_same s)
theorem Rp.free {N : Addr → Prop} {H : Hp} {v : V} {d : PyData} (r : Rp N H v d) : Rp N0 H v d := r.sub fun _ q => q.elim
theorem RpAll.length {N : Addr → Prop} {H : Hp} : ∀ {vs : List V} {ds : List PyData}, RpAll N H vs ds → vs.length = ds.length
  | _, _, .nil => rfl
  | _, _, .cons _ r => by rw [List.length_cons, List.length_cons, r.length]
theorem RpAll.get {N : Addr → Prop} {H : Hp} : ∀ {vs : List V} {ds : List PyData} {i : Nat} {d : PyData}, RpAll N H vs ds → ds[i]? = some d → ∃ v, vs[i]? = some v ∧ Rp N H v d
  | _, _, _, _, .nil, e => by simp at e
  | _, _, 0, _, .cons a _, e => by simp at e; subst e; exact ⟨_, rfl, a⟩
  | _, _, i + 1, _, .cons _ r, e => by obtain ⟨v, h1, h2⟩ := r.get (i := i) (by simpa using e); exact ⟨v, by simpa using h1, h2⟩
theorem RpAll.get' {N : Addr → Prop} {H : Hp} : ∀ {vs : List V} {ds : List PyData} {i : Nat} {v : V}, RpAll N H vs ds → vs[i]? = some v → ∃ d, ds[i]? = some d ∧ Rp N H v d
  | _, _, _, _, .nil, e => by simp at e
  | _, _, 0, _, .cons a _, e => by simp at e; subst e; exact ⟨_, rfl, a⟩
  | _, _, i + 1, _, .cons _ r, e => by obtain ⟨v, h1, h2⟩ := r.get' (i := i) (by simpa using e); exact ⟨v, by simpa using h1, h2⟩
theorem RpAll.drop {N : Addr → Prop} {H : Hp} : ∀ {vs : List V} {ds : List PyData} (n : Nat), RpAll N H vs ds → RpAll N H (vs.drop n) (ds.drop n)
  | _, _, 0, r => r
  | _, _, _ + 1, .nil => .nil
  | _, _, n + 1, .cons _ r => r.drop n
theorem RpAll.append {N : Addr → Prop} {H : Hp} : ∀ {vs ws : List V} {ds es : List PyData}, RpAll N H vs ds → RpAll N H ws es → RpAll N H (vs ++ ws) (ds ++ es)
  | _, _, _, _, .nil, r => r
  | _, _, _, _, .cons a q, r => .cons a (q.append r)
theorem RpAll.ints {N : Addr → Prop} {H : Hp} : ∀ (l : List Int), RpAll N H (l.map V.int) (l.map PyData.int)
  | [] => .nil
  | _ :: l => .cons (.int _) (RpAll.ints l)
mutual
/-- without dicts -/
def noD : PyData → Bool
  | .dict _ => false
  | .list l => noDs l
  | .tuple l => noDs l
  | .none => true
  | .bool _ => true
  | .int _ => true
  | .str _ => true
def noDs : List PyData → Bool
  | [] => true
  | d :: r => noD d && noDs r
end
mutual
theorem Rp.dp {K : PySem.W.Frag} {N : Addr → Prop} {H : Hp} : ∀ {v : V} {d : PyData}, noD d = true → Rp N H v d → Dp K H v d
  | _, _, _, .non => .non
  | _, _, _, .bl b => .bl b
  | _, _, _, .int i => .int i
  | _, _, _, .str x => .str x
  | _, _, s, .lst e _ r => .lst (SqL.of e) (RpAll.dp (by simpa [noD] using s) r)
  | _, _, s, .tup e _ r => .tup (SqT.of e) (RpAll.dp (by simpa [noD] using s) r)
  | _, _, s, .dct _ _ => by simp [noD] at s
theorem RpAll.dp {K : PySem.W.Frag} {N : Addr → Prop} {H : Hp} : ∀ {vs : List V} {ds : List PyData}, noDs ds = true → RpAll N H vs ds → DpAll K H vs ds
  | _, _, _, .nil => .nil
  | _, _, s, .cons a b => by
    have s' := s
    simp only [noDs, Bool.and_eq_true] at s'
    exact .cons (Rp.dp s'.1 a) (RpAll.dp s'.2 b)
end
/-- the built-in class of a datum -/
def tyN : PyData → String
  | .none => "NoneType"
  | .bool _ => "bool"
  | .int _ => "int"
  | .str _ => "str"
  | .list _ => "list"
  | .tuple _ => "tuple"
  | .dict _ => "dict"
theorem Rp.ty {K : PySem.W.Frag} {N : Addr → Prop} {H : Hp} {v : V} {d : PyData} (r : Rp N H v d) : TyX K H v (.type (tyN d)) := by
  cases r with
  | non => exact .base .non
  | bl b => exact .base (.bl b)
  | int i => exact .base (.int i)
  | str x => exact .base (.str x)
  | lst e _ _ => exact .base (.lst e)
  | tup e _ _ => exact .base (.tup e)
  | dct e _ => exact .base (.dK e)
def isTy (d : PyData) (T : String) : Bool := tyN d == T || (tyN d == "bool" && T == "int")
def tys : List String := ["int", "str", "bool", "list", "tuple", "dict"]
theorem kit_all : ∀ n, n ∈ ["NoneType", "bool", "int", "str", "list", "tuple", "dict"] → ∀ T, T ∈ tys → kitB n T = some (n == T || (n == "bool" && T == "int")) := by decide +kernel
theorem tyN_mem (d : PyData) : tyN d ∈ ["NoneType", "bool", "int", "str", "list", "tuple", "dict"] := by cases d <;> simp [tyN]
def zIsi (K : PySem.W.Frag) : List V → Hp → VK → Prop := rIsi K
theorem zc_isi {X : Cx} : CallR X (.builtin "isinstance") (zIsi X.K) := call_isi
theorem i_isi {K : PySem.W.Frag} {N : Addr → Prop} {H : Hp} {Q : VK} {x : V} {d : PyData} {T : String} (r : Rp N H x d) (hT : T ∈ tys) (q : Q (.bl (isTy d T)) H) : zIsi K [x, .ty T] H Q :=
  ⟨x, .ty T, _, _, _, rfl, .ty T, r.ty, kit_ty (kit_all _ (tyN_mem d) T hT), q⟩
theorem rel_ty (n : String) : RelV (.ty n) (.type n) := rfl
theorem Rp.isStr {N : Addr → Prop} {H : Hp} {x : V} {d : PyData} (r : Rp N H x d) : isTy d "str" = true → ∃ l, x = .str (S l) ∧ d = .str (S l) := by
  intro h
  cases r with
  | str w => exact ⟨codes w, rfl, rfl⟩
  | _ => simp [isTy, tyN] at h
theorem Rp.isTup {N : Addr → Prop} {H : Hp} {x : V} {d : PyData} (r : Rp N H x d) : isTy d "tuple" = true → ∃ a xs ds, x = .ref a ∧ d = .tuple ds ∧ H a = some (.tup xs) ∧ ¬ N a ∧ RpAll N H xs ds := by
  intro h
  cases r with
  | tup e n q => exact ⟨_, _, _, rfl, rfl, e, n, q⟩
  | _ => simp [isTy, tyN] at h
theorem Rp.isList {N : Addr → Prop} {H : Hp} {x : V} {d : PyData} (r : Rp N H x d) : isTy d "list" = true → ∃ a xs ds, x = .ref a ∧ d = .list ds ∧ H a = some (.lst xs) ∧ ¬ N a ∧ RpAll N H xs ds := by
  intro h
  cases r with
  | lst e n q => exact ⟨_, _, _, rfl, rfl, e, n, q⟩
  | _ => simp [isTy, tyN] at h
/-! ### a comprehension whose element is a function of the item -/
section
variable {σ : L2.St} {H : Hp} {Q : VK} {K : PySem.W.Frag}
theorem l_map {J : It} {n : Nat} {G : Hp → Prop} {Y : Nat → Hp → V → Hp → Prop} (w : Walk J n G Y) {j : Nat} {te : TE} {vs : List Nat} {Dl : Addr} (hD : H Dl = none) (W : L2.St) (hw : wipe σ vs = W) (hw2 : ∀ x : V, wipe (W.set j (some x)) vs = W)
    (xs : List V) (hn : n = xs.length) (hl : xs.length ≤ 99999) (hY : ∀ i H1 x H2, i < n → G H1 → Y i H1 x H2 → H2 = H1 ∧ xs[i]? = some x) (hG : ∀ H1, Same H H1 → G H1) (f : V → V)
    (hs : ∀ (x : V) (H1 : Hp) (P : VK), x ∈ xs → Same H H1 → (∀ H2, Same H1 H2 → P (f x) H2) → te (W.set j (some x)) H1 P)
    (hd : ∀ H1, Same H H1 → H1 Dl = some (.lst (xs.map f)) → Q (.ref Dl) H1) : LC J (gName j) tYes te vs σ H Q Dl := by
  subst hn
  refine l_comp w W hw (fun i acc H1 => Same H H1 ∧ acc = (xs.take i).map f) ⟨(Same.refl H).newz hD, by simp⟩ (fun i acc H1 _ p _ => hG H1 p.1) ?_ ?_
  · rintro i x acc H1 H2 hi ⟨sm, rfl⟩ e hl2 y
    obtain ⟨rfl, hx⟩ := hY i _ x _ hi (hG _ sm) y
    refine i_gname ?_
    refine i_lct (hw2 x) ?_
    refine i_yes ?_
    refine iteT ?_
    refine hs x _ _ (List.mem_of_getElem? hx) sm fun H3 s3 => ?_
    refine cend (s3 _ _ e) hl2 (by omega) ⟨(sm.trans s3).mutz hD, ?_⟩
    rw [List.take_add_one, hx]
    simp
  · rintro acc H1 ⟨sm, rfl⟩ e _
    rw [List.take_length] at e
    exact hd H1 sm e
theorem l_mapS {a : List Nat} {j : Nat} {te : TE} {vs : List Nat} {Dl : Addr} (hD : H Dl = none) (W : L2.St) (hw : wipe σ vs = W) (hw2 : ∀ x : V, wipe (W.set j (some x)) vs = W) (hl : a.length ≤ 99999) (f : Nat → V)
    (hs : ∀ (c : Nat) (H1 : Hp) (P : VK), c ∈ a → Same H H1 → (∀ H2, Same H1 H2 → P (f c) H2) → te (W.set j (some (.str (S [c])))) H1 P)
    (hd : ∀ H1, Same H H1 → H1 Dl = some (.lst (a.map f)) → Q (.ref Dl) H1) : LC (Its (S a)) (gName j) tYes te vs σ H Q Dl := by
  let f' : V → V := fun v => match v with | .str w => f ((codes w).headD 0) | _ => .non
  refine l_map (walk_str (z := S a)) hD W hw hw2 (a.map fun c => V.str (S [c])) (by simp) (by rw [List.length_map]; exact hl) (fun i H1 x H2 hi _ y => ?_) (fun _ _ => trivial) f' (fun x H1 P hx sm hP => ?_) fun H1 sm e => hd H1 sm ?_
  · obtain ⟨e, c, hc, ex⟩ := y
    refine ⟨e, ?_⟩
    rw [List.getElem?_map, show a[i]? = some c by simpa using hc, ex]
    rfl
  · obtain ⟨c, hc, rfl⟩ := List.mem_map.mp hx
    exact hs c H1 P hc sm hP
  · rw [List.map_map] at e
    exact e
end
def zAll (K : PySem.W.Frag) : List V → Hp → VK → Prop := rAll K
def zAny (K : PySem.W.Frag) : List V → Hp → VK → Prop := rAny K
theorem zc_all {X : Cx} (hc : X.calm = true) : CallR X (.builtin "all") (zAll X.K) := cr_all hc
theorem zc_any {X : Cx} (hc : X.calm = true) : CallR X (.builtin "any") (zAny X.K) := cr_any hc
theorem i_all {K : PySem.W.Frag} {H : Hp} {Q : VK} {a : Addr} {bs : List Bool} (h : SqL K H a (bs.map V.bl)) (q : Q (.bl (bs.all id)) H) : zAll K [.ref a] H Q := ⟨a, bs, rfl, h, q⟩
theorem i_any {K : PySem.W.Frag} {H : Hp} {Q : VK} {a : Addr} {bs : List Bool} (h : SqL K H a (bs.map V.bl)) (q : Q (.bl (bs.any id)) H) : zAny K [.ref a] H Q := ⟨a, bs, rfl, h, q⟩
def zSum (K : PySem.W.Frag) : List V → Hp → VK → Prop := rSum K
theorem zc_sum {X : Cx} (hc : X.calm = true) : CallR X (.builtin "sum") (zSum X.K) := cr_sum hc
theorem i_sum {K : PySem.W.Frag} {H : Hp} {Q : VK} {a : Addr} {ns : List Int} (h : SqL K H a (ns.map V.int)) (q : Q (.int ns.sum) H) : zSum K [.ref a] H Q := ⟨a, ns, rfl, h, q⟩
/-! for operands of more than one kind -/
def zLtA : R2 := fun x y H Q => zLt x y H Q ∨ zLtS x y H Q
theorem z_ltA {X : Cx} : OpR X (compareOp .Lt) zLtA := by
  intro pins s σ H x y v u Q I rx ry h
  rcases h with h | h
  · exact z_lt pins s σ H x y v u Q I rx ry h
  · exact z_lts pins s σ H x y v u Q I rx ry h
theorem i_ltAI {i j : Int} {H : Hp} {Q : VK} (q : Q (.bl (decide (i < j))) H) : zLtA (.int i) (.int j) H Q := .inl (i_lt q)
theorem i_ltAS {a b : List Nat} {H : Hp} {Q : VK} (q : Q (.bl (decide (a < b))) H) : zLtA (.str (S a)) (.str (S b)) H Q := .inr (i_lts q)
def zSlA (K : PySem.W.Frag) : V → Option Int → Option Int → Hp → VK → Prop := fun x lo hi H Q => rSlS x lo hi H Q ∨ rSlA K x lo hi H Q ∨ rSlL K x lo hi H Q
theorem sl_A {X : Cx} : SlR X (zSlA X.K) := by
  intro pins s σ H x v vl vu lo hi sl Q I rx hs pl pu h
  rcases h with h | h | h
  · exact sl_str pins s σ H x v vl vu lo hi sl Q I rx hs pl pu h
  · exact sl_tupA pins s σ H x v vl vu lo hi sl Q I rx hs pl pu h
  · exact sl_list pins s σ H x v vl vu lo hi sl Q I rx hs pl pu h
theorem one_lt {c d : Nat} : decide ([c] < [d]) = decide (c < d) := by
  by_cases h : c < d
  · rw [decide_eq_true h]; exact decide_eq_true (List.Lex.rel h)
  · rw [decide_eq_false h]
    refine decide_eq_false fun q => ?_
    cases q with
    | rel q => exact h q
    | cons q => cases q
section
variable {σ : L2.St} {H : Hp} {K : PySem.W.Frag} {R : L2.St → Hp → Prop} {v : V} {r : List V} {t : TG} {u ts : TGs}
theorem i_gtup {a : Addr} {xs : List V} {n : Nat} (h : SqT K H a xs) (hl : xs.length = n) (q : ts xs σ H R) : gTup K n ts (.ref a) σ H R := ⟨a, xs, rfl, h, hl, q⟩
theorem i_gcons (q : t v σ H fun σ' H' => u r σ' H' R) : gCons t u (v :: r) σ H R := ⟨v, r, rfl, q⟩
theorem i_gnil (q : R σ H) : gNil [] σ H R := ⟨rfl, q⟩
theorem i_izip {ta : TA} {R : It → Hp → Prop} (q : ta σ H fun vs H1 => KZ K vs H1 fun J => R J H1) : iZipZ K ta σ H R := q
theorem i_KZ {x y : V} {R : It → Prop} (c d : Sd) {xs ys : List V} (vc : c.val x) (vd : d.val y) (hx : c.is K H xs) (hy : d.is K H ys) (q : R (ItZ K c d)) : KZ K [x, y] H R := ⟨x, y, c, d, xs, ys, rfl, vc, vd, hx, hy, q⟩
end
/-- each one is less than the next -/
def adj {α : Type} (lt : α → α → Bool) : List α → Bool
  | [] => true
  | [_] => true
  | a :: b :: r => lt a b && adj lt (b :: r)
theorem adj_all {α : Type} (lt : α → α → Bool) : ∀ l : List α, ((l.zip (l.drop 1)).map fun p => lt p.1 p.2).all id = adj lt l
  | [] => rfl
  | [_] => rfl
  | a :: b :: r => by
    have ih := adj_all lt (b :: r)
    show (lt a b && (((b :: r).zip r).map fun p => lt p.1 p.2).all id) = (lt a b && adj lt (b :: r))
    rw [← ih]; rfl
theorem adj_asc : ∀ l : List Nat, adj (fun a b => decide (a < b)) l = decide (l.Pairwise (· < ·))
  | [] => by simp [adj]
  | [_] => by simp [adj]
  | a :: b :: r => by
    have ih := adj_asc (b :: r)
    show (decide (a < b) && adj (fun a b => decide (a < b)) (b :: r)) = _
    rw [ih, Bool.eq_iff_iff, Bool.and_eq_true, decide_eq_true_iff, decide_eq_true_iff, decide_eq_true_iff]
    constructor
    · rintro ⟨h1, h2⟩
      refine List.pairwise_cons.mpr ⟨fun c hc => ?_, h2⟩
      rcases List.mem_cons.mp hc with q | q
      · rw [q]; exact h1
      · exact Nat.lt_trans h1 (List.rel_of_pairwise_cons h2 q)
    · intro h
      exact ⟨List.rel_of_pairwise_cons h (by simp), (List.pairwise_cons.mp h).2⟩
theorem adj_ascI : ∀ l : List Int, adj (fun a b => decide (a < b)) l = decide (l.Pairwise (· < ·))
  | [] => by simp [adj]
  | [_] => by simp [adj]
  | a :: b :: r => by
    have ih := adj_ascI (b :: r)
    show (decide (a < b) && adj (fun a b => decide (a < b)) (b :: r)) = _
    rw [ih, Bool.eq_iff_iff, Bool.and_eq_true, decide_eq_true_iff, decide_eq_true_iff, decide_eq_true_iff]
    constructor
    · rintro ⟨h1, h2⟩
      refine List.pairwise_cons.mpr ⟨fun c hc => ?_, h2⟩
      rcases List.mem_cons.mp hc with q | q
      · rw [q]; exact h1
      · exact Int.lt_trans h1 (List.rel_of_pairwise_cons h2 q)
    · intro h
      exact ⟨List.rel_of_pairwise_cons h (by simp), (List.pairwise_cons.mp h).2⟩
theorem zte {t : TE} {σ : L2.St} {H : Hp} {P : VK} (L : L2.St) (h : σ = L) (q : t L H P) : t σ H P := h ▸ q
theorem l_zipmap {σ : L2.St} {H : Hp} {Q : VK} {K : PySem.W.Frag} {c d : Sd} {xs ys : List V} {j1 j2 : Nat} {te : TE} {vs : List Nat} {Dl : Addr} (hD : H Dl = none) (W : L2.St) (hw : wipe σ vs = W) (hw2 : ∀ x y : V, wipe ((W.set j1 (some x)).set j2 (some y)) vs = W)
    (hc : ∀ H1, Same H H1 → c.is K H1 xs) (hd : ∀ H1, Same H H1 → d.is K H1 ys) (hl : min xs.length ys.length ≤ 99999) (f : V → V → V)
    (hs : ∀ (x y : V) (H1 : Hp) (P : VK), x ∈ xs → y ∈ ys → Same H H1 → (∀ H2, Same H1 H2 → P (f x y) H2) → te ((W.set j1 (some x)).set j2 (some y)) H1 P)
    (hq : ∀ H1, Same H H1 → H1 Dl = some (.lst ((xs.zip ys).map fun p => f p.1 p.2)) → Q (.ref Dl) H1) : LC (ItZ K c d) (gTup K 2 (gCons (gName j1) (gCons (gName j2) gNil))) tYes te vs σ H Q Dl := by
  refine l_comp (walk_zipZ (K := K) (n := min xs.length ys.length) rfl) W hw (fun i acc H1 => Same H H1 ∧ acc = ((xs.zip ys).take i).map fun p => f p.1 p.2) ⟨(Same.refl H).newz hD, by simp⟩ (fun i acc H1 _ p _ => ⟨hc _ p.1, hd _ p.1⟩) ?_ ?_
  · rintro i v acc H1 H2 hi ⟨sm, rfl⟩ e hl2 ⟨T, x, y, rfl, hT, rfl, hx, hy⟩
    have hx : xs[i]? = some x := hx
    have hy : ys[i]? = some y := hy
    refine i_gtup (SqT.of upd_same) rfl ?_
    refine i_gcons (i_gname (i_gcons (i_gname (i_gnil ?_))))
    refine i_lct (hw2 x y) ?_
    refine i_yes ?_
    refine iteT ?_
    have s2 : Same H (upd H1 T (.tup [x, y])) := sm.newz hT
    refine hs x y _ _ (List.mem_of_getElem? hx) (List.mem_of_getElem? hy) s2 fun H3 s3 => ?_
    refine cend (s3 _ _ (by rw [upd_ne (ne_of_none e hT)]; exact e)) hl2 (by omega) ⟨(s2.trans s3).mutz hD, ?_⟩
    have hz : (xs.zip ys)[i]? = some (x, y) := List.getElem?_zip_eq_some.mpr ⟨hx, hy⟩
    rw [List.take_add_one, hz]
    simp
  · rintro acc H1 ⟨sm, rfl⟩ e _
    rw [List.take_of_length_le (by simp)] at e
    exact hq H1 sm e
theorem zip_map {α β : Type} (f : α → V) (g : β → V) (F : V → V → V) (b : α → β → V) (hb : ∀ x y, F (f x) (g y) = b x y) : ∀ (l : List α) (m : List β), ((l.map f).zip (m.map g)).map (fun p => F p.1 p.2) = (l.zip m).map fun p => b p.1 p.2
  | [], _ => rfl
  | _ :: _, [] => rfl
  | x :: l, y :: m => by
    show F (f x) (g y) :: _ = b x y :: _
    rw [hb]
    exact congrArg _ (zip_map f g F b hb l m)
/-- the first code of a text of one sign, an int of a value -/
def chr1 : V → Nat
  | .str w => (codes w).headD 0
  | _ => 0
def int1 : V → Int
  | .int i => i
  | _ => 0
theorem i_slTA {K : PySem.W.Frag} {H : Hp} {Q : VK} {a : Addr} {xs : List V} {lo hi : Option Int} (h : H a = some (.tup xs)) (q : ∀ p H', Same H H' → H' p = some (.tup (cutV xs lo hi)) → Q (.ref p) H') : rSlA K (.ref a) lo hi H Q := by
  refine ⟨a, xs, rfl, SqT.of h, fun hw => ?_, fun _ p hp => q p _ ((Same.refl H).newz hp) upd_same⟩
  refine q a H (Same.refl H) ?_
  have e : cutV xs lo hi = xs := by
    unfold cutV
    rw [hw.1, hw.2, List.drop_zero, Nat.sub_zero, List.take_length]
  rw [e]; exact h
theorem one_lt' {c d : Nat} : (!decide ([c] < [d])) = decide (d ≤ c) := by
  rw [one_lt]
  by_cases h : c < d
  · rw [decide_eq_true h, decide_eq_false (by omega)]; rfl
  · rw [decide_eq_false h, decide_eq_true (by omega)]; rfl
theorem brnb {c : Bool} {A B : Prop} (h1 : c = false → A) (h2 : c = true → B) : if (!c) = true then A else B := by
  cases c
  · exact iteT (h1 rfl)
  · exact iteF (h2 rfl)
theorem iteNF {A B : Prop} (h : A) : if (!false) = true then A else B := h
theorem iteNT {A B : Prop} (h : B) : if (!true) = true then A else B := h
theorem brT {p : Prop} [Decidable p] {A B : Prop} (hp : p) (h : A) : if decide p = true then A else B := by rw [decide_eq_true hp]; exact iteT h
theorem brF {p : Prop} [Decidable p] {A B : Prop} (hp : ¬ p) (h : B) : if decide p = true then A else B := by rw [decide_eq_false hp]; exact iteF h
theorem HandOk.ne {h p : Addr} {H : Hp} (k : HandOk H h) (hp : H p = none) : ¬ p = h := fun e => by obtain ⟨o, ho⟩ := k.some; rw [e, ho] at hp; cases hp
theorem Gd.kp' {h p : Addr} {H H' : Hp} {o : HO} (g : Gd h H H') (e : H p = some o) (n : ¬ p = h) : H' p = some o := g.kp _ _ e n
theorem sub_snoc {α : Type} {cs l : List α} {i : Nat} {x : α} (h : cs.Sublist (l.take i)) (hx : l[i]? = some x) : (cs ++ [x]).Sublist (l.take (i + 1)) := by
  rw [List.take_add_one, hx]
  exact h.append (List.Sublist.refl _)
theorem sub_skip {α : Type} {cs l : List α} {i : Nat} (h : cs.Sublist (l.take i)) : cs.Sublist (l.take (i + 1)) := h.trans (List.take_sublist_take_left (Nat.le_succ i))
theorem find3_S (a : List Nat) (c n : Nat) : (Txt.find3 (S a) (S [c]) (n : Int) = -1 ∧ ∀ k, n ≤ k → a[k]? ≠ some c) ∨
    ∃ k : Nat, Txt.find3 (S a) (S [c]) (n : Int) = (k : Int) ∧ n ≤ k ∧ a[k]? = some c ∧ ∀ v, n ≤ v → v < k → a[v]? ≠ some c := by
  have e : fromIndex (S a).length (n : Int) = n := by
    unfold fromIndex
    rw [if_neg (by omega)]
    omega
  have g : ∀ v, v < a.length → ((S a).cps.getD v 0 = c ↔ a[v]? = some c) := fun v hv => by
    have : (S a).cps.getD v 0 = a[v] := by
      show a.toArray.getD v 0 = _
      simp [Array.getD, hv]
    rw [this, List.getElem?_eq_getElem hv]
    exact ⟨fun h => by rw [h], fun h => Option.some.inj h⟩
  rcases StrLaws.find3_spec (S a) c (n : Int) with ⟨h1, h2⟩ | ⟨k, h1, h2, h3, h4, h5⟩
  · refine .inl ⟨h1, fun k hk q => ?_⟩
    obtain ⟨hl, _⟩ := List.getElem?_eq_some_iff.mp q
    exact h2 k (by rw [e]; exact hk) (by rw [S_len]; exact hl) ((g k hl).mpr q)
  · rw [S_len] at h3
    refine .inr ⟨k, h1, by rw [e] at h2; exact h2, (g k h3).mp h4, fun v hv hvk q => ?_⟩
    exact h5 v (by rw [e]; exact hv) hvk ((g v (by omega)).mpr q)
theorem i_find3 {a : List Nat} {c n : Nat} {H : Hp} {Q : VK} (q1 : (∀ k, n ≤ k → a[k]? ≠ some c) → Q (.int (-1)) H) (q2 : ∀ k : Nat, n ≤ k → a[k]? = some c → (∀ v, n ≤ v → v < k → a[v]? ≠ some c) → Q (.int (k : Int)) H) : zFind3 (.str (S a)) [.str (S [c]), .int (n : Int)] H Q := by
  refine ⟨_, _, _, rfl, rfl, ?_⟩
  rcases find3_S a c n with ⟨h1, h2⟩ | ⟨k, h1, h2, h3, h4⟩
  · rw [h1]; exact q1 h2
  · rw [h1]; exact q2 k h2 h3 h4
/-- the first place is the best one -/
theorem sub_first {c : Nat} {u : List Nat} : ∀ {a : List Nat} {n k : Nat}, n ≤ k → a[k]? = some c → (∀ v, n ≤ v → v < k → a[v]? ≠ some c) → ((c :: u).Sublist (a.drop n) ↔ u.Sublist (a.drop (k + 1))) := by
  intro a n k
  induction k generalizing n a with
  | zero =>
    intro hn hk _
    obtain rfl : n = 0 := by omega
    cases a with
    | nil => simp at hk
    | cons x r =>
      have : x = c := by simpa using hk
      subst this
      simp
  | succ k ih =>
    intro hn hk h
    cases a with
    | nil => simp at hk
    | cons x r =>
      have hk' : r[k]? = some c := by simpa using hk
      cases n with
      | succ n =>
        have := ih (a := r) (n := n) (by omega) hk' (fun v h1 h2 => by have := h (v + 1) (by omega) (by omega); simpa using this)
        simpa using this
      | zero =>
        have hx : x ≠ c := fun q => h 0 (by omega) (by omega) (by simp [q])
        have := ih (a := r) (n := 0) (by omega) hk' (fun v h1 h2 => by have := h (v + 1) (by omega) (by omega); simpa using this)
        rw [List.drop_zero] at this
        rw [List.drop_zero, List.drop_succ_cons, ← this]
        constructor
        · intro q
          cases q with
          | cons _ q => exact q
          | cons_cons => exact absurd rfl hx
        · intro q
          exact .cons _ q
theorem sub_none {c : Nat} {u a : List Nat} {n : Nat} (h : ∀ k, n ≤ k → a[k]? ≠ some c) : ¬ (c :: u).Sublist (a.drop n) := fun q => by
  have hc : c ∈ a.drop n := q.subset (by simp)
  obtain ⟨i, hi⟩ := List.getElem?_of_mem hc
  rw [List.getElem?_drop] at hi
  exact h (n + i) (by omega) hi
theorem l_mapR {σ : L2.St} {H : Hp} {Q : VK} {n j : Nat} {te : TE} {vs : List Nat} {Dl : Addr} (hD : H Dl = none) (W : L2.St) (hw : wipe σ vs = W) (hw2 : ∀ x : V, wipe (W.set j (some x)) vs = W) (hl : n ≤ 99999) (f : Nat → V)
    (hs : ∀ (i : Nat) (H1 : Hp) (P : VK), i < n → Same H H1 → (∀ H2, Same H1 H2 → P (f i) H2) → te (W.set j (some (.int (i : Int)))) H1 P)
    (hd : ∀ H1, Same H H1 → H1 Dl = some (.lst ((List.range n).map f)) → Q (.ref Dl) H1) : LC (Itr 0 n) (gName j) tYes te vs σ H Q Dl := by
  let f' : V → V := fun v => match v with | .int i => f i.toNat | _ => .non
  refine l_map (walk_range (lo := 0) (n := n)) hD W hw hw2 ((List.range n).map fun (i : Nat) => V.int (i : Int)) (by simp) (by simpa using hl) (fun i H1 x H2 hi _ y => ?_) (fun _ _ => trivial) f' (fun x H1 P hx sm hP => ?_) fun H1 sm e => hd H1 sm ?_
  · obtain ⟨e, hx⟩ := y
    refine ⟨e, ?_⟩
    rw [List.getElem?_map, List.getElem?_range hi, hx]
    show some (V.int (i : Int)) = some (V.int (0 + (i : Int)))
    rw [Int.zero_add]
  · obtain ⟨c, hc, rfl⟩ := List.mem_map.mp hx
    exact hs c H1 P (List.mem_range.mp hc) sm hP
  · rw [List.map_map] at e
    exact e
theorem Rp.tupS {N : Addr → Prop} {H : Hp} {v : V} {ds : List PyData} (r : Rp N H v (.tuple ds)) : ∃ a xs, v = .ref a ∧ H a = some (.tup xs) ∧ ¬ N a ∧ RpAll N H xs ds := by
  cases r with
  | tup e n q => exact ⟨_, _, rfl, e, n, q⟩
theorem Rp.strS {N : Addr → Prop} {H : Hp} {v : V} {w : Str} (r : Rp N H v (.str w)) : v = .str w := by cases r; rfl
theorem Rp.intS {N : Addr → Prop} {H : Hp} {v : V} {i : Int} (r : Rp N H v (.int i)) : v = .int i := by cases r; rfl
theorem RpAll.consS {N : Addr → Prop} {H : Hp} {vs : List V} {d : PyData} {ds : List PyData} (r : RpAll N H vs (d :: ds)) : ∃ v ws, vs = v :: ws ∧ Rp N H v d ∧ RpAll N H ws ds := by
  cases r with
  | cons a b => exact ⟨_, _, rfl, a, b⟩
theorem RpAll.nilS {N : Addr → Prop} {H : Hp} {vs : List V} (r : RpAll N H vs []) : vs = [] := by cases r; rfl
theorem RpAll.one {N : Addr → Prop} {H : Hp} {vs : List V} {d : PyData} (r : RpAll N H vs [d]) : ∃ v, vs = [v] ∧ Rp N H v d := by
  obtain ⟨v, ws, rfl, a, b⟩ := r.consS
  rw [b.nilS]; exact ⟨v, rfl, a⟩
theorem RpAll.two {N : Addr → Prop} {H : Hp} {vs : List V} {d d2 : PyData} (r : RpAll N H vs [d, d2]) : ∃ v v2, vs = [v, v2] ∧ Rp N H v d ∧ Rp N H v2 d2 := by
  obtain ⟨v, ws, rfl, a, b⟩ := r.consS
  obtain ⟨v2, rfl, a2⟩ := b.one
  exact ⟨v, v2, rfl, a, a2⟩
theorem RpAll.three {N : Addr → Prop} {H : Hp} {vs : List V} {d d2 d3 : PyData} (r : RpAll N H vs [d, d2, d3]) : ∃ v v2 v3, vs = [v, v2, v3] ∧ Rp N H v d ∧ Rp N H v2 d2 ∧ Rp N H v3 d3 := by
  obtain ⟨v, ws, rfl, a, b⟩ := r.consS
  obtain ⟨v2, v3, rfl, a2, a3⟩ := b.two
  exact ⟨v, v2, v3, rfl, a, a2, a3⟩
theorem RpAll.four {N : Addr → Prop} {H : Hp} {vs : List V} {d d2 d3 d4 : PyData} (r : RpAll N H vs [d, d2, d3, d4]) : ∃ v v2 v3 v4, vs = [v, v2, v3, v4] ∧ Rp N H v d ∧ Rp N H v2 d2 ∧ Rp N H v3 d3 ∧ Rp N H v4 d4 := by
  obtain ⟨v, ws, rfl, a, b⟩ := r.consS
  obtain ⟨v2, v3, v4, rfl, a2, a3, a4⟩ := b.three
  exact ⟨v, v2, v3, v4, rfl, a, a2, a3, a4⟩
theorem sum_count (a : List Nat) (c : Nat) : (a.map fun x => if decide ([x] = [c]) = true then (1 : Int) else 0).sum = (a.count c : Nat) := by
  induction a with
  | nil => rfl
  | cons x r ih =>
    rw [List.map_cons, List.sum_cons, ih]
    by_cases h : x = c
    · subst h
      rw [if_pos (by simp), List.count_cons_self]
      omega
    · rw [if_neg (by simpa using h), List.count_cons_of_ne h]
      omega
theorem row_any (a u : List Nat) (hu : 1 ≤ u.length) : ((List.range a.length).map fun i => decide ((a.drop i).take u.length = u)).any id = decide (u <:+: a) := by
  rw [Bool.eq_iff_iff, decide_eq_true_iff, List.any_eq_true]
  constructor
  · rintro ⟨b, hb, e⟩
    obtain ⟨i, _, rfl⟩ := List.mem_map.mp hb
    have := of_decide_eq_true e
    rw [← this]
    exact (List.take_prefix _ _).isInfix.trans (List.drop_suffix _ _).isInfix
  · rintro ⟨s, t, rfl⟩
    refine ⟨true, List.mem_map.mpr ⟨s.length, List.mem_range.mpr ?_, ?_⟩, rfl⟩
    · rw [List.length_append, List.length_append]; omega
    · exact decide_eq_true (by simp)
theorem one_eq {c d : Nat} : decide ([c] = [d]) = decide (c = d) := by
  by_cases h : c = d
  · subst h; simp
  · rw [decide_eq_false h]; exact decide_eq_false fun q => h (by simpa using q)
theorem mod_eq {x n m : Nat} (hm : m < n) : x % n = m ↔ ((x : Int) - (m : Int)) % (n : Int) = 0 := by
  have h1 : ((x % n : Nat) : Int) = (x : Int) % (n : Int) := Int.natCast_emod x n
  have h2 : (m : Int) % (n : Int) = (m : Int) := Int.emod_eq_of_lt (by omega) (by omega)
  rw [← Int.emod_eq_emod_iff_emod_sub_eq_zero, h2, ← h1]
  omega
theorem nodup_len : ∀ {l L : List Nat}, l.Nodup → (∀ c ∈ l, c ∈ L) → l.length ≤ L.length
  | [], _, _, _ => Nat.zero_le _
  | a :: l, L, hn, hs => by
    have ha : a ∈ L := hs a (by simp)
    have hn' := List.nodup_cons.mp hn
    have ih := nodup_len (l := l) (L := L.erase a) hn'.2 fun c hc => (List.mem_erase_of_ne (show c ≠ a from fun e => hn'.1 (by rw [← e]; exact hc))).mpr (hs c (by simp [hc]))
    have := List.length_erase_of_mem ha
    have h0 : 0 < L.length := List.length_pos_of_mem ha
    rw [List.length_cons]
    omega
/-- different ones out of a list are no more than it has -/
theorem asc_len {l L : List Nat} (h : l.Pairwise (· < ·)) (hs : ∀ c ∈ l, c ∈ L) : l.length ≤ L.length :=
  nodup_len (h.imp fun {a b} q => by omega) hs
end Z

local macro_rules | `(tactic| walk_at "zz") => `(tactic| repeat first
  | with_reducible first
    | refine Z.i_op ?_ | refine Z.i_v0 ?_ | refine Z.i_v1 ?_ | refine Z.i_v2 ?_ | refine Z.i_v3 ?_ | refine Z.i_v4 ?_ | refine Z.i_v5 ?_ | refine Z.i_cs ?_ | refine Z.i_c ?_ | refine Z.i_cons ?_ | refine Z.i_nil ?_ | refine Z.i_seq ?_ | refine Z.i_asg ?_ | refine Z.i_nx ?_ | refine Z.i_rt ?_
    | refine Z.i_KB ?_ | refine Z.i_cb ?_ | refine Z.i_call ?_ | refine Z.i_add ?_ | refine Z.i_sub ?_ | refine Z.i_test ?_ | refine Z.i_ifS ?_ | refine Z.i_eqI ?_ | refine Z.i_lt ?_ 
    | refine Z.i_g0 ?_ | refine Z.i_g1 ?_ | refine Z.i_g2 ?_ | refine Z.i_g3 ?_ | refine Z.i_g4 ?_ | refine Z.i_g5 ?_
    | refine Z.i_v6 ?_ | refine Z.i_v7 ?_ | refine Z.i_v8 ?_ | refine Z.i_v9 ?_ | refine Z.i_v10 ?_ | refine Z.i_v11 ?_ | refine Z.i_v12 ?_ | refine Z.i_v13 ?_ | refine Z.i_v14 ?_
    | refine Z.i_g6 ?_ | refine Z.i_g7 ?_ | refine Z.i_g8 ?_ | refine Z.i_g9 ?_ | refine Z.i_g10 ?_ | refine Z.i_g11 ?_ | refine Z.i_g12 ?_ | refine Z.i_g13 ?_ | refine Z.i_g14 ?_
    | refine Z.i_le ?_ | refine Z.i_gt ?_ | refine Z.i_ge ?_ | refine Z.i_lts ?_ | refine Z.i_les ?_ | refine Z.i_ins ?_ | refine Z.i_nins ?_ | refine Z.i_neI ?_ | refine Z.i_eqS ?_ | refine Z.i_neS ?_ | refine Z.i_eqB ?_ | refine Z.i_neg ?_ | refine Z.i_un ?_
    | refine Z.i_next ?_ | refine Z.i_ret ?_ | refine Z.i_retN ?_ | refine Z.i_drop ?_ | refine Z.i_brk ?_ | refine Z.i_cont ?_ | refine Z.i_bk ?_ | refine Z.i_ct ?_ | refine Z.i_gsub ?_
    | refine Z.i_KI ?_ | refine Z.i_KS ?_ | refine Z.i_if ?_ | refine Z.i_tB ?_ | refine Z.i_tand ?_ | refine Z.i_tor ?_ | refine Z.i_tnot ?_ | refine Z.i_and ?_ | refine Z.i_or ?_ | refine Z.i_not ?_ | refine Z.i_chain ?_
    | refine Z.i_tup ?_ | refine Z.i_lst ?_ | refine Z.i_bm ?_ | refine Z.i_bm0 ?_ | refine Z.i_sl ?_ | refine Z.i_po0 ?_ | refine Z.i_po1 ?_
    | refine Z.i_m1 ?_ | refine Z.i_tyS ?_ | refine Z.i_tyS0 ?_ | refine Z.i_find ?_ | refine Z.i_count ?_ | refine Z.i_starts ?_ | refine Z.i_ends ?_ | refine Z.i_instr ?_ | refine Z.i_gcons ?_ | refine Z.i_gnil ?_ | refine Z.i_izip ?_ | refine Z.i_ltAI ?_ | refine Z.i_ltAS ?_ | refine Z.i_for ?_ | refine Z.i_lc ?_ | refine Z.i_yes ?_ | refine Z.i_r1 ?_ | refine Z.i_istr ?_ | refine Z.i_ilist ?_ | refine Z.i_itup ?_ | refine Z.i_int ?_ | refine Z.i_abs ?_ | refine Z.i_max ?_ | refine Z.i_min ?_
  | ((with_reducible refine' Z.i_ixL ?za ?zb ?_); (case za => exact L2.SqL.of (by assumption)); (case zb => first | rfl | exact Z.at_nat (by decide) rfl))
  | ((with_reducible refine' Z.i_ixT ?za ?zb ?_); (case za => exact L2.SqT.of (by assumption)); (case zb => first | rfl | exact Z.at_nat (by decide) rfl))
  | with_reducible refine Z.i_mul (by first | exact Or.inr ⟨by decide, by decide⟩ | exact Or.inl ⟨by decide, by decide⟩ | omega) ?_
  | with_reducible refine Z.i_mod (by first | decide | omega) ?_
  | with_reducible refine Z.i_div (Z.cdivw (by first | decide | omega) (by first | decide | omega)) ?_
  | ((with_reducible refine' Z.i_lenL ?za ?_); (case za => exact L2.SqL.of (by assumption)))
  | with_reducible refine Z.i_adds (by simp only [List.length_append, List.length_cons, List.length_nil]; omega) ?_
  | with_reducible refine Z.i_lens (by first | omega | (simp only [List.length_append, List.length_cons, List.length_nil]; omega)) ?_
  | ((with_reducible refine Z.i_lct ?zw ?_); (case zw => rfl))
  | ((with_reducible refine' Z.i_gtup ?zt ?zl ?_); (case zt => exact L2.SqT.of (by first | assumption | exact L2.upd_same)); (case zl => rfl))
  | with_reducible refine Z.brT (by decide +kernel) ?_ | with_reducible refine Z.brF (by decide +kernel) ?_
  | with_reducible refine Z.iteNF ?_ | with_reducible refine Z.iteNT ?_
  | with_reducible refine L2.iteT ?_
  | with_reducible refine L2.iteF ?_)
namespace Y
open PySem PySem.Spec PyProof.Rows L2 Z
open C8 (tCut pss_cut Cal pe_c Met pe_mt pe_mt0 Mak pe_mk)
def topS (i : Nat) : Stmt := PySem.Challenge.pw_saidacross_k01_parts_and_equal_machines.main.body.getD i (.Pass ⟨0, 0, 0, 0⟩)
abbrev s__law_draw : Stmt := topS 15
abbrev n__law_draw : List Str := ["_law_hand_here", "_law_many", "_law_cell", "_law_digit", "_law_number"]
theorem sc__law_draw : FnScope n__law_draw ["_law_hand_here", "_law_many"] (defScope s__law_draw) := ⟨rfl, rfl, rfl, by decide +kernel, rfl, by decide +kernel, by decide +kernel⟩

abbrev s__law_hand : Stmt := topS 14
abbrev n__law_hand : List Str := ["_law_script", "_law_cells", "_law_cell"]
theorem sc__law_hand : FnScope n__law_hand ["_law_script"] (defScope s__law_hand) := ⟨rfl, rfl, rfl, by decide +kernel, rfl, by decide +kernel, by decide +kernel⟩

section
variable {P : Program} {w : World} {K : PySem.W.Frag} {mg : Str → Option Value} {base : Heap}
theorem c__law_draw (d : DF K mg "_law_draw" s__law_draw) (B : Bi mg) : Cal P w K mg base 1 "_law_draw" spDraw [] := by
  refine d.cal (N := n__law_draw) sc__law_draw (fun _ _ _ _ _ _ us hl => match us, hl with | [_, _], _ => rfl) (fun vs H Q E h => ?_) (fun f cdv A outer s H vs Q E hr h => ?_)
  · obtain ⟨h, m, rfl, _⟩ := h
    rfl
  · obtain ⟨h, m, rfl, hh, hm0, hm1, k⟩ := h
    refine ⟨_, (pss_cut (ps_if (PW.pt (pw_and (pt_cmpR op_eq (pe_ix (r := rIxL K) ix_list (pv 0) pe_int (fun _ _ => rfl)) pe_int (nomark _)) (pw_and1 (pt_cmpR z_lt (pe_ix (r := rIxL K) ix_list (pv 0) pe_int (fun _ _ => rfl)) (pe_callB (r := zLen K) zc_len (by rfl) B.len (by decide +kernel) (pa_cons (pe_ix (r := rIxL K) ix_list (pv 0) pe_int (fun _ _ => rfl)) pa_nil)) (nomark _))))) (pss_cons (ps_set (i := 2) sc__law_draw.nd rfl (by first | exact Or.inl rfl | exact Or.inr rfl) (pe_ix (r := rIxL K) ix_list (pe_ix (r := rIxL K) ix_list (pv 0) pe_int (fun _ _ => rfl)) (pe_ix (r := rIxL K) ix_list (pv 0) pe_int (fun _ _ => rfl)) (fun _ _ => rfl)))
  (pss_cons (ps_asg (pe_op z_add (pe_ix (r := rIxL K) ix_list (pv 0) pe_int (fun _ _ => rfl)) pe_int) (pg_sub (pv 0) pe_int set_list))
  (pss_cons (ps_asg (pe_op z_mod (pe_callTy zc_int (by rfl) B.int (by decide +kernel) (pa_cons (pe_op z_add (pe_op z_add (pe_op z_mul (pe_ix (r := rIxL K) ix_list (pv 0) pe_int (fun _ _ => rfl)) pe_int) (pv 2)) pe_int) pa_nil)) pe_int) (pg_sub (pv 0) pe_int set_list))
  (pss_one (ps_if (pt_cmpR z_ge (pv 2) (pe_op z_pow pe_int pe_int) (nomark _)) (pss_one (ps_asg (pv 2) (pg_sub (pv 0) pe_int set_list))) pss_nil))))) pss_nil)
  (pss_cons (ps_if (pt_cmpR z_gt (pe_ix (r := rIxL K) ix_list (pv 0) pe_int (fun _ _ => rfl)) pe_int (nomark _)) (pss_cons (ps_set (i := 3) sc__law_draw.nd rfl (by first | exact Or.inl rfl | exact Or.inr rfl) (pe_op z_mod (pe_callTy zc_int (by rfl) B.int (by decide +kernel) (pa_cons (pe_ix (r := rIxL K) ix_list (pv 0) pe_int (fun _ _ => rfl)) pa_nil)) (pv 1)))
  (pss_cons (ps_asg (pe_op z_div (pe_ix (r := rIxL K) ix_list (pv 0) pe_int (fun _ _ => rfl)) (pv 1)) (pg_sub (pv 0) pe_int set_list))
  (pss_one (ps_ret (pv 3))))) pss_nil)
  (pss_cons (ps_asg (pe_op z_add (pe_ix (r := rIxL K) ix_list (pv 0) pe_int (fun _ _ => rfl)) pe_int) (pg_sub (pv 0) pe_int set_list))
  (pss_cons (ps_set (i := 4) sc__law_draw.nd rfl (by first | exact Or.inl rfl | exact Or.inr rfl) (pe_op z_mod (pe_callTy zc_int (by rfl) B.int (by decide +kernel) (pa_cons (pe_op z_mul (pe_callTy zc_int (by rfl) B.int (by decide +kernel) (pa_cons (pe_op z_add (pe_ix (r := rIxL K) ix_list (pv 0) pe_int (fun _ _ => rfl)) (pe_op z_mul pe_int (pe_ix (r := rIxL K) ix_list (pv 0) pe_int (fun _ _ => rfl)))) pa_nil)) pe_int) pa_nil)) pe_int))
  (pss_cons (ps_set (i := 4) sc__law_draw.nd rfl (by first | exact Or.inl rfl | exact Or.inr rfl) (pe_op z_mod (pe_callTy zc_int (by rfl) B.int (by decide +kernel) (pa_cons (pe_op z_mul (pv 4) (pe_op z_add (pe_op z_div (pv 4) pe_int) pe_int)) pa_nil)) pe_int))
  (pss_cons (ps_set (i := 4) sc__law_draw.nd rfl (by first | exact Or.inl rfl | exact Or.inr rfl) (pe_op z_mod (pe_callTy zc_int (by rfl) B.int (by decide +kernel) (pa_cons (pe_op z_mul (pv 4) (pe_op z_add (pe_op z_div (pv 4) pe_int) pe_int)) pa_nil)) pe_int))
  (pss_one (ps_ret (pe_op z_mod (pe_callTy zc_int (by rfl) B.int (by decide +kernel) (pa_cons (pe_op z_div (pv 4) pe_int) pa_nil)) (pv 1)))))))))), ?_⟩
    refine zstart [some (.ref h), some (.int m), none, none, none] rfl ?_; try dsimp only [zK, zK2]
    refine i_cut (fun σ' H' => ∃ v2, σ' = [some (.ref h), some (.int m), v2, none, none] ∧ Gd h H H') ?_ ?_
    · obtain ⟨c, cells, a1, a2, a3, a4, e1, e2, hc, h1, h2, h3, h3', h4⟩ := hh.ex
      have hch : c ≠ h := fun e => by subst e; exact map_int_ne (Option.some.inj (e1.symm.trans e2))
      walk_at "zz"
      refine brd (fun q2 => ?_) fun q2 => ?_
      · walk_at "zz"
        refine brd (fun q1 => ?_) fun q1 => ?_
        · rw [List.length_map] at q1
          walk_at "zz"
          obtain ⟨cell, hcell⟩ : ∃ x, cells[a1.toNat]? = some x := ⟨_, List.getElem?_eq_getElem (by omega)⟩
          have hcell0 := hc _ (List.mem_of_getElem? hcell)
          refine i_ixL (SqL.of e2) (at_nat h1 (by rw [List.getElem?_map, hcell]; rfl)) ?_
          walk_at "zz"
          refine i_setH e1 rfl [V.ref c, V.int (a1 + 1), V.int a2, V.int a3, V.int a4] rfl fun H1 eH => ?_
          obtain ⟨f1, f2, kp1⟩ := hstep eH hch e2 (fun b o e _ => e)
          clear eH
          walk_at "zz"
          refine i_setH f1 rfl [V.ref c, V.int (a1 + 1), V.int a2, V.int ((a3 * 69621 + cell + 11) % 2147483629), V.int a4] rfl fun H2 eH => ?_
          obtain ⟨f3, f4, kp2⟩ := hstep eH hch f2 kp1
          clear eH
          walk_at "zz"
          refine i_pow ⟨by decide, by decide, by decide⟩ ?_
          walk_at "zz"
          have b1 := Int.emod_nonneg (a3 * 69621 + cell + 11) (b := 2147483629) (by decide)
          have b2 := Int.emod_lt_of_pos (a3 * 69621 + cell + 11) (b := 2147483629) (by decide)
          refine brd (fun q3 => ?_) fun q3 => ?_
          · walk_at "zz"
            refine i_setH f3 rfl [V.ref c, V.int (a1 + 1), V.int cell, V.int ((a3 * 69621 + cell + 11) % 2147483629), V.int a4] rfl fun H3 eH => ?_
            obtain ⟨f5, f6, kp3⟩ := hstep eH hch f4 kp2
            clear eH
            walk_at "zz"
            exact ⟨_, rfl, Gd.of hh e1 f5 ⟨c, cells, _, _, _, _, f5, f6, hc, by omega, hcell0, b1, by omega, h4⟩ kp3⟩
          · walk_at "zz"
            exact ⟨_, rfl, Gd.of hh e1 f3 ⟨c, cells, _, _, _, _, f3, f4, hc, by omega, h2, b1, by omega, h4⟩ kp2⟩
        · walk_at "zz"
          exact ⟨_, rfl, Gd.refl hh⟩
      · walk_at "zz"
        exact ⟨_, rfl, Gd.refl hh⟩
    · rintro σ' H1 ⟨v2, rfl, g⟩
      obtain ⟨c, cells, a1, a2, a3, a4, e1, e2, hc, h1, h2, h3, h3', h4⟩ := g.ok.ex
      have hch : c ≠ h := fun e => by subst e; exact map_int_ne (Option.some.inj (e1.symm.trans e2))
      walk_at "zz"
      refine brd (fun q1 => ?_) fun q1 => ?_
      · walk_at "zz"
        refine i_setH e1 rfl [V.ref c, V.int a1, V.int (a2 / m), V.int a3, V.int a4] rfl fun H2 eH => ?_
        obtain ⟨f1, f2, kp1⟩ := hstep eH hch e2 (fun b o e _ => e)
        clear eH
        walk_at "zz"
        exact draw_k k (Int.emod_nonneg _ (by omega)) (Int.emod_lt_of_pos _ hm0) (g.trans (Gd.of g.ok e1 f1 ⟨c, cells, _, _, _, _, f1, f2, hc, h1, Int.ediv_nonneg h2 (by omega), h3, h3', h4⟩ kp1))
      · walk_at "zz"
        refine i_setH e1 rfl [V.ref c, V.int a1, V.int a2, V.int a3, V.int (a4 + 1)] rfl fun H2 eH => ?_
        obtain ⟨f1, f2, kp1⟩ := hstep eH hch e2 (fun b o e _ => e)
        clear eH
        walk_at "zz"
        exact draw_k k (Int.emod_nonneg _ (by omega)) (Int.emod_lt_of_pos _ hm0) (g.trans (Gd.of g.ok e1 f1 ⟨c, cells, _, _, _, _, f1, f2, hc, h1, h2, h3, h3', by omega⟩ kp1))
theorem c__law_hand (d : DF K mg "_law_hand" s__law_hand) (B : Bi mg) : Cal P w K mg base 1 "_law_hand" (spHand K) [] := by
  refine d.cal (N := n__law_hand) sc__law_hand (fun _ _ _ _ _ _ us hl => match us, hl with | [_], _ => rfl) (fun vs H Q E h => ?_) (fun f cdv A outer s H vs Q E hr h => ?_)
  · obtain ⟨a, ns, rfl, _⟩ := h
    rfl
  · obtain ⟨a, ns, rfl, hs, hk, k⟩ := h
    refine ⟨_, (pss_cons (ps_setLc (i := 1) (own := [("_law_cell", 2)]) (g := gName 2) (tt := tYes) rfl sc__law_hand.nd rfl rfl (sw_true rfl rfl rfl (by decide +kernel)) (pi_list (pe_slice (r := rSlL K) sl_list (pv 0) po_none (po_some pe_int))) (blkOk_by (N := n__law_hand) (sc := defScope s__law_hand) (by decide +kernel)) (fun _ _ _ _ _ => (pg_name (i := 2) sc__law_hand.nd rfl (by first | exact Or.inl rfl | exact Or.inr rfl))) (fun _ _ _ _ _ => pts_nil) (fun _ _ _ _ _ => (pe_callB zc_abs (by rfl) B.abs (by decide +kernel) (pa_cons (pe_callTy zc_int (by rfl) B.int (by decide +kernel) (pa_cons (pv 2) pa_nil)) pa_nil))))
  (pss_one (ps_ret (pe_lst (pa_cons (pv 1) (pa_cons pe_int (pa_cons pe_int (pa_cons (pe_op z_add pe_int (pe_callB (r := zLen K) zc_len (by rfl) B.len (by decide +kernel) (pa_cons (pv 1) pa_nil))) (pa_cons pe_int pa_nil))))))))), ?_⟩
    refine zstart [some (.ref a), none, none] rfl ?_; try dsimp only [zK, zK2]
    walk_at "zz"
    refine i_slL hs fun p hp => ?_
    refine i_KL (SqL.of upd_same) fun Dl hD => ?_
    have e63 : cutV (ns.map V.int) none (some 63) = (ns.take 63).map V.int := by
      rw [show (63 : Int) = ((63 : Nat) : Int) from rfl, cutV_to, List.map_take]
    rw [e63] at hD ⊢
    have npD : p ≠ Dl := fun e => by subst e; rw [upd_same] at hD; cases hD
    refine l_comp (walk_list (xs := (ns.take 63).map V.int)) [some (.ref a), none, none] rfl (fun i acc H' => Same H H' ∧ H' p = some (.lst ((ns.take 63).map V.int)) ∧ ∃ cells : List Int, acc = cells.map V.int ∧ ∀ x ∈ cells, 0 ≤ x)
      ⟨((Same.refl H).newz hp).newz hD, by rw [upd_ne npD]; exact upd_same, [], rfl, by simp⟩ (fun i acc H' _ ⟨_, e, _⟩ _ => SqL.of e) ?_ ?_
    · rintro i x acc H1 H2 hi ⟨sm, ep, cells, rfl, h0⟩ eD hl ⟨rfl, hx⟩
      rw [List.getElem?_map] at hx
      obtain ⟨z, hz, rfl⟩ := Option.map_eq_some_iff.mp hx
      have hD0 : H Dl = none := by rw [upd_ne npD.symm] at hD; exact hD
      walk_at "zz"
      refine cend eD hl (by rw [List.length_map, List.length_take] at hi; omega) ⟨sm.mutz hD0, by rw [upd_ne npD]; exact ep, cells ++ [if z < 0 then -z else z], by simp, ?_⟩
      intro x hx
      rcases List.mem_append.mp hx with q | q
      · exact h0 x q
      · rw [List.mem_singleton.mp q]; split <;> omega
    · rintro acc H1 ⟨sm, ep, cells, rfl, h0⟩ eD hl
      walk_at "zz"
      have hlen : cells.length ≤ 63 := by rw [List.length_map, List.length_map, List.length_take] at hl; omega
      refine ⟨by show 5 ≤ sizeLine; decide, fun h hh => ?_⟩
      refine k h _ (sm.free hh) ⟨Dl, cells, 0, 0, _, 0, upd_same, by rw [upd_ne (ne_of_none eD hh)]; exact eD, h0, by omega, by omega, ?_, ?_, by omega⟩ (sm.newz hh)
      · rw [List.length_map]; omega
      · rw [List.length_map]; omega
end
end Y

namespace Y
open PySem PySem.Spec PyProof.Rows L2 Z
open C8 (tCut pss_cut Cal pe_c Met pe_mt pe_mt0 Mak pe_mk)
theorem ztt {t : TT} {σ : L2.St} {H : Hp} {R : Bool → Hp → Prop} (L : L2.St) (h : σ = L) (q : t L H R) : t σ H R := h ▸ q
theorem l_filtR {σ : L2.St} {H : Hp} {Q : VK} {n j : Nat} {tt : TT} {te : TE} {vs : List Nat} {Dl : Addr} (hD : H Dl = none) (W : L2.St) (hw : wipe σ vs = W) (hw2 : ∀ x : V, wipe (W.set j (some x)) vs = W) (hl : n ≤ 99999) (p : Nat → Bool) (f : Nat → V)
    (ht : ∀ (i : Nat) (H1 : Hp) (R : Bool → Hp → Prop), i < n → Same H H1 → (∀ H2, Same H1 H2 → R (p i) H2) → tt (W.set j (some (.int (i : Int)))) H1 R)
    (hs : ∀ (i : Nat) (H1 : Hp) (P : VK), i < n → p i = true → Same H H1 → (∀ H2, Same H1 H2 → P (f i) H2) → te (W.set j (some (.int (i : Int)))) H1 P)
    (hd : ∀ H1, Same H H1 → H1 Dl = some (.lst (((List.range n).filter p).map f)) → Q (.ref Dl) H1) : LC (Itr 0 n) (gName j) tt te vs σ H Q Dl := by
  refine l_comp (walk_range (lo := 0) (n := n)) W hw (fun i acc H1 => Same H H1 ∧ acc = ((List.range i).filter p).map f) ⟨(Same.refl H).newz hD, by simp⟩ (fun _ _ _ _ _ _ => trivial) ?_ ?_
  · rintro i x acc H1 H2 hi ⟨sm, rfl⟩ e hl2 ⟨e2, rfl⟩
    subst e2
    show gName j (V.int (0 + (i : Int))) _ _ _
    rw [Int.zero_add]
    refine i_gname ?_
    refine i_lct (hw2 _) ?_
    refine ht i _ _ hi sm fun H3 s3 => ?_
    refine brb (fun hb => ?_) fun hb => ?_
    · refine hs i _ _ hi hb (sm.trans s3) fun H4 s4 => ?_
      refine cend ((s3.trans s4) _ _ e) hl2 (by omega) ⟨((sm.trans s3).trans s4).mutz hD, ?_⟩
      rw [List.range_succ, List.filter_append, List.map_append]; simp [hb]
    · exact ⟨_, s3 _ _ e, by omega, sm.trans s3, by rw [List.range_succ, List.filter_append]; simp [hb]⟩
  · rintro acc H1 ⟨sm, rfl⟩ e _
    exact hd H1 sm e
theorem i_cat {H : Hp} {Q : VK} {a b : Addr} {xs ys : List V} (h : H a = some (.lst xs)) (h2 : H b = some (.lst ys)) (hl : xs.length + ys.length ≤ 100000) (q : ∀ p, H p = none → Q (.ref p) (upd H p (.lst (xs ++ ys)))) : rCat (.ref a) (.ref b) H Q := ⟨a, b, xs, ys, rfl, rfl, h, h2, le_line hl, q⟩
theorem gd_same {h : Addr} {H H1 H2 : Hp} (g : Gd h H H1) (s : Same H1 H2) : Gd h H H2 := by
  obtain ⟨c, r, r', e0, e1⟩ := g.cell
  obtain ⟨c1, cells, a1, a2, a3, a4, g0, g1, rest⟩ := g.ok.ex
  exact ⟨⟨c1, cells, a1, a2, a3, a4, s _ _ g0, s _ _ g1, rest⟩, fun b u e n => s _ _ (g.kp b u e n), g.ok0, c, r, r', e0, s _ _ e1⟩
theorem and_merge {b c : Bool} {i : Nat} {σ : L2.St} {H : Hp} {R : VK} (hσ : σ[i]? = some (some (.bl c))) (q : R (.bl (b && c)) H) : if b = true then tVar i σ H R else R (.bl false) H := by
  cases b
  · exact q
  · exact ⟨_, hσ, q⟩
theorem or_merge {b c : Bool} {i : Nat} {σ : L2.St} {H : Hp} {R : VK} (hσ : σ[i]? = some (some (.bl c))) (q : R (.bl (b || c)) H) : if (!b) = true then tVar i σ H R else R (.bl true) H := by
  cases b
  · exact ⟨_, hσ, q⟩
  · exact q
theorem ite_swap {b : Bool} {A B : Prop} (h : if (!b) = true then B else A) : if b = true then A else B := by
  cases b <;> exact h
theorem nw {H : Hp} {p a : Addr} {o u : HO} (hp : H p = none) (e : H a = some u) : upd H p o a = some u := by rw [upd_ne (ne_of_none e hp)]; exact e
theorem kp_mut {Tl : Addr} {H : Hp} {o : HO} : Kp (· = Tl) H (upd H Tl o) := fun b u e n => by rw [upd_ne n]; exact e
def spLaw (K : PySem.W.Frag) : Sp := fun vs H Q _ => ∃ (a : Addr) (ns : List Int), vs = [.ref a] ∧ SqL K H a (ns.map V.int) ∧ ns.length ≤ 63 ∧ ∀ H', Q (.bl true) H'
end Y

namespace Y
open PySem
section
variable {prog : Program} {w : World} {A : Around} {s : Shared} {R : Result → Shared → Prop}
theorem wpAny_extend_str (S : Addr) (x : Str) (t : Tok) (res : Value) (c₀ : Nat) (hh : A.handled = none) (hS : s.heap.get? S = some { cls := .type "list", data := .seq #[] c₀ })
    (hR : ∀ s' acc c', (∀ b o, b ≠ S → s.heap.get? b = some o → s'.heap.get? b = some o) → s'.gens = s.gens → s'.drawn = s.drawn → s'.os = s.os → s'.heap.get? S = some { cls := .type "list", data := .seq acc c' } → ItemsOf (SignAt x) acc x.cps.size → R (.ok (.ret res)) s')
    (hn : x.cps.size ≤ sizeLine) :
    wpAny (model prog w) A.in1 (Builtin.List.listExtendWith (.ref S) (.str x t) res)
      (fun fin s' => match fin with | .done f => R (.ok f) s' | .again c' => c'.quiet = true ∧ codeAny (model prog w) A c' R s') (fun e s' => R (.error e) s') s := by
  have hSl := Heap.lt_size hS
  unfold Builtin.List.listExtendWith
  refine wpAny_bind (wpAny_typeOf (T := "str") (v := .str x t) rfl ?_)
  have h1 : Builtin.List.listSameRef (.ref S) (.str x t) = false := rfl
  have h2 : (Value.type "str" == Value.type "list") = false := by decide
  have h3 : (Value.type "str" == Value.type "tuple") = false := by decide
  simp only [h1, h2, h3, Bool.or_false, Bool.false_eq_true, if_false]
  refine wpAny_bind (wpAny_pyIter_str fun o St W hst => ?_)
  refine wpAny_bind (wpAny_holding ?_)
  unfold Builtin.List.listLengthHint
  refine wpAny_bind (wpAny_specialOf (T := "str") (v := .str x t) rfl F.str_len ?_)
  wp_delta
  refine wpAny_bind (wpAny_isInstance (T := "str") (v := .str x t) (b := true) rfl (by rw [isSubtype_type]; kernel_rfl) ?_)
  show wpAny _ A.in1 (typeOf (Value.str x t) >>= _) _ _ _
  refine wpAny_bind (wpAny_typeOf (T := "str") (v := .str x t) rfl ?_)
  refine wpAny_pure ?_
  rw [if_neg (by decide)]
  have hSf : S ∉ [s.heap.objs.size] := fun hm => by rw [List.mem_singleton.mp hm] at hSl; exact absurd hSl (Nat.lt_irrefl _)
  have hS' : (s.heap.push o).get? S = some { cls := .type "list", data := .seq #[] c₀ } := Heap.get?_push_of_some _ hS
  refine wpAny_pure ⟨plainId_quiet F.plain_extend_loop _, codeAny_extend_loopS (W A.in1 hh).toS hn _ hSf _ x.cps.size 0 _ _ _ rfl (Nat.zero_le _) hst hS' (ItemsOf.nil _) fun s' acc' c' hm hS' hacc => ?_⟩
  refine hR s' acc' c' (fun b ob hb e => hm.heap b ob (fun hb2 => ?_) (Heap.get?_push_of_some _ e)) hm.gens hm.drawn hm.os hS' hacc
  have hlt := Heap.lt_size e
  rcases List.mem_cons.mp hb2 with h | h
  · exact hb h
  · rw [List.mem_singleton.mp h] at hlt; exact Nat.lt_irrefl _ hlt
end
section
variable {prog : Program} {w : World} {A : Around} {E : Value → Shared → Prop} {s : Shared}
theorem call_list_str {Q : Value → Shared → Prop} (hh : A.handled = none) (x : Str) (t : Tok) (hn : x.cps.size ≤ sizeLine)
    (hQ : ∀ s' acc c', (∀ b o, s.heap.get? b = some o → s'.heap.get? b = some o) → s'.gens = s.gens → s'.drawn = s.drawn → s'.os = s.os → s'.heap.get? s.heap.objs.size = some { cls := .type "list", data := .seq acc c' } → ItemsOf (SignAt x) acc x.cps.size → Q (.ref s.heap.objs.size) s') :
    wpAny (model prog w) A (call (.type "list") [.str x t]) Q E s := by
  refine callType_codes (Q₁ := fun obj s₁ => obj = .ref s.heap.objs.size ∧ s₁ = { s with heap := s.heap.push { cls := .type "list", data := .seq #[] } }) F.called_list (F.typeCall_list_1 _) F.entry_list_init
    (code_list_new _ ⟨rfl, rfl⟩) fun obj s₁ h₁ => ?_
  obtain ⟨rfl, rfl⟩ := h₁
  have hS : (s.heap.push { cls := .type "list", data := .seq #[] }).get? s.heap.objs.size = some { cls := .type "list", data := .seq #[] } := Heap.get?_push_size _ rfl
  refine ⟨⟨_, hS, rfl⟩, F.args_list_init_2 _ _, ?_⟩
  show wpAny _ _ (do let old ← Builtin.List.listItems (.ref s.heap.objs.size); Builtin.List.listUpdate (.ref s.heap.objs.size) (fun _ => #[]); letGo old.toList.reverse; Builtin.List.listExtendWith (.ref s.heap.objs.size) (.str x t) .none) _ _ _
  refine wpAny_bind ?_
  unfold Builtin.List.listItems
  refine wpAny_bind (wpAny_seqItems hS rfl (wpAny_pure ?_))
  show wpAny _ _ (updateSeq s.heap.objs.size (fun _ => #[]) >>= fun _ => letGo (#[] : Array Value).toList.reverse >>= fun _ => Builtin.List.listExtendWith (.ref s.heap.objs.size) (.str x t) .none) _ _ _
  refine wpAny_bind (wpAny_updateSeq hS rfl ?_)
  have hS₂ := Heap.get?_update_self (Obj.mapSeq (fun _ => (#[] : Array Value))) hS rfl
  refine wpAny_bind (wpAny_letGo ?_)
  refine wpAny_extend_str _ x t _ _ hh hS₂ (fun s' acc c' k g d o e it => ⟨rfl, ?_⟩) hn
  refine hQ s' acc c' (fun b ob eb => ?_) g d o e it
  have hb : b ≠ s.heap.objs.size := fun e' => Nat.lt_irrefl _ (e' ▸ Heap.lt_size eb)
  exact k b ob hb ((Heap.get?_update_other _ _ (Ne.symm hb)).trans (Heap.get?_push_of_some _ eb))
theorem cmp_signs {P : Nat → Value → Prop} (val : Nat → Nat) (hval : ∀ i v, P i v → ∃ t, v = .str ⟨#[val i]⟩ t) :
    CmpOf prog w A .Gt P (fun i j => decide ((val i : Int) > (val j : Int))) := fun i j vi vj s Q E hi hj h => by
  obtain ⟨t, rfl⟩ := hval i vi hi
  obtain ⟨u, rfl⟩ := hval j vj hj
  have e : decide ((⟨#[val j]⟩ : Str).cps.toList < (⟨#[val i]⟩ : Str).cps.toList) = decide ((val i : Int) > (val j : Int)) := by
    show decide ([val j] < [val i]) = _
    simp [List.cons_lt_cons_iff]
  replace h : Q (Value.bool (decide ((val i : Int) > (val j : Int)))) s := h
  rw [← e] at h
  exact richCompare_gives (op := .Gt) (typeIs_str s _ t) (typeIs_str s _ u) F.slot_str_gt F.entry_str_gt (F.args_str_gt_2 _ _) (gives_str_gt _ _ t u) (fun x => nomatch x) h
theorem max_signs {Q : Value → Shared → Prop} {l : Addr} {items : Array Value} (val : Nat → Nat) (hh : A.handled = none) (hl : s.heap.IsList l items) (hv : ∀ (i : Nat) (v : Value), items[i]? = some v → ∃ t, v = .str ⟨#[val i]⟩ t) (hne : 0 < items.size)
    (h : ∀ k t h' tk, k < items.size → (∀ j, j < items.size → val j ≤ val k) → (∀ b o, s.heap.get? b = some o → h'.get? b = some o) → Q (.str ⟨#[val k]⟩ t) { s with heap := h', toks := tk }) :
    wpAny (model prog w) A (call (.builtin "max") [.ref l]) Q E s := by
  refine call_max_walk ?_
  have hlt : l < s.heap.objs.size := by obtain ⟨_, e, _⟩ := hl; exact Heap.lt_size e
  refine wpAny_pyIter_list hl ?_
  refine ⟨_, _, _, _, _, _, _, rfl, Walks.list (A := A.in1) hh _ l (Nat.ne_of_lt hlt) items, ⟨⟨_, Heap.get?_push_size _ rfl, rfl, rfl⟩, hl.push _⟩, fun b hb => ?_, hne, cmp_signs val (fun i v => hv i v), fun v h' tk hP hk => ?_⟩
  · show b < (s.heap.push _).objs.size
    rw [Heap.size_push]
    rcases List.mem_cons.mp hb with rfl | hb
    · exact Nat.lt_succ_self _
    · rcases List.mem_cons.mp hb with rfl | hb
      · exact Nat.lt_succ_of_lt hlt
      · cases hb
  · obtain ⟨t, rfl⟩ := hv _ _ hP
    obtain ⟨h1, h2⟩ := argBest_gt (fun i => (val i : Int)) (items.size - 1)
    exact h _ t h' tk (by omega) (fun j hj => by have := h2 j (by omega); exact Int.ofNat_le.mp this) (old_kept hk)
end
end Y
namespace Y
open PySem PySem.Spec PyProof.Rows L2 Z
open C8 (tCut pss_cut Cal pe_c Met pe_mt pe_mt0 Mak pe_mk)
def zListS : List V → Hp → VK → Prop := fun vs H Q => ∃ z : List Nat, vs = [.str (S z)] ∧ z.length ≤ 100000 ∧ ∀ p, H p = none → Q (.ref p) (upd H p (.lst (z.map fun c => V.str (S [c]))))
theorem vals_signs : ∀ (z : List Nat) (vs : List Value), vs.length = z.length → (∀ (j : Nat) (v : Value), vs[j]? = some v → ∃ c u, z[j]? = some c ∧ v = .str ⟨#[c]⟩ u) → Vals (z.map fun c => V.str (S [c])) vs
  | [], [], _, _ => .nil
  | c :: z, v :: vs, h, q => by
    obtain ⟨c', u, e1, e2⟩ := q 0 v rfl
    cases e1
    refine .cons ⟨u, e2⟩ (vals_signs z vs (by simpa using h) fun j v hv => ?_)
    obtain ⟨c', u, e1, e2⟩ := q (j + 1) v (by simpa using hv)
    exact ⟨c', u, by simpa using e1, e2⟩
  | [], _ :: _, h, _ => by simp at h
  | _ :: _, [], h, _ => by simp at h
theorem zc_listS {X : Cx} (hc : X.calm = true) : CallR X (.type "list") zListS := by
  intro pins s σ H vs us Q I r h
  obtain ⟨z, rfl, hz, q⟩ := h
  obtain ⟨u, rfl, rx⟩ := vals1 r
  obtain ⟨t, rfl⟩ := rx
  have hsz : (S z).cps.size = z.length := by simp
  refine call_list_str (I.ok.hd hc) (S z) t (by rw [hsz]; exact le_line hz) fun s1 acc c' k g dr os e it => ?_
  obtain ⟨h1, g1, d1, t1, o1⟩ := s1
  subst g dr os
  replace k : ∀ b o, s.heap.get? b = some o → h1.get? b = some o := k
  replace e : h1.get? s.heap.objs.size = some { cls := .type "list", data := .seq acc c' } := e
  have hV : Vals (z.map fun c => V.str (S [c])) acc.toList := vals_signs z acc.toList (by rw [Array.length_toList, it.1, hsz]) fun j v hv => by
    obtain ⟨c, u, e1, e2⟩ := it.2 j v (by simpa using hv)
    exact ⟨c, u, by simpa using e1, e2⟩
  exact ⟨.ref _, upd H s.heap.objs.size (.lst (z.map fun c => V.str (S [c]))), I.laid (t' := t1) k (Nat.le_refl _) ⟨by rw [List.length_map]; exact le_line hz, _, c', hV, by simpa using e⟩, rfl, q _ (I.hok.fresh (Nat.le_refl _))⟩
theorem i_listS {a : List Nat} {H : Hp} {Q : VK} (hl : a.length ≤ 100000) (q : ∀ p, H p = none → Q (.ref p) (upd H p (.lst (a.map fun c => V.str (S [c]))))) : zListS [.str (S a)] H Q := ⟨a, rfl, hl, q⟩
def zMaxC (K : PySem.W.Frag) : List V → Hp → VK → Prop := fun vs H Q => ∃ (a : Addr) (cs : List Nat), vs = [.ref a] ∧ SqL K H a (cs.map fun c => V.str (S [c])) ∧ 0 < cs.length ∧ ∀ m, m ∈ cs → (∀ y, y ∈ cs → y ≤ m) → Q (.str (S [m])) H
theorem signs_at : ∀ {cs : List Nat} {vs : List Value}, Vals (cs.map fun c => V.str (S [c])) vs → ∀ {i : Nat} {v : Value}, vs[i]? = some v → ∃ t, v = .str ⟨#[cs.getD i 0]⟩ t
  | [], _, .nil, i, v, h => by simp at h
  | c :: cs, _, .cons a r, 0, v, h => by
    cases h
    obtain ⟨t, e⟩ := a
    exact ⟨t, e⟩
  | c :: cs, _, .cons a r, i + 1, v, h => signs_at r (i := i) (by simpa using h)
theorem zc_maxC {X : Cx} (hc : X.calm = true) : CallR X (.builtin "max") (zMaxC X.K) := by
  intro pins s σ H vs us Q I r h
  obtain ⟨a, cs, rfl, hs, hne, q⟩ := h
  obtain ⟨its, rv, hl, _⟩ := I.list hs
  rw [Vals.ref1 r]
  have hlen : its.length = cs.length := by have := rv.length; rw [List.length_map] at this; exact this.symm
  refine max_signs (fun i => cs.getD i 0) (I.ok.hd hc) hl.isList (fun i v hv => signs_at rv (by simpa using hv)) (by rw [List.size_toArray, hlen]; exact hne) fun k t h' tk h1 h2 hk => ?_
  rw [List.size_toArray, hlen] at h1
  refine ⟨.str (S [cs.getD k 0]), H, I.kept hk, ⟨_, rfl⟩, q _ ?_ fun y hy => ?_⟩
  · rw [List.getD_eq_getElem?_getD, List.getElem?_eq_getElem h1]
    exact List.getElem_mem h1
  · obtain ⟨j, hj, rfl⟩ := List.getElem_of_mem hy
    have := h2 j (by rw [List.size_toArray, hlen]; exact hj)
    rwa [List.getD_eq_getElem?_getD, List.getElem?_eq_getElem hj] at this
theorem i_maxC {K : PySem.W.Frag} {a : Addr} {cs : List Nat} {H : Hp} {Q : VK} (h : SqL K H a (cs.map fun c => V.str (S [c]))) (h0 : 0 < cs.length) (q : ∀ m, m ∈ cs → (∀ y, y ∈ cs → y ≤ m) → Q (.str (S [m])) H) : zMaxC K [.ref a] H Q := ⟨a, cs, rfl, h, h0, q⟩
end Y

namespace Y
open PySem PySem.Spec PyProof.Rows L2 Z
open C8 (tCut pss_cut Cal pe_c Met pe_mt pe_mt0 Mak pe_mk)
section
variable {P : Program} {w : World} {K : PySem.W.Frag} {mg : Str → Option Value} {base : Heap}
/-- a def that may raise -/
structure CalX (P : Program) (w : World) (K : PySem.W.Frag) (mg : Str → Option Value) (base : Heap) (k : Nat) (x : Str) (sp : Sp) : Prop where
  ex : ∃ (f : Addr) (fd : FuncData) (ps : List Str), FnOk P w K mg base (L2.CX P w) k f fd ps sp ∧ mg x = some (.ref f) ∧ PySem.W.keepIn K (.ref f) = true ∧ Binds K fd ps []
theorem calX {x : Str} {st : Stmt} {N ps : List Str} {k : Nat} {sp : Sp} (d : DF K mg x st) (S : FnScope N ps (defScope st))
    (hb : ∀ (kV doc pm : Value) (an : Option Addr) (cdv ct : Value) (us : List Value), us.length = ps.length → bindArgs (PySem.W.fnOf x x (defArgs st) (defBody st) (defScope st) .none kV doc pm an cdv ct) ⟨us, []⟩ = pure (ps.zip us))
    (len : ∀ vs H Q E, sp vs H Q E → vs.length = ps.length)
    (hbody : ∀ (f : Addr) (cdv : Value) (A : Around) (outer : List Env) (s : Shared) (H : Hp) (vs : List V) (Q : VK) (E : XK), Room k (A.deeper (envOfC x (defScope st) s.heap.objs.size f cdv)) → sp vs H Q E →
      ∃ t, PSs (cxOf (L2.CX P w) P w K mg base N x (defScope st) f cdv A outer s H E) (defBody st) t ∧ t { nx := fun _ H' => Q .non H', rt := Q } (start N vs) H) : CalX P w K mg base (k + 1) x sp := by
  obtain ⟨f, fd, F, hm⟩ := d.ex
  exact ⟨f, fd, ps, F.okX S len (hbody f), hm, F.kp, F.binds hb⟩
end
section
variable {X : Cx} {k j : Nat} {x : Str} {sp : Sp} {p pos : Pos} {e : Expr} {es : List Expr} {t : TA} {W : WX}
theorem pe_cX (c : CalX X.prog X.w X.K X.mg X.base k x sp) (hr : Room j X.A) (hk : k ≤ j) (hg : Gl X x) (tk : Takes X W) (ha : PA X (e :: es) t)
    (hdb : (x == ("__debug__" : Str)) = false := by decide) (he : starEach (e :: es) X.env = (false, eval e X.env) :: starEach es X.env := by rfl) (hpl : (backTo pos (starEach es X.env)).any (·.1) = false := by rfl) :
    PE X (.Call (.Name x p) (e :: es) [] pos) (tCallS sp (WE W) t) := by
  obtain ⟨f, fd, ps, F, hm, kp, b⟩ := c.ex
  exact pe_callS F (hr.mono hk) hg hm kp b (fun σ => passAt tk σ) ha hdb he hpl
theorem i_callS {sp : Sp} {E : L2.St → XK} {t : TA} {σ : L2.St} {H : Hp} {Q : VK} (q : t σ H fun vs H1 => sp vs H1 Q (E σ)) : tCallS sp E t σ H Q := q
end
/-- whether an error of the class at S is what «except C» names -/
theorem exm_pair {K : PySem.W.Frag} {S C : Addr} {b : Bool} (h1 : PySem.W.subIn K (.ref C) (.type "BaseException") = some true) (h2 : PySem.W.isClsIn K C = true) (h3 : PySem.W.typeIn K (.ref C) = some (.type "type")) (h4 : PySem.W.subIn K (.ref S) (.ref C) = some b) :
    PySem.W.exmOne K (.ref S) (.ref C) = some b := by
  have e1 : (PySem.W.subIn K (.ref C) (.type "BaseException") == some true) = true := by rw [h1] <;> rfl
  have e2 : ((PySem.W.clsIn K C).isSome && PySem.W.typeIn K (.ref C) == some (.type "type")) = true := by
    have h2' : (PySem.W.clsIn K C).isSome = true := h2
    rw [h2', h3] <;> rfl
  unfold PySem.W.exmOne
  rw [if_pos e1]
  show (if ((PySem.W.clsIn K C).isSome && PySem.W.typeIn K (.ref C) == some (.type "type")) = true then PySem.W.subIn K (.ref S) (.ref C) else none) = some b
  rw [if_pos e2]
  exact h4
/-- an own exception over own ones, without an __init__ of its own -/
structure OwnX (K : PySem.W.Frag) (mg : Str → Option Value) (x : Str) (C : Addr) : Prop where
  ex : ∃ bmB newId initId, ExcBaseFacts "ValueError" newId initId bmB ∧ PySem.W.excIn K C bmB newId = true
  g : mg x = some (.ref C)
  kp : PySem.W.keepIn K (.ref C) = true
  b : PySem.W.subIn K (.ref C) (.type "BaseException") = some true
  t : PySem.W.typeIn K (.ref C) = some (.type "type")
section
variable {X : Cx}
theorem pmk_own0 {C : Addr} {x : Str} {p pos : Pos} (T : OwnX X.K X.mg x C) (hg : Gl X x) (hdb : (x == ("__debug__" : Str)) = false := by decide) :
    PMk X (.Call (.Name x p) [] [] pos) (fun σ H Q => Q (.ref C) none H) := by
  intro pins s σ H Q I h
  obtain ⟨bmB, newId, initId, F, q⟩ := T.ex
  refine wpAny_Call_Name_kw (ld_glob I hg T.g ?_ hdb)
  refine PySem.W.callWith_K0 I.kIn T.kp ?_
  show wpAny _ _ (call (.ref C) []) _ _ _
  obtain ⟨bm, N, nm, qn, bs, hdct, sn, sub, ab, col, dd, k0, k1, k2, k3, k5, mN, hC, hN, hni, TT⟩ := exc_obj I.kIn q
  refine wpAny_call_exc_subT F TT hC hN hni (fun h' e hm => ?_) (Nat.zero_le _)
  exact mk_of I hm (raises_own T.b T.t) h (I.hok.gone hm.new)
def tRaise0 (C : Addr) (W : WX) : TS := fun _ σ H => W (.ref C) none σ H
theorem ps_raise0 {C : Addr} {W : WX} {x : Str} {p pos pos2 : Pos} (hc : X.calm = true) (T : OwnX X.K X.mg x C) (tk : Takes X W) (hg : Gl X x) (hdb : (x == ("__debug__" : Str)) = false := by decide) :
    PS X (.Raise (some (.Call (.Name x p) [] [] pos)) none pos2) (tRaise0 C W) := ps_raise hc tk (pmk_own0 T hg hdb)
theorem i_raise0 {C : Addr} {W : WX} {D : Ends} {σ : L2.St} {H : Hp} (q : W (.ref C) none σ H) : tRaise0 C W D σ H := q
/-! t[::-1] -/
def tRevS (te : TE) : TE := fun σ H Q => te σ H fun x H1 => ∃ l : List Nat, x = .str (S l) ∧ l.length ≤ 100000 ∧ Q (.str (S l.reverse)) H1
theorem i_revS {te : TE} {σ : L2.St} {H : Hp} {Q : VK} (q : te σ H fun x H1 => ∃ l : List Nat, x = .str (S l) ∧ l.length ≤ 100000 ∧ Q (.str (S l.reverse)) H1) : tRevS te σ H Q := q
theorem rev_S (l : List Nat) (u : Tok) : Txt.sliceBy (S l) none none (-1, u) = S l.reverse := by
  have h := step_rev_list (S l) u
  have e : (List.range (S l).length).map (fun k => (S l).cps.getD ((S l).length - 1 - k) 0) = l.reverse := by
    rw [S_len]
    refine List.ext_getElem (by simp) fun i h1 h2 => ?_
    rw [List.length_map, List.length_range] at h1
    rw [List.getElem_map, List.getElem_range, List.getElem_reverse]
    show l.toArray.getD (l.length - 1 - i) 0 = _
    rw [Array.getD, dif_pos (by simp; omega)]
    rfl
  rw [e] at h
  rw [← S_codes (Txt.sliceBy (S l) none none (-1, u)), show codes (Txt.sliceBy (S l) none none (-1, u)) = l.reverse from h]
theorem pe_revS {e : Expr} {te : TE} {k : Nat} {p1 p2 p3 pos : Pos} (he : PE X e te) : PE X (.Subscript e (.Slice none none (some (.UnaryOp .USub (.Constant (.int 1) k p1) p2)) p3) pos) (tRevS te) := by
  refine ⟨fun pins s σ H Q I h => ?_⟩
  refine Subscript_ (thn (he.run pins s σ H _ I h) fun v s1 ⟨x, H1, I1, r1, q1⟩ => ?_)
  obtain ⟨l, ex, hl, q⟩ := q1
  subst ex
  obtain ⟨t, rfl⟩ := r1
  have hst : PO X (some (.UnaryOp .USub (.Constant (.int 1) k p1) p2)) (tPart (tUn (rU fun i => .int (-i)) (tC (.int 1)))) := po_some (pe_un un_neg pe_int)
  refine wpAny_Slice (thn (po_none.run pins s1 σ H1 (fun o H2 => o = none ∧ H2 = H1) I1 ⟨rfl, rfl⟩) fun vl s2 ⟨l', H2, I2, pl, el, e2⟩ => ?_)
  subst el e2
  refine thn (po_none.run pins s2 σ H2 (fun o H3 => o = none ∧ H3 = H2) I2 ⟨rfl, rfl⟩) fun vu s3 ⟨u, H3, I3, pu, eu, e3⟩ => ?_
  subst eu e3
  refine thn (hst.run pins s3 σ H3 (fun o H4 => o = some (-1) ∧ H4 = H3) I3 ⟨1, rfl, -1, rfl, rfl, rfl⟩) fun vs s4 ⟨o, H4, I4, ps, eo, e4⟩ => ?_
  subst eo e4
  have I5 : Inv X pins σ H4 { s4 with heap := s4.heap.push { cls := .type "slice", data := .fields #[vl, vu, vs] } } := I4.kept (t' := s4.toks) fun b ob q => Heap.get?_push_of_some _ q
  show wpAny (model X.prog X.w) X.A (subscriptTail e (.Slice none none (some (.UnaryOp .USub (.Constant (.int 1) k p1) p2)) p3) (.str (S l) t) (.ref s4.heap.objs.size)) (EP X pins σ Q) X.xe { s4 with heap := s4.heap.push { cls := .type "slice", data := .fields #[vl, vu, vs] } }
  have e1 : vl = .none := by cases pl; rfl
  have e2 : vu = .none := by cases pu; rfl
  obtain ⟨tk, e3⟩ : ∃ tk, vs = .int (-1) tk := by cases ps; exact ⟨_, rfl⟩
  subst e1 e2 e3
  have hsz : (S l).length ≤ sizeLine := by rw [S_len]; exact le_line hl
  have h0 : (((-1 : Int) == 0) = false) := by decide
  have h1 : ((-1 : Int), tk).1 ≠ 0 := show (-1 : Int) ≠ 0 by decide
  refine tail_any (ops := [.ref s4.heap.objs.size, .str (S l) t]) (typeIs_str _ _ _) (PySem.F.slot_str_getitem.lookup) ?_ (by with_unfolding_all rfl)
  refine wpAny_getItem_str_slice (l := none) (u := none) (st := some (-1, tk)) ⟨_, Heap.get?_push_size _ rfl, rfl, rfl⟩ h0 (post_val_or_str ⟨Nat.le_trans (Txt.sliceBy_le (S l) none none (-1, tk) h1) hsz, fun t' c => ?_⟩)
  show EP X pins σ Q (.str (Txt.sliceBy (S l) none none (-1, tk)) t') _
  rw [rev_S]
  exact ⟨.str (S l.reverse), H4, I5.tok _, ⟨_, rfl⟩, q⟩
end
end Y

namespace Y
open PySem PySem.Spec PyProof.Rows L2 Z
open C8 (tCut pss_cut Cal pe_c Met pe_mt pe_mt0 Mak pe_mk)
/-! ### defs that show data: no repr is under way around them -/
structure FnG (P : Program) (w : World) (K : PySem.W.Frag) (mg : Str → Option Value) (base : Heap) (CX : CXT) (k : Nat) (f : Addr) (fd : FuncData) (ps : List Str) (sp : Sp) : Prop where
  cnt : ∀ vs H Q E, sp vs H Q E → vs.length = ps.length
  go : ∀ (A : Around) (out : List Env) (s : Shared) (H : Hp) (ar : Args) (us : List Value) (vs : List V) (Q : VK) (E : XK), A.guards = some [] → Room k A → Env0 P w K mg base A out s H → BindsTo s fd ar (ps.zip us) → Vals vs us → sp vs H Q E →
    codeAny (model P w) A (.call (.ref f) ar) (CR CX out P w H s Q E) s
section
variable {P : Program} {w : World} {K : PySem.W.Frag} {mg : Str → Option Value} {base : Heap} {CX : CXT}
theorem fnG_body {k : Nat} {f : Addr} {nm qual : Str} {pars : Arguments} {body : List Stmt} {sc : Scope} {dV kV doc pm cdv ct oc : Value} {an od : Option Addr} {osl : Array (Option Value)} {N ps : List Str} {sp : Sp}
    (lk : K.lookup f = some ⟨oc, od, .func (PySem.W.fnOf nm qual pars body sc dV kV doc pm an cdv ct), osl⟩) (code : PySem.W.codeIn K cdv qual = true) (Sc : FnScope N ps sc) (cnt : ∀ vs H Q E, sp vs H Q E → vs.length = ps.length)
    (walk : ∀ (A : Around) (out : List Env) (s : Shared) (H : Hp) (vs : List V) (Q : VK) (E : XK), A.guards = some [] → Room k (A.deeper (envOfC qual sc s.heap.objs.size f cdv)) → sp vs H Q E →
      ∃ t, PSs (cxOf CX P w K mg base N qual sc f cdv A out s H E) body t ∧ t { nx := fun _ H' => Q .non H', rt := Q } (start N vs) H) :
    FnG P w K mg base CX (k + 1) f (PySem.W.fnOf nm qual pars body sc dV kV doc pm an cdv ct) ps sp := by
  constructor
  · exact cnt
  intro A out s H ar us vs Q E gd rm en bi va want
  have many := cnt vs H Q E want
  have stay : ∀ b o, base.get? b = some o → s.heap.get? b = some o := fun b o z => (en.bs b o z).1
  have inK : K.In s.heap := en.mod.kin.keeps stay
  apply codeAny_call_function rm.depth (inK _ _ lk) rfl Sc.co Sc.gen rfl (PySem.W.codeRec_of inK code)
  apply bi
  apply wpAny_newFunctionEnv_cells Sc.kind
  · rintro ⟨n, v⟩ hm
    cases Sc.par n (List.of_mem_zip hm).1 with
    | inl z => exact .inl z
    | inr z => exact .inr ⟨z, PySem.W.cellsFrom_some _ _ _ (.inl z)⟩
  · rintro env rfl s1 ic
    refine ⟨(en.mod.nolimit.keeps stay).keeps ic.toInCall.keep, codeAny_func ?_⟩
    obtain ⟨t, run, read⟩ := walk A out s H vs Q E gd (rm.deeper _) want
    have J0 : Inv (cxOf CX P w K mg base N qual sc f cdv A out s H E) [] (start N vs) H s1 := inv_start Sc rm.hd en many va ic
    have leave : ∀ (σ2 : L2.St) (H2 : Hp) (v2 : V) (u2 : Value) (s2 : Shared), Inv (cxOf CX P w K mg base N qual sc f cdv A out s H E) [] σ2 H2 s2 → RelV v2 u2 → Q v2 H2 → CE out P w H s Q u2 s2 :=
      fun σ2 H2 v2 u2 s2 J rv q => ⟨v2, H2, J.os, J.bare, J.base, J.hok, rv, q⟩
    refine wpAny_mono (run.run [] s1 (start N vs) H _ J0 read) (fun fl s2 => ?_) fun _ _ z => z
    cases fl with
    | next => rintro ⟨σ2, H2, J, q⟩; exact leave σ2 H2 .non .none s2 J rfl q
    | ret u => rintro ⟨v2, σ2, H2, J, rv, q⟩; exact leave σ2 H2 v2 u s2 J rv q
    | brk => rintro ⟨_, _, _, q⟩; exact q.elim
    | cont => rintro ⟨_, _, _, q⟩; exact q.elim
theorem okG {x qual : Str} {st : Stmt} {f : Addr} {fd : FuncData} {N ps : List Str} {k : Nat} {sp : Sp} (F : Fun K x qual st f fd) (Sc : FnScope N ps (defScope st)) (cnt : ∀ vs H Q E, sp vs H Q E → vs.length = ps.length)
    (walk : ∀ (cdv : Value) (A : Around) (out : List Env) (s : Shared) (H : Hp) (vs : List V) (Q : VK) (E : XK), A.guards = some [] → Room k (A.deeper (envOfC qual (defScope st) s.heap.objs.size f cdv)) → sp vs H Q E →
      ∃ t, PSs (cxOf CX0 P w K mg base N qual (defScope st) f cdv A out s H E).nox (defBody st) t ∧ t { nx := fun _ H' => Q .non H', rt := Q } (start N vs) H) : FnG P w K mg base CX0 (k + 1) f fd ps sp := by
  obtain ⟨_, _, _, _, _, _, cdv, _, _, rfl, lk, code⟩ := F.ex
  refine fnG_body lk code Sc cnt fun A out s H vs Q E gd rm want => ?_
  obtain ⟨t, run, read⟩ := walk cdv A out s H vs Q E gd rm want
  exact ⟨t, run.nox, read⟩
/-- .. under its name -/
structure CalG (P : Program) (w : World) (K : PySem.W.Frag) (mg : Str → Option Value) (base : Heap) (k : Nat) (x : Str) (sp : Sp) : Prop where
  ex : ∃ (f : Addr) (fd : FuncData) (ps : List Str), FnG P w K mg base CX0 k f fd ps sp ∧ mg x = some (.ref f) ∧ PySem.W.keepIn K (.ref f) = true ∧ Binds K fd ps []
theorem calG {x : Str} {st : Stmt} {N ps : List Str} {k : Nat} {sp : Sp} (d : DF K mg x st) (Sc : FnScope N ps (defScope st))
    (hb : ∀ (kV doc pm : Value) (an : Option Addr) (cdv ct : Value) (us : List Value), us.length = ps.length → bindArgs (PySem.W.fnOf x x (defArgs st) (defBody st) (defScope st) .none kV doc pm an cdv ct) ⟨us, []⟩ = pure (ps.zip us))
    (cnt : ∀ vs H Q E, sp vs H Q E → vs.length = ps.length)
    (walk : ∀ (f : Addr) (cdv : Value) (A : Around) (out : List Env) (s : Shared) (H : Hp) (vs : List V) (Q : VK) (E : XK), A.guards = some [] → Room k (A.deeper (envOfC x (defScope st) s.heap.objs.size f cdv)) → sp vs H Q E →
      ∃ t, PSs (cxOf CX0 P w K mg base N x (defScope st) f cdv A out s H E).nox (defBody st) t ∧ t { nx := fun _ H' => Q .non H', rt := Q } (start N vs) H) : CalG P w K mg base (k + 1) x sp := by
  obtain ⟨f, fd, F, hm⟩ := d.ex
  exact ⟨f, fd, ps, okG F Sc cnt (walk f), hm, F.kp, F.binds hb⟩
end
section
variable {X : Cx} {k j : Nat} {x : Str} {sp : Sp} {p pos : Pos} {e : Expr} {es : List Expr} {t : TA}
theorem pe_cG (c : CalG X.prog X.w X.K X.mg X.base k x sp) (gd : X.A.guards = some []) (hr : Room j X.A) (hk : k ≤ j) (hg : Gl X x) (ha : PA X (e :: es) t)
    (hdb : (x == ("__debug__" : Str)) = false := by decide) (he : starEach (e :: es) X.env = (false, eval e X.env) :: starEach es X.env := by rfl) (hpl : (backTo pos (starEach es X.env)).any (·.1) = false := by rfl) :
    PE X (.Call (.Name x p) (e :: es) [] pos) (tCall sp [] C8.E0 t) := by
  obtain ⟨f, fd, ps, F, hm, kp, b⟩ := c.ex
  constructor
  intro pins s σ H Q I h
  apply wpAny_Call_Name_kw (ld_glob I hg hm ?_ hdb)
  apply PySem.W.callWith_K (h₀ := X.base) I.ok.mod.kin kp (thn (ha.run pos pins s σ H _ I h) ?_) he hpl
  rintro us s1 ⟨vs, H1, I1, r, q⟩
  refine ⟨I1.kIn, ?_⟩
  rw [List.append_nil] at q
  have many := F.cnt _ _ _ _ q
  have lu : (us ++ []).length = ps.length := by rw [List.append_nil, ← r.length]; exact many
  have bd := b s1 us I1.kIn lu
  rw [List.append_nil] at bd
  apply wpAny_call
  apply codeAny_mono (F.go X.A X.stack s1 H1 ⟨us, []⟩ us vs Q C8.E0 gd (hr.mono hk) I1.env0 bd r q)
  intro res s2 hq
  match res, hq with
  | .ok (.ret u), hq => exact I1.after hq
  | .ok .next, hq => exact hq.elim
  | .ok .brk, hq => exact hq.elim
  | .ok .cont, hq => exact hq.elim
  | .error _, hq => exact hq.elim
end
/-! ### repr of data -/
def zRepr (K : PySem.W.Frag) : List V → Hp → VK → Prop := fun xs H Q => ∃ v d, xs = [v] ∧ Dp K H v d ∧ d.showable = true ∧ d.hasDict = false ∧ d.shown.length ≤ sizeLine ∧ d.depth ≤ 50 ∧ Q (.str d.shown) H
theorem zc_repr {X : Cx} (gd : X.A.guards = some []) (hu : X.A.units + 64 < cLine) : CallR X (.builtin "repr") (zRepr X.K) := by
  intro pins s σ H xs us Q I r h
  obtain ⟨v, d, rfl, hd, sh, nd, sz, dp, q⟩ := h
  obtain ⟨u, rfl, ru⟩ := vals1 r
  obtain ⟨as, rd⟩ := Dp.reads I d v u hd ru
  cases d with
  | none =>
    cases rd
    exact PySem.P.repr_of_none ⟨.str _, H, I.tok _, ⟨_, rfl⟩, q⟩
  | bool b =>
    cases rd
    exact PySem.P.repr_of_bool ⟨.str _, H, I.tok _, ⟨_, rfl⟩, q⟩
  | int i =>
    cases rd
    exact PySem.P.repr_of_int (by simpa [PyData.showable] using sh) ⟨.str _, H, I.tok _, ⟨_, rfl⟩, q⟩
  | str x =>
    cases rd
    exact PySem.P.repr_of_str ⟨.str _, H, I.tok _, ⟨_, rfl⟩, q⟩ sz
  | list ds =>
    obtain ⟨a, rfl⟩ : ∃ a, u = .ref a := by cases rd; exact ⟨_, rfl⟩
    exact repr_of_reads' rd sh (fun z => by rw [nd] at z; cases z) gd (by omega) (fun _ _ e => e) (fun h' u tk k => ⟨.str _, H, I.kept (t' := tk) k, ⟨_, rfl⟩, q⟩) sz
  | tuple ds =>
    obtain ⟨a, rfl⟩ : ∃ a, u = .ref a := by cases rd; exact ⟨_, rfl⟩
    exact repr_of_reads' rd sh (fun z => by rw [nd] at z; cases z) gd (by omega) (fun _ _ e => e) (fun h' u tk k => ⟨.str _, H, I.kept (t' := tk) k, ⟨_, rfl⟩, q⟩) sz
  | dict kv => cases hd
theorem i_repr {K : PySem.W.Frag} {H : Hp} {Q : VK} {v : V} {d : PyData} (h : Dp K H v d) (h1 : d.showable = true) (h2 : d.hasDict = false) (h3 : d.shown.length ≤ 100000) (h4 : d.depth ≤ 50) (q : Q (.str d.shown) H) : zRepr K [v] H Q := ⟨v, d, rfl, h, h1, h2, le_line h3, h4, q⟩
/-! ### the head for a law that shows data -/
theorem law_callG {P : Program} {w : World} {K : PySem.W.Frag} {mg mb : Str → Option Value} {k : Nat} {fa a : Addr} {fd : FuncData} {x : Str} {s₁ : Shared} {vs : List Value} {ns : List Int}
    (KX : K.In s₁.heap) (gns : s₁.heap.Ns mainGlobals mg) (bns : s₁.heap.Ns builtinsNs mb) (boot : ∀ x : Str, x ≠ "__name__" → mb x = bootBuiltins x) (lim : s₁.heap.NoLimit) (gens : s₁.gens = #[])
    (scr : s₁.heap.get? a = some { cls := .type "list", data := .seq vs.toArray }) (itg : IntsAre vs ns) (l63 : ns.length ≤ 63) (rm : Room k callerA)
    (F : ∀ base : Heap, K.In base → base.Ns mainGlobals mg → FnG P w K mg base CX0 k fa fd [x] (spLaw K)) (bind : ∀ (s : Shared) (u : Value), BindsTo s fd ⟨[u], []⟩ [(x, u)]) :
    codeAny (model P w) callerA (.call (.ref fa) ⟨[.ref a], []⟩) (fun r s' => r = .ok (.ret (.bool true)) ∧ OldK s₁.heap s'.heap ∧ s'.os = s₁.os ∧ AllBare s'.gens) s₁ := by
  have lsz : ns.length ≤ sizeLine := Nat.le_trans l63 (by decide)
  have vals := vals_ints itg
  have vlen := itg.length
  suffices core : ∀ H : Hp, (∀ b o, H b = some o → b = a ∧ o = .frz { cls := .type "list", data := .seq vs.toArray } (.lst (ns.map V.int))) → SqL K H a (ns.map V.int) → HOk P w H s₁.heap → (∀ o, H a = some o → K.lookup a = none) →
      codeAny (model P w) callerA (.call (.ref fa) ⟨[.ref a], []⟩) (fun r s' => r = .ok (.ret (.bool true)) ∧ OldK s₁.heap s'.heap ∧ s'.os = s₁.os ∧ AllBare s'.gens) s₁ by
    cases hk : K.lookup a with
    | some o =>
      have z := KX a o hk
      rw [scr] at z
      cases z
      exact core (fun _ => none) (fun _ _ z => by cases z) (.inr ⟨_, vs.toArray, _, hk, rfl, rfl, rfl, by rw [List.size_toArray, vlen]; exact lsz, by simpa using vals⟩) (fun _ _ z => by cases (z : (none : Option HO) = some _)) (fun _ z => by cases z)
    | none =>
      let o0 : HO := .frz { cls := .type "list", data := .seq vs.toArray } (.lst (ns.map V.int))
      have at_a : (fun b => if b = a then some o0 else none : Hp) a = some o0 := if_pos rfl
      have only : ∀ b o, (fun b => if b = a then some o0 else none : Hp) b = some o → b = a ∧ o = o0 := fun b o z => by
        by_cases q : b = a
        · have z2 := (if_pos q).symm.trans z
          exact ⟨q, (Option.some.inj z2).symm⟩
        · have z2 := (if_neg q).symm.trans z
          cases z2
      refine core _ only (.inl (.inr ⟨_, at_a⟩)) (fun b o z => ?_) fun _ _ => hk
      obtain ⟨rfl, rfl⟩ := only b o z
      exact ⟨scr, by rw [List.length_map]; exact lsz, vs, _, vals, scr⟩
  intro H only sq ok unk
  have tracked : ∀ {b : Addr}, b ≠ a → H b = none := fun {b} n => by
    cases z : H b with
    | none => rfl
    | some o => exact absurd (only b o z).1 n
  have notd : ∀ {b : Addr} {ob : Obj} {es : Array DictEntry} {ep : Nat}, s₁.heap.get? b = some ob → ob.data = .dict es ep → H b = none := fun {b ob es ep} g dd => tracked fun q => by
    subst q
    rw [scr] at g
    cases g
    cases (dd : Data.seq vs.toArray _ = Data.dict es ep)
  have seen : ∀ {b : Addr} {ob : Obj}, s₁.heap.get? b = some ob → H b = none → (hidT s₁.heap H).get? b = some ob := fun g n => hidT_get g n
  have ns2 : ∀ {b : Addr} {m : Str → Option Value}, s₁.heap.Ns b m → (hidT s₁.heap H).Ns b m := fun {b m} ⟨ob, es, ep, g, dd, rest⟩ => ⟨ob, es, ep, seen g (notd g dd), dd, rest⟩
  have inB : K.In (hidT s₁.heap H) := fun b ob g => seen (KX b ob g) (by
    cases z : H b with
    | none => rfl
    | some o =>
      obtain ⟨rfl, _⟩ := only b o z
      rw [unk o z] at g; cases g)
  have md : Mod K mg (hidT s₁.heap H) := ⟨inB, ns2 gns, ⟨mb, ns2 bns, boot⟩, let ⟨mc, c1, c2⟩ := lim; ⟨mc, ns2 c1, c2⟩⟩
  have en : Env0 P w K mg (hidT s₁.heap H) callerA [] s₁ H := ⟨rfl, md, fun _ _ g => of_hidT g, Nat.le_of_eq (hidT_size _ _), trivial, (fun b hb => by cases hb), ok, .of_eq gens⟩
  have run := (F _ inB (ns2 gns)).go callerA [] s₁ H ⟨[.ref a], []⟩ [.ref a] [.ref a] (fun v _ => v = .bl true) (fun _ _ _ => False) rfl rm en (bind s₁ (.ref a)) (.cons rfl .nil) ⟨a, ns, rfl, sq, l63, fun _ => rfl⟩
  refine codeAny_mono run fun r s' h => ?_
  match r, h with
  | .error _, h => exact h.elim
  | .ok .next, h => exact h.elim
  | .ok .brk, h => exact h.elim
  | .ok .cont, h => exact h.elim
  | .ok (.ret u), h =>
    obtain ⟨v, H', os, bare, un, ok', rv, rfl⟩ := h
    obtain rfl : u = Value.bool true := rv
    refine ⟨rfl, OldK.of_keep fun b ob g => ?_, os, bare⟩
    cases z : H b with
    | none => exact un.keep b ob g z (fun q => by cases q) (fun q => by cases q)
    | some o =>
      obtain ⟨rfl, rfl⟩ := only b o z
      obtain ⟨g1, _⟩ := ok b _ z
      obtain ⟨g2, _⟩ := ok' b _ (un.frzs b _ _ z)
      rw [g] at g1; cases g1
      exact g2
theorem walk_G {l : PySem.W.OpenLaw} {k : Nat} {q : Program} {loose : List Str} {XP : (Str → Option Value) → Heap → Prop} {YP : World → Heap → Prop} {d : DefRec} {K : Params → PySem.W.Frag} {x : Str}
    (hn : l.most = some 63) (hdf : d.params.defaults = []) (rm : Room k callerA) (hY : ∀ (w : World) (h : Heap), YP w h → (K w.params).In h)
    (F : ∀ (w : World) (mg : Str → Option Value) (fa : Addr) (h : Heap), (K w.params).In h → h.Ns mainGlobals mg → mg d.name = some (.ref fa) →
      ∃ fd : FuncData, (∀ (s : Shared) (u : Value), BindsTo s fd ⟨[u], []⟩ [(x, u)]) ∧ ∀ base : Heap, (K w.params).In base → base.Ns mainGlobals mg → FnG l.prog w (K w.params) mg base CX0 k fa fd [x] (spLaw (K w.params))) :
    PySem.W.WalkO q loose XP YP l.row.toRowW d [] (fun f vs => PySem.call f vs) := by
  refine Att.attach_call hn hdf fun w s₀ s₁ mg mb fa o pm cd doc a vs ns G Y ho hd hcd hmg hobj hints hlen hg => ?_
  obtain ⟨fd, bind, run⟩ := F w mg fa _ (hY w _ Y) G.T.g hmg
  exact law_callG (hY w _ Y) G.T.g G.T.b G.T.builtins G.T.nolimit hg hobj hints hlen rm run bind
end Y

namespace Y
open PySem PySem.Spec PyProof.Rows L2 Z
open C8 (tCut pss_cut Cal pe_c Met pe_mt pe_mt0 Mak pe_mk)
abbrev s_is_integer : Stmt := topS 4
abbrev n_is_integer : List Str := ["thing"]
theorem sc_is_integer : FnScope n_is_integer ["thing"] (defScope s_is_integer) := ⟨rfl, rfl, rfl, by decide +kernel, rfl, by decide +kernel, by decide +kernel⟩

abbrev s_is_between : Stmt := topS 5
abbrev n_is_between : List Str := ["thing", "low", "high"]
theorem sc_is_between : FnScope n_is_between ["thing", "low", "high"] (defScope s_is_between) := ⟨rfl, rfl, rfl, by decide +kernel, rfl, by decide +kernel, by decide +kernel⟩

abbrev s_is_ascending : Stmt := topS 6
abbrev n_is_ascending : List Str := ["row", "one", "other"]
theorem sc_is_ascending : FnScope n_is_ascending ["row"] (defScope s_is_ascending) := ⟨rfl, rfl, rfl, by decide +kernel, rfl, by decide +kernel, by decide +kernel⟩

abbrev s_is_letters : Stmt := topS 7
abbrev n_is_letters : List Str := ["thing", "sign"]
theorem sc_is_letters : FnScope n_is_letters ["thing"] (defScope s_is_letters) := ⟨rfl, rfl, rfl, by decide +kernel, rfl, by decide +kernel, by decide +kernel⟩


def isInt : PyData → Bool
  | .int _ => true
  | _ => false
def btw (lo hi : Int) : PyData → Bool
  | .int i => decide (lo ≤ i) && decide (i ≤ hi)
  | _ => false
def isLetters : PyData → Bool
  | .str w => (decide (1 ≤ (codes w).length) && decide ((codes w).length ≤ 4)) && ((codes w).all (fun c => decide (97 ≤ c) && decide (c ≤ 122)) && decide ((codes w).Pairwise (· < ·)))
  | _ => false
def isWord (l : List Nat) : PyData → Bool
  | .str w => (codes w).all fun c => decide (c ∈ l)
  | _ => false
theorem isWord_str {l : List Nat} {d : PyData} (h : isWord l d = true) : isTy d "str" = true := by
  cases d <;> first | (simp [isWord] at h; done) | rfl
def lenD : PyData → Nat
  | .str w => (codes w).length
  | .list l => l.length
  | .tuple l => l.length
  | _ => 0
def isLetter (l : List Nat) (d : PyData) : Bool := isWord l d && decide (lenD d = 1)
def ascD : PyData → Bool
  | .str w => decide ((codes w).Pairwise (· < ·))
  | _ => false
def isChoice (l : List Nat) (d : PyData) : Bool := isWord l d && ascD d
/-- what is handed in is short enough -/
def Sml : PyData → Prop
  | .str w => (codes w).length ≤ 90000
  | .list l => l.length ≤ 90000
  | .tuple l => l.length ≤ 90000
  | _ => True
def spIsInteger : Sp := fun vs H Q _ => ∃ x d, vs = [x] ∧ Rp N0 H x d ∧ ∀ H', Same H H' → Q (.bl (isInt d)) H'
def spIsBetween : Sp := fun vs H Q _ => ∃ x d lo hi, vs = [x, .int lo, .int hi] ∧ Rp N0 H x d ∧ ∀ H', Same H H' → Q (.bl (btw lo hi d)) H'
def spIsAscending : Sp := fun vs H Q _ => ∃ x, vs = [x] ∧ ((∃ l : List Nat, x = .str (S l) ∧ l.length ≤ 90000 ∧ ∀ H', Same H H' → Q (.bl (decide (l.Pairwise (· < ·)))) H') ∨
  ∃ (a : Addr) (ns : List Int), x = .ref a ∧ H a = some (.tup (ns.map V.int)) ∧ ns.length ≤ 90000 ∧ ∀ H', Same H H' → Q (.bl (decide (ns.Pairwise (· < ·)))) H')
def spIsLetters : Sp := fun vs H Q _ => ∃ x d, vs = [x] ∧ Rp N0 H x d ∧ Sml d ∧ ∀ H', Same H H' → Q (.bl (isLetters d)) H'
def spIsWord : Sp := fun vs H Q _ => ∃ (l : List Nat) (x : V) (d : PyData), vs = [.str (S l), x] ∧ Rp N0 H x d ∧ Sml d ∧ ∀ H', Same H H' → Q (.bl (isWord l d)) H'
def spIsLetter : Sp := fun vs H Q _ => ∃ (l : List Nat) (x : V) (d : PyData), vs = [.str (S l), x] ∧ Rp N0 H x d ∧ Sml d ∧ ∀ H', Same H H' → Q (.bl (isLetter l d)) H'
def spIsChoice : Sp := fun vs H Q _ => ∃ (l : List Nat) (x : V) (d : PyData), vs = [.str (S l), x] ∧ Rp N0 H x d ∧ Sml d ∧ ∀ H', Same H H' → Q (.bl (isChoice l d)) H'
section
variable {P : Program} {w : World} {K : PySem.W.Frag} {mg : Str → Option Value} {base : Heap}
theorem c_is_integer (d : DF K mg "is_integer" s_is_integer) (B : Bi mg) : Cal P w K mg base 1 "is_integer" spIsInteger [] := by
  refine d.cal (N := n_is_integer) sc_is_integer (fun _ _ _ _ _ _ us hl => match us, hl with | [_], _ => rfl) (fun vs H Q E h => ?_) (fun f cdv A outer s H vs Q E hr h => ?_)
  · obtain ⟨x, d, rfl, _⟩ := h
    rfl
  · obtain ⟨x, d, rfl, r, k⟩ := h
    refine ⟨_, (pss_one (ps_ret (pe_and (pe_callB (r := zIsi K) zc_isi (by rfl) B.isinstance (by decide +kernel) (pa_cons (pv 0) (pa_cons (pe_bltn (by rfl) B.int (by decide +kernel) (rel_ty "int")) pa_nil))) (pe_one (pe_not (pe_callB (r := zIsi K) zc_isi (by rfl) B.isinstance (by decide +kernel) (pa_cons (pv 0) (pa_cons (pe_bltn (by rfl) B.bool (by decide +kernel) (rel_ty "bool")) pa_nil)))))))), ?_⟩
    refine zstart [some (x)] rfl ?_; try dsimp only [zK, zK2]
    walk_at "zz"
    refine i_isi r (by decide) ?_
    walk_at "zz"
    refine brb (fun hb => ?_) fun hb => ?_
    · walk_at "zz"
      refine i_isi r (by decide) ?_
      walk_at "zz"
      have e : isInt d = !isTy d "bool" := by cases r <;> first | rfl | (simp [isTy, tyN, isInt] at hb)
      rw [← e]
      exact k _ (Same.refl _)
    · walk_at "zz"
      have e : isInt d = false := by cases r <;> first | rfl | (simp [isTy, tyN, isInt] at hb)
      rw [← e]
      exact k _ (Same.refl _)
theorem c_is_between (d : DF K mg "is_between" s_is_between) (B : Bi mg) (c_is_integer : Cal P w K mg base 1 "is_integer" spIsInteger []) : Cal P w K mg base 2 "is_between" spIsBetween [] := by
  refine d.cal (N := n_is_between) sc_is_between (fun _ _ _ _ _ _ us hl => match us, hl with | [_, _, _], _ => rfl) (fun vs H Q E h => ?_) (fun f cdv A outer s H vs Q E hr h => ?_)
  · obtain ⟨x, d, lo, hi, rfl, _⟩ := h
    rfl
  · obtain ⟨x, d, lo, hi, rfl, r, k⟩ := h
    refine ⟨_, (pss_one (ps_ret (pe_and (pe_c c_is_integer hr (by first | decide | omega) rfl (pa_cons (pv 0) pa_nil)) (pe_one (pe_chain z_le z_le (pv 1) (pv 0) (pv 2)))))), ?_⟩
    refine zstart [some (x), some (.int lo), some (.int hi)] rfl ?_; try dsimp only [zK, zK2]
    walk_at "zz"
    refine ⟨x, d, rfl, r, fun H1 s1 => ?_⟩
    walk_at "zz"
    refine brb (fun hb => ?_) fun hb => ?_
    · cases r with
      | int i =>
        walk_at "zz"
        refine brd (fun h1 => ?_) fun h1 => ?_
        · walk_at "zz"
          have e : btw lo hi (.int i) = decide (i ≤ hi) := by show (decide (lo ≤ i) && _) = _; rw [decide_eq_true h1, Bool.true_and]
          rw [← e]
          exact k _ s1
        · walk_at "zz"
          have e : btw lo hi (.int i) = false := by show (decide (lo ≤ i) && _) = _; rw [decide_eq_false h1, Bool.false_and]
          rw [← e]
          exact k _ s1
      | _ => simp [isInt] at hb
    · walk_at "zz"
      have e : btw lo hi d = false := by cases r <;> first | rfl | (simp [isTy, tyN, isInt] at hb)
      rw [← e]
      exact k _ s1
theorem c_is_ascending (d : DF K mg "is_ascending" s_is_ascending) (B : Bi mg) : Cal P w K mg base 1 "is_ascending" spIsAscending [] := by
  refine d.cal (N := n_is_ascending) sc_is_ascending (fun _ _ _ _ _ _ us hl => match us, hl with | [_], _ => rfl) (fun vs H Q E h => ?_) (fun f cdv A outer s H vs Q E hr h => ?_)
  · obtain ⟨x, rfl, _⟩ := h
    rfl
  · obtain ⟨x, rfl, h⟩ := h
    refine ⟨_, (pss_one (ps_ret (pe_callB (r := zAll K) (zc_all rfl) (by rfl) B.all (by decide +kernel) (pa_cons (pe_lc (own := [("one", 1), ("other", 2)]) (g := (gTup _ 2 (gCons (gName 1) (gCons (gName 2) gNil)))) (tt := tYes) (by rfl) sc_is_ascending.nd (pi_zipZ rfl B.zip (pa_cons (pv 0) (pa_cons (pe_slice (r := zSlA K) sl_A (pv 0) (po_some pe_int) po_none) pa_nil))) (blkOk_by (N := n_is_ascending) (sc := defScope s_is_ascending) (by decide +kernel)) (fun _ _ _ _ _ => (pg_tup rfl (pgs_cons (pg_name (i := 1) sc_is_ascending.nd rfl (by first | exact Or.inl rfl | exact Or.inr rfl)) (pgs_cons (pg_name (i := 2) sc_is_ascending.nd rfl (by first | exact Or.inl rfl | exact Or.inr rfl)) pgs_nil)))) (fun _ _ _ _ _ => pts_nil) (fun _ _ _ _ _ => (pe_cmpR z_ltA (pv 1) (pv 2) (nomark _)))) pa_nil)))), ?_⟩
    refine zstart [some (x), none, none] rfl ?_; try dsimp only [zK, zK2]
    walk_at "zz"
    rcases h with ⟨l, rfl, hl, k⟩ | ⟨a, ns, rfl, ha, hl, k⟩
    · refine .inl (i_slFrom (n := 1) (by omega) ?_)
      walk_at "zz"
      refine i_KZ (.str (S l)) (.str (S (l.drop 1))) rfl rfl rfl rfl fun Dl hD => ?_
      refine l_zipmap hD [some (.str (S l)), none, none] rfl (fun _ _ => rfl) (fun _ _ => rfl) (fun _ _ => rfl) (by rw [List.length_map]; have : (codes (S l)).length = l.length := rfl; omega) (fun x y => .bl (decide (chr1 x < chr1 y))) (fun x y H1 P hx hy s1 hP => ?_) fun H1 s1 e => ?_
      · obtain ⟨c, hc, rfl⟩ := List.mem_map.mp hx
        obtain ⟨c2, hc2, rfl⟩ := List.mem_map.mp hy
        refine zte [some (.str (S l)), some (.str (S [c])), some (.str (S [c2]))] rfl ?_
        walk_at "zz"
        rw [one_lt]
        exact hP _ (Same.refl _)
      · walk_at "zz"
        rw [zip_map (fun c => V.str (S [c])) (fun c => V.str (S [c])) (fun x y => V.bl (decide (chr1 x < chr1 y))) (fun c c2 => V.bl (decide (c < c2))) (fun _ _ => rfl)] at e
        refine i_all (bs := (l.zip (l.drop 1)).map fun p => decide (p.1 < p.2)) (SqL.of (by rw [List.map_map]; exact e)) ?_
        rw [adj_all (fun a b => decide (a < b)), adj_asc]
        exact k _ s1
    · refine .inr (.inl (i_slTA ha fun p H0 s0 hp => ?_))
      walk_at "zz"
      rw [show (1 : Int) = ((1 : Nat) : Int) from rfl, cutV_from, ← List.map_drop] at hp
      have ha0 := s0 _ _ ha
      refine i_KZ (.tup a) (.tup p) rfl rfl (SqT.of ha0) (SqT.of hp) fun Dl hD => ?_
      refine l_zipmap hD [some (.ref a), none, none] rfl (fun _ _ => rfl) (fun H1 s1 => SqT.of (s1 _ _ ha0)) (fun H1 s1 => SqT.of (s1 _ _ hp)) (by rw [List.length_map]; omega) (fun x y => .bl (decide (int1 x < int1 y))) (fun x y H1 P hx hy s1 hP => ?_) fun H1 s1 e => ?_
      · obtain ⟨c, hc, rfl⟩ := List.mem_map.mp hx
        obtain ⟨c2, hc2, rfl⟩ := List.mem_map.mp hy
        refine zte [some (.ref a), some (.int c), some (.int c2)] rfl ?_
        walk_at "zz"
        exact hP _ (Same.refl _)
      · walk_at "zz"
        rw [zip_map V.int V.int (fun x y => V.bl (decide (int1 x < int1 y))) (fun c c2 => V.bl (decide (c < c2))) (fun _ _ => rfl)] at e
        refine i_all (bs := (ns.zip (ns.drop 1)).map fun p => decide (p.1 < p.2)) (SqL.of (by rw [List.map_map]; exact e)) ?_
        rw [adj_all (fun a b => decide (a < b)), adj_ascI]
        exact k _ (s0.trans s1)
theorem c_is_letters (d : DF K mg "is_letters" s_is_letters) (B : Bi mg) (c_is_ascending : Cal P w K mg base 1 "is_ascending" spIsAscending []) : Cal P w K mg base 2 "is_letters" spIsLetters [] := by
  refine d.cal (N := n_is_letters) sc_is_letters (fun _ _ _ _ _ _ us hl => match us, hl with | [_], _ => rfl) (fun vs H Q E h => ?_) (fun f cdv A outer s H vs Q E hr h => ?_)
  · obtain ⟨x, d, rfl, _⟩ := h
    rfl
  · obtain ⟨x, d, rfl, r, sm, k⟩ := h
    refine ⟨_, (pss_cons (ps_if (PW.pt (pw_or (pt_not (pt_val (pe_callB (r := zIsi K) zc_isi (by rfl) B.isinstance (by decide +kernel) (pa_cons (pv 0) (pa_cons (pe_bltn (by rfl) B.str (by decide +kernel) (rel_ty "str")) pa_nil))))) (pw_or1 (pt_not (pt_chain z_le z_le pe_int (pe_callB zc_lens (by rfl) B.len (by decide +kernel) (pa_cons (pv 0) pa_nil)) pe_int))))) (pss_one (ps_ret pe_bl)) pss_nil)
  (pss_one (ps_ret (pe_and (pe_callB (r := zAll K) (zc_all rfl) (by rfl) B.all (by decide +kernel) (pa_cons (pe_lc (own := [("sign", 1)]) (g := gName 1) (tt := tYes) (by rfl) sc_is_letters.nd (pi_str (pv 0)) (blkOk_by (N := n_is_letters) (sc := defScope s_is_letters) (by decide +kernel)) (fun _ _ _ _ _ => (pg_name (i := 1) sc_is_letters.nd rfl (by first | exact Or.inl rfl | exact Or.inr rfl))) (fun _ _ _ _ _ => pts_nil) (fun _ _ _ _ _ => (pe_chain z_les z_les pe_str (pv 1) pe_str))) pa_nil)) (pe_one (pe_c c_is_ascending hr (by first | decide | omega) rfl (pa_cons (pv 0) pa_nil))))))), ?_⟩
    refine zstart [some (x), none] rfl ?_; try dsimp only [zK, zK2]
    walk_at "zz"
    refine i_isi r (by decide) ?_
    walk_at "zz"
    refine brnb (fun hb => ?_) fun hb => ?_
    · walk_at "zz"
      have e : isLetters d = false := by cases r <;> first | rfl | (simp [isTy, tyN] at hb)
      rw [← e]
      exact k _ (Same.refl _)
    · obtain ⟨l, rfl, rfl⟩ := r.isStr hb
      have hl : l.length ≤ 90000 := sm
      walk_at "zz"
      refine brd (fun h1 => ?_) fun h1 => ?_
      · walk_at "zz"
        refine brn (fun h2 => ?_) fun h2 => ?_
        · walk_at "zz"
          have e : isLetters (.str (S l)) = false := by
            show ((decide (1 ≤ l.length) && decide (l.length ≤ 4)) && _) = false
            rw [decide_eq_false (show ¬ l.length ≤ 4 by omega), Bool.and_false, Bool.false_and]
          rw [← e]
          exact k _ (Same.refl _)
        · walk_at "zz"
          refine fun Dl hD => ?_
          refine l_mapS hD [some (.str (S l)), none] rfl (fun _ => rfl) (by omega) (fun c => .bl (decide (97 ≤ c) && decide (c ≤ 122))) (fun c H1 P hc s1 hP => ?_) fun H1 s1 e => ?_
          · refine zte [some (.str (S l)), some (.str (S [c]))] rfl ?_
            walk_at "zz"
            rw [show codes (PySem.Str.ofString "a") = [97] from by decide +kernel, one_lt']
            refine brd (fun h3 => ?_) fun h3 => ?_
            · walk_at "zz"
              rw [show codes (PySem.Str.ofString "z") = [122] from by decide +kernel, one_lt']
              have e : decide (c ≤ 122) = (decide (97 ≤ c) && decide (c ≤ 122)) := by rw [decide_eq_true h3, Bool.true_and]
              rw [e]
              exact hP _ (Same.refl _)
            · walk_at "zz"
              have e : false = (decide (97 ≤ c) && decide (c ≤ 122)) := by rw [decide_eq_false h3, Bool.false_and]
              rw [e]
              exact hP _ (Same.refl _)
          · walk_at "zz"
            refine i_all (bs := l.map fun c => decide (97 ≤ c) && decide (c ≤ 122)) (SqL.of (by rw [List.map_map]; exact e)) ?_
            rw [List.all_map]
            walk_at "zz"
            have e0 : isLetters (.str (S l)) = (l.all (fun c => decide (97 ≤ c) && decide (c ≤ 122)) && decide (l.Pairwise (· < ·))) := by
              show ((decide (1 ≤ l.length) && decide (l.length ≤ 4)) && _) = _
              rw [decide_eq_true (show 1 ≤ l.length by omega), decide_eq_true (show l.length ≤ 4 by omega)]; rfl
            refine brb (fun h4 => ?_) fun h4 => ?_
            · have h4 : l.all (fun c => decide (97 ≤ c) && decide (c ≤ 122)) = true := h4
              walk_at "zz"
              refine ⟨_, rfl, .inl ⟨l, rfl, hl, fun H2 s2 => ?_⟩⟩
              rw [h4, Bool.true_and] at e0
              rw [← e0]
              exact k _ (s1.trans s2)
            · have h4 : l.all (fun c => decide (97 ≤ c) && decide (c ≤ 122)) = false := h4
              walk_at "zz"
              rw [h4, Bool.false_and] at e0
              rw [← e0]
              exact k _ s1
      · walk_at "zz"
        have e : isLetters (.str (S l)) = false := by
          show ((decide (1 ≤ l.length) && decide (l.length ≤ 4)) && _) = false
          rw [decide_eq_false (show ¬ 1 ≤ l.length by omega), Bool.false_and, Bool.false_and]
        rw [← e]
        exact k _ (Same.refl _)
end
end Y

namespace Y
open PySem PySem.Spec PyProof.Rows L2 Z
open C8 (tCut pss_cut Cal pe_c Met pe_mt pe_mt0 Mak pe_mk)
abbrev s__is_states : Stmt := topS 12
abbrev n__is_states : List Str := ["thing", "many", "state"]
theorem sc__is_states : FnScope n__is_states ["thing", "many"] (defScope s__is_states) := ⟨rfl, rfl, rfl, by decide +kernel, rfl, by decide +kernel, by decide +kernel⟩

abbrev s__is_table : Stmt := topS 10
abbrev n__is_table : List Str := ["thing", "width", "row"]
theorem sc__is_table : FnScope n__is_table ["thing", "width"] (defScope s__is_table) := ⟨rfl, rfl, rfl, by decide +kernel, rfl, by decide +kernel, by decide +kernel⟩

abbrev s__is_accepts : Stmt := topS 11
abbrev n__is_accepts : List Str := ["thing", "many"]
theorem sc__is_accepts : FnScope n__is_accepts ["thing", "many"] (defScope s__is_accepts) := ⟨rfl, rfl, rfl, by decide +kernel, rfl, by decide +kernel, by decide +kernel⟩

abbrev s_Machine___init__ : Stmt := inClass (topS 9) 0
abbrev n_Machine___init__ : List Str := ["self", "letters", "table", "accepts"]
theorem sc_Machine___init__ : FnScope n_Machine___init__ ["self", "letters", "table", "accepts"] (defScope s_Machine___init__) := ⟨rfl, rfl, rfl, by decide +kernel, rfl, by decide +kernel, by decide +kernel⟩

abbrev s_Machine_letters : Stmt := inClass (topS 9) 1
abbrev n_Machine_letters : List Str := ["self"]
theorem sc_Machine_letters : FnScope n_Machine_letters ["self"] (defScope s_Machine_letters) := ⟨rfl, rfl, rfl, by decide +kernel, rfl, by decide +kernel, by decide +kernel⟩

abbrev s_Machine_table : Stmt := inClass (topS 9) 2
abbrev n_Machine_table : List Str := ["self"]
theorem sc_Machine_table : FnScope n_Machine_table ["self"] (defScope s_Machine_table) := ⟨rfl, rfl, rfl, by decide +kernel, rfl, by decide +kernel, by decide +kernel⟩

abbrev s_Machine_accepts : Stmt := inClass (topS 9) 3
abbrev n_Machine_accepts : List Str := ["self"]
theorem sc_Machine_accepts : FnScope n_Machine_accepts ["self"] (defScope s_Machine_accepts) := ⟨rfl, rfl, rfl, by decide +kernel, rfl, by decide +kernel, by decide +kernel⟩



/-- numbers as values and as data -/
def ivs (l : List Nat) : List V := l.map fun x : Nat => V.int (x : Int)
def ids (l : List Nat) : List PyData := l.map fun x : Nat => PyData.int (x : Int)
def rowD (l : List Nat) : PyData := .tuple (ids l)
def tabD (t : List (List Nat)) : PyData := .tuple (t.map rowD)
def Ltrs (l : List Nat) : Prop := l.Pairwise (· < ·) ∧ (∀ c ∈ l, 97 ≤ c ∧ c ≤ 122) ∧ 1 ≤ l.length ∧ l.length ≤ 4
/-- the parts of a machine -/
structure Parts (L : List Nat) (t : List (List Nat)) (a : List Nat) : Prop where
  ltr : Ltrs L
  lo : 1 ≤ t.length
  hi : t.length ≤ 6
  row : ∀ r ∈ t, r.length = L.length ∧ ∀ x ∈ r, x < t.length
  acc : a.Pairwise (· < ·)
  acs : ∀ x ∈ a, x < t.length
theorem ids_rp {N : Addr → Prop} {H : Hp} : ∀ {l : List Nat} {vs : List V}, RpAll N H vs (ids l) → vs = ivs l
  | [], _, r => by rw [RpAll.nilS r]; rfl
  | x :: l, _, r => by
    obtain ⟨v, ws, rfl, r1, r2⟩ := RpAll.consS r
    rw [r1.intS, ids_rp r2]; rfl
theorem ids_of {N : Addr → Prop} {H : Hp} : ∀ (l : List Nat), RpAll N H (ivs l) (ids l)
  | [] => .nil
  | _ :: l => .cons (.int _) (ids_of l)
theorem rowD_rp {N : Addr → Prop} {H : Hp} {v : V} {l : List Nat} (r : Rp N H v (rowD l)) : ∃ p, v = .ref p ∧ H p = some (.tup (ivs l)) ∧ ¬ N p := by
  obtain ⟨p, xs, rfl, e, n, ra⟩ := Rp.tupS r
  rw [ids_rp ra] at e
  exact ⟨p, rfl, e, n⟩
/-- a machine at m -/
structure IsM (K : PySem.W.Frag) (H : Hp) (C m : Addr) (L : List Nat) (t : List (List Nat)) (a : List Nat) : Prop where
  ex : ∃ (dx : Addr) (vt va : V), H m = some (.ins C dx [("_letters", .str (S L)), ("_table", vt), ("_accepts", va)]) ∧ Rp N0 H vt (tabD t) ∧ Rp N0 H va (rowD a)
theorem IsM.same {K : PySem.W.Frag} {H H' : Hp} {C m : Addr} {L : List Nat} {t : List (List Nat)} {a : List Nat} (s : Same H H') (h : IsM K H C m L t a) : IsM K H' C m L t a := by
  obtain ⟨dx, vt, va, e, r1, r2⟩ := h.ex
  exact ⟨dx, vt, va, s _ _ e, r1.same s, r2.same s⟩
/-- a method of the class at C -/
structure MF (K : PySem.W.Frag) (C : Addr) (m qual : Str) (st : Stmt) : Prop where
  ex : ∃ (f : Addr) (fd : FuncData), Fun K m qual st f fd ∧ PySem.W.findIn K (.ref C) m = some (some (.ref f)) ∧ PySem.W.isFn K (.ref f) = true
section
variable {P : Program} {w : World} {K : PySem.W.Frag} {mg : Str → Option Value} {base : Heap}
theorem met {m qual : Str} {st : Stmt} {C : Addr} {N ps : List Str} {k : Nat} {sp : Sp} (d : MF K C m qual st) (c : Cls K C) (Sc : FnScope N ps (defScope st))
    (hb : ∀ (kV doc pm : Value) (an : Option Addr) (cdv ct : Value) (us : List Value), us.length = ps.length → bindArgs (PySem.W.fnOf m qual (defArgs st) (defBody st) (defScope st) .none kV doc pm an cdv ct) ⟨us, []⟩ = pure (ps.zip us))
    (len : ∀ vs H Q E, sp vs H Q E → vs.length = ps.length)
    (hbody : ∀ (f : Addr) (cdv : Value) (A : Around) (outer : List Env) (s : Shared) (H : Hp) (vs : List V) (Q : VK) (E : XK), Room k (A.deeper (envOfC qual (defScope st) s.heap.objs.size f cdv)) → sp vs H Q E →
      ∃ t, PSs (cxOf CX0 P w K mg base N qual (defScope st) f cdv A outer s H E).nox (defBody st) t ∧ t { nx := fun _ H' => Q .non H', rt := Q } (start N vs) H) : Met P w K mg base (k + 1) C m sp [] := by
  obtain ⟨f, fd, F, hf, hfn⟩ := d.ex
  exact ⟨f, fd, ps, [], c, ⟨hf, hfn, F.kp⟩, F.ok Sc len (hbody f), F.binds hb, .nil⟩
theorem mak {x qual : Str} {st : Stmt} {C : Addr} {N ps : List Str} {k : Nat} {sp : Sp} (d : MF K C "__init__" qual st) (hm : mg x = some (.ref C)) (h1 : PySem.W.makesIn K C = true) (h2 : PySem.W.keepIn K (.ref C) = true) (Sc : FnScope N ps (defScope st))
    (hb : ∀ (kV doc pm : Value) (an : Option Addr) (cdv ct : Value) (us : List Value), us.length = ps.length → bindArgs (PySem.W.fnOf "__init__" qual (defArgs st) (defBody st) (defScope st) .none kV doc pm an cdv ct) ⟨us, []⟩ = pure (ps.zip us))
    (len : ∀ vs H Q E, sp vs H Q E → vs.length = ps.length)
    (hbody : ∀ (f : Addr) (cdv : Value) (A : Around) (outer : List Env) (s : Shared) (H : Hp) (vs : List V) (Q : VK) (E : XK), Room k (A.deeper (envOfC qual (defScope st) s.heap.objs.size f cdv)) → sp vs H Q E →
      ∃ t, PSs (cxOf CX0 P w K mg base N qual (defScope st) f cdv A outer s H E).nox (defBody st) t ∧ t { nx := fun _ H' => Q .non H', rt := Q } (start N vs) H) : Mak P w K mg base (k + 1) x C sp [] := by
  obtain ⟨f, fd, F, hf, hfn⟩ := d.ex
  exact ⟨f, fd, ps, [], ⟨h1, hf, hfn, h2⟩, F.ok Sc len (hbody f), hm, F.binds hb, .nil⟩
end
/-- the names of the class -/
structure MTxt (K : PySem.W.Frag) (C : Addr) : Prop where
  c : Cls K C
  nl : NoAttr K C "_letters"
  nt : NoAttr K C "_table"
  na : NoAttr K C "_accepts"
def spIsStates : Sp := fun vs H Q _ => ∃ (v : V) (l : List Nat) (n : Nat), vs = [v, .int (n : Int)] ∧ Rp N0 H v (rowD l) ∧ (∀ x ∈ l, x < n) ∧ l.length ≤ 1000 ∧ ∀ H', Same H H' → Q (.bl true) H'
def spIsTable : Sp := fun vs H Q _ => ∃ (v : V) (t : List (List Nat)) (n : Nat), vs = [v, .int (n : Int)] ∧ Rp N0 H v (tabD t) ∧ 1 ≤ t.length ∧ t.length ≤ 6 ∧ (∀ r ∈ t, r.length = n ∧ ∀ x ∈ r, x < t.length) ∧ n ≤ 4 ∧ ∀ H', Same H H' → Q (.bl true) H'
def spIsAccepts : Sp := fun vs H Q _ => ∃ (v : V) (l : List Nat) (n : Nat), vs = [v, .int (n : Int)] ∧ Rp N0 H v (rowD l) ∧ (∀ x ∈ l, x < n) ∧ l.Pairwise (· < ·) ∧ l.length ≤ 1000 ∧ ∀ H', Same H H' → Q (.bl true) H'
def spInit (C : Addr) : Sp := fun vs H Q _ => ∃ (m dx : Addr) (vt va : V) (L : List Nat) (t : List (List Nat)) (a : List Nat), vs = [.ref m, .str (S L), vt, va] ∧ H m = some (.ins C dx []) ∧ Parts L t a ∧ Rp N0 H vt (tabD t) ∧ Rp N0 H va (rowD a) ∧
  ∀ H1 H', Same H H1 → H' = upd H1 m (.ins C dx [("_letters", .str (S L)), ("_table", vt), ("_accepts", va)]) → Q .non H'
theorem i_sfld {K : PySem.W.Frag} {ta tv : TE} {f : Str} {D : Ends} {σ : L2.St} {H : Hp} (q : tv σ H fun y H1 => ta σ H1 fun x H2 => ∃ a C dx fs, x = .ref a ∧ H2 a = some (.ins C dx fs) ∧ Cls K C ∧ NoAttr K C f ∧ fs.length < 1000 ∧ D.nx σ (upd H2 a (.ins C dx (putF f y fs)))) : sFld K ta tv f D σ H := q
theorem i_fld {K : PySem.W.Frag} {ta : TE} {f : Str} {σ : L2.St} {H : Hp} {Q : VK} (q : ta σ H fun x H1 => ∃ a C dx fs v, x = .ref a ∧ H1 a = some (.ins C dx fs) ∧ Cls K C ∧ NoAttr K C f ∧ fs.lookup f = some v ∧ Q v H1) : tFld K ta f σ H Q := q
theorem i_meth {C : Addr} {m : Str} {sp : Sp} {dvs : List V} {E : XK} {ta : TE} {t : TA} {σ : L2.St} {H : Hp} {Q : VK} (q : ta σ H fun x H1 => ∃ a dx fs, x = .ref a ∧ H1 a = some (.ins C dx fs) ∧ fs.lookup m = none ∧ t σ H1 fun vs H2 => sp (x :: (vs ++ dvs)) H2 Q E) : tMeth C m sp dvs E ta t σ H Q := q
theorem upd_upd {H : Hp} {a : Addr} {x y : HO} : upd (upd H a x) a y = upd H a y := by
  funext b
  by_cases h : b = a
  · subst h; rw [upd_same, upd_same]
  · rw [upd_ne h, upd_ne h, upd_ne h]
theorem put2 {x y : V} : putF ("_table" : Str) y [(("_letters" : Str), x)] = [(("_letters" : Str), x), (("_table" : Str), y)] := by
  show (if ("_letters" : Str) = ("_table" : Str) then _ else _) = _
  rw [if_neg (by decide +kernel)]; rfl
theorem put3 {x y z : V} : putF ("_accepts" : Str) z [(("_letters" : Str), x), (("_table" : Str), y)] = [(("_letters" : Str), x), (("_table" : Str), y), (("_accepts" : Str), z)] := by
  show (if ("_letters" : Str) = ("_accepts" : Str) then _ else _) = _
  rw [if_neg (by decide +kernel)]
  show _ :: (if ("_table" : Str) = ("_accepts" : Str) then _ else _) = _
  rw [if_neg (by decide +kernel)]; rfl
def spLettersOf (K : PySem.W.Frag) (C : Addr) : Sp := fun vs H Q _ => ∃ (m : Addr) (L : List Nat) (t : List (List Nat)) (a : List Nat), vs = [.ref m] ∧ IsM K H C m L t a ∧ Q (.str (S L)) H
def spTableOf (K : PySem.W.Frag) (C : Addr) : Sp := fun vs H Q _ => ∃ (m : Addr) (L : List Nat) (t : List (List Nat)) (a : List Nat), vs = [.ref m] ∧ IsM K H C m L t a ∧ ∀ v, Rp N0 H v (tabD t) → Q v H
def spAcceptsOf (K : PySem.W.Frag) (C : Addr) : Sp := fun vs H Q _ => ∃ (m : Addr) (L : List Nat) (t : List (List Nat)) (a : List Nat), vs = [.ref m] ∧ IsM K H C m L t a ∧ ∀ v, Rp N0 H v (rowD a) → Q v H
/-- the state to which a word leads -/
def led (L : List Nat) (t : List (List Nat)) (s : Nat) (u : List Nat) : Nat := u.foldl (fun s c => (t.getD s []).getD (L.idxOf c) 0) s
def spEndOf : Sp := fun vs H Q _ => ∃ (L : List Nat) (vt : V) (t : List (List Nat)) (s : Nat) (u : List Nat), vs = [.str (S L), vt, .int (s : Int), .str (S u)] ∧ Rp N0 H vt (tabD t) ∧ L.length ≤ 1000 ∧ (∀ r ∈ t, r.length = L.length ∧ ∀ x ∈ r, x < t.length) ∧ s < t.length ∧ (∀ c ∈ u, c ∈ L) ∧ ∀ H', Same H H' → Q (.int (led L t s u : Int)) H'
def spSays (K : PySem.W.Frag) (C C2 : Addr) : Sp := fun vs H Q E => ∃ (m : Addr) (L : List Nat) (t : List (List Nat)) (a : List Nat) (v : V) (d : PyData), vs = [.ref m, v] ∧ IsM K H C m L t a ∧ Parts L t a ∧ Rp N0 H v d ∧ Sml d ∧
  (isWord L d = false → ∀ H', Same H H' → E (.ref C2) none H') ∧ (∀ u, d = .str (S u) → isWord L d = true → ∀ H', Same H H' → Q (.bl (decide (led L t 0 u ∈ a))) H')
section
variable {P : Program} {w : World} {K : PySem.W.Frag} {mg : Str → Option Value} {base : Heap}
theorem c__is_states (d : DF K mg "_is_states" s__is_states) (B : Bi mg) (c_is_between : Cal P w K mg base 2 "is_between" spIsBetween []) : Cal P w K mg base 3 "_is_states" spIsStates [] := by
  refine d.cal (N := n__is_states) sc__is_states (fun _ _ _ _ _ _ us hl => match us, hl with | [_, _], _ => rfl) (fun vs H Q E h => ?_) (fun f cdv A outer s H vs Q E hr h => ?_)
  · obtain ⟨v, l, n, rfl, _⟩ := h
    rfl
  · obtain ⟨v, l, n, rfl, r, hx, hl, k⟩ := h
    refine ⟨_, (pss_one (ps_ret (pe_and (pe_callB (r := zIsi K) zc_isi (by rfl) B.isinstance (by decide +kernel) (pa_cons (pv 0) (pa_cons (pe_bltn (by rfl) B.tuple (by decide +kernel) (rel_ty "tuple")) pa_nil))) (pe_one (pe_callB (r := zAll K) (zc_all rfl) (by rfl) B.all (by decide +kernel) (pa_cons (pe_lc (own := [("state", 2)]) (g := gName 2) (tt := tYes) (by rfl) sc__is_states.nd (pi_tup (pv 0)) (blkOk_by (N := n__is_states) (sc := defScope s__is_states) (by decide +kernel)) (fun _ _ _ _ _ => (pg_name (i := 2) sc__is_states.nd rfl (by first | exact Or.inl rfl | exact Or.inr rfl))) (fun _ _ _ _ _ => pts_nil) (fun _ _ _ _ _ => (pe_c c_is_between hr (by first | decide | omega) rfl (pa_cons (pv 2) (pa_cons pe_int (pa_cons (pe_op z_sub (pv 1) pe_int) pa_nil)))))) pa_nil)))))), ?_⟩
    refine zstart [some (v), some (.int (n : Int)), none] rfl ?_; try dsimp only [zK, zK2]
    walk_at "zz"
    refine i_isi r (by decide) ?_
    rw [show isTy (rowD l) "tuple" = true from rfl]
    walk_at "zz"
    obtain ⟨p, rfl, ep, _⟩ := rowD_rp r
    refine i_KT (SqT.of ep) ?_
    refine fun Dl hD => ?_
    have hvl : (ivs l).length ≤ 1000 := by unfold ivs; rw [List.length_map]; exact hl
    refine l_map (walk_tup (xs := ivs l)) hD [some (.ref p), some (.int (n : Int)), none] rfl (fun _ => rfl) (ivs l) rfl (by omega) (fun i H1 x H2 _ _ y => ⟨y.1, y.2⟩) (fun H1 s1 => SqT.of (s1 _ _ ep)) (fun _ => .bl true) (fun x H1 P hx1 s1 hP => ?_) fun H1 s1 e => ?_
    · obtain ⟨z, hz, rfl⟩ := List.mem_map.mp hx1
      have hzn := hx z hz
      refine zte [some (.ref p), some (.int (n : Int)), some (.int (z : Int))] rfl ?_
      walk_at "zz"
      refine ⟨_, _, 0, (n : Int) - 1, rfl, Rp.int _, fun H2 s2 => ?_⟩
      have eb : btw 0 ((n : Int) - 1) (.int (z : Int)) = true := by
        show (decide ((0 : Int) ≤ (z : Int)) && decide ((z : Int) ≤ (n : Int) - 1)) = true
        rw [decide_eq_true (by omega), decide_eq_true (by omega)]; rfl
      rw [eb]
      exact hP _ s2
    · walk_at "zz"
      refine i_all (bs := (ivs l).map fun _ => true) (SqL.of (by rw [e, List.map_map]; rfl)) ?_
      rw [show ((ivs l).map fun _ => true).all id = true by simp]
      exact k _ s1
theorem c__is_table (d : DF K mg "_is_table" s__is_table) (B : Bi mg) (c__is_states : Cal P w K mg base 3 "_is_states" spIsStates []) : Cal P w K mg base 4 "_is_table" spIsTable [] := by
  refine d.cal (N := n__is_table) sc__is_table (fun _ _ _ _ _ _ us hl => match us, hl with | [_, _], _ => rfl) (fun vs H Q E h => ?_) (fun f cdv A outer s H vs Q E hr h => ?_)
  · obtain ⟨v, t, n, rfl, _⟩ := h
    rfl
  · obtain ⟨v, t, n, rfl, r, h1, h6, hrow, hn, k⟩ := h
    refine ⟨_, (pss_cons (ps_if (PW.pt (pw_or (pt_not (pt_val (pe_callB (r := zIsi K) zc_isi (by rfl) B.isinstance (by decide +kernel) (pa_cons (pv 0) (pa_cons (pe_bltn (by rfl) B.tuple (by decide +kernel) (rel_ty "tuple")) pa_nil))))) (pw_or1 (pt_not (pt_chain z_le z_le pe_int (pe_callB (r := zLen K) zc_len (by rfl) B.len (by decide +kernel) (pa_cons (pv 0) pa_nil)) pe_int))))) (pss_one ps_never) pss_nil)
  (pss_one (ps_ret (pe_callB (r := zAll K) (zc_all rfl) (by rfl) B.all (by decide +kernel) (pa_cons (pe_lc (own := [("row", 2)]) (g := gName 2) (tt := tYes) (by rfl) sc__is_table.nd (pi_tup (pv 0)) (blkOk_by (N := n__is_table) (sc := defScope s__is_table) (by decide +kernel)) (fun _ _ _ _ _ => (pg_name (i := 2) sc__is_table.nd rfl (by first | exact Or.inl rfl | exact Or.inr rfl))) (fun _ _ _ _ _ => pts_nil) (fun _ _ _ _ _ => (pe_and (pe_c c__is_states hr (by first | decide | omega) rfl (pa_cons (pv 2) (pa_cons (pe_callB (r := zLen K) zc_len (by rfl) B.len (by decide +kernel) (pa_cons (pv 0) pa_nil)) pa_nil))) (pe_one (pe_cmpR op_eq (pe_callB (r := zLen K) zc_len (by rfl) B.len (by decide +kernel) (pa_cons (pv 2) pa_nil)) (pv 1) (nomark _)))))) pa_nil))))), ?_⟩
    refine zstart [some (v), some (.int (n : Int)), none] rfl ?_; try dsimp only [zK, zK2]
    walk_at "zz"
    refine i_isi r (by decide) ?_
    rw [show isTy (tabD t) "tuple" = true from rfl]
    walk_at "zz"
    obtain ⟨p, xs, rfl, ep, _, ra⟩ := Rp.tupS r
    have hxl : xs.length = t.length := by rw [ra.length, List.length_map]
    refine i_lenT (SqT.of ep) ?_
    walk_at "zz"
    refine brd (fun _ => ?_) fun q => absurd (show (1 : Int) ≤ (xs.length : Int) by omega) q
    walk_at "zz"
    refine brn (fun q => absurd (show (xs.length : Int) ≤ 6 by omega) q) fun _ => ?_
    walk_at "zz"
    refine i_KT (SqT.of ep) ?_
    refine fun Dl hD => ?_
    refine l_map (walk_tup (xs := xs)) hD [some (.ref p), some (.int (n : Int)), none] rfl (fun _ => rfl) xs rfl (by omega) (fun i H1 x H2 _ _ y => ⟨y.1, y.2⟩) (fun H1 s1 => SqT.of (s1 _ _ ep)) (fun _ => .bl true) (fun x H1 P hx1 s1 hP => ?_) fun H1 s1 e => ?_
    · obtain ⟨i, hi, rfl⟩ := List.getElem_of_mem hx1
      obtain ⟨d1, hd1, q1⟩ := (ra.mono (Kp.of_same s1)).get' (List.getElem?_eq_getElem hi)
      rw [List.getElem?_map] at hd1
      obtain ⟨row, hr1, rfl⟩ := Option.map_eq_some_iff.mp hd1
      obtain ⟨hl1, hl2⟩ := hrow row (List.mem_of_getElem? hr1)
      generalize xs[i] = x at q1 ⊢
      refine zte [some (.ref p), some (.int (n : Int)), some x] rfl ?_
      have ep1 := s1 _ _ ep
      walk_at "zz"
      refine i_lenT (SqT.of ep1) ?_
      rw [hxl]
      refine ⟨x, row, t.length, rfl, q1, hl2, by omega, fun H2 s2 => ?_⟩
      walk_at "zz"
      obtain ⟨pr, rfl, epr, _⟩ := rowD_rp q1
      refine i_lenT (SqT.of (s2 _ _ epr)) ?_
      walk_at "zz"
      have e1 : decide (((ivs row).length : Int) = (n : Int)) = true := decide_eq_true (by unfold ivs; rw [List.length_map, hl1])
      rw [e1]
      exact hP _ s2
    · walk_at "zz"
      refine i_all (bs := xs.map fun _ => true) (SqL.of (by rw [e, List.map_map]; rfl)) ?_
      rw [show (xs.map fun _ => true).all id = true by simp]
      exact k _ s1
theorem c__is_accepts (d : DF K mg "_is_accepts" s__is_accepts) (B : Bi mg) (c__is_states : Cal P w K mg base 3 "_is_states" spIsStates []) (c_is_ascending : Cal P w K mg base 1 "is_ascending" spIsAscending []) : Cal P w K mg base 4 "_is_accepts" spIsAccepts [] := by
  refine d.cal (N := n__is_accepts) sc__is_accepts (fun _ _ _ _ _ _ us hl => match us, hl with | [_, _], _ => rfl) (fun vs H Q E h => ?_) (fun f cdv A outer s H vs Q E hr h => ?_)
  · obtain ⟨v, l, n, rfl, _⟩ := h
    rfl
  · obtain ⟨v, l, n, rfl, r, hx, hasc, hl, k⟩ := h
    refine ⟨_, (pss_one (ps_ret (pe_and (pe_c c__is_states hr (by first | decide | omega) rfl (pa_cons (pv 0) (pa_cons (pv 1) pa_nil))) (pe_one (pe_c c_is_ascending hr (by first | decide | omega) rfl (pa_cons (pv 0) pa_nil)))))), ?_⟩
    refine zstart [some (v), some (.int (n : Int))] rfl ?_; try dsimp only [zK, zK2]
    walk_at "zz"
    refine ⟨v, l, n, rfl, r, hx, hl, fun H1 s1 => ?_⟩
    walk_at "zz"
    obtain ⟨p, rfl, ep, _⟩ := rowD_rp r
    have ei : ivs l = (l.map fun x : Nat => (x : Int)).map V.int := by unfold ivs; rw [List.map_map]; rfl
    have ha : (l.map fun x : Nat => (x : Int)).Pairwise (· < ·) := List.pairwise_map.mpr (hasc.imp fun h => by omega)
    refine ⟨_, rfl, .inr ⟨p, _, rfl, by rw [s1 _ _ ep, ei], by rw [List.length_map]; omega, fun H2 s2 => ?_⟩⟩
    rw [decide_eq_true ha]
    exact k _ (s1.trans s2)
theorem m_Machine {C : Addr} (T : MTxt K C) (hm : mg "Machine" = some (.ref C)) (h1 : PySem.W.makesIn K C = true) (h2 : PySem.W.keepIn K (.ref C) = true) (d : MF K C "__init__" "Machine.__init__" s_Machine___init__) (B : Bi mg) (c_is_letters : Cal P w K mg base 2 "is_letters" spIsLetters [])
    (c__is_table : Cal P w K mg base 4 "_is_table" spIsTable []) (c__is_accepts : Cal P w K mg base 4 "_is_accepts" spIsAccepts []) : Mak P w K mg base 5 "Machine" C (spInit C) [] := by
  refine mak d hm h1 h2 (N := n_Machine___init__) sc_Machine___init__ (fun _ _ _ _ _ _ us hl => match us, hl with | [_, _, _, _], _ => rfl) (fun vs H Q E h => ?_) (fun f cdv A outer s H vs Q E hr h => ?_)
  · obtain ⟨m, dx, vt, va, L, t, a, rfl, _⟩ := h
    rfl
  · obtain ⟨m, dx, vt, va, L, t, a, rfl, em, pt, rt, ra, k⟩ := h
    refine ⟨_, (pss_cons (ps_if (pt_not (pt_val (pe_c c_is_letters hr (by first | decide | omega) rfl (pa_cons (pv 1) pa_nil)))) (pss_one ps_never) pss_nil)
  (pss_cons (ps_if (pt_not (pt_val (pe_c c__is_table hr (by first | decide | omega) rfl (pa_cons (pv 2) (pa_cons (pe_callB zc_lens (by rfl) B.len (by decide +kernel) (pa_cons (pv 1) pa_nil)) pa_nil))))) (pss_one ps_never) pss_nil)
  (pss_cons (ps_if (pt_not (pt_val (pe_c c__is_accepts hr (by first | decide | omega) rfl (pa_cons (pv 3) (pa_cons (pe_callB (r := zLen K) zc_len (by rfl) B.len (by decide +kernel) (pa_cons (pv 2) pa_nil)) pa_nil))))) (pss_one ps_never) pss_nil)
  (pss_cons (ps_fld (pv 0) (pv 1) rfl)
  (pss_cons (ps_fld (pv 0) (pv 2) rfl)
  (pss_one (ps_fld (pv 0) (pv 3) rfl))))))), ?_⟩
    refine zstart [some (.ref m), some (.str (S L)), some (vt), some (va)] rfl ?_; try dsimp only [zK, zK2]
    obtain ⟨hLp, hLr, hL1, hL4⟩ := pt.ltr
    walk_at "zz"
    refine ⟨_, _, rfl, Rp.str _, show L.length ≤ 90000 by omega, fun H1 s1 => ?_⟩
    have eL : isLetters (.str (S L)) = true := by
      show ((decide (1 ≤ L.length) && decide (L.length ≤ 4)) && (L.all (fun c => decide (97 ≤ c) && decide (c ≤ 122)) && decide (L.Pairwise (· < ·)))) = true
      rw [decide_eq_true hL1, decide_eq_true hL4, decide_eq_true hLp, Bool.and_true, Bool.true_and, Bool.and_true, List.all_eq_true]
      intro c hc
      rw [decide_eq_true (hLr c hc).1, decide_eq_true (hLr c hc).2]; rfl
    rw [eL]
    walk_at "zz"
    refine ⟨vt, t, L.length, rfl, rt.same s1, pt.lo, pt.hi, pt.row, hL4, fun H2 s2 => ?_⟩
    have s12 := s1.trans s2
    obtain ⟨pt0, xs, rfl, ept, _, rat⟩ := Rp.tupS (rt.same s12)
    have hxl : xs.length = t.length := by rw [rat.length, List.length_map]
    walk_at "zz"
    refine i_lenT (SqT.of ept) ?_
    rw [hxl]
    have ha6 : a.length ≤ 6 := Nat.le_trans (asc_len (L := List.range t.length) pt.acc fun x hx => List.mem_range.mpr (pt.acs x hx)) (by rw [List.length_range]; exact pt.hi)
    refine ⟨va, a, t.length, rfl, ra.same s12, pt.acs, pt.acc, by omega, fun H3 s3 => ?_⟩
    have s13 := s12.trans s3
    walk_at "zz"
    refine i_sfld ?_
    walk_at "zz"
    refine ⟨m, C, dx, _, rfl, s13 _ _ em, T.c, T.nl, by decide, ?_⟩
    refine i_nx ?_
    refine i_seq ?_
    refine i_sfld ?_
    walk_at "zz"
    refine ⟨m, C, dx, [(("_letters" : Str), V.str (S L))], rfl, upd_same, T.c, T.nt, by show 1 < 1000; decide, ?_⟩
    rw [put2, upd_upd]
    refine i_nx ?_
    refine i_sfld ?_
    walk_at "zz"
    refine ⟨m, C, dx, [(("_letters" : Str), V.str (S L)), (("_table" : Str), V.ref pt0)], rfl, upd_same, T.c, T.na, by show 2 < 1000; decide, ?_⟩
    rw [put3, upd_upd]
    walk_at "zz"
    exact k H3 _ s13 rfl
theorem c_Machine_letters {C : Addr} (T : MTxt K C) (d : MF K C "letters" "Machine.letters" s_Machine_letters) : Met P w K mg base 1 C "letters" (spLettersOf K C) [] := by
  refine met d T.c (N := n_Machine_letters) sc_Machine_letters (fun _ _ _ _ _ _ us hl => match us, hl with | [_], _ => rfl) (fun vs H Q E h => ?_) (fun f cdv A outer s H vs Q E hr h => ?_)
  · obtain ⟨m, L, t, a, rfl, _⟩ := h
    rfl
  · obtain ⟨m, L, t, a, rfl, hm, k⟩ := h
    obtain ⟨dx, vt, va, e, r1, r2⟩ := hm.ex
    refine ⟨_, (pss_one (ps_ret (pe_fldZ (K := K) rfl (pv 0) rfl))), ?_⟩
    refine zstart [some (.ref m)] rfl ?_; try dsimp only [zK, zK2]
    walk_at "zz"
    refine i_fld ?_
    walk_at "zz"
    exact ⟨m, C, dx, _, _, rfl, e, T.c, T.nl, rfl, k⟩
theorem c_Machine_table {C : Addr} (T : MTxt K C) (d : MF K C "table" "Machine.table" s_Machine_table) : Met P w K mg base 1 C "table" (spTableOf K C) [] := by
  refine met d T.c (N := n_Machine_table) sc_Machine_table (fun _ _ _ _ _ _ us hl => match us, hl with | [_], _ => rfl) (fun vs H Q E h => ?_) (fun f cdv A outer s H vs Q E hr h => ?_)
  · obtain ⟨m, L, t, a, rfl, _⟩ := h
    rfl
  · obtain ⟨m, L, t, a, rfl, hm, k⟩ := h
    obtain ⟨dx, vt, va, e, r1, r2⟩ := hm.ex
    refine ⟨_, (pss_one (ps_ret (pe_fldZ (K := K) rfl (pv 0) rfl))), ?_⟩
    refine zstart [some (.ref m)] rfl ?_; try dsimp only [zK, zK2]
    walk_at "zz"
    refine i_fld ?_
    walk_at "zz"
    exact ⟨m, C, dx, _, _, rfl, e, T.c, T.nt, rfl, k _ r1⟩
theorem c_Machine_accepts {C : Addr} (T : MTxt K C) (d : MF K C "accepts" "Machine.accepts" s_Machine_accepts) : Met P w K mg base 1 C "accepts" (spAcceptsOf K C) [] := by
  refine met d T.c (N := n_Machine_accepts) sc_Machine_accepts (fun _ _ _ _ _ _ us hl => match us, hl with | [_], _ => rfl) (fun vs H Q E h => ?_) (fun f cdv A outer s H vs Q E hr h => ?_)
  · obtain ⟨m, L, t, a, rfl, _⟩ := h
    rfl
  · obtain ⟨m, L, t, a, rfl, hm, k⟩ := h
    obtain ⟨dx, vt, va, e, r1, r2⟩ := hm.ex
    refine ⟨_, (pss_one (ps_ret (pe_fldZ (K := K) rfl (pv 0) rfl))), ?_⟩
    refine zstart [some (.ref m)] rfl ?_; try dsimp only [zK, zK2]
    walk_at "zz"
    refine i_fld ?_
    walk_at "zz"
    exact ⟨m, C, dx, _, _, rfl, e, T.c, T.na, rfl, k _ r2⟩
theorem idx_from {c : Nat} : ∀ {L : List Nat} (i : Nat), c ∈ L → (idx c L i).head? = some (i + L.idxOf c)
  | x :: L, i, h => by
    unfold idx
    by_cases e : x = c
    · subst e
      simp
    · rw [if_neg e]
      have h2 : c ∈ L := (List.mem_cons.mp h).resolve_left fun q => e q.symm
      rw [idx_from (i + 1) h2, List.idxOf_cons, show (x == c) = false by simpa using e]
      show some (i + 1 + L.idxOf c) = some (i + (L.idxOf c + 1))
      congr 1
      omega
theorem idx_of {L : List Nat} {c : Nat} (h : c ∈ L) : (idx c L 0).head? = some (L.idxOf c) := by
  rw [idx_from 0 h, Nat.zero_add]
theorem led_lt {L : List Nat} {t : List (List Nat)} (hrow : ∀ r ∈ t, r.length = L.length ∧ ∀ x ∈ r, x < t.length) : ∀ (u : List Nat) (s : Nat), s < t.length → (∀ c ∈ u, c ∈ L) → led L t s u < t.length
  | [], s, hs, _ => hs
  | c :: u, s, hs, hu => by
    show led L t ((t.getD s []).getD (L.idxOf c) 0) u < t.length
    refine led_lt hrow u _ ?_ fun d hd => hu d (List.mem_cons_of_mem _ hd)
    have e1 : t.getD s [] = t[s] := by rw [List.getD_eq_getElem?_getD, List.getElem?_eq_getElem hs]; rfl
    obtain ⟨h1, h2⟩ := hrow _ (List.getElem_mem hs)
    have hi : L.idxOf c < t[s].length := by rw [h1]; exact List.idxOf_lt_length_of_mem (hu c List.mem_cons_self)
    rw [e1, List.getD_eq_getElem?_getD, List.getElem?_eq_getElem hi]
    exact h2 _ (List.getElem_mem hi)
theorem inI {x : Nat} {l : List Nat} : inV (.int (x : Int)) (ivs l) = decide (x ∈ l) := by
  unfold inV ivs
  rw [List.any_map, Bool.eq_iff_iff, List.any_eq_true, decide_eq_true_iff]
  constructor
  · rintro ⟨c, hc, q⟩
    have q : ((c : Int) == (x : Int)) = true := q
    have q : (c : Int) = (x : Int) := by simpa using q
    have q : c = x := by omega
    exact q ▸ hc
  · intro h
    exact ⟨x, h, by show ((x : Int) == (x : Int)) = true; simp⟩
end
end Y

namespace Y
open PySem PySem.Spec PyProof.Rows L2 Z
open C8 (tCut pss_cut Cal pe_c Met pe_mt pe_mt0 Mak pe_mk)
/-! ### small data, shown -/
def tame (d : PyData) : Bool := d.leavesShort 64 && decide (d.bulk ≤ 1000) && decide (d.depth ≤ 40) && d.showable && !d.hasDict
theorem i_reprT {K : PySem.W.Frag} {H : Hp} {Q : VK} {v : V} {d : PyData} (h : Dp K H v d) (t : tame d = true) (q : Q (.str (S (codes d.shown))) H) : zRepr K [v] H Q := by
  unfold tame at t
  simp only [Bool.and_eq_true, decide_eq_true_eq, Bool.not_eq_true'] at t
  obtain ⟨⟨⟨⟨t1, t2⟩, t3⟩, t4⟩, t5⟩ := t
  have hb := PyData.shown_le_bulk 64 (by decide) d t1
  exact i_repr h t4 t5 (by omega) (by omega) q
theorem tame_of {d : PyData} (h1 : d.leavesShort 64 = true) (h2 : d.bulk ≤ 1000) (h3 : d.depth ≤ 40) (h4 : d.showable = true) (h5 : d.hasDict = false) : tame d = true := by
  unfold tame
  rw [h1, h4, h5, decide_eq_true h2, decide_eq_true h3]; rfl
theorem small_short : ∀ x : Nat, x < 300 → PyData.leavesShort 64 (.int (x : Int)) = true := by decide +kernel
theorem small_show : ∀ x : Nat, x < 300 → PyData.showable (.int (x : Int)) = true := by decide +kernel
/-! rows and tables -/
theorem eqv_ids : ∀ a b : List Nat, PyData.eqvAll (ids a) (ids b) = decide (a = b)
  | [], [] => rfl
  | [], _ :: _ => rfl
  | _ :: _, [] => rfl
  | x :: a, y :: b => by
    show (PyData.eqv (.int (x : Int)) (.int (y : Int)) && PyData.eqvAll (ids a) (ids b)) = _
    rw [eqv_ids a b]
    show (((x : Int) == (y : Int)) && decide (a = b)) = _
    rw [Bool.eq_iff_iff, Bool.and_eq_true, beq_iff_eq, decide_eq_true_iff, decide_eq_true_iff, List.cons.injEq]
    constructor
    · rintro ⟨h1, h2⟩; exact ⟨by omega, h2⟩
    · rintro ⟨h1, h2⟩; exact ⟨by omega, h2⟩
theorem eqv_row (a b : List Nat) : PyData.eqv (rowD a) (rowD b) = decide (a = b) := eqv_ids a b
theorem eqv_rows : ∀ s t : List (List Nat), PyData.eqvAll (s.map rowD) (t.map rowD) = decide (s = t)
  | [], [] => rfl
  | [], _ :: _ => rfl
  | _ :: _, [] => rfl
  | x :: a, y :: b => by
    show (PyData.eqv (rowD x) (rowD y) && PyData.eqvAll (a.map rowD) (b.map rowD)) = _
    rw [eqv_rows a b, eqv_row, Bool.eq_iff_iff, Bool.and_eq_true, decide_eq_true_iff, decide_eq_true_iff, decide_eq_true_iff, List.cons.injEq]
theorem eqv_tab (s t : List (List Nat)) : PyData.eqv (tabD s) (tabD t) = decide (s = t) := eqv_rows s t
theorem lay_ids : ∀ a : List Nat, PyData.canLayAll0 (ids a) = true
  | [] => rfl
  | x :: a => by
    show (PyData.canLay0 (.int (x : Int)) && PyData.canLayAll0 (ids a)) = true
    rw [lay_ids a]; rfl
theorem dep_ids : ∀ a : List Nat, PyData.depthAll (ids a) = 0
  | [] => rfl
  | x :: a => by
    show max (PyData.depth (.int (x : Int))) (PyData.depthAll (ids a)) = 0
    rw [dep_ids a]; rfl
theorem dep_row (a : List Nat) : (rowD a).depth = 1 := by
  show PyData.depthAll (ids a) + 1 = 1
  rw [dep_ids]
theorem lay_rows : ∀ s : List (List Nat), PyData.canLayAll0 (s.map rowD) = true
  | [] => rfl
  | x :: a => by
    show (PyData.canLay0 (rowD x) && PyData.canLayAll0 (a.map rowD)) = true
    rw [lay_rows a, Bool.and_true]
    exact lay_ids x
theorem dep_rows : ∀ s : List (List Nat), PyData.depthAll (s.map rowD) ≤ 1
  | [] => Nat.zero_le _
  | x :: a => by
    show max (rowD x).depth (PyData.depthAll (a.map rowD)) ≤ 1
    have := dep_rows a
    rw [dep_row]; omega
theorem dep_tab (s : List (List Nat)) : (tabD s).depth ≤ 2 := by
  show PyData.depthAll (s.map rowD) + 1 ≤ 2
  have := dep_rows s
  omega
theorem shaped_row (a : List Nat) : SeqAt.shaped (rowD a) = true := by
  unfold SeqAt.shaped
  rw [dep_row, show (rowD a).canLay0 = true from lay_ids a]; rfl
theorem shaped_tab (s : List (List Nat)) : SeqAt.shaped (tabD s) = true := by
  unfold SeqAt.shaped
  have := dep_tab s
  rw [show (tabD s).canLay0 = true from lay_rows s, decide_eq_true (show (tabD s).depth ≤ 64 by omega)]; rfl
theorem short_ids : ∀ a : List Nat, (∀ x ∈ a, x < 300) → PyData.leavesShortAll 64 (ids a) = true
  | [], _ => rfl
  | x :: a, h => by
    show (PyData.leavesShort 64 (.int (x : Int)) && PyData.leavesShortAll 64 (ids a)) = true
    rw [short_ids a fun y hy => h y (List.mem_cons_of_mem _ hy), small_short x (h x List.mem_cons_self)]; rfl
theorem show_ids : ∀ a : List Nat, (∀ x ∈ a, x < 300) → PyData.showableAll (ids a) = true
  | [], _ => rfl
  | x :: a, h => by
    show (PyData.showable (.int (x : Int)) && PyData.showableAll (ids a)) = true
    rw [show_ids a fun y hy => h y (List.mem_cons_of_mem _ hy), small_show x (h x List.mem_cons_self)]; rfl
theorem nod_ids : ∀ a : List Nat, PyData.hasDictAll (ids a) = false
  | [] => rfl
  | x :: a => by
    show (PyData.hasDict (.int (x : Int)) || PyData.hasDictAll (ids a)) = false
    rw [nod_ids a]; rfl
theorem bulk_ids : ∀ a : List Nat, PyData.bulkAll (ids a) = a.length
  | [] => rfl
  | x :: a => by
    show PyData.bulk (.int (x : Int)) + 1 + PyData.bulkAll (ids a) = _
    rw [bulk_ids a, List.length_cons]
    show 0 + 1 + a.length = _
    omega
theorem tame_row {a : List Nat} (h : ∀ x ∈ a, x < 300) (hl : a.length ≤ 1000) : tame (rowD a) = true :=
  tame_of (short_ids a h) (by show PyData.bulkAll (ids a) ≤ 1000; rw [bulk_ids]; exact hl) (by rw [dep_row]; decide) (show_ids a h) (nod_ids a)
theorem short_rows : ∀ s : List (List Nat), (∀ r ∈ s, ∀ x ∈ r, x < 300) → PyData.leavesShortAll 64 (s.map rowD) = true
  | [], _ => rfl
  | r :: s, h => by
    show (PyData.leavesShort 64 (rowD r) && PyData.leavesShortAll 64 (s.map rowD)) = true
    rw [short_rows s fun y hy => h y (List.mem_cons_of_mem _ hy), Bool.and_true]
    exact short_ids r (h r List.mem_cons_self)
theorem show_rows : ∀ s : List (List Nat), (∀ r ∈ s, ∀ x ∈ r, x < 300) → PyData.showableAll (s.map rowD) = true
  | [], _ => rfl
  | r :: s, h => by
    show (PyData.showable (rowD r) && PyData.showableAll (s.map rowD)) = true
    rw [show_rows s fun y hy => h y (List.mem_cons_of_mem _ hy), Bool.and_true]
    exact show_ids r (h r List.mem_cons_self)
theorem nod_rows : ∀ s : List (List Nat), PyData.hasDictAll (s.map rowD) = false
  | [] => rfl
  | r :: s => by
    show (PyData.hasDict (rowD r) || PyData.hasDictAll (s.map rowD)) = false
    rw [nod_rows s, Bool.or_false]
    exact nod_ids r
theorem bulk_rows : ∀ (s : List (List Nat)) (n : Nat), (∀ r ∈ s, r.length ≤ n) → PyData.bulkAll (s.map rowD) ≤ s.length * (n + 1)
  | [], _, _ => Nat.zero_le _
  | r :: s, n, h => by
    show (rowD r).bulk + 1 + PyData.bulkAll (s.map rowD) ≤ _
    have h1 := bulk_rows s n fun y hy => h y (List.mem_cons_of_mem _ hy)
    have h2 : (rowD r).bulk = r.length := bulk_ids r
    have h3 := h r List.mem_cons_self
    rw [h2, List.length_cons, Nat.succ_mul]
    omega
theorem tame_tab {s : List (List Nat)} {n : Nat} (h : ∀ r ∈ s, r.length ≤ n ∧ ∀ x ∈ r, x < 300) (hl : s.length * (n + 1) ≤ 1000) : tame (tabD s) = true := by
  refine tame_of (short_rows s fun r hr => (h r hr).2) ?_ (by have := dep_tab s; omega) (show_rows s fun r hr => (h r hr).2) (nod_rows s)
  have := bulk_rows s n fun r hr => (h r hr).1
  exact Nat.le_trans this hl
theorem Parts.tameT {L : List Nat} {t : List (List Nat)} {a : List Nat} (p : Parts L t a) : tame (tabD t) = true := by
  refine tame_tab (n := 4) (fun r hr => ⟨by rw [(p.row r hr).1]; exact p.ltr.2.2.2, fun x hx => ?_⟩) ?_
  · have := (p.row r hr).2 x hx; have := p.hi; omega
  · have := p.hi; omega
theorem Parts.accLen {L : List Nat} {t : List (List Nat)} {a : List Nat} (p : Parts L t a) : a.length ≤ 6 :=
  Nat.le_trans (asc_len (L := List.range t.length) p.acc fun x hx => List.mem_range.mpr (p.acs x hx)) (by rw [List.length_range]; exact p.hi)
theorem Parts.tameA {L : List Nat} {t : List (List Nat)} {a : List Nat} (p : Parts L t a) : tame (rowD a) = true :=
  tame_row (fun x hx => by have := p.acs x hx; have := p.hi; omega) (by have := p.accLen; omega)
theorem noD_ids : ∀ l : List Nat, noDs (ids l) = true
  | [] => rfl
  | x :: l => by show (noD (.int (x : Int)) && noDs (ids l)) = true; rw [noD_ids l]; rfl
theorem noD_row (l : List Nat) : noD (rowD l) = true := noD_ids l
theorem noD_rows : ∀ t : List (List Nat), noDs (t.map rowD) = true
  | [] => rfl
  | x :: l => by show (noD (rowD x) && noDs (l.map rowD)) = true; rw [noD_rows l, noD_row]; rfl
theorem noD_tab (t : List (List Nat)) : noD (tabD t) = true := noD_rows t
/-! ### == of machines -/
theorem back_of {P : Value → Shared → Prop} {z : V} {v : Value} {s' : Shared} (r : RelV z v) (h : P v s') : PySem.W.CmpBack P v s' := by
  cases z <;> first | (obtain ⟨t, rfl⟩ := r; exact h) | (cases (r : v = _); exact h)
/-- x == y, x a machine: y data, or a machine -/
def rEqM (C : Addr) (sp : Sp) : R2 := fun x y H Q => ∃ a dx fs, x = .ref a ∧ H a = some (.ins C dx fs) ∧ ((∃ (N : Addr → Prop) (d : PyData), Rp N H y d) ∨ ∃ b dy gs, y = .ref b ∧ H b = some (.ins C dy gs)) ∧ sp [x, y] H Q C8.E0
theorem looks_rp {X : Cx} {pins : List (Addr × Obj)} {σ : L2.St} {H : Hp} {s : Shared} {N : Addr → Prop} {y : V} {d : PyData} {u : Value} (I : Inv X pins σ H s) (r : Rp N H y d) (ry : RelV y u) : ∃ T, PySem.W.Looks (model X.prog X.w) s.heap (typeOf u) (.type T) ∧ T ∈ ["NoneType", "bool", "int", "str", "list", "tuple", "dict"] := by
  cases r with
  | non => cases (show u = Value.none from ry); exact ⟨"NoneType", PySem.W.Looks.of_pure rfl, by decide⟩
  | bl b => cases (show u = Value.bool b from ry); exact ⟨"bool", PySem.W.Looks.of_pure rfl, by decide⟩
  | int i => obtain ⟨t, rfl⟩ := (show ∃ t, u = Value.int i t from ry); exact ⟨"int", PySem.W.Looks.of_pure rfl, by decide⟩
  | str x => obtain ⟨t, rfl⟩ := (show ∃ t, u = Value.str x t from ry); exact ⟨"str", PySem.W.Looks.of_pure rfl, by decide⟩
  | lst e _ _ =>
    cases (show u = Value.ref _ from ry)
    obtain ⟨_, _, _, _, g⟩ := I.hok _ _ e
    exact ⟨"list", (PySem.W.Looks.ld g).andThen .now, by decide⟩
  | tup e _ _ =>
    cases (show u = Value.ref _ from ry)
    obtain ⟨_, _, _, o, g, hc, _⟩ := I.hok _ _ e
    exact ⟨"tuple", hc ▸ (PySem.W.Looks.ld g).andThen .now, by decide⟩
  | dct e _ =>
    cases (show u = Value.ref _ from ry)
    obtain ⟨_, _, _, _, o, es, ep, g, ⟨hc, _⟩, _⟩ := I.hok _ _ e
    exact ⟨"dict", hc ▸ (PySem.W.Looks.ld g).andThen .now, by decide⟩
theorem sub_none {K : PySem.W.Frag} {C : Addr} : ∀ T ∈ ["NoneType", "bool", "int", "str", "list", "tuple", "dict"], PySem.W.notFirst K C (.type T) = true := by
  have h : ∀ T ∈ ["NoneType", "bool", "int", "str", "list", "tuple", "dict"], ((PySem.W.subIn K (.type T) (.ref C)) == some false) = true := by
    intro T hT
    simp only [List.mem_cons, List.not_mem_nil, or_false] at hT
    rcases hT with rfl | rfl | rfl | rfl | rfl | rfl | rfl <;> rfl
  intro T hT
  unfold PySem.W.notFirst
  rw [h T hT, Bool.or_true]
theorem op_eqM {X : Cx} {C : Addr} {k j : Nat} {sp : Sp} (c : Met X.prog X.w X.K X.mg X.base k C "__eq__" sp []) (hr : Room j X.A) (hk : k ≤ j) : OpR X (compareOp .Eq) (rEqM C sp) := by
  intro pins s σ H x y v u Q I rx ry h
  obtain ⟨a, dx, fs, rfl, ha, hy, q⟩ := h
  cases (show v = Value.ref a from rx)
  obtain ⟨f, fd, ps, ds, cl, me, F, b, vd⟩ := c.ex
  obtain ⟨mA, J, _⟩ := ins_get I.hok ha
  obtain ⟨od, J, _⟩ := J.look
  obtain ⟨m, hF⟩ := I.fr
  have run : wpAny (model X.prog X.w) X.A (call (.ref f) [.ref a, u]) (EP X pins σ Q) X.xe s := run_fn (us := [.ref a, u]) (vs := [.ref a, y]) F (hr.mono hk) b vd C8.pass0 I (.cons rfl (.cons ry .nil)) q
  show wpAny (model X.prog X.w) X.A (richCompare .Eq (.ref a) u) _ _ s
  have fin : wpAny (model X.prog X.w) X.A (call (.ref f) [.ref a, u]) (PySem.W.CmpBack (EP X pins σ Q)) X.xe s := wpAny_mono run (fun w s' z => by
    obtain ⟨z', H', I', rz, qz⟩ := z
    exact back_of rz ⟨z', H', I', rz, qz⟩) fun _ _ x => x
  rcases hy with ⟨N, d, r⟩ | ⟨b', dy, gs, rfl, hb⟩
  · obtain ⟨T, lk, hT⟩ := looks_rp I r ry
    exact PySem.W.cmp_K (op := .Eq) (tb := .type T) hr.units0 hF I.ok.mod.kin J lk (sub_none T hT) me.at_ me.fn fin
  · cases (show u = Value.ref b' from ry)
    obtain ⟨mB, J', _⟩ := ins_get I.hok hb
    obtain ⟨od', J', _⟩ := J'.look
    exact PySem.W.cmp_K (op := .Eq) (tb := .ref C) hr.units0 hF I.ok.mod.kin J J'.type (by simp [PySem.W.notFirst]) me.at_ me.fn fin
end Y

namespace Y
open PySem PySem.Spec PyProof.Rows L2 Z
open C8 (tCut pss_cut Cal pe_c Met pe_mt pe_mt0 Mak pe_mk)
/-! ### comprehensions with a test; tuples as data -/
theorem l_filt {σ : L2.St} {H : Hp} {Q : VK} {J : It} {n : Nat} {G : Hp → Prop} {Y : Nat → Hp → V → Hp → Prop} (w : Walk J n G Y) {j : Nat} {tt : TT} {te : TE} {vs : List Nat} {Dl : Addr} (hD : H Dl = none) (W : L2.St) (hw : wipe σ vs = W) (hw2 : ∀ x : V, wipe (W.set j (some x)) vs = W)
    (xs : List V) (hn : n = xs.length) (hl : xs.length ≤ 99999) (hY : ∀ i H1 x H2, i < n → G H1 → Y i H1 x H2 → H2 = H1 ∧ xs[i]? = some x) (hG : ∀ H1, Same H H1 → G H1) (p : V → Bool) (f : V → V)
    (ht : ∀ (x : V) (H1 : Hp) (R : Bool → Hp → Prop), x ∈ xs → Same H H1 → (∀ H2, Same H1 H2 → R (p x) H2) → tt (W.set j (some x)) H1 R)
    (hs : ∀ (x : V) (H1 : Hp) (P : VK), x ∈ xs → p x = true → Same H H1 → (∀ H2, Same H1 H2 → P (f x) H2) → te (W.set j (some x)) H1 P)
    (hd : ∀ H1, Same H H1 → H1 Dl = some (.lst ((xs.filter p).map f)) → Q (.ref Dl) H1) : LC J (gName j) tt te vs σ H Q Dl := by
  subst hn
  refine l_comp w W hw (fun i acc H1 => Same H H1 ∧ acc = ((xs.take i).filter p).map f) ⟨(Same.refl H).newz hD, by simp⟩ (fun i acc H1 _ q _ => hG H1 q.1) ?_ ?_
  · rintro i x acc H1 H2 hi ⟨sm, rfl⟩ e hl2 y
    obtain ⟨rfl, hx⟩ := hY i _ x _ hi (hG _ sm) y
    have hxm := List.mem_of_getElem? hx
    refine i_gname ?_
    refine i_lct (hw2 x) ?_
    refine ht x _ _ hxm sm fun H3 s3 => ?_
    refine brb (fun hb => ?_) fun hb => ?_
    · refine hs x _ _ hxm hb (sm.trans s3) fun H4 s4 => ?_
      refine cend ((s3.trans s4) _ _ e) hl2 (by omega) ⟨((sm.trans s3).trans s4).mutz hD, ?_⟩
      rw [List.take_add_one, hx, List.filter_append, List.map_append]; simp [hb]
    · exact ⟨_, s3 _ _ e, by omega, sm.trans s3, by rw [List.take_add_one, hx, List.filter_append, List.map_append]; simp [hb]⟩
  · rintro acc H1 ⟨sm, rfl⟩ e _
    rw [List.take_length] at e
    exact hd H1 sm e
theorem RpAll.take {N : Addr → Prop} {H : Hp} : ∀ {vs : List V} {ds : List PyData} (n : Nat), RpAll N H vs ds → RpAll N H (vs.take n) (ds.take n)
  | _, _, 0, _ => by rw [List.take_zero, List.take_zero]; exact .nil
  | _, _, _ + 1, .nil => .nil
  | _, _, n + 1, .cons a r => by rw [List.take_succ_cons, List.take_succ_cons]; exact .cons a (RpAll.take n r)
/-- what a slice leaves -/
def cutD {α : Type} (xs : List α) (lo hi : Option Int) : List α := (xs.drop (HT.sIx xs.length 0 lo)).take (HT.sIx xs.length xs.length hi - HT.sIx xs.length 0 lo)
theorem cutD_to {α : Type} (xs : List α) (n : Nat) : cutD xs none (some (n : Int)) = xs.take n := by
  unfold cutD
  rw [HT.sIx_none, HT.sIx_nat, List.drop_zero, Nat.sub_zero]
  rcases Nat.le_total n xs.length with h | h
  · rw [Nat.min_eq_left h]
  · rw [Nat.min_eq_right h, List.take_of_length_le (Nat.le_refl _), List.take_of_length_le h]
theorem cutD_from {α : Type} (xs : List α) (n : Nat) : cutD xs (some (n : Int)) none = xs.drop n := by
  unfold cutD
  rw [HT.sIx_none, HT.sIx_nat]
  rcases Nat.le_total n xs.length with h | h
  · rw [Nat.min_eq_left h, List.take_of_length_le (by rw [List.length_drop]; exact Nat.le_refl _)]
  · rw [Nat.min_eq_right h, Nat.sub_self, List.take_zero, List.drop_of_length_le h]
section
variable {K : PySem.W.Frag} {H : Hp} {Q : VK} {N : Addr → Prop}
theorem i_slRp {v : V} {ds : List PyData} {lo hi : Option Int} (r : Rp N H v (.tuple ds)) (hN : ∀ p, H p = none → ¬ N p) (q : ∀ v' H', Same H H' → Rp N H' v' (.tuple (cutD ds lo hi)) → Q v' H') : rSlA K v lo hi H Q := by
  obtain ⟨a, xs, rfl, e, n, ra⟩ := Rp.tupS r
  have hl : xs.length = ds.length := ra.length
  refine ⟨a, xs, rfl, SqT.of e, fun hw => ?_, fun _ p hp => ?_⟩
  · refine q _ H (Same.refl H) ?_
    have e2 : cutD ds lo hi = ds := by
      unfold cutD
      rw [hl] at hw
      rw [hw.1, hw.2, List.drop_zero, Nat.sub_zero, List.take_length]
    rw [e2]; exact r
  · refine q _ _ ((Same.refl H).newz hp) (.tup upd_same (hN p hp) ?_)
    have : RpAll N H (cutV xs lo hi) (cutD ds lo hi) := by
      unfold cutV cutD
      rw [hl]
      exact RpAll.take _ (ra.drop _)
    exact this.mono (Kp.refl.newz hp)
theorem i_catRp {x y : V} {ds es : List PyData} (r : Rp N H x (.tuple ds)) (r2 : Rp N H y (.tuple es)) (hN : ∀ p, H p = none → ¬ N p) (hl : ds.length + es.length ≤ 90000) (q : ∀ v' H', Same H H' → Rp N H' v' (.tuple (ds ++ es)) → Q v' H') : rCatA K x y H Q := by
  obtain ⟨a, xs, rfl, e, n, ra⟩ := Rp.tupS r
  obtain ⟨b, ys, rfl, e2, n2, rb⟩ := Rp.tupS r2
  have h1 : xs.length = ds.length := ra.length
  have h2 : ys.length = es.length := rb.length
  refine ⟨a, b, xs, ys, rfl, rfl, SqT.of e, SqT.of e2, le_line (by omega), fun z => ?_, fun _ z => ?_, fun _ _ p hp => ?_⟩
  · subst z
    have : ds = [] := List.eq_nil_of_length_eq_zero (by rw [← h1]; rfl)
    subst this
    exact q _ H (Same.refl H) r2
  · subst z
    have : es = [] := List.eq_nil_of_length_eq_zero (by rw [← h2]; rfl)
    subst this
    refine q _ H (Same.refl H) ?_
    rw [List.append_nil]; exact r
  · exact q _ _ ((Same.refl H).newz hp) (.tup upd_same (hN p hp) ((ra.append rb).mono (Kp.refl.newz hp)))
theorem i_ixRp {v : V} {ds : List PyData} {d : PyData} {i : Nat} (r : Rp N H v (.tuple ds)) (hd : ds[i]? = some d) (q : ∀ x, Rp N H x d → Q x H) : rIxT K v (.int (i : Int)) H Q := by
  obtain ⟨a, xs, rfl, e, n, ra⟩ := Rp.tupS r
  obtain ⟨x, hx, rx⟩ := ra.get hd
  exact i_ixT (SqT.of e) (atI_nat hx) (q x rx)
theorem i_lenRp {v : V} {ds : List PyData} (r : Rp N H v (.tuple ds)) (q : Q (.int (ds.length : Int)) H) : zLen K [v] H Q := by
  obtain ⟨a, xs, rfl, e, n, ra⟩ := Rp.tupS r
  refine i_lenT (SqT.of e) ?_
  rw [ra.length]; exact q
theorem i_lenRpL {v : V} {ds : List PyData} (r : Rp N H v (.list ds)) (q : Q (.int (ds.length : Int)) H) : zLen K [v] H Q := by
  cases r with
  | lst e n ra =>
    refine i_lenL (SqL.of e) ?_
    rw [ra.length]; exact q
/-- isinstance of an own class -/
theorem i_isC {C : Addr} {x : V} {d : PyData} (r : Rp N H x d) (h1 : PySem.W.isClsIn K C = true) (h2 : PySem.W.typeIn K (.ref C) = some (.type "type")) (q : Q (.bl false) H) : zIsi K [x, .ref C] H Q := by
  refine ⟨x, .ref C, _, .ref C, false, rfl, .own C, r.ty, ?_, q⟩
  have e2 : ((PySem.W.clsIn K C).isSome && PySem.W.typeIn K (.ref C) == some (.type "type")) = true := by
    have h1' : (PySem.W.clsIn K C).isSome = true := h1
    rw [h1', h2] <;> rfl
  have hm := tyN_mem d
  generalize tyN d = T at hm ⊢
  have hs : PySem.W.subIn K (.type T) (.ref C) = some false := by
    simp only [List.mem_cons, List.not_mem_nil, or_false] at hm
    rcases hm with rfl | rfl | rfl | rfl | rfl | rfl | rfl <;> rfl
  unfold PySem.W.kitOne
  have hne : (Value.type T == Value.ref C) = false := rfl
  rw [hne]
  show PySem.W.kitCls K (.type T) (.ref C) = some false
  unfold PySem.W.kitCls
  show (if ((PySem.W.clsIn K C).isSome && PySem.W.typeIn K (.ref C) == some (.type "type")) = true then PySem.W.subIn K (.type T) (.ref C) else none) = some false
  rw [if_pos e2]; exact hs
/-- what isinstance asks of an own class -/
structure InsM (K : PySem.W.Frag) (C : Addr) : Prop where
  ha : PySem.W.findIn K (.ref C) "__class__" = some (some (.builtin "object.__class__"))
  hn : PySem.W.specialIn K (.builtin "object.__class__") "__get__" = some (some (.builtin "getset_descriptor.__get__"))
  htk : PySem.W.takesIn K (.builtin "object.__class__") = some true
  hm : PySem.W.mroIn K C (.type "object") = some true
theorem i_isM {C a dx : Addr} {fs : List (Str × V)} (e : H a = some (.ins C dx fs)) (cl : Cls K C) (I : InsM K C) (q : Q (.bl true) H) : zIsi K [.ref a, .ref C] H Q := by
  refine ⟨.ref a, .ref C, .ref C, .ref C, true, rfl, .own C, .base (.ins e cl I.ha I.hn I.htk I.hm), ?_, q⟩
  unfold PySem.W.kitOne
  rw [if_pos (by simp)]
end
theorem _root_.Z.HandOk.nn {h : Addr} {H : Hp} (k : HandOk H h) : ∀ p, H p = none → ¬ p = h := fun p hp => k.ne hp
end Y

namespace Y
open PySem PySem.Spec PyProof.Rows L2 Z
open C8 (tCut pss_cut Cal pe_c Met pe_mt pe_mt0 Mak pe_mk)
open PySem.Sem (wp)
/-- sorted of a tuple of numbers -/
def zSortedTI (K : PySem.W.Frag) : List V → Hp → VK → Prop := fun vs H Q => ∃ (a : Addr) (ns : List Int), vs = [V.ref a] ∧ SqT K H a (ns.map V.int) ∧ ns.length ≤ 90000 ∧ ∀ (ns' : List Int) (p : Addr), ns'.Perm ns → ns'.Pairwise (· ≤ ·) → H p = none → Q (.ref p) (upd H p (.lst (ns'.map V.int)))
theorem zc_sortedTI {X : Cx} : CallR X (.builtin "sorted") (zSortedTI X.K) := by
  intro pins s σ H vs us Q I r h
  obtain ⟨a, ns, rfl, ha, hl, q⟩ := h
  obtain ⟨u, rfl, ru⟩ := vals1 r
  cases (show u = Value.ref a from ru)
  obtain ⟨its, rv, ⟨o, ho, hc, n, hd⟩, _⟩ := I.tuple ha
  have hi := rv.ints
  have hlen : its.length ≤ 90000 := by rw [← rv.length, List.length_map]; exact hl
  have hsz : its.length ≤ sizeLine := Nat.le_trans hlen (by decide)
  refine Calls.call_function_entry kind_sorted plain_sorted entry_sorted (args_sorted1 _) ?_
  unfold Builtin.«sorted»
  refine wpAny_bind (m := checkCount "sorted" 1 1 _) (wpAny_pure ?_)
  refine wpAny_bind (wpAny_collect_seq a (.inr rfl) ho hc hd (fun h1 k => ?_) (by rw [List.size_toArray]; exact hsz))
  refine wpAny_bind (wpAny_newList ?_ hsz)
  have hoL : (h1.push (seqObj "list" its.toArray 0)).get? h1.objs.size = some (seqObj "list" its.toArray 0) := Heap.get?_push_size _ rfl
  refine wpAny_bind (wpAny_holding (wpAny_call_entry slot_list_sort ⟨_, hoL, rfl⟩ entry_list_sort (SrtO.list_sort_ord SrtO.swo_int hoL hsz (fun h2 => SrtO.ints_sortable hi h2) fun out z1 z2 => ⟨_, rfl, ?_⟩) (args_list_sort _)))
  refine wpAny_pure ⟨_, rfl, ?_⟩
  obtain ⟨k1, k2, k3⟩ := SrtO.ints_out hi z1 z2
  obtain ⟨ep, he'⟩ := PyProof.Rows.sortedHeap_at (vs := its) (out := out.toArray) hoL
  have hln : ((out.map SrtO.iv).map V.int).length ≤ sizeLine := by
    rw [List.length_map, k2.length_eq]
    exact le_line (by omega)
  have I1 : Inv X pins σ H ⟨h1, s.gens, s.drawn, s.toks, s.os⟩ := I.kept (t' := s.toks) k
  refine ⟨.ref _, upd H h1.objs.size (.lst ((out.map SrtO.iv).map V.int)), I1.laid (t' := s.toks) (fun b u e => ?_) (Nat.le_refl _) ⟨hln, _, ep, vals_of_ints k1, he'⟩, rfl, q _ _ k2 k3 (I1.hok.fresh (Nat.le_refl _))⟩
  have hb : b ≠ h1.objs.size := Nat.ne_of_lt (Heap.lt_size e)
  exact PyProof.Rows.sortedHeap_old hb (Heap.lt_size (Heap.get?_push_of_some _ e)) |>.trans (Heap.get?_push_of_some _ e)
end Y

namespace Y
open PySem PySem.Spec PyProof.Rows L2 Z
open C8 (tCut pss_cut Cal pe_c Met pe_mt pe_mt0 Mak pe_mk)
abbrev s__law_letters : Stmt := topS 16
abbrev n__law_letters : List Str := ["_law_hand_here", "_law_signs", "_law_many", "_law_rest", "_law_found", "_law_turn", "_law_at"]
theorem sc__law_letters : FnScope n__law_letters ["_law_hand_here", "_law_signs", "_law_many"] (defScope s__law_letters) := ⟨rfl, rfl, rfl, by decide +kernel, rfl, by decide +kernel, by decide +kernel⟩

abbrev s__law_shuffled : Stmt := topS 18
abbrev n__law_shuffled : List Str := ["_law_hand_here", "_law_things", "_law_rest", "_law_found", "_law_turn"]
theorem sc__law_shuffled : FnScope n__law_shuffled ["_law_hand_here", "_law_things"] (defScope s__law_shuffled) := ⟨rfl, rfl, rfl, by decide +kernel, rfl, by decide +kernel, by decide +kernel⟩

abbrev s__law_rows : Stmt := topS 17
abbrev n__law_rows : List Str := ["_law_hand_here", "_law_kind", "_law_size", "_law_many", "_law_rows_here", "_law_steps", "_law_letter", "_law_turns", "_law_state", "_law_row", "_law_to"]
theorem sc__law_rows : FnScope n__law_rows ["_law_hand_here", "_law_kind", "_law_size", "_law_many"] (defScope s__law_rows) := ⟨rfl, rfl, rfl, by decide +kernel, rfl, by decide +kernel, by decide +kernel⟩

abbrev s__law_parts : Stmt := topS 19
abbrev n__law_parts : List Str := ["_law_hand_here", "_law_most", "_law_states", "_law_kind", "_law_many", "_law_size", "_law_letters_here", "_law_table", "_law_accepts", "_law_state"]
theorem sc__law_parts : FnScope n__law_parts ["_law_hand_here", "_law_most", "_law_states"] (defScope s__law_parts) := ⟨rfl, rfl, rfl, by decide +kernel, rfl, by decide +kernel, by decide +kernel⟩

def spLetters : Sp := fun vs H Q _ => ∃ (h : Addr) (l : List Nat) (m : Nat), vs = [.ref h, .str (S l), .int (m : Int)] ∧ HandOk H h ∧ m ≤ l.length ∧ l.length ≤ 1000 ∧
  ∀ (found rest : List Nat) H', found.length = m → (found ++ rest).Perm l → Gd h H H' → Q (.str (S found)) H'
def spShuffled : Sp := fun vs H Q _ => ∃ (h a : Addr) (xs : List Nat), vs = [.ref h, .ref a] ∧ HandOk H h ∧ H a = some (.lst (ivs xs)) ∧ ¬ a = h ∧ xs.length ≤ 100 ∧
  ∀ (t : Addr) (ys : List Nat) H', H t = none → H' t = some (.lst (ivs ys)) → ys.length = xs.length → (∀ y ∈ ys, y ∈ xs) → Gd h H H' → Q (.ref t) H'
def spRows : Sp := fun vs H Q _ => ∃ (h : Addr) (kind size many : Nat), vs = [.ref h, .int (kind : Int), .int (size : Int), .int (many : Int)] ∧ HandOk H h ∧ 1 ≤ size ∧ size ≤ 6 ∧ 1 ≤ many ∧ many ≤ 4 ∧
  ∀ (v : V) (tab : List (List Nat)) H', tab.length = size → (∀ r ∈ tab, r.length = many ∧ ∀ x ∈ r, x < size) → Rp (· = h) H' v (tabD tab) → Gd h H H' → Q v H'
def spParts : Sp := fun vs H Q _ => ∃ (h : Addr), vs = [.ref h, .int 4, .int 6] ∧ HandOk H h ∧
  ∀ (p : Addr) (vt va : V) (L : List Nat) (tab : List (List Nat)) (acc : List Nat) H', Parts L tab acc → H' p = some (.tup [.str (S L), vt, va]) → ¬ p = h → Rp (· = h) H' vt (tabD tab) → Rp (· = h) H' va (rowD acc) → Gd h H H' → Q (.ref p) H'
theorem i_pop {H : Hp} {Q : VK} {l : Addr} {xs : List V} {k : Nat} {y : V} (h : H l = some (.lst xs)) (hk : xs[k]? = some y) (hl : xs.length ≤ 100000) (q : Q y (upd H l (.lst (xs.eraseIdx k)))) : zPopAt (.ref l) [.int (k : Int)] H Q := by
  have h1 := (List.getElem?_eq_some_iff.mp hk).1
  exact ⟨l, xs, k, k, y, rfl, rfl, h, by omega, by omega, by rw [seqIndex_of (by omega) (by omega)]; rfl, hk, q⟩
theorem ivs_get {l : List Nat} {k : Nat} (h : k < l.length) : (ivs l)[k]? = some (.int ((l.getD k 0 : Nat) : Int)) := by
  unfold ivs
  rw [List.getElem?_map, List.getD_eq_getElem?_getD, List.getElem?_eq_getElem h]; rfl
theorem getD_in {l : List Nat} {k : Nat} (h : k < l.length) : l.getD k 0 ∈ l := by
  rw [List.getD_eq_getElem?_getD, List.getElem?_eq_getElem h]
  exact List.getElem_mem h
theorem ivs_erase : ∀ (l : List Nat) (k : Nat), (ivs l).eraseIdx k = ivs (l.eraseIdx k)
  | [], _ => by cases ‹Nat› <;> rfl
  | x :: l, 0 => rfl
  | x :: l, k + 1 => congrArg _ (ivs_erase l k)
theorem ivs_snoc (l : List Nat) (x : Nat) : ivs l ++ [V.int (x : Int)] = ivs (l ++ [x]) := by
  unfold ivs
  rw [List.map_append]; rfl
theorem ivs_len (l : List Nat) : (ivs l).length = l.length := by unfold ivs; rw [List.length_map]
theorem emod_nat (z : Int) {n : Nat} (h : 0 < n) : ∃ x : Nat, x < n ∧ z % (n : Int) = (x : Int) := by
  have h0 := Int.emod_nonneg z (b := (n : Int)) (by omega)
  have h1 := Int.emod_lt_of_pos z (b := (n : Int)) (by omega)
  exact ⟨(z % (n : Int)).toNat, by omega, by omega⟩
theorem rgV_0 (n : Nat) : rgV 0 (n : Int) = ivs (List.range n) := by
  unfold rgV ivs
  rw [show ((n : Int) - 0).toNat = n by omega]
  refine List.map_congr_left fun i _ => ?_
  rw [Int.zero_add]
theorem i_listRg {te : L2.St → Hp → (Int → Int → Hp → Prop) → Prop} {σ : L2.St} {H : Hp} {Q : VK} (q : te σ H fun a b H1 => RgOk a b ∧ ∀ q, H1 q = none → Q (.ref q) (upd H1 q (.lst (rgV a b)))) : tLstRg te σ H Q := q
theorem i_rg1 {ta : TE} {σ : L2.St} {H : Hp} {Q : Int → Int → Hp → Prop} (q : ta σ H fun x H1 => ∃ n, x = .int n ∧ Q 0 n H1) : tRg1 ta σ H Q := q
theorem mutz' {N : Addr → Prop} {H H' : Hp} {p : Addr} {o : HO} (k : Kp N H H') (hp : H p = none) : Kp N H (upd H' p o) := fun b u e n => by
  rw [upd_ne (ne_of_none e hp)]; exact k b u e n
/-- the tuples stand as they are -/
def TK (H H' : Hp) : Prop := ∀ b xs, H b = some (.tup xs) → H' b = some (.tup xs)
theorem TK.refl {H : Hp} : TK H H := fun _ _ e => e
theorem TK.trans {H H1 H2 : Hp} (a : TK H H1) (b : TK H1 H2) : TK H H2 := fun c xs e => b c xs (a c xs e)
theorem TK.gd {h : Addr} {H H1 H2 : Hp} (a : TK H H1) (g : Gd h H1 H2) : TK H H2 := fun c xs e => by
  obtain ⟨_, _, _, _, _, _, e1, _⟩ := g.ok0.ex
  have e2 := a c xs e
  exact g.kp c _ e2 fun z => by subst z; rw [e1] at e2; cases e2
theorem TK.newz {H H1 : Hp} {p : Addr} {o : HO} (a : TK H H1) (hp : H1 p = none) : TK H (upd H1 p o) := fun c xs e => nw hp (a c xs e)
theorem TK.mutl {H H1 : Hp} {p : Addr} {o : HO} {ys : List V} (a : TK H H1) (hp : H1 p = some (.lst ys)) : TK H (upd H1 p o) := fun c xs e => by
  have e2 := a c xs e
  rw [upd_ne (fun z => by subst z; rw [hp] at e2; cases e2)]; exact e2
theorem tk_rows {N : Addr → Prop} {H H' : Hp} (a : TK H H') : ∀ {tab : List (List Nat)} {vs : List V}, RpAll N H vs (tab.map rowD) → RpAll N H' vs (tab.map rowD)
  | [], _, r => by rw [RpAll.nilS r]; exact .nil
  | row :: tab, _, r => by
    obtain ⟨v, ws, rfl, r1, r2⟩ := RpAll.consS r
    obtain ⟨p, rfl, e, n⟩ := rowD_rp r1
    exact .cons (.tup (a _ _ e) n (ids_of _)) (tk_rows a r2)
theorem kp_gd {N : Addr → Prop} {h : Addr} {H H1 H2 : Hp} (k : Kp N H H1) (g : Gd h H1 H2) (hN : N h) : Kp N H H2 := fun b o e n => g.kp _ _ (k b o e n) fun z => n (z ▸ hN)
section
variable {P : Program} {w : World} {K : PySem.W.Frag} {mg : Str → Option Value} {base : Heap}
theorem c__law_letters (d : DF K mg "_law_letters" s__law_letters) (B : Bi mg) (c__law_draw : Cal P w K mg base 1 "_law_draw" spDraw []) : Cal P w K mg base 2 "_law_letters" spLetters [] := by
  refine d.cal (N := n__law_letters) sc__law_letters (fun _ _ _ _ _ _ us hl => match us, hl with | [_, _, _], _ => rfl) (fun vs H Q E h => ?_) (fun f cdv A outer s H vs Q E hr h => ?_)
  · obtain ⟨h, l, m, rfl, _⟩ := h
    rfl
  · obtain ⟨h, l, m, rfl, hh, hm, hl, k⟩ := h
    refine ⟨_, (pss_cons (ps_set (i := 3) sc__law_letters.nd rfl (by first | exact Or.inl rfl | exact Or.inr rfl) (pv 1))
  (pss_cons (ps_set (i := 4) sc__law_letters.nd rfl (by first | exact Or.inl rfl | exact Or.inr rfl) pe_str)
  (pss_cons (ps_for PassesOwn.never rfl (pi_range1 rfl B.range (pa_cons (pv 2) pa_nil)) (pg_name (i := 5) sc__law_letters.nd rfl (by first | exact Or.inl rfl | exact Or.inr rfl)) (pss_cons (ps_set (i := 6) sc__law_letters.nd rfl (by first | exact Or.inl rfl | exact Or.inr rfl) (pe_c c__law_draw hr (by first | decide | omega) rfl (pa_cons (pv 0) (pa_cons (pe_callB zc_lens (by rfl) B.len (by decide +kernel) (pa_cons (pv 3) pa_nil)) pa_nil))))
  (pss_cons (ps_set (i := 4) sc__law_letters.nd rfl (by first | exact Or.inl rfl | exact Or.inr rfl) (pe_op z_adds (pv 4) (pe_ix ix_str (pv 3) (pv 6) (fun _ _ => rfl))))
  (pss_one (ps_set (i := 3) sc__law_letters.nd rfl (by first | exact Or.inl rfl | exact Or.inr rfl) (pe_op z_adds (pe_slice sl_str (pv 3) po_none (po_some (pv 6))) (pe_slice sl_str (pv 3) (po_some (pe_op z_add (pv 6) pe_int)) po_none)))))))
  (pss_one (ps_ret (pv 4)))))), ?_⟩
    refine zstart [some (.ref h), some (.str (S l)), some (.int m), none, none, none, none] rfl ?_; try dsimp only [zK, zK2]
    walk_at "zz"
    refine i_KR1 (by omega) ?_
    refine l_range (fun i σ H1 => ∃ (found rest : List Nat) (v5 v6 : Option V), σ = [some (.ref h), some (.str (S l)), some (.int m), some (.str (S rest)), some (.str (S found)), v5, v6] ∧ found.length = i ∧ (found ++ rest).Perm l ∧ Gd h H H1) ?_ ?_ ?_
    · exact ⟨[], l, none, none, rfl, rfl, by simp, Gd.refl hh⟩
    · rintro i σ H1 hi ⟨found, rest, v5, v6, rfl, hf, hp, g⟩
      have hlen := hp.length_eq
      rw [List.length_append] at hlen
      have hi' : i < m := by omega
      walk_at "zz"
      refine use_draw g.ok (by omega) (by omega) fun r H2 hr2 g2 => ?_
      walk_at "zz"
      have hrl : r < rest.length := by omega
      refine i_ixS (by omega) (atI_nat (List.getElem?_eq_getElem hrl)) ?_
      walk_at "zz"
      refine i_slTo (by omega) ?_
      walk_at "zz"
      refine i_slFrom (by omega) ?_
      walk_at "zz"
      refine i_adds (by rw [List.length_take, List.length_drop]; omega) ?_
      walk_at "zz"
      exact ⟨_, _, _, _, rfl, by rw [List.length_append, hf]; rfl, perm_pick hrl hp, g.trans g2⟩
    · rintro σ H1 ⟨found, rest, v5, v6, rfl, hf, hp, g⟩
      walk_at "zz"
      exact k found rest _ (by omega) hp g
theorem c__law_shuffled (d : DF K mg "_law_shuffled" s__law_shuffled) (B : Bi mg) (c__law_draw : Cal P w K mg base 1 "_law_draw" spDraw []) : Cal P w K mg base 2 "_law_shuffled" spShuffled [] := by
  refine d.cal (N := n__law_shuffled) sc__law_shuffled (fun _ _ _ _ _ _ us hl => match us, hl with | [_, _], _ => rfl) (fun vs H Q E h => ?_) (fun f cdv A outer s H vs Q E hr h => ?_)
  · obtain ⟨h, a, xs, rfl, _⟩ := h
    rfl
  · obtain ⟨h, a, xs, rfl, hh, ea, nah, hl, k⟩ := h
    refine ⟨_, (pss_cons (ps_set (i := 2) sc__law_shuffled.nd rfl (by first | exact Or.inl rfl | exact Or.inr rfl) (pe_callTy (r := zList K) zc_list (by rfl) B.list (by decide +kernel) (pa_cons (pv 1) pa_nil)))
  (pss_cons (ps_set (i := 3) sc__law_shuffled.nd rfl (by first | exact Or.inl rfl | exact Or.inr rfl) (pe_lst pa_nil))
  (pss_cons (ps_for PassesOwn.never rfl (pi_range1 rfl B.range (pa_cons (pe_callB (r := zLen K) zc_len (by rfl) B.len (by decide +kernel) (pa_cons (pv 1) pa_nil)) pa_nil)) (pg_name (i := 4) sc__law_shuffled.nd rfl (by first | exact Or.inl rfl | exact Or.inr rfl)) (pss_one (ps_expr (pe_bmZ (K := K) rfl PySem.F.plainAttrs_list PySem.F.slot_list_append PySem.F.type_list_append zm_append (pv 3) (pa_cons (pe_bmZ (K := K) rfl PySem.F.plainAttrs_list PySem.F.slot_list_pop PySem.F.type_list_pop zm_popAt (pv 2) (pa_cons (pe_c c__law_draw hr (by first | decide | omega) rfl (pa_cons (pv 0) (pa_cons (pe_callB (r := zLen K) zc_len (by rfl) B.len (by decide +kernel) (pa_cons (pv 2) pa_nil)) pa_nil))) pa_nil)) pa_nil)))))
  (pss_one (ps_ret (pv 3)))))), ?_⟩
    refine zstart [some (.ref h), some (.ref a), none, none, none] rfl ?_; try dsimp only [zK, zK2]
    walk_at "zz"
    refine i_listL (SqL.of ea) fun rs0 hrs0 => ?_
    have nrh := hh.ne hrs0
    have g1 := (Gd.refl hh).new (o := .lst (ivs xs)) hrs0
    have ea1 := nw (o := .lst (ivs xs)) hrs0 ea
    have er1 : (upd H rs0 (.lst (ivs xs))) rs0 = some (.lst (ivs xs)) := upd_same
    generalize upd H rs0 (.lst (ivs xs)) = H1 at g1 ea1 er1 ⊢
    walk_at "zz"
    refine ⟨by show 0 ≤ sizeLine; exact Nat.zero_le _, fun fs0 hfs0 => ?_⟩
    have nfh := g1.ok.ne hfs0
    have nfr : ¬ fs0 = rs0 := fun e => by subst e; rw [er1] at hfs0; cases hfs0
    have hf0 : H fs0 = none := by
      cases e : H fs0 with
      | none => rfl
      | some o => rw [g1.kp' e nfh] at hfs0; cases hfs0
    have g2 := g1.new (o := .lst []) hfs0
    have ea2 := nw (o := .lst []) hfs0 ea1
    have er2 := nw (o := .lst []) hfs0 er1
    have ef2 : (upd H1 fs0 (.lst [])) fs0 = some (.lst []) := upd_same
    generalize upd H1 fs0 (.lst []) = H2 at g2 ea2 er2 ef2 ⊢
    walk_at "zz"
    rw [ivs_len]
    refine i_KR1 (by omega) ?_
    rw [Int.toNat_natCast]
    refine l_range (fun i σ H3 => Gd h H H3 ∧ ∃ (rs fs : List Nat) (v4 : Option V), H3 rs0 = some (.lst (ivs rs)) ∧ H3 fs0 = some (.lst (ivs fs)) ∧ rs.length + i = xs.length ∧ fs.length = i ∧ (∀ x ∈ rs, x ∈ xs) ∧ (∀ x ∈ fs, x ∈ xs) ∧ σ = [some (.ref h), some (.ref a), some (.ref rs0), some (.ref fs0), v4])
      ⟨g2, xs, [], none, er2, ef2, by omega, rfl, fun x hx => hx, by simp, rfl⟩ ?_ ?_
    · rintro i σ H3 hi ⟨g3, rs, fs, v4, er3, ef3, hrl, hfl, hrm, hfm, rfl⟩
      walk_at "zz"
      refine i_tyL (SqL.of ef3) ?_
      walk_at "zz"
      refine i_tyL (SqL.of er3) ?_
      walk_at "zz"
      rw [ivs_len]
      refine use_draw g3.ok (by omega) (by omega) fun r H4 hr4 g4 => ?_
      have hr' : r < rs.length := by omega
      have er4 := g4.kp' er3 nrh
      have ef4 := g4.kp' ef3 nfh
      walk_at "zz"
      refine i_pop er4 (ivs_get hr') (by rw [ivs_len]; omega) ?_
      rw [ivs_erase]
      walk_at "zz"
      have ef5 : (upd H4 rs0 (.lst (ivs (rs.eraseIdx r)))) fs0 = some (.lst (ivs fs)) := by rw [upd_ne nfr]; exact ef4
      refine i_append ef5 (by rw [ivs_len]; omega) ?_
      rw [ivs_snoc]
      walk_at "zz"
      refine ⟨((g3.trans g4).mutz hrs0).mutz hf0, rs.eraseIdx r, fs ++ [rs.getD r 0], _, by rw [upd_ne (fun e => nfr e.symm)]; exact upd_same, upd_same, by rw [List.length_eraseIdx_of_lt hr']; omega, by rw [List.length_append, hfl]; rfl, fun x hx => hrm x (List.mem_of_mem_eraseIdx hx), fun x hx => ?_, rfl⟩
      rcases List.mem_append.mp hx with q | q
      · exact hfm x q
      · rw [List.mem_singleton.mp q]; exact hrm _ (getD_in hr')
    · rintro σ H3 ⟨g3, rs, fs, v4, er3, ef3, hrl, hfl, hrm, hfm, rfl⟩
      walk_at "zz"
      exact k fs0 fs _ hf0 ef3 (by omega) hfm g3
theorem c__law_rows (d : DF K mg "_law_rows" s__law_rows) (B : Bi mg) (c__law_draw : Cal P w K mg base 1 "_law_draw" spDraw []) (c__law_shuffled : Cal P w K mg base 2 "_law_shuffled" spShuffled []) : Cal P w K mg base 3 "_law_rows" spRows [] := by
  refine d.cal (N := n__law_rows) sc__law_rows (fun _ _ _ _ _ _ us hl => match us, hl with | [_, _, _, _], _ => rfl) (fun vs H Q E h => ?_) (fun f cdv A outer s H vs Q E hr h => ?_)
  · obtain ⟨h, kind, size, many, rfl, _⟩ := h
    rfl
  · obtain ⟨h, kind, size, many, rfl, hh, hs1, hs6, hm1, hm4, k⟩ := h
    refine ⟨_, (pss_cons (ps_set (i := 4) sc__law_rows.nd rfl (by first | exact Or.inl rfl | exact Or.inr rfl) (pe_lst pa_nil))
  (pss_cons (ps_setLc (i := 5) (own := [("_law_letter", 6)]) (g := gName 6) (tt := tYes) rfl sc__law_rows.nd rfl rfl (sw_true rfl rfl rfl (by decide +kernel)) (pi_range1 rfl B.range (pa_cons (pv 3) pa_nil)) (blkOk_by (N := n__law_rows) (sc := defScope s__law_rows) (by decide +kernel)) (fun _ _ _ _ _ => (pg_name (i := 6) sc__law_rows.nd rfl (by first | exact Or.inl rfl | exact Or.inr rfl))) (fun _ _ _ _ _ => pts_nil) (fun _ _ _ _ _ => (pe_c c__law_draw hr (by first | decide | omega) rfl (pa_cons (pv 0) (pa_cons (pv 2) pa_nil)))))
  (pss_cons (ps_setLc (i := 7) (own := [("_law_letter", 6)]) (g := gName 6) (tt := tYes) rfl sc__law_rows.nd rfl rfl (sw_true rfl rfl rfl (by decide +kernel)) (pi_range1 rfl B.range (pa_cons (pv 3) pa_nil)) (blkOk_by (N := n__law_rows) (sc := defScope s__law_rows) (by decide +kernel)) (fun _ _ _ _ _ => (pg_name (i := 6) sc__law_rows.nd rfl (by first | exact Or.inl rfl | exact Or.inr rfl))) (fun _ _ _ _ _ => pts_nil) (fun _ _ _ _ _ => (pe_c c__law_shuffled hr (by first | decide | omega) rfl (pa_cons (pv 0) (pa_cons (pe_listRg rfl (by rfl) B.list (prg_1 (by rfl) B.range (pv 2))) pa_nil)))))
  (pss_cons (ps_for PassesOwn.never rfl (pi_range1 rfl B.range (pa_cons (pv 2) pa_nil)) (pg_name (i := 8) sc__law_rows.nd rfl (by first | exact Or.inl rfl | exact Or.inr rfl)) (pss_cons (ps_set (i := 9) sc__law_rows.nd rfl (by first | exact Or.inl rfl | exact Or.inr rfl) (pe_lst pa_nil))
  (pss_cons (ps_for PassesOwn.never rfl (pi_range1 rfl B.range (pa_cons (pv 3) pa_nil)) (pg_name (i := 6) sc__law_rows.nd rfl (by first | exact Or.inl rfl | exact Or.inr rfl)) (pss_cons (ps_set (i := 10) sc__law_rows.nd rfl (by first | exact Or.inl rfl | exact Or.inr rfl) (pe_c c__law_draw hr (by first | decide | omega) rfl (pa_cons (pv 0) (pa_cons (pv 2) pa_nil))))
  (pss_cut (ps_if (pt_cmpR op_eq (pv 1) pe_int (nomark _)) (pss_one (ps_set (i := 10) sc__law_rows.nd rfl (by first | exact Or.inl rfl | exact Or.inr rfl) (pe_op z_mod (pe_callTy zc_int (by rfl) B.int (by decide +kernel) (pa_cons (pe_op z_add (pv 8) (pe_ix (r := rIxL K) ix_list (pv 5) (pv 6) (fun _ _ => rfl))) pa_nil)) (pv 2)))) pss_nil)
  (pss_cut (ps_if (pt_cmpR op_eq (pv 1) pe_int (nomark _)) (pss_one (ps_set (i := 10) sc__law_rows.nd rfl (by first | exact Or.inl rfl | exact Or.inr rfl) (pe_callB (zc_min rfl) (by rfl) B.min (by decide +kernel) (pa_cons (pe_op z_sub (pv 2) pe_int) (pa_cons (pe_op z_add (pv 8) (pe_ix (r := rIxL K) ix_list (pv 5) (pv 6) (fun _ _ => rfl))) pa_nil))))) pss_nil)
  (pss_cut (ps_if (pt_cmpR op_eq (pv 1) pe_int (nomark _)) (pss_cons (ps_set (i := 10) sc__law_rows.nd rfl (by first | exact Or.inl rfl | exact Or.inr rfl) (pv 8))
  (pss_one (ps_if (pt_cmpR op_eq (pv 8) pe_int (nomark _)) (pss_one (ps_set (i := 10) sc__law_rows.nd rfl (by first | exact Or.inl rfl | exact Or.inr rfl) (pe_op z_mod (pe_callTy zc_int (by rfl) B.int (by decide +kernel) (pa_cons (pe_op z_add pe_int (pv 6)) pa_nil)) (pv 2)))) pss_nil))) pss_nil)
  (pss_cut (ps_if (pt_cmpR op_eq (pv 1) pe_int (nomark _)) (pss_one (ps_set (i := 10) sc__law_rows.nd rfl (by first | exact Or.inl rfl | exact Or.inr rfl) (pe_op z_mod (pe_callTy zc_int (by rfl) B.int (by decide +kernel) (pa_cons (pe_op z_add pe_int (pv 6)) pa_nil)) (pv 2)))) pss_nil)
  (pss_cut (ps_if (pt_cmpR op_eq (pv 1) pe_int (nomark _)) (pss_one (ps_set (i := 10) sc__law_rows.nd rfl (by first | exact Or.inl rfl | exact Or.inr rfl) (pe_callB (zc_min rfl) (by rfl) B.min (by decide +kernel) (pa_cons (pe_op z_sub (pv 2) pe_int) (pa_cons (pe_op z_add (pv 8) (pe_callTy zc_int (by rfl) B.int (by decide +kernel) (pa_cons (pe_cmpR op_eq (pe_op z_mod (pv 8) (pv 3)) (pv 6) (nomark _)) pa_nil))) pa_nil))))) pss_nil)
  (pss_cut (ps_if (pt_cmpR op_eq (pv 1) pe_int (nomark _)) (pss_cons (ps_set (i := 10) sc__law_rows.nd rfl (by first | exact Or.inl rfl | exact Or.inr rfl) (pe_op z_sub (pv 2) pe_int))
  (pss_one (ps_if (PW.pt (pw_and (pt_cmpR z_lt (pv 8) (pe_op z_sub (pv 2) pe_int) (nomark _)) (pw_and1 (pt_cmpR op_eq (pe_op z_mod (pv 8) (pv 3)) (pv 6) (nomark _))))) (pss_one (ps_set (i := 10) sc__law_rows.nd rfl (by first | exact Or.inl rfl | exact Or.inr rfl) (pe_op z_mod (pe_callTy zc_int (by rfl) B.int (by decide +kernel) (pa_cons (pe_op z_add (pv 8) pe_int) pa_nil)) (pe_op z_sub (pv 2) pe_int)))) pss_nil))) pss_nil)
  (pss_cut (ps_if (pt_cmpR op_eq (pv 1) pe_int (nomark _)) (pss_one (ps_set (i := 10) sc__law_rows.nd rfl (by first | exact Or.inl rfl | exact Or.inr rfl) (pe_ix (r := rIxL K) ix_list (pe_ix (r := rIxL K) ix_list (pv 7) (pv 6) (fun _ _ => rfl)) (pv 8) (fun _ _ => rfl)))) pss_nil)
  (pss_one (ps_expr (pe_bmZ (K := K) rfl PySem.F.plainAttrs_list PySem.F.slot_list_append PySem.F.type_list_append zm_append (pv 9) (pa_cons (pv 10) pa_nil)))))))))))))
  (pss_one (ps_expr (pe_bmZ (K := K) rfl PySem.F.plainAttrs_list PySem.F.slot_list_append PySem.F.type_list_append zm_append (pv 4) (pa_cons (pe_callTy (r := zTuple K) zc_tuple (by rfl) B.tuple (by decide +kernel) (pa_cons (pv 9) pa_nil)) pa_nil)))))))
  (pss_one (ps_ret (pe_callTy (r := zTuple K) zc_tuple (by rfl) B.tuple (by decide +kernel) (pa_cons (pv 4) pa_nil)))))))), ?_⟩
    refine zstart [some (.ref h), some (.int (kind : Int)), some (.int (size : Int)), some (.int (many : Int)), none, none, none, none, none, none, none] rfl ?_; try dsimp only [zK, zK2]
    walk_at "zz"
    refine ⟨by show 0 ≤ sizeLine; exact Nat.zero_le _, fun ra hra => ?_⟩
    have nrah := hh.ne hra
    have g1 := (Gd.refl hh).new (o := .lst []) hra
    have era : (upd H ra (.lst [])) ra = some (.lst []) := upd_same
    generalize upd H ra (.lst []) = H1 at g1 era ⊢
    walk_at "zz"
    refine i_KR1 (by omega) ?_
    rw [Int.toNat_natCast]
    refine fun sa hsa => ?_
    have nsah := g1.ok.ne hsa
    have nsr : ¬ ra = sa := ne_of_none era hsa
    refine l_comp (walk_range (lo := 0) (n := many)) [some (.ref h), some (.int (kind : Int)), some (.int (size : Int)), some (.int (many : Int)), some (.ref ra), none, none, none, none, none, none] rfl (fun i acc H' => Gd h H1 H' ∧ ∃ steps : List Nat, acc = ivs steps ∧ steps.length = i) ⟨(Gd.refl g1.ok).new hsa, [], rfl, rfl⟩ (fun _ _ _ _ _ _ => trivial) ?_ ?_
    · rintro i x acc H2 H3 hi ⟨g2, steps, rfl, hsl⟩ e hl2 ⟨e2, rfl⟩
      subst e2
      show gName _ (V.int (0 + (i : Int))) _ _ _
      refine i_gname ?_
      refine i_lct rfl ?_
      refine i_yes ?_
      refine iteT ?_
      refine zte [some (.ref h), some (.int (kind : Int)), some (.int (size : Int)), some (.int (many : Int)), some (.ref ra), none, some (.int (0 + (i : Int))), none, none, none, none] rfl ?_
      walk_at "zz"
      refine use_draw g2.ok (by omega) (by omega) fun r H4 hr4 g4 => ?_
      refine cend (g4.kp' e nsah) hl2 (by omega) ⟨(g2.trans g4).mutz hsa, steps ++ [r], ivs_snoc _ _, by rw [List.length_append, hsl]; rfl⟩
    rintro acc H2 ⟨g2, steps, rfl, hsl⟩ esa hl2
    have era2 := g2.kp' era nrah
    walk_at "zz"
    refine i_KR1 (by omega) ?_
    rw [Int.toNat_natCast]
    refine fun ta hta => ?_
    have ntah := g2.ok.ne hta
    refine l_comp (walk_range (lo := 0) (n := many)) [some (.ref h), some (.int (kind : Int)), some (.int (size : Int)), some (.int (many : Int)), some (.ref ra), some (.ref sa), none, none, none, none, none] rfl
      (fun i acc H' => Gd h H2 H' ∧ ∃ ts : List Addr, acc = ts.map V.ref ∧ ts.length = i ∧ ∀ t ∈ ts, (¬ t = h ∧ ¬ t = ta ∧ H2 t = none) ∧ ∃ ys : List Nat, H' t = some (.lst (ivs ys)) ∧ ys.length = size ∧ ∀ y ∈ ys, y < size) ⟨(Gd.refl g2.ok).new hta, [], rfl, rfl, by simp⟩ (fun _ _ _ _ _ _ => trivial) ?_ ?_
    · rintro i x acc H3 H4 hi ⟨g3, ts, rfl, htl, hts⟩ e hl3 ⟨e2, rfl⟩
      subst e2
      show gName _ (V.int (0 + (i : Int))) _ _ _
      refine i_gname ?_
      refine i_lct rfl ?_
      refine i_yes ?_
      refine iteT ?_
      refine zte [some (.ref h), some (.int (kind : Int)), some (.int (size : Int)), some (.int (many : Int)), some (.ref ra), some (.ref sa), some (.int (0 + (i : Int))), none, none, none, none] rfl ?_
      walk_at "zz"
      refine i_listRg ?_
      refine i_rg1 ?_
      walk_at "zz"
      refine ⟨_, rfl, RgOk.of_le (by decide) (by omega) (by decide) (by omega), fun q hq => ?_⟩
      rw [rgV_0]
      have nqh := g3.ok.ne hq
      walk_at "zz"
      have g4 := g3.new (o := .lst (ivs (List.range size))) hq
      have e4 := nw (o := .lst (ivs (List.range size))) hq e
      refine ⟨h, q, List.range size, rfl, g4.ok, upd_same, nqh, by rw [List.length_range]; omega, fun t ys H5 ht et hyl hym g5 => ?_⟩
      have nth : ¬ t = h := g4.ok.ne ht
      have ntt : ¬ t = ta := fun z => by subst z; rw [e4] at ht; cases ht
      have e5 := g5.kp' e4 ntah
      have ht2 : H2 t = none := by
        cases z : H2 t with
        | none => rfl
        | some o => rw [g4.kp' z nth] at ht; cases ht
      refine cend e5 hl3 (by omega) ⟨(g4.trans g5).mutz hta, ts ++ [t], by rw [List.map_append]; rfl, by rw [List.length_append, htl]; rfl, fun t' ht' => ?_⟩
      rcases List.mem_append.mp ht' with z | z
      · obtain ⟨⟨n1, n2, n3⟩, ys', ey, hy1, hy2⟩ := hts t' z
        exact ⟨⟨n1, n2, n3⟩, ys', by rw [upd_ne n2]; exact g5.kp' (nw hq ey) n1, hy1, hy2⟩
      · rw [List.mem_singleton.mp z]
        exact ⟨⟨nth, ntt, ht2⟩, ys, by rw [upd_ne ntt]; exact et, by rw [hyl, List.length_range], fun y hy => List.mem_range.mp (hym y hy)⟩
    rintro acc Hb ⟨g3, ts, rfl, htl, hts⟩ eta hl3
    have erab := g3.kp' era2 nrah
    have esab := g3.kp' esa nsah
    walk_at "zz"
    refine i_KR1 (by omega) ?_
    have gB : Gd h H Hb := (g1.trans g2).trans g3
    have ntr : ¬ ta = ra := fun z => by subst z; rw [era2] at hta; cases hta
    have hHra : H ra = none := hra
    have nl : ∀ {p : Addr}, Hb p = none → H p = none := fun {p} hp => by
      cases z : H p with
      | none => rfl
      | some o =>
        by_cases q : p = h
        · obtain ⟨o', ho'⟩ := gB.ok.some
          rw [q, ho'] at hp; cases hp
        · rw [gB.kp _ _ z q] at hp; cases hp
    rw [Int.toNat_natCast]
    refine l_range (fun i σ H4 => Gd h H H4 ∧ Kp (fun b => b = h ∨ b = ra) Hb H4 ∧ ∃ (vs : List V) (tab : List (List Nat)) (v6 v8 v9 v10 : Option V), H4 ra = some (.lst vs) ∧ RpAll (· = h) H4 vs (tab.map rowD) ∧ tab.length = i ∧ (∀ r ∈ tab, r.length = many ∧ ∀ x ∈ r, x < size) ∧
      σ = [some (.ref h), some (.int (kind : Int)), some (.int (size : Int)), some (.int (many : Int)), some (.ref ra), some (.ref sa), v6, some (.ref ta), v8, v9, v10]) ⟨gB, Kp.refl, [], [], _, _, _, _, erab, .nil, rfl, by simp, rfl⟩ ?_ ?_
    · rintro i σ H4 hi ⟨g4, kb4, vs, tab, v6, v8, v9, v10, era4, RT, htab, hrows, rfl⟩
      walk_at "zz"
      refine ⟨by show 0 ≤ sizeLine; exact Nat.zero_le _, fun rb hrb => ?_⟩
      have nrbh := g4.ok.ne hrb
      have nrr : ¬ ra = rb := ne_of_none era4 hrb
      have hbrb : Hb rb = none := by
        cases z : Hb rb with
        | none => rfl
        | some o => rw [kb4 _ _ z (fun q => q.elim nrbh fun q => nrr q.symm)] at hrb; cases hrb
      have hHrb : H rb = none := nl hbrb
      have vlen : vs.length = i := by rw [RT.length, List.length_map, htab]
      walk_at "zz"
      refine i_KR1 (by omega) ?_
      rw [Int.toNat_natCast]
      refine l_range (fun j σ H5 => Gd h H H5 ∧ Kp (fun b => b = h ∨ b = ra) Hb H5 ∧ TK H4 H5 ∧ H5 ra = some (.lst vs) ∧ ∃ (row : List Nat) (v6 v10 : Option V), H5 rb = some (.lst (ivs row)) ∧ row.length = j ∧ (∀ x ∈ row, x < size) ∧
        σ = [some (.ref h), some (.int (kind : Int)), some (.int (size : Int)), some (.int (many : Int)), some (.ref ra), some (.ref sa), v6, some (.ref ta), some (.int (i : Int)), some (.ref rb), v10])
        ⟨g4.mutz hHrb, mutz' kb4 hbrb, TK.refl.newz hrb, nw hrb era4, [], _, _, upd_same, rfl, by simp, rfl⟩ ?_ ?_
      · rintro j σ H5 hj ⟨g5, kb5, tk5, era5, row, v6, v10, erb5, hrow1, hrow2, rfl⟩
        walk_at "zz"
        refine use_draw g5.ok (by omega) (by omega) fun x Hc hxr g6 => ?_
        have hx : x < size := by omega
        have gc := g5.trans g6
        have kbc := kp_gd kb5 g6 (.inl rfl)
        have tkc := tk5.gd g6
        have erac := g6.kp' era5 nrah
        have erbc := g6.kp' erb5 nrbh
        have ec_s : Hc sa = some (.lst (ivs steps)) := kbc _ _ esab fun q => q.elim nsah fun q => nsr q.symm
        have ec_t : Hc ta = some (.lst (ts.map V.ref)) := kbc _ _ eta fun q => q.elim ntah ntr
        have hjs : j < steps.length := by omega
        have ect : ∀ j, j < many → ∃ (tv : Addr) (ys : List Nat), (ts.map V.ref)[j]? = some (.ref tv) ∧ Hc tv = some (.lst (ivs ys)) ∧ ys.length = size ∧ ∀ y ∈ ys, y < size := fun j hj => by
          have hjt : j < ts.length := by omega
          obtain ⟨⟨n1, n2, n3⟩, ys, ey, hy1, hy2⟩ := hts _ (List.getElem_mem hjt)
          refine ⟨ts[j], ys, by rw [List.getElem?_map, List.getElem?_eq_getElem hjt]; rfl, kbc _ _ ey fun q => q.elim n1 fun q => ?_, hy1, hy2⟩
          rw [q, era2] at n3; cases n3
        walk_at "zz"
        refine i_cut (fun σ' H' => Hc = H' ∧ ∃ x : Nat, x < size ∧ σ' = [some (.ref h), some (.int (kind : Int)), some (.int (size : Int)), some (.int (many : Int)), some (.ref ra), some (.ref sa), some (.int (j : Int)), some (.ref ta), some (.int (i : Int)), some (.ref rb), some (.int (x : Int))]) ?_ ?_
        · walk_at "zz"
          refine brd (fun q => ?_) fun q => ?_
          · walk_at "zz"
            refine i_ixL (SqL.of ec_s) (atI_nat (ivs_get hjs)) ?_
            walk_at "zz"
            obtain ⟨y, hy, ey⟩ := emod_nat ((i : Int) + (steps.getD j 0 : Nat)) (show 0 < size by omega)
            rw [ey]
            exact ⟨rfl, y, hy, rfl⟩
          · walk_at "zz"
            exact ⟨rfl, x, hx, rfl⟩
        rintro σ' H' ⟨rfl, x, hx, rfl⟩
        walk_at "zz"
        refine i_cut (fun σ' H' => Hc = H' ∧ ∃ x : Nat, x < size ∧ σ' = [some (.ref h), some (.int (kind : Int)), some (.int (size : Int)), some (.int (many : Int)), some (.ref ra), some (.ref sa), some (.int (j : Int)), some (.ref ta), some (.int (i : Int)), some (.ref rb), some (.int (x : Int))]) ?_ ?_
        · walk_at "zz"
          refine brd (fun q => ?_) fun q => ?_
          · walk_at "zz"
            refine i_ixL (SqL.of ec_s) (atI_nat (ivs_get hjs)) ?_
            walk_at "zz"
            obtain ⟨y, hy, ey⟩ : ∃ y : Nat, y < size ∧ (if (i : Int) + ((steps.getD j 0 : Nat) : Int) < (size : Int) - 1 then (i : Int) + ((steps.getD j 0 : Nat) : Int) else (size : Int) - 1) = (y : Int) := by
              split
              · exact ⟨i + steps.getD j 0, by omega, by omega⟩
              · exact ⟨size - 1, by omega, by omega⟩
            rw [ey]
            exact ⟨rfl, y, hy, rfl⟩
          · walk_at "zz"
            exact ⟨rfl, x, hx, rfl⟩
        rintro σ' H' ⟨rfl, x, hx, rfl⟩
        walk_at "zz"
        refine i_cut (fun σ' H' => Hc = H' ∧ ∃ x : Nat, x < size ∧ σ' = [some (.ref h), some (.int (kind : Int)), some (.int (size : Int)), some (.int (many : Int)), some (.ref ra), some (.ref sa), some (.int (j : Int)), some (.ref ta), some (.int (i : Int)), some (.ref rb), some (.int (x : Int))]) ?_ ?_
        · walk_at "zz"
          refine brd (fun q => ?_) fun q => ?_
          · walk_at "zz"
            refine brd (fun q2 => ?_) fun q2 => ?_
            · walk_at "zz"
              obtain ⟨y, hy, ey⟩ := emod_nat (1 + (j : Int)) (show 0 < size by omega)
              rw [ey]
              exact ⟨rfl, y, hy, rfl⟩
            · walk_at "zz"
              exact ⟨rfl, i, hi, rfl⟩
          · walk_at "zz"
            exact ⟨rfl, x, hx, rfl⟩
        rintro σ' H' ⟨rfl, x, hx, rfl⟩
        walk_at "zz"
        refine i_cut (fun σ' H' => Hc = H' ∧ ∃ x : Nat, x < size ∧ σ' = [some (.ref h), some (.int (kind : Int)), some (.int (size : Int)), some (.int (many : Int)), some (.ref ra), some (.ref sa), some (.int (j : Int)), some (.ref ta), some (.int (i : Int)), some (.ref rb), some (.int (x : Int))]) ?_ ?_
        · walk_at "zz"
          refine brd (fun q => ?_) fun q => ?_
          · walk_at "zz"
            obtain ⟨y, hy, ey⟩ := emod_nat (1 + (j : Int)) (show 0 < size by omega)
            rw [ey]
            exact ⟨rfl, y, hy, rfl⟩
          · walk_at "zz"
            exact ⟨rfl, x, hx, rfl⟩
        rintro σ' H' ⟨rfl, x, hx, rfl⟩
        walk_at "zz"
        refine i_cut (fun σ' H' => Hc = H' ∧ ∃ x : Nat, x < size ∧ σ' = [some (.ref h), some (.int (kind : Int)), some (.int (size : Int)), some (.int (many : Int)), some (.ref ra), some (.ref sa), some (.int (j : Int)), some (.ref ta), some (.int (i : Int)), some (.ref rb), some (.int (x : Int))]) ?_ ?_
        · walk_at "zz"
          refine brd (fun q => ?_) fun q => ?_
          · walk_at "zz"
            refine i_intB ?_
            walk_at "zz"
            generalize decide ((i : Int) % (many : Int) = (j : Int)) = bb
            obtain ⟨c, hc, ec⟩ : ∃ c : Nat, c ≤ 1 ∧ (if bb = true then (1 : Int) else 0) = (c : Int) := by
              cases bb
              · exact ⟨0, by omega, rfl⟩
              · exact ⟨1, by omega, rfl⟩
            rw [ec]
            obtain ⟨y, hy, ey⟩ : ∃ y : Nat, y < size ∧ (if (i : Int) + (c : Int) < (size : Int) - 1 then (i : Int) + (c : Int) else (size : Int) - 1) = (y : Int) := by
              split
              · exact ⟨i + c, by omega, by omega⟩
              · exact ⟨size - 1, by omega, by omega⟩
            rw [ey]
            exact ⟨rfl, y, hy, rfl⟩
          · walk_at "zz"
            exact ⟨rfl, x, hx, rfl⟩
        rintro σ' H' ⟨rfl, x, hx, rfl⟩
        walk_at "zz"
        refine i_cut (fun σ' H' => Hc = H' ∧ ∃ x : Nat, x < size ∧ σ' = [some (.ref h), some (.int (kind : Int)), some (.int (size : Int)), some (.int (many : Int)), some (.ref ra), some (.ref sa), some (.int (j : Int)), some (.ref ta), some (.int (i : Int)), some (.ref rb), some (.int (x : Int))]) ?_ ?_
        · walk_at "zz"
          refine brd (fun q => ?_) fun q => ?_
          · walk_at "zz"
            refine brd (fun q2 => ?_) fun q2 => ?_
            · walk_at "zz"
              refine brd (fun q3 => ?_) fun q3 => ?_
              · walk_at "zz"
                obtain ⟨y, hy, ey⟩ := emod_nat ((i : Int) + 1) (show 0 < size - 1 by omega)
                rw [show (size : Int) - 1 = ((size - 1 : Nat) : Int) by omega, ey]
                exact ⟨rfl, y, by omega, rfl⟩
              · walk_at "zz"
                exact ⟨rfl, size - 1, by omega, by rw [show ((size - 1 : Nat) : Int) = (size : Int) - 1 by omega]⟩
            · walk_at "zz"
              exact ⟨rfl, size - 1, by omega, by rw [show ((size - 1 : Nat) : Int) = (size : Int) - 1 by omega]⟩
          · walk_at "zz"
            exact ⟨rfl, x, hx, rfl⟩
        rintro σ' H' ⟨rfl, x, hx, rfl⟩
        walk_at "zz"
        refine i_cut (fun σ' H' => Hc = H' ∧ ∃ x : Nat, x < size ∧ σ' = [some (.ref h), some (.int (kind : Int)), some (.int (size : Int)), some (.int (many : Int)), some (.ref ra), some (.ref sa), some (.int (j : Int)), some (.ref ta), some (.int (i : Int)), some (.ref rb), some (.int (x : Int))]) ?_ ?_
        · walk_at "zz"
          refine brd (fun q => ?_) fun q => ?_
          · walk_at "zz"
            obtain ⟨tv, ys, htv, hty, hyl, hym⟩ := ect j (by omega)
            refine i_ixL (SqL.of ec_t) (atI_nat htv) ?_
            walk_at "zz"
            refine i_ixL (SqL.of hty) (atI_nat (ivs_get (by rw [hyl]; exact hi))) ?_
            walk_at "zz"
            exact ⟨rfl, _, hym _ (getD_in (by rw [hyl]; exact hi)), rfl⟩
          · walk_at "zz"
            exact ⟨rfl, x, hx, rfl⟩
        rintro σ' H' ⟨rfl, x, hx, rfl⟩
        walk_at "zz"
        refine i_tyL (SqL.of erbc) ?_
        walk_at "zz"
        refine i_append erbc (by rw [ivs_len]; omega) ?_
        rw [ivs_snoc]
        walk_at "zz"
        refine ⟨gc.mutz hHrb, mutz' kbc hbrb, tkc.mutl erbc, by rw [upd_ne nrr]; exact erac, row ++ [x], _, _, upd_same, by rw [List.length_append, hrow1]; rfl, fun y hy => ?_, rfl⟩
        rcases List.mem_append.mp hy with q | q
        · exact hrow2 y q
        · rw [List.mem_singleton.mp q]; exact hx
      · rintro σ H5 ⟨g5, kb5, tk5, era5, row, v6, v10, erb5, hrow1, hrow2, rfl⟩
        walk_at "zz"
        refine i_tyL (SqL.of era5) ?_
        walk_at "zz"
        refine i_tupleL (SqL.of erb5) fun p hp => ?_
        walk_at "zz"
        have nph := g5.ok.ne hp
        have npr : ¬ ra = p := ne_of_none era5 hp
        have hbp : Hb p = none := by
          cases z : Hb p with
          | none => rfl
          | some o => rw [kb5 _ _ z (fun q => q.elim nph fun q => npr q.symm)] at hp; cases hp
        have era6 := nw (o := .tup (ivs row)) hp era5
        refine i_append era6 (by omega) ?_
        have RT2 := tk_rows ((tk5.newz (o := .tup (ivs row)) hp).mutl (o := .lst (vs ++ [V.ref p])) era6) RT
        walk_at "zz"
        refine ⟨(g5.new hp).mutz hHra, ?_, vs ++ [.ref p], tab ++ [row], _, _, _, _, upd_same, ?_, by rw [List.length_append, htab]; rfl, fun r hr => ?_, rfl⟩
        · exact fun b u e n => by
            rw [upd_ne (fun q => n (.inr q))]
            exact nw hp (kb5 b u e n)
        · rw [List.map_append]
          refine RpAll.append RT2 (.cons ?_ .nil)
          exact .tup (by rw [upd_ne (fun q => npr q.symm)]; exact upd_same) nph (ids_of _)
        · rcases List.mem_append.mp hr with q | q
          · exact hrows r q
          · rw [List.mem_singleton.mp q]; exact ⟨hrow1, hrow2⟩
    · rintro σ H4 ⟨g4, kb4, vs, tab, v6, v8, v9, v10, era4, RT, htab, hrows, rfl⟩
      walk_at "zz"
      refine i_tupleL (SqL.of era4) fun p hp => ?_
      exact k _ tab _ htab hrows (.tup upd_same (g4.ok.ne hp) (RT.mono (Kp.refl.newz hp))) (g4.new hp)
end
end Y

namespace Y
open PySem PySem.Spec PyProof.Rows L2 Z
open C8 (tCut pss_cut Cal pe_c Met pe_mt pe_mt0 Mak pe_mk)
theorem i_joinC {K : PySem.W.Frag} {H : Hp} {Q : VK} {p : Addr} {ys : List Nat} (h : H p = some (.lst (ys.map fun c => V.str (S [c])))) (hl : ys.length ≤ 100000) (q : Q (.str (S ys)) H) : zJoin0 K (.str (S [])) [.ref p] H Q := by
  have e : (ys.map fun c => V.str (S [c])) = (ys.map fun c => [c]).map fun x => V.str (S x) := by rw [List.map_map]; rfl
  refine i_join0 (l := ys.map fun c => [c]) (.inl (SqL.of (by rw [h, e]))) (by rw [flat_one]; exact hl) ?_
  rw [flat_one]; exact q
section
variable {P : Program} {w : World} {K : PySem.W.Frag} {mg : Str → Option Value} {base : Heap}
theorem c__law_parts (d : DF K mg "_law_parts" s__law_parts) (B : Bi mg) (c__law_draw : Cal P w K mg base 1 "_law_draw" spDraw []) (c__law_letters : Cal P w K mg base 2 "_law_letters" spLetters []) (c__law_rows : Cal P w K mg base 3 "_law_rows" spRows []) : Cal P w K mg base 4 "_law_parts" spParts [] := by
  refine d.cal (N := n__law_parts) sc__law_parts (fun _ _ _ _ _ _ us hl => match us, hl with | [_, _, _], _ => rfl) (fun vs H Q E h => ?_) (fun f cdv A outer s H vs Q E hr h => ?_)
  · obtain ⟨h, rfl, _⟩ := h
    rfl
  · obtain ⟨h, rfl, hh, k⟩ := h
    refine ⟨_, (pss_cons (ps_set (i := 3) sc__law_parts.nd rfl (by first | exact Or.inl rfl | exact Or.inr rfl) (pe_c c__law_draw hr (by first | decide | omega) rfl (pa_cons (pv 0) (pa_cons pe_int pa_nil))))
  (pss_cons (ps_set (i := 4) sc__law_parts.nd rfl (by first | exact Or.inl rfl | exact Or.inr rfl) (pe_op z_add pe_int (pe_c c__law_draw hr (by first | decide | omega) rfl (pa_cons (pv 0) (pa_cons (pv 1) pa_nil)))))
  (pss_cons (ps_set (i := 5) sc__law_parts.nd rfl (by first | exact Or.inl rfl | exact Or.inr rfl) (pe_op z_add pe_int (pe_c c__law_draw hr (by first | decide | omega) rfl (pa_cons (pv 0) (pa_cons (pv 2) pa_nil)))))
  (pss_cut (ps_if (pt_cmpR z_gt (pv 3) pe_int (nomark _)) (pss_cons (ps_set (i := 5) sc__law_parts.nd rfl (by first | exact Or.inl rfl | exact Or.inr rfl) (pe_callB (zc_max rfl) (by rfl) B.max (by decide +kernel) (pa_cons pe_int (pa_cons (pv 5) pa_nil))))
  (pss_one (ps_set (i := 4) sc__law_parts.nd rfl (by first | exact Or.inl rfl | exact Or.inr rfl) (pe_callB (zc_max rfl) (by rfl) B.max (by decide +kernel) (pa_cons (pe_callB (zc_min rfl) (by rfl) B.min (by decide +kernel) (pa_cons pe_int (pa_cons (pv 1) pa_nil))) (pa_cons (pv 4) pa_nil)))))) pss_nil)
  (pss_cons (ps_set (i := 6) sc__law_parts.nd rfl (by first | exact Or.inl rfl | exact Or.inr rfl) (pe_joinZ (K := K) rfl pe_str (pe_callB (zc_sortedC rfl) (by rfl) B.sorted (by decide +kernel) (pa_cons (pe_c c__law_letters hr (by first | decide | omega) rfl (pa_cons (pv 0) (pa_cons pe_str (pa_cons (pv 4) pa_nil)))) pa_nil))))
  (pss_cons (ps_set (i := 7) sc__law_parts.nd rfl (by first | exact Or.inl rfl | exact Or.inr rfl) (pe_c c__law_rows hr (by first | decide | omega) rfl (pa_cons (pv 0) (pa_cons (pv 3) (pa_cons (pv 5) (pa_cons (pv 4) pa_nil))))))
  (pss_cons (ps_set (i := 8) sc__law_parts.nd rfl (by first | exact Or.inl rfl | exact Or.inr rfl) (pe_callTy (r := zTuple K) zc_tuple (by rfl) B.tuple (by decide +kernel) (pa_cons (pe_lc (own := [("_law_state", 9)]) (g := gName 9) (by rfl) sc__law_parts.nd (pi_range1 rfl B.range (pa_cons (pv 5) pa_nil)) (blkOk_by (N := n__law_parts) (sc := defScope s__law_parts) (by decide +kernel)) (fun _ _ _ _ _ => (pg_name (i := 9) sc__law_parts.nd rfl (by first | exact Or.inl rfl | exact Or.inr rfl))) (fun _ _ _ _ _ => (pts_one (pt_cmpR op_eq (pe_c c__law_draw hr (by first | decide | omega) rfl (pa_cons (pv 0) (pa_cons pe_int pa_nil))) pe_int (nomark _)))) (fun _ _ _ _ _ => (pv 9))) pa_nil)))
  (pss_one (ps_ret (pe_tup (pa_cons (pv 6) (pa_cons (pv 7) (pa_cons (pv 8) pa_nil))))))))))))), ?_⟩
    refine zstart [some (.ref h), some (.int 4), some (.int 6), none, none, none, none, none, none, none] rfl ?_; try dsimp only [zK, zK2]
    walk_at "zz"
    refine use_draw hh (by decide) (by decide) fun kind H1 hr1 g1 => ?_
    walk_at "zz"
    refine use_draw g1.ok (by decide) (by decide) fun r2 H2 hr2 g2 => ?_
    walk_at "zz"
    refine use_draw g2.ok (by decide) (by decide) fun r3 H3 hr3 g3 => ?_
    walk_at "zz"
    have g03 := (g1.trans g2).trans g3
    refine i_cut (fun σ' H' => H3 = H' ∧ ∃ many size : Nat, 1 ≤ many ∧ many ≤ 4 ∧ 1 ≤ size ∧ size ≤ 6 ∧ σ' = [some (.ref h), some (.int 4), some (.int 6), some (.int (kind : Int)), some (.int (many : Int)), some (.int (size : Int)), none, none, none, none]) ?_ ?_
    · walk_at "zz"
      refine brd (fun q => ?_) fun q => ?_
      · walk_at "zz"
        obtain ⟨sz, h1, h2, e1⟩ : ∃ sz : Nat, 1 ≤ sz ∧ sz ≤ 6 ∧ (if 1 + (r3 : Int) > 2 then 1 + (r3 : Int) else 2) = (sz : Int) := by
          split
          · exact ⟨1 + r3, by omega, by omega, by omega⟩
          · exact ⟨2, by omega, by omega, rfl⟩
        rw [e1]
        obtain ⟨mn, h3, h4, e2⟩ : ∃ mn : Nat, 1 ≤ mn ∧ mn ≤ 4 ∧ (if 1 + (r2 : Int) > (if (4 : Int) < 2 then (4 : Int) else 2) then 1 + (r2 : Int) else (if (4 : Int) < 2 then (4 : Int) else 2)) = (mn : Int) := by
          rw [if_neg (show ¬ (4 : Int) < 2 by decide)]
          split
          · exact ⟨1 + r2, by omega, by omega, by omega⟩
          · exact ⟨2, by omega, by omega, rfl⟩
        rw [e2]
        exact ⟨rfl, mn, sz, h3, h4, h1, h2, rfl⟩
      · walk_at "zz"
        exact ⟨rfl, 1 + r2, 1 + r3, by omega, by omega, by omega, by omega, rfl⟩
    · rintro σ' H' ⟨rfl, many, size, hm1, hm4, hs1, hs6, rfl⟩
      walk_at "zz"
      rw [empty_codes, show codes (PySem.Str.ofString "abcdefghijklmnopqrstuvwxyz") = List.range' 97 26 from az]
      refine ⟨h, List.range' 97 26, many, rfl, g03.ok, by rw [List.length_range']; omega, by rw [List.length_range']; decide, fun found rest H4 hf hp g4 => ?_⟩
      walk_at "zz"
      refine ⟨found, rfl, by omega, fun L p hpm hpw hpn => ?_⟩
      have hnd : L.Nodup := hpm.nodup_iff.mpr (perm_nodup_of hp List.nodup_range')
      have hlen := hpm.length_eq
      have LL : Ltrs L := ⟨asc_of hpw hnd, fun c hc => by
        have := List.mem_range'_1.mp (hp.mem_iff.mp (List.mem_append_left _ (hpm.mem_iff.mp hc))); omega, by omega, by omega⟩
      walk_at "zz"
      refine i_joinC upd_same (by omega) ?_
      have g5 := (g03.trans g4).new (o := .lst (L.map fun c => V.str (S [c]))) hpn
      generalize upd H4 p (.lst (L.map fun c => V.str (S [c]))) = H5 at g5 ⊢
      walk_at "zz"
      refine ⟨h, kind, size, many, rfl, g5.ok, hs1, hs6, hm1, hm4, fun vt tab H6 ht1 ht2 rt g6 => ?_⟩
      have g06 := g5.trans g6
      walk_at "zz"
      refine i_KR1 (by omega) ?_
      rw [Int.toNat_natCast]
      refine fun Al hA => ?_
      have nAh := g06.ok.ne hA
      refine l_comp (walk_range (lo := 0) (n := size)) [some (.ref h), some (.int 4), some (.int 6), some (.int (kind : Int)), some (.int (many : Int)), some (.int (size : Int)), some (.str (S L)), some vt, none, none] rfl (fun i acc H' => Gd h H6 H' ∧ ∃ cs : List Nat, acc = ivs cs ∧ cs.Sublist ((List.range size).take i)) ⟨(Gd.refl g06.ok).new hA, [], rfl, by simp⟩ (fun _ _ _ _ _ _ => trivial) ?_ ?_
      · rintro i x acc H7 H8 hi ⟨g7, cs, rfl, hcs⟩ e hl2 ⟨e2, rfl⟩
        subst e2
        show gName _ (V.int (0 + (i : Int))) _ _ _
        rw [Int.zero_add]
        refine i_gname ?_
        refine i_lct rfl ?_
        refine ztt [some (.ref h), some (.int 4), some (.int 6), some (.int (kind : Int)), some (.int (many : Int)), some (.int (size : Int)), some (.str (S L)), some vt, none, some (.int (i : Int))] rfl ?_
        walk_at "zz"
        refine use_draw g7.ok (by decide) (by decide) fun r H9 hr9 g9 => ?_
        walk_at "zz"
        have hri : (List.range size)[i]? = some i := List.getElem?_range hi
        refine brd (fun q => ?_) fun q => ?_
        · refine zte [some (.ref h), some (.int 4), some (.int 6), some (.int (kind : Int)), some (.int (many : Int)), some (.int (size : Int)), some (.str (S L)), some vt, none, some (.int (i : Int))] rfl ?_
          walk_at "zz"
          exact cend (g9.kp' e nAh) hl2 (by omega) ⟨(g7.trans g9).mutz hA, cs ++ [i], ivs_snoc _ _, sub_snoc hcs hri⟩
        · exact ⟨_, g9.kp' e nAh, by omega, g7.trans g9, cs, rfl, sub_skip hcs⟩
      · rintro acc H7 ⟨g7, cs, rfl, hcs⟩ e hl2
        have hcs : cs.Sublist (List.range size) := hcs.trans (List.take_sublist _ _)
        walk_at "zz"
        refine i_tupleL (SqL.of e) fun q hq => ?_
        have g8 := (g06.trans g7).new (o := .tup (ivs cs)) hq
        have nqh := (g06.trans g7).ok.ne hq
        have rt8 : Rp (· = h) (upd H7 q (.tup (ivs cs))) vt (tabD tab) := (rt.mono g7.toKp).mono (Kp.refl.newz hq)
        have eq8 : (upd H7 q (.tup (ivs cs))) q = some (.tup (ivs cs)) := upd_same
        generalize upd H7 q (.tup (ivs cs)) = H8 at g8 rt8 eq8 ⊢
        walk_at "zz"
        refine ⟨by show 3 ≤ sizeLine; decide, fun pp hpp => ?_⟩
        have PT : Parts L tab cs := ⟨LL, by omega, by omega, fun r hr => ⟨by rw [(ht2 r hr).1]; omega, fun x hx => by rw [ht1]; exact (ht2 r hr).2 x hx⟩, (List.pairwise_lt_range).sublist hcs, fun x hx => by rw [ht1]; exact List.mem_range.mp (hcs.subset hx)⟩
        exact k pp vt (.ref q) L tab cs _ PT upd_same (g8.ok.ne hpp) (rt8.mono (Kp.refl.newz hpp)) (.tup (nw hpp eq8) nqh (ids_of _)) (g8.new hpp)
end
end Y

namespace Y
open PySem PySem.Spec PyProof.Rows L2 Z
open C8 (tCut pss_cut Cal pe_c Met pe_mt pe_mt0 Mak pe_mk)


abbrev s__law_odd : Stmt := topS 20
abbrev n__law_odd : List Str := ["_law_hand_here", "_law_odd_here"]
theorem sc__law_odd : FnScope n__law_odd ["_law_hand_here"] (defScope s__law_odd) := ⟨rfl, rfl, rfl, by decide +kernel, rfl, by decide +kernel, by decide +kernel⟩

def spWord : Sp := fun vs H Q _ => ∃ (h : Addr) (l : List Nat) (m : Nat), vs = [.ref h, .str (S l), .int (m : Int)] ∧ HandOk H h ∧ (0 < m → 0 < l.length) ∧ l.length ≤ 1000 ∧ m ≤ 1000 ∧
  ∀ (word : List Nat) H', word.length = m → (∀ c ∈ word, c ∈ l) → Gd h H H' → Q (.str (S word)) H'
/-- what is handed to «says» -/
def Thing (d : PyData) : Prop := Sml d ∧ ∀ w, d = .str w → (codes w).length ≤ 200
def spSigns : Sp := fun vs H Q _ => ∃ (h : Addr), vs = [.ref h, .int 1] ∧ HandOk H h ∧ ∀ (c : Nat) H', Gd h H H' → Q (.str (S [c])) H'
def spOdd : Sp := fun vs H Q _ => ∃ (h : Addr), vs = [.ref h] ∧ HandOk H h ∧ ∀ (v : V) (d : PyData) H', Thing d → Rp (· = h) H' v d → Gd h H H' → Q v H'
theorem th_str {w : Str} (h : (codes w).length ≤ 200) : Thing (.str w) := ⟨Nat.le_trans h (by decide), fun _ q => by cases q; exact h⟩
theorem th_lst {l : List PyData} (h : l.length ≤ 90000) : Thing (.list l) := ⟨h, fun _ q => by cases q⟩
theorem th_tup {l : List PyData} (h : l.length ≤ 90000) : Thing (.tuple l) := ⟨h, fun _ q => by cases q⟩
theorem kp_new {h p : Addr} {H : Hp} {o : HO} (hp : H p = none) : Kp (· = h) H (upd H p o) := Kp.refl.newz hp
section
variable {P : Program} {w : World} {K : PySem.W.Frag} {mg : Str → Option Value} {base : Heap}
theorem c__law_odd (d : DF K mg "_law_odd" s__law_odd) (B : Bi mg) (c__law_draw : Cal P w K mg base 1 "_law_draw" spDraw []) : Cal P w K mg base 2 "_law_odd" spOdd [] := by
  refine d.cal (N := n__law_odd) sc__law_odd (fun _ _ _ _ _ _ us hl => match us, hl with | [_], _ => rfl) (fun vs H Q E h => ?_) (fun f cdv A outer s H vs Q E hr h => ?_)
  · obtain ⟨h, rfl, _⟩ := h
    rfl
  · obtain ⟨h, rfl, hh, k⟩ := h
    refine ⟨_, (pss_cons (ps_set (i := 1) sc__law_odd.nd rfl (by first | exact Or.inl rfl | exact Or.inr rfl) (pe_lst (pa_cons pe_non (pa_cons pe_bl (pa_cons pe_bl (pa_cons pe_int (pa_cons (pe_un un_neg pe_int) (pa_cons pe_int (pa_cons pe_str (pa_cons pe_str (pa_cons pe_str (pa_cons (pe_lst pa_nil) (pa_cons (pe_tup pa_nil) (pa_cons pe_dnewK (pa_cons (pe_lst (pa_cons pe_str pa_nil)) (pa_cons (pe_tup (pa_cons pe_str pa_nil)) (pa_cons (pe_disp (pps_cons pe_str pe_int pps_nil) (by rfl) (by rfl) (fun z => by cases z) (by decide)) (pa_cons (pe_lst (pa_cons (pe_lst (pa_cons pe_int pa_nil)) pa_nil)) pa_nil))))))))))))))))))
  (pss_one (ps_ret (pe_ix (r := rIxL K) ix_list (pv 1) (pe_c c__law_draw hr (by first | decide | omega) rfl (pa_cons (pv 0) (pa_cons pe_int pa_nil))) (fun _ _ => rfl))))), ?_⟩
    refine zstart [some (.ref h), none] rfl ?_; try dsimp only [zK, zK2]
    walk_at "zz"
    refine ⟨by decide, fun p1 hp1 => ?_⟩
    have g1 := (Gd.refl hh).new (o := .lst []) hp1
    have r1 : Rp (· = h) (upd H p1 (.lst [])) (.ref p1) (.list []) := .lst upd_same (hh.ne hp1) .nil
    generalize upd H p1 (.lst []) = H1 at g1 r1 ⊢
    walk_at "zz"
    refine ⟨by decide, fun p2 hp2 => ?_⟩
    have g2 := g1.new (o := .tup []) hp2
    have r2 : Rp (· = h) (upd H1 p2 (.tup [])) (.ref p2) (.tuple []) := .tup upd_same (g1.ok.ne hp2) .nil
    have r1 := r1.mono (kp_new (o := .tup []) hp2)
    generalize upd H1 p2 (.tup []) = H2 at g2 r1 r2 ⊢
    walk_at "zz"
    refine fun p3 hp3 => ?_
    have g3 := g2.new (o := .dK []) hp3
    have r3 : Rp (· = h) (upd H2 p3 (.dK [])) (.ref p3) (.dict []) := .dct upd_same (g2.ok.ne hp3)
    have r1 := r1.mono (kp_new (o := .dK []) hp3)
    have r2 := r2.mono (kp_new (o := .dK []) hp3)
    generalize upd H2 p3 (.dK []) = H3 at g3 r1 r2 r3 ⊢
    walk_at "zz"
    refine ⟨by show _ ≤ sizeLine; decide, fun p4 hp4 => ?_⟩
    have g4 := g3.new (o := .lst [.str "a"]) hp4
    have r4 : Rp (· = h) (upd H3 p4 (.lst [.str "a"])) (.ref p4) (.list [.str "a"]) := .lst upd_same (g3.ok.ne hp4) (.cons (.str _) .nil)
    have r1 := r1.mono (kp_new (o := .lst [.str "a"]) hp4)
    have r2 := r2.mono (kp_new (o := .lst [.str "a"]) hp4)
    have r3 := r3.mono (kp_new (o := .lst [.str "a"]) hp4)
    rw [S_codes]
    generalize upd H3 p4 (.lst [.str "a"]) = H4 at g4 r1 r2 r3 r4 ⊢
    walk_at "zz"
    refine ⟨by show _ ≤ sizeLine; decide, fun p5 hp5 => ?_⟩
    have g5 := g4.new (o := .tup [.str "a"]) hp5
    have r5 : Rp (· = h) (upd H4 p5 (.tup [.str "a"])) (.ref p5) (.tuple [.str "a"]) := .tup upd_same (g4.ok.ne hp5) (.cons (.str _) .nil)
    have r1 := r1.mono (kp_new (o := .tup [.str "a"]) hp5)
    have r2 := r2.mono (kp_new (o := .tup [.str "a"]) hp5)
    have r3 := r3.mono (kp_new (o := .tup [.str "a"]) hp5)
    have r4 := r4.mono (kp_new (o := .tup [.str "a"]) hp5)
    rw [S_codes]
    generalize upd H4 p5 (.tup [.str "a"]) = H5 at g5 r1 r2 r3 r4 r5 ⊢
    walk_at "zz"
    refine fun p6 hp6 => ?_
    refine ⟨upd_same, [(.inr "a", .int 0)], rfl, by decide, ?_⟩
    rw [upd_upd]
    generalize ho6 : (HO.dK (mergeK [] [((.inr "a" : Key), V.int 0)])) = o6
    have g6 := g5.new (o := o6) hp6
    have r6 : Rp (· = h) (upd H5 p6 (o6)) (.ref p6) (.dict []) := by
      rw [← ho6]; exact .dct upd_same (g5.ok.ne hp6)
    have r1 := r1.mono (kp_new (o := o6) hp6)
    have r2 := r2.mono (kp_new (o := o6) hp6)
    have r3 := r3.mono (kp_new (o := o6) hp6)
    have r4 := r4.mono (kp_new (o := o6) hp6)
    have r5 := r5.mono (kp_new (o := o6) hp6)
    generalize upd H5 p6 (o6) = H6 at g6 r1 r2 r3 r4 r5 r6 ⊢
    walk_at "zz"
    refine ⟨by show 1 ≤ sizeLine; decide, fun p7 hp7 => ?_⟩
    have g7 := g6.new (o := .lst [.int 0]) hp7
    have r7 : Rp (· = h) (upd H6 p7 (.lst [.int 0])) (.ref p7) (.list [.int 0]) := .lst upd_same (g6.ok.ne hp7) (.cons (.int _) .nil)
    have r1 := r1.mono (kp_new (o := .lst [.int 0]) hp7)
    have r2 := r2.mono (kp_new (o := .lst [.int 0]) hp7)
    have r3 := r3.mono (kp_new (o := .lst [.int 0]) hp7)
    have r4 := r4.mono (kp_new (o := .lst [.int 0]) hp7)
    have r5 := r5.mono (kp_new (o := .lst [.int 0]) hp7)
    have r6 := r6.mono (kp_new (o := .lst [.int 0]) hp7)
    generalize upd H6 p7 (.lst [.int 0]) = H7 at g7 r1 r2 r3 r4 r5 r6 r7 ⊢
    walk_at "zz"
    refine ⟨by show 1 ≤ sizeLine; decide, fun p8 hp8 => ?_⟩
    have r7 := r7.mono (kp_new (o := .lst [.ref p7]) hp8)
    have g8 := g7.new (o := .lst [.ref p7]) hp8
    have r8 : Rp (· = h) (upd H7 p8 (.lst [.ref p7])) (.ref p8) (.list [.list [.int 0]]) := .lst upd_same (g7.ok.ne hp8) (.cons r7 .nil)
    have r1 := r1.mono (kp_new (o := .lst [.ref p7]) hp8)
    have r2 := r2.mono (kp_new (o := .lst [.ref p7]) hp8)
    have r3 := r3.mono (kp_new (o := .lst [.ref p7]) hp8)
    have r4 := r4.mono (kp_new (o := .lst [.ref p7]) hp8)
    have r5 := r5.mono (kp_new (o := .lst [.ref p7]) hp8)
    have r6 := r6.mono (kp_new (o := .lst [.ref p7]) hp8)
    generalize upd H7 p8 (.lst [.ref p7]) = H8 at g8 r1 r2 r3 r4 r5 r6 r8 ⊢
    walk_at "zz"
    refine ⟨by show 16 ≤ sizeLine; decide, fun p9 hp9 => ?_⟩
    have n9 := g8.ok.ne hp9
    generalize hvs : [V.non, .bl true, .bl false, .int 0, .int (-1), .int 7, .str (S (codes (PySem.Str.ofString ""))), .str (S (codes (PySem.Str.ofString "?"))), .str (S (codes (PySem.Str.ofString "A"))), .ref p1, .ref p2, .ref p3, .ref p4, .ref p5, .ref p6, .ref p8] = ws
    have RA : RpAll (· = h) H8 ws [.none, .bool true, .bool false, .int 0, .int (-1), .int 7, .str (S (codes (PySem.Str.ofString ""))), .str (S (codes (PySem.Str.ofString "?"))), .str (S (codes (PySem.Str.ofString "A"))), .list [], .tuple [], .dict [], .list [.str "a"], .tuple [.str "a"], .dict [], .list [.list [.int 0]]] := by
      rw [← hvs]
      exact .cons .non (.cons (.bl _) (.cons (.bl _) (.cons (.int _) (.cons (.int _) (.cons (.int _) (.cons (.str _) (.cons (.str _) (.cons (.str _) (.cons r1 (.cons r2 (.cons r3 (.cons r4 (.cons r5 (.cons r6 (.cons r8 .nil)))))))))))))))
    generalize hds : [PyData.none, .bool true, .bool false, .int 0, .int (-1), .int 7, .str (S (codes (PySem.Str.ofString ""))), .str (S (codes (PySem.Str.ofString "?"))), .str (S (codes (PySem.Str.ofString "A"))), .list [], .tuple [], .dict [], .list [.str "a"], .tuple [.str "a"], .dict [], .list [.list [.int 0]]] = ds at RA
    have TA : ∀ d ∈ ds, Thing d := by
      rw [← hds]
      intro d hd
      simp only [List.mem_cons, List.not_mem_nil, or_false] at hd
      rcases hd with rfl | rfl | rfl | rfl | rfl | rfl | rfl | rfl | rfl | rfl | rfl | rfl | rfl | rfl | rfl | rfl
      · exact ⟨trivial, fun _ q => by cases q⟩
      · exact ⟨trivial, fun _ q => by cases q⟩
      · exact ⟨trivial, fun _ q => by cases q⟩
      · exact ⟨trivial, fun _ q => by cases q⟩
      · exact ⟨trivial, fun _ q => by cases q⟩
      · exact ⟨trivial, fun _ q => by cases q⟩
      · exact th_str (by decide +kernel)
      · exact th_str (by decide +kernel)
      · exact th_str (by decide +kernel)
      · exact th_lst (by decide)
      · exact th_tup (by decide)
      · exact ⟨trivial, fun _ q => by cases q⟩
      · exact th_lst (by show 1 ≤ 90000; decide)
      · exact th_tup (by show 1 ≤ 90000; decide)
      · exact ⟨trivial, fun _ q => by cases q⟩
      · exact th_lst (by show 1 ≤ 90000; decide)
    have hwl : ws.length = 16 := by rw [← hvs]; rfl
    have g9 := g8.new (o := .lst ws) hp9
    have RB := RA.mono (kp_new (o := .lst ws) hp9)
    have e9 : (upd H8 p9 (.lst ws)) p9 = some (.lst ws) := upd_same
    generalize upd H8 p9 (.lst ws) = H9 at g9 RB e9 ⊢
    walk_at "zz"
    refine use_draw g9.ok (by decide) (by decide) fun r H10 hr10 g10 => ?_
    have hrw : r < ws.length := by omega
    have hw := List.getElem?_eq_getElem hrw
    generalize ws[r] = v at hw
    obtain ⟨d1, hd1, rd⟩ := (RB.mono g10.toKp).get' hw
    refine i_ixL (SqL.of (g10.kp' e9 n9)) (atI_nat hw) ?_
    walk_at "zz"
    exact k _ _ _ (TA d1 (List.mem_of_getElem? hd1)) rd (g9.trans g10)
end
end Y

namespace Y
open PySem PySem.Spec PyProof.Rows L2 Z
open C8 (tCut pss_cut Cal pe_c Met pe_mt pe_mt0 Mak pe_mk pe_gc)
abbrev s_Machine___eq__ : Stmt := inClass (topS 9) 4
abbrev n_Machine___eq__ : List Str := ["self", "other"]
theorem sc_Machine___eq__ : FnScope n_Machine___eq__ ["self", "other"] (defScope s_Machine___eq__) := ⟨rfl, rfl, rfl, by decide +kernel, rfl, by decide +kernel, by decide +kernel⟩

abbrev s__law_more : Stmt := topS 22
abbrev n__law_more : List Str := ["_law_hand_here", "_law_letters_here", "_law_free", "_law_sign"]
theorem sc__law_more : FnScope n__law_more ["_law_hand_here", "_law_letters_here"] (defScope s__law_more) := ⟨rfl, rfl, rfl, by decide +kernel, rfl, by decide +kernel, by decide +kernel⟩

def spMEq (K : PySem.W.Frag) (C : Addr) : Sp := fun vs H Q _ => ∃ (m : Addr) (y : V) (L : List Nat) (t : List (List Nat)) (a : List Nat), vs = [.ref m, y] ∧ IsM K H C m L t a ∧
  ((∃ (N : Addr → Prop) (d : PyData), Rp N H y d ∧ ∀ H', Same H H' → Q (.bl false) H') ∨
  ∃ (m2 : Addr) (L2 : List Nat) (t2 : List (List Nat)) (a2 : List Nat), y = .ref m2 ∧ IsM K H C m2 L2 t2 a2 ∧ ∀ H', Same H H' → Q (.bl (decide (L = L2 ∧ t = t2 ∧ a = a2))) H')
def spMore : Sp := fun vs H Q _ => ∃ (h : Addr) (L : List Nat), vs = [.ref h, .str (S L)] ∧ HandOk H h ∧ Ltrs L ∧ ∀ (M : List Nat) H', Ltrs M → M.length ≤ 2 * L.length → Gd h H H' → Q (.str (S M)) H'
section
variable {P : Program} {w : World} {K : PySem.W.Frag} {mg : Str → Option Value} {base : Heap}
theorem c_Machine___eq__ {C : Addr} (T : MTxt K C) (N_Machine : ∃ u, mg "Machine" = some u ∧ RelV (.ref C) u) (h1 : PySem.W.isClsIn K C = true) (h2 : PySem.W.typeIn K (.ref C) = some (.type "type")) (IM : InsM K C) (d : MF K C "__eq__" "Machine.__eq__" s_Machine___eq__) (B : Bi mg) : Met P w K mg base 1 C "__eq__" (spMEq K C) [] := by
  refine met d T.c (N := n_Machine___eq__) sc_Machine___eq__ (fun _ _ _ _ _ _ us hl => match us, hl with | [_, _], _ => rfl) (fun vs H Q E h => ?_) (fun f cdv A outer s H vs Q E hr h => ?_)
  · obtain ⟨m, y, L, t, a, rfl, _⟩ := h
    rfl
  · obtain ⟨m, y, L, t, a, rfl, hm, hy⟩ := h
    obtain ⟨dx, vt, va, e, r1, r2⟩ := hm.ex
    refine ⟨_, (pss_one (ps_ret (pe_and (pe_callB (r := zIsi K) zc_isi (by rfl) B.isinstance (by decide +kernel) (pa_cons (pv 1) (pa_cons (pe_gc rfl N_Machine) pa_nil))) (pe_and (pe_cmpR op_eq (pe_fldZ (K := K) rfl (pv 0) rfl) (pe_fldZ (K := K) rfl (pv 1) rfl) (nomark _)) (pe_and (pe_cmpR (r := rEqD K) (op_eqD hr.units) (pe_fldZ (K := K) rfl (pv 0) rfl) (pe_fldZ (K := K) rfl (pv 1) rfl) (nomark _)) (pe_one (pe_cmpR (r := rEqD K) (op_eqD hr.units) (pe_fldZ (K := K) rfl (pv 0) rfl) (pe_fldZ (K := K) rfl (pv 1) rfl) (nomark _)))))))), ?_⟩
    refine zstart [some (.ref m), some (y)] rfl ?_; try dsimp only [zK, zK2]
    walk_at "zz"
    rcases hy with ⟨N, d, r, k⟩ | ⟨m2, L2, t2, a2, rfl, hm2, k⟩
    · refine i_isC r h1 h2 ?_
      walk_at "zz"
      exact k _ (Same.refl _)
    · obtain ⟨dx2, vt2, va2, e2, q1, q2⟩ := hm2.ex
      refine i_isM e2 T.c IM ?_
      walk_at "zz"
      refine i_fld ?_
      walk_at "zz"
      refine ⟨m, C, dx, _, _, rfl, e, T.c, T.nl, rfl, ?_⟩
      refine i_fld ?_
      walk_at "zz"
      refine ⟨m2, C, dx2, _, _, rfl, e2, T.c, T.nl, rfl, ?_⟩
      walk_at "zz"
      refine brd (fun c1 => ?_) fun c1 => ?_
      · refine i_and ?_
        refine i_op ?_
        refine i_fld ?_
        walk_at "zz"
        refine ⟨m, C, dx, _, _, rfl, e, T.c, T.nt, rfl, ?_⟩
        refine i_fld ?_
        walk_at "zz"
        refine ⟨m2, C, dx2, _, _, rfl, e2, T.c, T.nt, rfl, ?_⟩
        refine ⟨_, _, r1.dp (noD_tab t), q1.dp (noD_tab t2), shaped_tab t, shaped_tab t2, ?_⟩
        rw [eqv_tab]
        walk_at "zz"
        refine brd (fun c2 => ?_) fun c2 => ?_
        · walk_at "zz"
          refine i_fld ?_
          walk_at "zz"
          refine ⟨m, C, dx, _, _, rfl, e, T.c, T.na, rfl, ?_⟩
          refine i_fld ?_
          walk_at "zz"
          refine ⟨m2, C, dx2, _, _, rfl, e2, T.c, T.na, rfl, ?_⟩
          refine ⟨_, _, r2.dp (noD_row a), q2.dp (noD_row a2), shaped_row a, shaped_row a2, ?_⟩
          rw [eqv_row]
          have := k _ (Same.refl _)
          rw [show decide (L = L2 ∧ t = t2 ∧ a = a2) = decide (a = a2) by simp [c1, c2]] at this
          exact this
        · walk_at "zz"
          have := k _ (Same.refl _)
          rw [show decide (L = L2 ∧ t = t2 ∧ a = a2) = false by simp [c2]] at this
          exact this
      · walk_at "zz"
        have := k _ (Same.refl _)
        rw [show decide (L = L2 ∧ t = t2 ∧ a = a2) = false by simp [c1]] at this
        exact this
theorem c__law_more (d : DF K mg "_law_more" s__law_more) (B : Bi mg) (c__law_draw : Cal P w K mg base 1 "_law_draw" spDraw []) : Cal P w K mg base 2 "_law_more" spMore [] := by
  refine d.cal (N := n__law_more) sc__law_more (fun _ _ _ _ _ _ us hl => match us, hl with | [_, _], _ => rfl) (fun vs H Q E h => ?_) (fun f cdv A outer s H vs Q E hr h => ?_)
  · obtain ⟨h, L, rfl, _⟩ := h
    rfl
  · obtain ⟨h, L, rfl, hh, LL, k⟩ := h
    refine ⟨_, (pss_cons (ps_if (pt_cmpR op_eq (pe_callB zc_lens (by rfl) B.len (by decide +kernel) (pa_cons (pv 1) pa_nil)) pe_int (nomark _)) (pss_one (ps_ret (pe_slice sl_str (pv 1) po_none (po_some pe_int)))) pss_nil)
  (pss_cons (ps_set (i := 2) sc__law_more.nd rfl (by first | exact Or.inl rfl | exact Or.inr rfl) (pe_joinZ (K := K) rfl pe_str (pe_lc (own := [("_law_sign", 3)]) (g := gName 3) (by rfl) sc__law_more.nd (pi_str pe_str) (blkOk_by (N := n__law_more) (sc := defScope s__law_more) (by decide +kernel)) (fun _ _ _ _ _ => (pg_name (i := 3) sc__law_more.nd rfl (by first | exact Or.inl rfl | exact Or.inr rfl))) (fun _ _ _ _ _ => (pts_one (pt_cmpR z_nins (pv 3) (pv 1) (by rfl)))) (fun _ _ _ _ _ => (pv 3)))))
  (pss_one (ps_ret (pe_joinZ (K := K) rfl pe_str (pe_callB (zc_sortedC rfl) (by rfl) B.sorted (by decide +kernel) (pa_cons (pe_op z_adds (pv 1) (pe_ix ix_str (pv 2) (pe_c c__law_draw hr (by first | decide | omega) rfl (pa_cons (pv 0) (pa_cons (pe_callB zc_lens (by rfl) B.len (by decide +kernel) (pa_cons (pv 2) pa_nil)) pa_nil))) (fun _ _ => rfl))) pa_nil))))))), ?_⟩
    refine zstart [some (.ref h), some (.str (S L)), none, none] rfl ?_; try dsimp only [zK, zK2]
    obtain ⟨l1, l2, l3, l4⟩ := LL
    walk_at "zz"
    refine brd (fun q => ?_) fun q => ?_
    · walk_at "zz"
      rw [show (3 : Int) = ((3 : Nat) : Int) from rfl]
      refine i_slTo (by omega) ?_
      walk_at "zz"
      have hl : (L.take 3).length = 3 := by rw [List.length_take]; omega
      refine k _ _ ⟨l1.sublist (List.take_sublist _ _), fun c hc => l2 c (List.mem_of_mem_take hc), by omega, by omega⟩ (by omega) (Gd.refl hh)
    · walk_at "zz"
      rw [show codes (PySem.Str.ofString "abcdefghijklmnopqrstuvwxyz") = List.range' 97 26 from az]
      refine fun Dl hD => ?_
      let p : Nat → Bool := fun c => !decide (c ∈ L)
      refine l_filt (walk_str (z := S (List.range' 97 26))) hD [some (.ref h), some (.str (S L)), none, none] rfl (fun _ => rfl) ((List.range' 97 26).map fun c => V.str (S [c])) (by simp) (by simp) (fun i H1 x H2 hi _ y => ?_) (fun _ _ => trivial) (fun v => p (chr1 v)) (fun v => v) (fun x H1 R hx s1 hR => ?_) (fun x H1 R hx hp s1 hR => ?_) fun H1 s1 e => ?_
      · obtain ⟨e, c, hc, ex⟩ := y
        refine ⟨e, ?_⟩
        rw [List.getElem?_map, show (List.range' 97 26)[i]? = some c from (by rw [← Array.getElem?_toList] at hc; exact hc), ex]; rfl
      · obtain ⟨c, hc, rfl⟩ := List.mem_map.mp hx
        refine ztt [some (.ref h), some (.str (S L)), none, some (.str (S [c]))] rfl ?_
        walk_at "zz"
        exact hR _ (Same.refl _)
      · refine zte [some (.ref h), some (.str (S L)), none, some x] rfl ?_
        walk_at "zz"
        exact hR _ (Same.refl _)
      · have ef : ((((List.range' 97 26).map fun c => V.str (S [c])).filter fun v => p (chr1 v)).map fun v => v) = ((List.range' 97 26).filter p).map fun c => V.str (S [c]) := by
          rw [List.map_id', List.filter_map]; rfl
        rw [ef] at e
        generalize hfr : (List.range' 97 26).filter p = fr at e
        have hfl : fr.length ≤ 26 := by
          rw [← hfr]
          exact Nat.le_trans (List.length_filter_le _ _) (by rw [List.length_range']; exact Nat.le_refl _)
        have hf0 : 0 < fr.length := by
          rcases Nat.eq_zero_or_pos fr.length with z | z
          · have z2 := List.eq_nil_of_length_eq_zero z
            have h1 : ∀ c ∈ List.range' 97 26, c ∈ L := fun c hc => by
              have h3 : p c ≠ true := fun h4 => by
                have : c ∈ fr := by rw [← hfr]; exact List.mem_filter.mpr ⟨hc, h4⟩
                rw [z2] at this; cases this
              simpa [p] using h3
            have := nodup_len (l := List.range' 97 26) (L := L) List.nodup_range' h1
            rw [List.length_range'] at this
            omega
          · exact z
        walk_at "zz"
        refine i_joinC e (by omega) ?_
        walk_at "zz"
        have hh1 := gd_same (Gd.refl hh) s1
        refine use_draw hh1.ok (by omega) (by omega) fun r H2 hr2 g2 => ?_
        have hrl : r < fr.length := by omega
        refine i_ixS (by omega) (atI_nat (List.getElem?_eq_getElem hrl)) ?_
        walk_at "zz"
        refine ⟨L ++ [fr[r]], rfl, by rw [List.length_append]; simp; omega, fun M p2 hpm hpw hpn => ?_⟩
        have hM : M.length = L.length + 1 := by rw [hpm.length_eq, List.length_append]; rfl
        have hmem : fr[r] ∈ List.range' 97 26 ∧ fr[r] ∉ L := by
          have h3 : fr[r] ∈ (List.range' 97 26).filter p := by rw [hfr]; exact List.getElem_mem hrl
          obtain ⟨h4, h5⟩ := List.mem_filter.mp h3
          exact ⟨h4, by simpa [p] using h5⟩
        have hnd : M.Nodup := hpm.nodup_iff.mpr (List.nodup_append.mpr ⟨l1.imp fun {a b} q => by omega, by simp, fun a ha b hb => by
          rw [List.mem_singleton.mp hb]; intro z; rw [z] at ha; exact hmem.2 ha⟩)
        walk_at "zz"
        refine i_joinC upd_same (by omega) ?_
        refine k M _ ⟨asc_of hpw hnd, fun c hc => ?_, by omega, by omega⟩ (by omega) ((hh1.trans g2).new hpn)
        rcases List.mem_append.mp (hpm.mem_iff.mp hc) with z | z
        · exact l2 c z
        · rw [List.mem_singleton.mp z]
          have := List.mem_range'_1.mp hmem.1
          omega
end
end Y

namespace Y
open PySem PySem.Spec PyProof.Rows L2 Z
open C8 (tCut pss_cut Cal pe_c Met pe_mt pe_mt0 Mak pe_mk pe_gc)
abbrev s__law_near : Stmt := topS 23
abbrev n__law_near : List Str := ["_law_hand_here", "_law_parts_here", "_law_letters_here", "_law_table", "_law_accepts", "_law_way", "_law_size", "_law_state", "_law_k", "_law_row", "_law_one", "_law_more_here"]
theorem sc__law_near : FnScope n__law_near ["_law_hand_here", "_law_parts_here"] (defScope s__law_near) := ⟨rfl, rfl, rfl, by decide +kernel, rfl, by decide +kernel, by decide +kernel⟩

def spNear : Sp := fun vs H Q _ => ∃ (h p : Addr) (vt va : V) (L : List Nat) (tab : List (List Nat)) (acc : List Nat), vs = [.ref h, .ref p] ∧ HandOk H h ∧ H p = some (.tup [.str (S L), vt, va]) ∧ ¬ p = h ∧ Parts L tab acc ∧ Rp (· = h) H vt (tabD tab) ∧ Rp (· = h) H va (rowD acc) ∧
  ∀ (p : Addr) (vt va : V) (L : List Nat) (tab : List (List Nat)) (acc : List Nat) H', Parts L tab acc → H' p = some (.tup [.str (S L), vt, va]) → ¬ p = h → Rp (· = h) H' vt (tabD tab) → Rp (· = h) H' va (rowD acc) → Gd h H H' → Q (.ref p) H'
/-- what stands between the ways of «near» -/
def NearI (h p : Addr) (H : Hp) (way n0 st : Nat) (fit : Nat → Prop) (σ' : L2.St) (H' : Hp) : Prop := Gd h H H' ∧ ∃ (vt va : V) (L : List Nat) (tab : List (List Nat)) (acc : List Nat) (v8 v9 v10 v11 : Option V), Parts L tab acc ∧ fit tab.length ∧ Rp (· = h) H' vt (tabD tab) ∧ Rp (· = h) H' va (rowD acc) ∧
  σ' = [some (.ref h), some (.ref p), some (.str (S L)), some vt, some va, some (.int (way : Int)), some (.int (n0 : Int)), some (.int (st : Int)), v8, v9, v10, v11]
theorem ints_back : ∀ (ns : List Int), (∀ x ∈ ns, 0 ≤ x) → ns.map V.int = ivs (ns.map Int.toNat)
  | [], _ => rfl
  | x :: ns, h => by
    have ih := ints_back ns fun y hy => h y (List.mem_cons_of_mem _ hy)
    have hx := h x List.mem_cons_self
    show V.int x :: ns.map V.int = V.int ((x.toNat : Nat) : Int) :: ivs (ns.map Int.toNat)
    rw [ih, show ((x.toNat : Nat) : Int) = x by omega]
theorem row_get {tab : List (List Nat)} {i : Nat} (h : i < tab.length) : (tab.map rowD)[i]? = some (rowD (tab[i])) := by
  rw [List.getElem?_map, List.getElem?_eq_getElem h]; rfl
theorem ids_app (a b : List Nat) : ids a ++ ids b = ids (a ++ b) := by unfold ids; rw [List.map_append]
theorem ids_take (a : List Nat) (n : Nat) : (ids a).take n = ids (a.take n) := by unfold ids; rw [List.map_take]
theorem ids_drop (a : List Nat) (n : Nat) : (ids a).drop n = ids (a.drop n) := by unfold ids; rw [List.map_drop]
theorem ids_len (a : List Nat) : (ids a).length = a.length := by unfold ids; rw [List.length_map]
section
variable {P : Program} {w : World} {K : PySem.W.Frag} {mg : Str → Option Value} {base : Heap}
theorem c__law_near (d : DF K mg "_law_near" s__law_near) (B : Bi mg) (c__law_draw : Cal P w K mg base 1 "_law_draw" spDraw []) (c__law_letters : Cal P w K mg base 2 "_law_letters" spLetters []) (c__law_more : Cal P w K mg base 2 "_law_more" spMore []) (c__law_parts : Cal P w K mg base 4 "_law_parts" spParts []) : Cal P w K mg base 5 "_law_near" spNear [] := by
  refine d.cal (N := n__law_near) sc__law_near (fun _ _ _ _ _ _ us hl => match us, hl with | [_, _], _ => rfl) (fun vs H Q E h => ?_) (fun f cdv A outer s H vs Q E hr h => ?_)
  · obtain ⟨h, p, vt, va, L, tab, acc, rfl, _⟩ := h
    rfl
  · obtain ⟨h, p, vt, va, L, tab, acc, rfl, hh, ep, nph, PT, rt, ra, k⟩ := h
    refine ⟨_, (pss_cons (ps_asg (pv 1) (pg_tup rfl (pgs_cons (pg_name (i := 2) sc__law_near.nd rfl (by first | exact Or.inl rfl | exact Or.inr rfl)) (pgs_cons (pg_name (i := 3) sc__law_near.nd rfl (by first | exact Or.inl rfl | exact Or.inr rfl)) (pgs_cons (pg_name (i := 4) sc__law_near.nd rfl (by first | exact Or.inl rfl | exact Or.inr rfl)) pgs_nil)))))
  (pss_cons (ps_set (i := 5) sc__law_near.nd rfl (by first | exact Or.inl rfl | exact Or.inr rfl) (pe_c c__law_draw hr (by first | decide | omega) rfl (pa_cons (pv 0) (pa_cons pe_int pa_nil))))
  (pss_cons (ps_set (i := 6) sc__law_near.nd rfl (by first | exact Or.inl rfl | exact Or.inr rfl) (pe_callB (r := zLen K) zc_len (by rfl) B.len (by decide +kernel) (pa_cons (pv 3) pa_nil)))
  (pss_cons (ps_set (i := 7) sc__law_near.nd rfl (by first | exact Or.inl rfl | exact Or.inr rfl) (pe_c c__law_draw hr (by first | decide | omega) rfl (pa_cons (pv 0) (pa_cons (pv 6) pa_nil))))
  (pss_cut (ps_if (pt_cmpR op_eq (pv 5) pe_int (nomark _)) (pss_one (ps_set (i := 2) sc__law_near.nd rfl (by first | exact Or.inl rfl | exact Or.inr rfl) (pe_joinZ (K := K) rfl pe_str (pe_callB (zc_sortedC rfl) (by rfl) B.sorted (by decide +kernel) (pa_cons (pe_c c__law_letters hr (by first | decide | omega) rfl (pa_cons (pv 0) (pa_cons pe_str (pa_cons (pe_callB zc_lens (by rfl) B.len (by decide +kernel) (pa_cons (pv 2) pa_nil)) pa_nil)))) pa_nil))))) pss_nil)
  (pss_cut (ps_if (pt_cmpR op_eq (pv 5) pe_int (nomark _)) (pss_cons (ps_set (i := 8) sc__law_near.nd rfl (by first | exact Or.inl rfl | exact Or.inr rfl) (pe_c c__law_draw hr (by first | decide | omega) rfl (pa_cons (pv 0) (pa_cons (pe_callB zc_lens (by rfl) B.len (by decide +kernel) (pa_cons (pv 2) pa_nil)) pa_nil))))
  (pss_cons (ps_set (i := 9) sc__law_near.nd rfl (by first | exact Or.inl rfl | exact Or.inr rfl) (pe_op (r := rCatA K) op_catA (pe_op (r := rCatA K) op_catA (pe_slice (r := rSlA K) sl_tupA (pe_ix (r := rIxT K) ix_tup (pv 3) (pv 7) (fun _ _ => rfl)) po_none (po_some (pv 8))) (pe_tup (pa_cons (pe_c c__law_draw hr (by first | decide | omega) rfl (pa_cons (pv 0) (pa_cons (pv 6) pa_nil))) pa_nil))) (pe_slice (r := rSlA K) sl_tupA (pe_ix (r := rIxT K) ix_tup (pv 3) (pv 7) (fun _ _ => rfl)) (po_some (pe_op z_add (pv 8) pe_int)) po_none)))
  (pss_one (ps_set (i := 3) sc__law_near.nd rfl (by first | exact Or.inl rfl | exact Or.inr rfl) (pe_op (r := rCatA K) op_catA (pe_op (r := rCatA K) op_catA (pe_slice (r := rSlA K) sl_tupA (pv 3) po_none (po_some (pv 7))) (pe_tup (pa_cons (pv 9) pa_nil))) (pe_slice (r := rSlA K) sl_tupA (pv 3) (po_some (pe_op z_add (pv 7) pe_int)) po_none)))))) pss_nil)
  (pss_cut (ps_if (PW.pt (pw_and (pt_cmpR op_eq (pv 5) pe_int (nomark _)) (pw_and1 (pt_cmpR (r := rIn K false) op_in_seq (pv 7) (pv 4) (by rfl))))) (pss_one (ps_set (i := 4) sc__law_near.nd rfl (by first | exact Or.inl rfl | exact Or.inr rfl) (pe_callTy (r := zTuple K) zc_tuple (by rfl) B.tuple (by decide +kernel) (pa_cons (pe_lc (own := [("_law_one", 10)]) (g := gName 10) (by rfl) sc__law_near.nd (pi_tup (pv 4)) (blkOk_by (N := n__law_near) (sc := defScope s__law_near) (by decide +kernel)) (fun _ _ _ _ _ => (pg_name (i := 10) sc__law_near.nd rfl (by first | exact Or.inl rfl | exact Or.inr rfl))) (fun _ _ _ _ _ => (pts_one (pt_cmpR op_ne (pv 10) (pv 7) (nomark _)))) (fun _ _ _ _ _ => (pv 10))) pa_nil)))) (pss_one (ps_if (pt_cmpR op_eq (pv 5) pe_int (nomark _)) (pss_one (ps_set (i := 4) sc__law_near.nd rfl (by first | exact Or.inl rfl | exact Or.inr rfl) (pe_callTy (r := zTuple K) zc_tuple (by rfl) B.tuple (by decide +kernel) (pa_cons (pe_callB (r := zSortedTI K) zc_sortedTI (by rfl) B.sorted (by decide +kernel) (pa_cons (pe_op (r := rCatA K) op_catA (pv 4) (pe_tup (pa_cons (pv 7) pa_nil))) pa_nil)) pa_nil)))) pss_nil)))
  (pss_cut (ps_if (PW.pt (pw_and (pt_cmpR op_eq (pv 5) pe_int (nomark _)) (pw_and1 (pt_cmpR z_lt (pv 6) pe_int (nomark _))))) (pss_one (ps_set (i := 3) sc__law_near.nd rfl (by first | exact Or.inl rfl | exact Or.inr rfl) (pe_op (r := rCatA K) op_catA (pv 3) (pe_tup (pa_cons (pe_ix (r := rIxT K) ix_tup (pv 3) (pv 7) (fun _ _ => rfl)) pa_nil))))) pss_nil)
  (pss_cut (ps_if (pt_cmpR op_eq (pv 5) pe_int (nomark _)) (pss_cons (ps_set (i := 11) sc__law_near.nd rfl (by first | exact Or.inl rfl | exact Or.inr rfl) (pe_c c__law_more hr (by first | decide | omega) rfl (pa_cons (pv 0) (pa_cons (pv 2) pa_nil))))
  (pss_cons (ps_set (i := 3) sc__law_near.nd rfl (by first | exact Or.inl rfl | exact Or.inr rfl) (pe_callTy (r := zTuple K) zc_tuple (by rfl) B.tuple (by decide +kernel) (pa_cons (pe_lc (own := [("_law_row", 9)]) (g := gName 9) (tt := tYes) (by rfl) sc__law_near.nd (pi_tup (pv 3)) (blkOk_by (N := n__law_near) (sc := defScope s__law_near) (by decide +kernel)) (fun _ _ _ _ _ => (pg_name (i := 9) sc__law_near.nd rfl (by first | exact Or.inl rfl | exact Or.inr rfl))) (fun _ _ _ _ _ => pts_nil) (fun _ _ _ _ _ => (pe_slice (r := rSlA K) sl_tupA (pe_op (r := rCatA K) op_catA (pv 9) (pv 9)) po_none (po_some (pe_callB zc_lens (by rfl) B.len (by decide +kernel) (pa_cons (pv 11) pa_nil)))))) pa_nil)))
  (pss_one (ps_set (i := 2) sc__law_near.nd rfl (by first | exact Or.inl rfl | exact Or.inr rfl) (pv 11))))) pss_nil)
  (pss_cons (ps_if (pt_cmpR op_eq (pv 5) pe_int (nomark _)) (pss_one (ps_ret (pe_c c__law_parts hr (by first | decide | omega) rfl (pa_cons (pv 0) (pa_cons pe_int (pa_cons pe_int pa_nil)))))) pss_nil)
  (pss_one (ps_ret (pe_tup (pa_cons (pv 2) (pa_cons (pv 3) (pa_cons (pv 4) pa_nil)))))))))))))))), ?_⟩
    refine zstart [some (.ref h), some (.ref p), none, none, none, none, none, none, none, none, none, none] rfl ?_; try dsimp only [zK, zK2]
    walk_at "zz"
    refine use_draw hh (by decide) (by decide) fun way H1 hr1 g1 => ?_
    have rt1 := rt.mono g1.toKp
    have ra1 := ra.mono g1.toKp
    walk_at "zz"
    refine i_lenRp (K := K) rt1 ?_
    rw [List.length_map]
    walk_at "zz"
    have htl := PT.lo
    have hth := PT.hi
    refine use_draw g1.ok (by omega) (by omega) fun st H2 hr2 g2 => ?_
    have hst : st < tab.length := by omega
    have rt2 := rt1.mono g2.toKp
    have ra2 := ra1.mono g2.toKp
    have g02 := g1.trans g2
    generalize hn0 : tab.length = n0
    walk_at "zz"
    -- way 1
    refine i_cut (NearI h p H way n0 st (· = n0)) ?_ ?_
    · walk_at "zz"
      refine brd (fun q => ?_) fun q => ?_
      · walk_at "zz"
        rw [empty_codes, show codes (PySem.Str.ofString "abcdefghijklmnopqrstuvwxyz") = List.range' 97 26 from az]
        have hL4 := PT.ltr.2.2.2
        have hL1 := PT.ltr.2.2.1
        walk_at "zz"
        refine ⟨h, List.range' 97 26, L.length, rfl, g02.ok, by rw [List.length_range']; omega, by rw [List.length_range']; decide, fun found rest H4 hf hp g4 => ?_⟩
        walk_at "zz"
        refine ⟨found, rfl, by omega, fun L' p' hpm hpw hpn => ?_⟩
        have hnd : L'.Nodup := hpm.nodup_iff.mpr (perm_nodup_of hp List.nodup_range')
        have hlen := hpm.length_eq
        have LL : Ltrs L' := ⟨asc_of hpw hnd, fun c hc => by
          have := List.mem_range'_1.mp (hp.mem_iff.mp (List.mem_append_left _ (hpm.mem_iff.mp hc))); omega, by omega, by omega⟩
        walk_at "zz"
        refine i_joinC upd_same (by omega) ?_
        walk_at "zz"
        refine ⟨(g02.trans g4).new hpn, vt, va, L', tab, acc, none, none, none, none, ⟨LL, PT.lo, PT.hi, fun r hr => ⟨by rw [(PT.row r hr).1]; omega, (PT.row r hr).2⟩, PT.acc, PT.acs⟩, hn0, (rt2.mono g4.toKp).mono (Kp.refl.newz hpn), (ra2.mono g4.toKp).mono (Kp.refl.newz hpn), rfl⟩
      · walk_at "zz"
        exact ⟨g02, vt, va, L, tab, acc, none, none, none, none, PT, hn0, rt2, ra2, rfl⟩
    clear ra2 rt2 ra1 rt1 g02 g2 hr2 htl hth g1 hr1 H1 H2
    clear ra rt PT
    revert hst
    rw [hn0]
    clear hn0 ep
    clear tab acc L vt va
    intro hst
    rintro σ' H3 ⟨g3, vt, va, L, tab, acc, v8, v9, v10, v11, PT, hn, rt, ra, rfl⟩
    have hst' : st < tab.length := by omega
    walk_at "zz"
    -- way 2
    refine i_cut (NearI h p H way n0 st (· = n0)) ?_ ?_
    · walk_at "zz"
      refine brd (fun q => ?_) fun q => ?_
      · have hL4 := PT.ltr.2.2.2
        have hL1 := PT.ltr.2.2.1
        walk_at "zz"
        refine use_draw g3.ok (by omega) (by omega) fun kk H4 hk g4 => ?_
        have hkk : kk < L.length := by omega
        have g34 := g4
        have rt4 := rt.mono g4.toKp
        obtain ⟨hrl, hrx⟩ := PT.row _ (List.getElem_mem hst')
        walk_at "zz"
        refine i_ixRp rt4 (row_get hst') fun x rx => ?_
        walk_at "zz"
        refine i_slRp rx g34.ok.nn fun x1 H5 s5 rx1 => ?_
        rw [cutD_to, ids_take] at rx1
        have g5 := gd_same g34 s5
        have rt5 := rt4.same s5
        walk_at "zz"
        refine use_draw g5.ok (by have := PT.lo; omega) (by have := PT.hi; omega) fun z H6 hz g6 => ?_
        have g56 := g5.trans g6
        have rt6 := rt5.mono g6.toKp
        have rx6 := rx1.mono g6.toKp
        walk_at "zz"
        refine ⟨by show 1 ≤ sizeLine; decide, fun d1 hd1 => ?_⟩
        have g7 := g56.new (o := .tup [.int (z : Int)]) hd1
        have rz : Rp (· = h) (upd H6 d1 (.tup [.int (z : Int)])) (.ref d1) (rowD [z]) := .tup upd_same (g56.ok.ne hd1) (.cons (.int _) .nil)
        have rt7 := rt6.mono (kp_new (o := .tup [.int (z : Int)]) hd1)
        have rx7 := rx6.mono (kp_new (o := .tup [.int (z : Int)]) hd1)
        generalize upd H6 d1 (.tup [.int (z : Int)]) = H7 at g7 rz rt7 rx7 ⊢
        refine i_catRp rx7 rz g7.ok.nn (by rw [ids_len, ids_len, List.length_take]; simp; omega) fun x2 H8 s8 rx2 => ?_
        rw [ids_app] at rx2
        have g8 := gd_same g7 s8
        have rt8 := rt7.same s8
        walk_at "zz"
        refine i_ixRp rt8 (row_get hst') fun x3 rx3 => ?_
        walk_at "zz"
        rw [show (kk : Int) + 1 = ((kk + 1 : Nat) : Int) by omega]
        refine i_slRp rx3 g8.ok.nn fun x4 H9 s9 rx4 => ?_
        rw [cutD_from, ids_drop] at rx4
        have g9 := gd_same g8 s9
        refine i_catRp (rx2.same s9) rx4 g9.ok.nn (by rw [ids_len, ids_len, List.length_append, List.length_take, List.length_drop]; simp; omega) fun x5 H10 s10 rx5 => ?_
        rw [ids_app] at rx5
        have g10 := gd_same g9 s10
        have rt10 := (rt8.same s9).same s10
        walk_at "zz"
        generalize hrow : tab[st].take kk ++ [z] ++ tab[st].drop (kk + 1) = row at rx5
        have hrow1 : row.length = L.length := by
          rw [← hrow, List.length_append, List.length_append, List.length_take, List.length_drop, hrl]; simp; omega
        have hrow2 : ∀ y ∈ row, y < tab.length := fun y hy => by
          rw [← hrow] at hy
          rcases List.mem_append.mp hy with hy | hy
          · rcases List.mem_append.mp hy with hy | hy
            · exact hrx y (List.mem_of_mem_take hy)
            · rw [List.mem_singleton.mp hy]; omega
          · exact hrx y (List.mem_of_mem_drop hy)
        refine i_slRp rt10 g10.ok.nn fun x6 H11 s11 rx6 => ?_
        rw [cutD_to, ← List.map_take] at rx6
        have g11 := gd_same g10 s11
        have rx5 := rx5.same s11
        walk_at "zz"
        refine ⟨by show 1 ≤ sizeLine; decide, fun d2 hd2 => ?_⟩
        have g12 := g11.new (o := .tup [x5]) hd2
        have rz2 : Rp (· = h) (upd H11 d2 (.tup [x5])) (.ref d2) (tabD [row]) := .tup upd_same (g11.ok.ne hd2) (.cons (rx5.mono (kp_new hd2)) .nil)
        have rt12 := (rt10.same s11).mono (kp_new (o := .tup [x5]) hd2)
        have rx12 := rx6.mono (kp_new (o := .tup [x5]) hd2)
        generalize upd H11 d2 (.tup [x5]) = H12 at g12 rz2 rt12 rx12 ⊢
        have ht6 := PT.hi
        refine i_catRp rx12 rz2 g12.ok.nn (by rw [List.length_map, List.length_map, List.length_take]; simp; omega) fun x7 H13 s13 rx7 => ?_
        rw [← List.map_append] at rx7
        have g13 := gd_same g12 s13
        have rt13 := rt12.same s13
        walk_at "zz"
        rw [show (st : Int) + 1 = ((st + 1 : Nat) : Int) by omega]
        refine i_slRp rt13 g13.ok.nn fun x8 H14 s14 rx8 => ?_
        rw [cutD_from, ← List.map_drop] at rx8
        have g14 := gd_same g13 s14
        refine i_catRp (rx7.same s14) rx8 g14.ok.nn (by rw [List.length_map, List.length_map, List.length_append, List.length_take, List.length_drop]; simp; omega) fun x9 H15 s15 rx9 => ?_
        rw [← List.map_append] at rx9
        have g15 := gd_same g14 s15
        walk_at "zz"
        have hlen : (tab.take st ++ [row] ++ tab.drop (st + 1)).length = tab.length := by
          rw [List.length_append, List.length_append, List.length_take, List.length_drop]; simp; omega
        refine ⟨g3.trans g15, x9, va, L, _, acc, _, _, _, _, ⟨PT.ltr, by rw [hlen]; exact PT.lo, by rw [hlen]; exact PT.hi, fun r hr => ?_, PT.acc, fun x hx => by rw [hlen]; exact PT.acs x hx⟩, by rw [hlen]; exact hn, rx9, ra.mono g15.toKp, rfl⟩
        · rw [hlen]
          rcases List.mem_append.mp hr with hr | hr
          · rcases List.mem_append.mp hr with hr | hr
            · exact PT.row r (List.mem_of_mem_take hr)
            · rw [List.mem_singleton.mp hr]; exact ⟨hrow1, hrow2⟩
          · exact PT.row r (List.mem_of_mem_drop hr)
      · walk_at "zz"
        exact ⟨g3, vt, va, L, tab, acc, _, _, _, _, PT, hn, rt, ra, rfl⟩
    clear PT rt ra g3 hn hst' va vt L tab acc v8 v9 v10 v11
    rintro σ' H4 ⟨g4, vt, va, L, tab, acc, v8, v9, v10, v11, PT, hn, rt, ra, rfl⟩
    have hst' : st < tab.length := by omega
    have hal := PT.accLen
    walk_at "zz"
    -- way 3
    refine i_cut (NearI h p H way n0 st (· = n0)) ?_ ?_
    · walk_at "zz"
      refine brd (fun q => ?_) fun q => ?_
      · obtain ⟨pa, rfl, epa, npa⟩ := rowD_rp ra
        walk_at "zz"
        refine ⟨pa, _, rfl, .inr (SqT.of epa), rfl, by unfold ivs; rw [List.all_map]; exact List.all_eq_true.mpr fun _ _ => rfl, ?_⟩
        rw [inI, if_neg (by decide)]
        walk_at "zz"
        refine brd (fun hin => ?_) fun hin => ?_
        · walk_at "zz"
          refine i_KT (SqT.of epa) ?_
          refine fun Dl hD => ?_
          have hvl : (ivs acc).length ≤ 6 := by rw [ivs_len]; exact hal
          let pf : V → Bool := fun v => !decide (int1 v = (st : Int))
          refine l_filt (walk_tup (xs := ivs acc)) hD [some (.ref h), some (.ref p), some (.str (S L)), some vt, some (.ref pa), some (.int (way : Int)), some (.int (n0 : Int)), some (.int (st : Int)), v8, v9, none, v11] rfl (fun _ => rfl) (ivs acc) rfl (by omega) (fun i H1 x H2 _ _ y => ⟨y.1, y.2⟩) (fun H1 s1 => SqT.of (s1 _ _ epa)) pf (fun v => v)
            (fun x H1 R hx s1 hR => ?_) (fun x H1 R hx hp s1 hR => ?_) fun H1 s1 e => ?_
          · obtain ⟨z, hz, rfl⟩ := List.mem_map.mp hx
            refine ztt [some (.ref h), some (.ref p), some (.str (S L)), some vt, some (.ref pa), some (.int (way : Int)), some (.int (n0 : Int)), some (.int (st : Int)), v8, v9, some (.int (z : Int)), v11] rfl ?_
            walk_at "zz"
            exact hR _ (Same.refl _)
          · refine zte [some (.ref h), some (.ref p), some (.str (S L)), some vt, some (.ref pa), some (.int (way : Int)), some (.int (n0 : Int)), some (.int (st : Int)), v8, v9, some x, v11] rfl ?_
            walk_at "zz"
            exact hR _ (Same.refl _)
          · have ef : ((ivs acc).filter pf).map (fun v => v) = ivs (acc.filter fun x => pf (.int (x : Int))) := by
              rw [List.map_id']
              unfold ivs
              rw [List.filter_map]; rfl
            rw [ef] at e
            have g5 := gd_same (Gd.refl g4.ok) s1
            walk_at "zz"
            refine i_tupleL (SqL.of e) fun t5 ht5 => ?_
            have g6 := g5.new (o := .tup (ivs (acc.filter fun x => pf (.int (x : Int))))) ht5
            walk_at "zz"
            refine ⟨g4.trans g6, vt, .ref t5, L, tab, _, _, _, _, _, ⟨PT.ltr, PT.lo, PT.hi, PT.row, PT.acc.sublist List.filter_sublist, fun x hx => PT.acs x (List.mem_filter.mp hx).1⟩, hn, rt.mono g6.toKp, .tup upd_same (g5.ok.ne ht5) (ids_of _), rfl⟩
        · walk_at "zz"
          refine brd (fun _ => ?_) fun q2 => absurd q q2
          walk_at "zz"
          refine ⟨by show 1 ≤ sizeLine; decide, fun d1 hd1 => ?_⟩
          have g5 := (Gd.refl g4.ok).new (o := .tup [.int (st : Int)]) hd1
          have rz : Rp (· = h) (upd H4 d1 (.tup [.int (st : Int)])) (.ref d1) (rowD [st]) := .tup upd_same (g4.ok.ne hd1) (.cons (.int _) .nil)
          have ra5 := ra.mono (kp_new (o := .tup [.int (st : Int)]) hd1)
          generalize upd H4 d1 (.tup [.int (st : Int)]) = H5 at g5 rz ra5 ⊢
          refine i_catRp ra5 rz g5.ok.nn (by rw [ids_len, ids_len]; simp; omega) fun x2 H6 s6 rx2 => ?_
          rw [ids_app] at rx2
          have g6 := gd_same g5 s6
          obtain ⟨px, rfl, epx, npx⟩ := rowD_rp rx2
          walk_at "zz"
          refine ⟨px, (acc ++ [st]).map fun x : Nat => (x : Int), rfl, SqT.of (by rw [epx]; unfold ivs; rw [List.map_map]; rfl), by rw [List.length_map, List.length_append]; simp; omega, fun ns' p' hpm hpw hpn => ?_⟩
          have hnn : ∀ x ∈ ns', 0 ≤ x := fun x hx => by
            obtain ⟨y, _, rfl⟩ := List.mem_map.mp (hpm.mem_iff.mp hx)
            omega
          have g7 := g6.new (o := .lst (ns'.map V.int)) hpn
          have e7 : (upd H6 p' (.lst (ns'.map V.int))) p' = some (.lst (ns'.map V.int)) := upd_same
          generalize upd H6 p' (.lst (ns'.map V.int)) = H7 at g7 e7 ⊢
          walk_at "zz"
          rw [ints_back ns' hnn] at e7
          refine i_tupleL (SqL.of e7) fun t5 ht5 => ?_
          have g8 := g7.new (o := .tup (ivs (ns'.map Int.toNat))) ht5
          have hpm2 : (ns'.map Int.toNat).Perm (acc ++ [st]) := by
            have := hpm.map Int.toNat
            rw [List.map_map] at this
            refine this.trans (List.Perm.of_eq ?_)
            exact (List.map_congr_left (g := id) fun c _ => Int.toNat_natCast c).trans (List.map_id _)
          have hnd : (ns'.map Int.toNat).Nodup := hpm2.nodup_iff.mpr (List.nodup_append.mpr ⟨PT.acc.imp fun {a b} q => by omega, by simp, fun a ha b hb => by
            rw [List.mem_singleton.mp hb]; intro z; rw [z] at ha; exact hin ha⟩)
          have hpw2 : (ns'.map Int.toNat).Pairwise (· ≤ ·) := List.pairwise_map.mpr (hpw.imp fun {a b} q => by omega)
          walk_at "zz"
          refine ⟨g4.trans g8, vt, .ref t5, L, tab, _, _, _, _, _, ⟨PT.ltr, PT.lo, PT.hi, PT.row, asc_of hpw2 hnd, fun x hx => ?_⟩, hn, rt.mono g8.toKp, .tup upd_same (g7.ok.ne ht5) (ids_of _), rfl⟩
          rcases List.mem_append.mp (hpm2.mem_iff.mp hx) with z | z
          · exact PT.acs x z
          · rw [List.mem_singleton.mp z]; exact hst'
      · walk_at "zz"
        refine brd (fun q2 => absurd q2 q) fun q2 => ?_
        walk_at "zz"
        exact ⟨g4, vt, va, L, tab, acc, _, _, _, _, PT, hn, rt, ra, rfl⟩
    clear PT rt ra g4 hn hst' va vt L tab acc v8 v9 v10 v11 hal
    rintro σ' H5 ⟨g5, vt, va, L, tab, acc, v8, v9, v10, v11, PT, hn, rt, ra, rfl⟩
    have hst' : st < tab.length := by omega
    walk_at "zz"
    -- way 4
    refine i_cut (NearI h p H way n0 st fun _ => True) ?_ ?_
    · walk_at "zz"
      refine brd (fun q => ?_) fun q => ?_
      · walk_at "zz"
        refine brd (fun q2 => ?_) fun q2 => ?_
        · walk_at "zz"
          refine i_ixRp rt (row_get hst') fun x3 rx3 => ?_
          walk_at "zz"
          refine ⟨by show 1 ≤ sizeLine; decide, fun d1 hd1 => ?_⟩
          have g6 := (Gd.refl g5.ok).new (o := .tup [x3]) hd1
          have rz : Rp (· = h) (upd H5 d1 (.tup [x3])) (.ref d1) (tabD [tab[st]]) := .tup upd_same (g5.ok.ne hd1) (.cons (rx3.mono (kp_new hd1)) .nil)
          have rt6 := rt.mono (kp_new (o := .tup [x3]) hd1)
          generalize upd H5 d1 (.tup [x3]) = H6 at g6 rz rt6 ⊢
          refine i_catRp rt6 rz g6.ok.nn (by rw [List.length_map]; simp; omega) fun x2 H7 s7 rx2 => ?_
          rw [← List.map_append] at rx2
          have g7 := gd_same g6 s7
          walk_at "zz"
          have hlen : (tab ++ [tab[st]]).length = tab.length + 1 := by rw [List.length_append]; rfl
          refine ⟨g5.trans g7, x2, va, L, _, acc, _, _, _, _, ⟨PT.ltr, by rw [hlen]; omega, by rw [hlen]; omega, fun r hr => ?_, PT.acc, fun x hx => by have := PT.acs x hx; rw [hlen]; omega⟩, trivial, rx2, ra.mono g7.toKp, rfl⟩
          have hb : ∀ r ∈ tab, r.length = L.length ∧ ∀ x ∈ r, x < (tab ++ [tab[st]]).length := fun r hr => ⟨(PT.row r hr).1, fun x hx => by have := (PT.row r hr).2 x hx; rw [hlen]; omega⟩
          rcases List.mem_append.mp hr with z | z
          · exact hb r z
          · rw [List.mem_singleton.mp z]; exact hb _ (List.getElem_mem hst')
        · walk_at "zz"
          exact ⟨g5, vt, va, L, tab, acc, _, _, _, _, PT, trivial, rt, ra, rfl⟩
      · walk_at "zz"
        exact ⟨g5, vt, va, L, tab, acc, _, _, _, _, PT, trivial, rt, ra, rfl⟩
    clear PT rt ra g5 hn hst' va vt L tab acc v8 v9 v10 v11 hst
    rintro σ' H6 ⟨g6, vt, va, L, tab, acc, v8, v9, v10, v11, PT, _, rt, ra, rfl⟩
    walk_at "zz"
    -- way 5
    refine i_cut (NearI h p H way n0 st fun _ => True) ?_ ?_
    · walk_at "zz"
      refine brd (fun q => ?_) fun q => ?_
      · walk_at "zz"
        refine ⟨h, L, rfl, g6.ok, PT.ltr, fun M H7 LM hM g7 => ?_⟩
        have rt7 := rt.mono g7.toKp
        have ra7 := ra.mono g7.toKp
        walk_at "zz"
        obtain ⟨pt, xs, rfl, ept, npt, rat⟩ := Rp.tupS rt7
        have hxl : xs.length = tab.length := by rw [rat.length, List.length_map]
        have ht6 := PT.hi
        have hM4 := LM.2.2.2
        have hL4 := PT.ltr.2.2.2
        refine i_KT (SqT.of ept) ?_
        refine fun Dl hD => ?_
        have nDh := g7.ok.ne hD
        have hDn : ¬ pt = Dl := ne_of_none ept hD
        refine l_comp (walk_tup (xs := xs)) [some (.ref h), some (.ref p), some (.str (S L)), some (.ref pt), some va, some (.int (way : Int)), some (.int (n0 : Int)), some (.int (st : Int)), v8, none, v10, some (.str (S M))] rfl
          (fun i acc H' => Gd h H7 H' ∧ H' pt = some (.tup xs) ∧ RpAll (fun b => b = h ∨ b = Dl) H' acc ((tab.take i).map fun r => rowD ((r ++ r).take M.length))) ⟨(Gd.refl g7.ok).new hD, by rw [upd_ne hDn]; exact ept, by rw [List.take_zero]; exact .nil⟩
          (fun i acc H' _ q _ => SqT.of q.2.1) ?_ ?_
        · rintro i x acc8 H9 H8 hi ⟨g8, e8, r8⟩ eD hl8 ⟨rfl, hx⟩
          have hit : i < tab.length := by omega
          have rx : Rp (· = h) H8 x (rowD tab[i]) := by
            obtain ⟨d1, hd1, q1⟩ := (rat.mono g8.toKp).get' hx
            rw [row_get hit] at hd1
            cases hd1; exact q1
          refine i_gname ?_
          refine i_lct rfl ?_
          refine i_yes ?_
          refine iteT ?_
          refine zte [some (.ref h), some (.ref p), some (.str (S L)), some (.ref pt), some va, some (.int (way : Int)), some (.int (n0 : Int)), some (.int (st : Int)), v8, some x, v10, some (.str (S M))] rfl ?_
          have hrl := (PT.row _ (List.getElem_mem hit)).1
          walk_at "zz"
          refine i_catRp rx rx g8.ok.nn (by rw [ids_len]; omega) fun x2 H10 s10 rx2 => ?_
          rw [ids_app] at rx2
          have g10 := gd_same g8 s10
          walk_at "zz"
          refine i_slRp rx2 g10.ok.nn fun x3 H11 s11 rx3 => ?_
          rw [cutD_to, ids_take] at rx3
          have g11 := gd_same g10 s11
          have s8 := s10.trans s11
          have eD11 := s8 _ _ eD
          obtain ⟨p3, rfl, ep3, np3⟩ := rowD_rp rx3
          have np3D : ¬ p3 = Dl := fun z => by subst z; rw [eD11] at ep3; cases ep3
          refine cend eD11 hl8 (by omega) ⟨g11.mutz hD, by rw [upd_ne hDn]; exact s8 _ _ e8, ?_⟩
          rw [List.take_add_one, List.getElem?_eq_getElem hit]
          show RpAll _ _ _ (List.map _ (tab.take i ++ [tab[i]]))
          rw [List.map_append]
          have kq : Kp (fun b => b = h ∨ b = Dl) H11 (upd H11 Dl (.lst (acc8 ++ [.ref p3]))) := fun b o e n => by
            rw [upd_ne (fun z => n (.inr z))]; exact e
          refine ((r8.mono (Kp.of_same s8)).mono kq).append (.cons (.tup (by rw [upd_ne np3D]; exact ep3) (fun z => z.elim np3 np3D) (ids_of _)) .nil)
        · rintro acc8 H8 ⟨g8, e8, r8⟩ eD hl8
          rw [hxl, List.take_length] at r8
          walk_at "zz"
          refine i_tupleL (SqL.of eD) fun t5 ht5 => ?_
          have g9 := g8.new (o := .tup acc8) ht5
          have nt5 := g8.ok.ne ht5
          have r9 : Rp (· = h) (upd H8 t5 (.tup acc8)) (.ref t5) (tabD (tab.map fun r => (r ++ r).take M.length)) := by
            refine .tup upd_same nt5 ?_
            rw [List.map_map]
            exact (r8.mono (Kp.refl.newz ht5)).sub fun b z => .inl z
          have ra9 := ra7.mono g9.toKp
          generalize upd H8 t5 (.tup acc8) = H9 at g9 r9 ra9 ⊢
          walk_at "zz"
          refine ⟨(g6.trans g7).trans g9, .ref t5, va, M, _, acc, _, _, _, _, ⟨LM, by rw [List.length_map]; exact PT.lo, by rw [List.length_map]; exact PT.hi, fun r hr => ?_, PT.acc, fun x hx => by rw [List.length_map]; exact PT.acs x hx⟩, trivial, r9, ra9, rfl⟩
          obtain ⟨r0, h0, rfl⟩ := List.mem_map.mp hr
          obtain ⟨z1, z2⟩ := PT.row r0 h0
          refine ⟨by rw [List.length_take, List.length_append]; omega, fun x hx => ?_⟩
          rw [List.length_map]
          rcases List.mem_append.mp (List.mem_of_mem_take hx) with z | z <;> exact z2 x z
      · walk_at "zz"
        exact ⟨g6, vt, va, L, tab, acc, _, _, _, _, PT, trivial, rt, ra, rfl⟩
    clear PT rt ra g6 va vt L tab acc v8 v9 v10 v11
    rintro σ' H7 ⟨g7, vt, va, L, tab, acc, v8, v9, v10, v11, PT, _, rt, ra, rfl⟩
    walk_at "zz"
    refine brd (fun q => ?_) fun q => ?_
    · walk_at "zz"
      refine ⟨h, rfl, g7.ok, fun p2 vt2 va2 L2 tab2 acc2 H8 PT2 ep2 np2 rt2 ra2 g8 => ?_⟩
      exact k p2 vt2 va2 L2 tab2 acc2 H8 PT2 ep2 np2 rt2 ra2 (g7.trans g8)
    · walk_at "zz"
      refine ⟨by show 3 ≤ sizeLine; decide, fun pp hpp => ?_⟩
      exact k pp vt va L tab acc _ PT upd_same (g7.ok.ne hpp) (rt.mono (kp_new hpp)) (ra.mono (kp_new hpp)) (g7.new hpp)
end
end Y

namespace Y
open PySem PySem.Spec PyProof.Rows L2 Z
open C8 (tCut pss_cut Cal pe_c Met pe_mt pe_mt0 Mak pe_mk)
abbrev s__law_flag : Stmt := topS 21
abbrev n__law_flag : List Str := ["_law_found", "_law_due"]
theorem sc__law_flag : FnScope n__law_flag ["_law_found", "_law_due"] (defScope s__law_flag) := ⟨rfl, rfl, rfl, by decide +kernel, rfl, by decide +kernel, by decide +kernel⟩

def spFlag : Sp := fun vs H Q _ => ∃ b c : Bool, vs = [.bl b, .bl c] ∧ ∀ H', Same H H' → Q (.bl (b == c)) H'
theorem c__law_flag {P : Program} {w : World} {K : PySem.W.Frag} {mg : Str → Option Value} {base : Heap} (d : DF K mg "_law_flag" s__law_flag) (B : Bi mg) : Cal P w K mg base 1 "_law_flag" spFlag [] := by
  refine d.cal (N := n__law_flag) sc__law_flag (fun _ _ _ _ _ _ us hl => match us, hl with | [_, _], _ => rfl) (fun vs H Q E h => ?_) (fun f cdv A outer s H vs Q E hr h => ?_)
  · obtain ⟨b, c, rfl, _⟩ := h
    rfl
  · obtain ⟨b, c, rfl, k⟩ := h
    refine ⟨_, (pss_one (ps_ret (pe_and (pe_callB (r := zIsi K) zc_isi (by rfl) B.isinstance (by decide +kernel) (pa_cons (pv 0) (pa_cons (pe_bltn (by rfl) B.bool (by decide +kernel) (rel_ty "bool")) pa_nil))) (pe_one (pe_cmpR op_eq (pv 0) (pv 1) (nomark _)))))), ?_⟩
    refine zstart [some (.bl b), some (.bl c)] rfl ?_; try dsimp only [zK, zK2]
    walk_at "zz"
    refine i_isi (N := N0) (.bl b) (by decide) ?_
    rw [show isTy (.bool b) "bool" = true from rfl]
    walk_at "zz"
    rw [show decide (b = c) = (b == c) by cases b <;> cases c <;> rfl]
    exact k _ (Same.refl _)
end Y

namespace Y
open PySem PySem.Spec PyProof.Rows L2 Z
open C8 (tCut pss_cut Cal pe_c Met pe_mt pe_mt0 Mak pe_mk pe_gc)
abbrev s__law_is_parts : Stmt := topS 24
abbrev n__law_is_parts : List Str := ["_law_machine", "_law_parts_here"]
theorem sc__law_is_parts : FnScope n__law_is_parts ["_law_machine", "_law_parts_here"] (defScope s__law_is_parts) := ⟨rfl, rfl, rfl, by decide +kernel, rfl, by decide +kernel, by decide +kernel⟩

abbrev s_law : Stmt := topS 25
abbrev n_law : List Str := ["_law_script", "_law_hand_here", "_law_parts_here", "_law_one", "_law_turn", "_law_near_here", "_law_other", "_law_due", "_law_odd_here"]
theorem sc_law : FnScope n_law ["_law_script"] (defScope s_law) := ⟨rfl, rfl, rfl, by decide +kernel, rfl, by decide +kernel, by decide +kernel⟩

def spIsParts (K : PySem.W.Frag) (C : Addr) : Sp := fun vs H Q _ => ∃ (m p : Addr) (vt va : V) (L : List Nat) (t : List (List Nat)) (a : List Nat) (N : Addr → Prop), vs = [.ref m, .ref p] ∧ IsM K H C m L t a ∧ Parts L t a ∧ H p = some (.tup [.str (S L), vt, va]) ∧ Rp N H vt (tabD t) ∧ Rp N H va (rowD a) ∧ ∀ H', Same H H' → Q (.bl true) H'
/-- the parts as one datum -/
def partD (L : List Nat) (t : List (List Nat)) (a : List Nat) : PyData := .tuple [.str (S L), tabD t, rowD a]
theorem part_ok {L : List Nat} {t : List (List Nat)} {a : List Nat} (p : Parts L t a) : SeqAt.shaped (partD L t a) = true := by
  unfold SeqAt.shaped
  have h1 : (partD L t a).canLay0 = true := by
    show (PyData.canLay0 (.str (S L)) && (PyData.canLay0 (tabD t) && (PyData.canLay0 (rowD a) && true))) = true
    rw [show PyData.canLay0 (tabD t) = true from lay_rows t, show PyData.canLay0 (rowD a) = true from lay_ids a, Bool.and_true, Bool.and_true, Bool.and_true]
    simp only [PyData.canLay0, PyData.strOk]
    rw [Array.all_eq_true]
    intro i hi
    have hm : (S L).cps[i] ∈ L := by
      have h2 : L.toArray[i] ∈ L.toArray := Array.getElem_mem hi
      simpa using h2
    have := (p.ltr.2.1 _ hm).2
    exact decide_eq_true (Nat.lt_of_le_of_lt this (by decide))
  have h2 : (partD L t a).depth ≤ 64 := by
    show max (PyData.depth (.str (S L))) (max (tabD t).depth (max (rowD a).depth 0)) + 1 ≤ 64
    have := dep_tab t
    rw [dep_row]
    show max 0 _ + 1 ≤ 64
    omega
  rw [h1, decide_eq_true h2]; rfl
theorem part_eqv (L M : List Nat) (t u : List (List Nat)) (a b : List Nat) : PyData.eqv (partD L t a) (partD M u b) = decide (L = M ∧ t = u ∧ a = b) := by
  show ((PyData.eqv (.str (S L)) (.str (S M))) && (PyData.eqv (tabD t) (tabD u) && (PyData.eqv (rowD a) (rowD b) && true))) = _
  rw [eqv_tab, eqv_row]
  show (((S L) == (S M)) && _) = _
  have e : ((S L) == (S M)) = decide (L = M) := by
    rw [Bool.eq_iff_iff, beq_iff_eq, decide_eq_true_iff]
    exact ⟨fun h => S_inj h, fun h => by rw [h]⟩
  rw [e, Bool.and_true, Bool.eq_iff_iff, Bool.and_eq_true, Bool.and_eq_true, decide_eq_true_iff, decide_eq_true_iff, decide_eq_true_iff, decide_eq_true_iff]
section
variable {P : Program} {w : World} {K : PySem.W.Frag} {mg : Str → Option Value} {base : Heap}
theorem c__law_is_parts {C : Addr} (d : DF K mg "_law_is_parts" s__law_is_parts) (B : Bi mg) (BR : mg "repr" = none) (c_Machine_letters : Met P w K mg base 1 C "letters" (spLettersOf K C) []) (c_Machine_table : Met P w K mg base 1 C "table" (spTableOf K C) []) (c_Machine_accepts : Met P w K mg base 1 C "accepts" (spAcceptsOf K C) []) :
    CalG P w K mg base 2 "_law_is_parts" (spIsParts K C) := by
  refine calG d (N := n__law_is_parts) sc__law_is_parts (fun _ _ _ _ _ _ us hl => match us, hl with | [_, _], _ => rfl) (fun vs H Q E h => ?_) (fun f cdv A outer s H vs Q E gd hr h => ?_)
  · obtain ⟨m, p, vt, va, L, t, a, N, rfl, _⟩ := h
    rfl
  · obtain ⟨m, p, vt, va, L, t, a, N, rfl, hm, PT, ep, rt, ra, k⟩ := h
    refine ⟨_, (pss_cons (ps_if (PW.pt (pw_or (pt_cmpR op_ne (pe_mt0 c_Machine_letters hr (by first | decide | omega) (pv 0)) (pe_ix (r := rIxT K) ix_tup (pv 1) pe_int (fun _ _ => rfl)) (nomark _)) (pw_or1 (pt_not (pt_val (pe_callB (r := zIsi K) zc_isi (by rfl) B.isinstance (by decide +kernel) (pa_cons (pe_mt0 c_Machine_letters hr (by first | decide | omega) (pv 0)) (pa_cons (pe_bltn (by rfl) B.str (by decide +kernel) (rel_ty "str")) pa_nil)))))))) (pss_one (ps_ret pe_bl)) pss_nil)
  (pss_one (ps_ret (pe_and (pe_cmpR op_eq (pe_callB (r := zRepr K) (zc_repr gd hr.units) (by rfl) BR (by decide +kernel) (pa_cons (pe_mt0 c_Machine_table hr (by first | decide | omega) (pv 0)) pa_nil)) (pe_callB (r := zRepr K) (zc_repr gd hr.units) (by rfl) BR (by decide +kernel) (pa_cons (pe_ix (r := rIxT K) ix_tup (pv 1) pe_int (fun _ _ => rfl)) pa_nil)) (nomark _)) (pe_one (pe_cmpR op_eq (pe_callB (r := zRepr K) (zc_repr gd hr.units) (by rfl) BR (by decide +kernel) (pa_cons (pe_mt0 c_Machine_accepts hr (by first | decide | omega) (pv 0)) pa_nil)) (pe_callB (r := zRepr K) (zc_repr gd hr.units) (by rfl) BR (by decide +kernel) (pa_cons (pe_ix (r := rIxT K) ix_tup (pv 1) pe_int (fun _ _ => rfl)) pa_nil)) (nomark _))))))), ?_⟩
    refine zstart [some (.ref m), some (.ref p)] rfl ?_; try dsimp only [zK, zK2]
    obtain ⟨dx, vt1, va1, em, rt1, ra1⟩ := hm.ex
    walk_at "zz"
    refine i_meth ?_
    walk_at "zz"
    refine ⟨m, dx, _, rfl, em, rfl, m, L, t, a, rfl, hm, ?_⟩
    walk_at "zz"
    refine brn (fun q => absurd rfl q) fun _ => ?_
    walk_at "zz"
    refine i_meth ?_
    walk_at "zz"
    refine ⟨m, dx, _, rfl, em, rfl, m, L, t, a, rfl, hm, ?_⟩
    walk_at "zz"
    refine i_isi (N := N0) (.str (S L)) (by decide) ?_
    rw [show isTy (.str (S L)) "str" = true from rfl]
    walk_at "zz"
    refine i_meth ?_
    walk_at "zz"
    refine ⟨m, dx, _, rfl, em, rfl, m, L, t, a, rfl, hm, fun vt2 rt2 => ?_⟩
    walk_at "zz"
    refine i_reprT (rt2.dp (noD_tab t)) PT.tameT ?_
    walk_at "zz"
    refine i_reprT (rt.dp (noD_tab t)) PT.tameT ?_
    walk_at "zz"
    refine brd (fun _ => ?_) fun z => absurd rfl z
    walk_at "zz"
    refine i_meth ?_
    walk_at "zz"
    refine ⟨m, dx, _, rfl, em, rfl, m, L, t, a, rfl, hm, fun va2 ra2 => ?_⟩
    walk_at "zz"
    refine i_reprT (ra2.dp (noD_row a)) PT.tameA ?_
    walk_at "zz"
    refine i_reprT (ra.dp (noD_row a)) PT.tameA ?_
    walk_at "zz"
    rw [decide_eq_true rfl]
    exact k _ (Same.refl _)
end
end Y

namespace Y
open PySem PySem.Spec PyProof.Rows L2 Z
open C8 (tCut pss_cut Cal pe_c Met pe_mt pe_mt0 Mak pe_mk pe_gc)
theorem i_make {C : Addr} {sp : Sp} {dvs : List V} {E : XK} {t : TA} {σ : L2.St} {H : Hp} {Q : VK} (q : t σ H fun vs H1 => ∀ x dx, H1 x = none → H1 dx = none → dx ≠ x →
  sp (.ref x :: (vs ++ dvs)) (upd (upd H1 dx (.own x)) x (.ins C dx [])) (fun v H2 => v = .non ∧ Q (.ref x) H2) E) : tMake C sp dvs E t σ H Q := q
theorem part_noD (L : List Nat) (t : List (List Nat)) (a : List Nat) : noD (partD L t a) = true := by
  show (noD (.str (S L)) && (noD (tabD t) && (noD (rowD a) && true))) = true
  rw [noD_tab, noD_row]; rfl
theorem part_rp {N : Addr → Prop} {H : Hp} {p : Addr} {vt va : V} {L : List Nat} {t : List (List Nat)} {a : List Nat} (e : H p = some (.tup [.str (S L), vt, va])) (n : ¬ N p) (rt : Rp N H vt (tabD t)) (ra : Rp N H va (rowD a)) : Rp N H (.ref p) (partD L t a) :=
  .tup e n (.cons (.str _) (.cons rt (.cons ra .nil)))
/-- the end of a machine's making -/
theorem made_ok {K : PySem.W.Frag} {C h m dx : Addr} {H H4 H5 : Hp} {vt va : V} {L : List Nat} {tab : List (List Nat)} {acc : List Nat} (hh : HandOk H h) (hm : H m = none) (hdx : H dx = none) (ndx : dx ≠ m) (rt : Rp (· = h) H vt (tabD tab)) (ra : Rp (· = h) H va (rowD acc))
    (s4 : Same (upd (upd H dx (.own m)) m (.ins C dx [])) H4) (e5 : H5 = upd H4 m (.ins C dx [("_letters", .str (S L)), ("_table", vt), ("_accepts", va)])) :
    Gd h H H5 ∧ ¬ m = h ∧ H5 m = some (.ins C dx [("_letters", .str (S L)), ("_table", vt), ("_accepts", va)]) ∧ ∀ {H'}, Gd h H5 H' → IsM K H' C m L tab acc := by
  have nmh := hh.ne hm
  have gA := ((Gd.refl hh).new (o := .own m) hdx).new (o := .ins C dx []) (by rw [upd_ne (fun q => ndx q.symm)]; exact hm)
  have gB : Gd h H H5 := by rw [e5]; exact (gd_same gA s4).mutz hm
  have em5 : H5 m = some (.ins C dx [("_letters", .str (S L)), ("_table", vt), ("_accepts", va)]) := by rw [e5]; exact upd_same
  have rt5 := rt.mono gB.toKp
  have ra5 := ra.mono gB.toKp
  exact ⟨gB, nmh, em5, fun g => ⟨dx, vt, va, g.kp _ _ em5 nmh, (rt5.mono g.toKp).free, (ra5.mono g.toKp).free⟩⟩
section
variable {P : Program} {w : World} {K : PySem.W.Frag} {mg : Str → Option Value} {base : Heap}
theorem ok_law {C : Addr} {f : Addr} {fd : FuncData} (F : Fun K "law" "law" s_law f fd) (B : Bi mg) (c__law_hand : Cal P w K mg base 1 "_law_hand" (spHand K) []) (c__law_parts : Cal P w K mg base 4 "_law_parts" spParts []) (m_Machine : Mak P w K mg base 5 "Machine" C (spInit C) [])
    (c__law_near : Cal P w K mg base 5 "_law_near" spNear []) (c__law_is_parts : CalG P w K mg base 2 "_law_is_parts" (spIsParts K C)) (c__law_flag : Cal P w K mg base 1 "_law_flag" spFlag []) (c_Machine___eq__ : Met P w K mg base 1 C "__eq__" (spMEq K C) [])
    (c__law_odd : Cal P w K mg base 2 "_law_odd" spOdd []) : FnG P w K mg base CX0 7 f fd ["_law_script"] (spLaw K) := by
  refine okG F sc_law (fun vs H Q E h => ?_) (fun cdv A outer s H vs Q E gd hr h => ?_)
  · obtain ⟨a, ns, rfl, _⟩ := h
    rfl
  · obtain ⟨a, ns, rfl, hs, hl, k⟩ := h
    refine ⟨_, (pss_cons (ps_set (i := 1) sc_law.nd rfl (by first | exact Or.inl rfl | exact Or.inr rfl) (pe_c c__law_hand hr (by first | decide | omega) rfl (pa_cons (pv 0) pa_nil)))
  (pss_cons (ps_set (i := 2) sc_law.nd rfl (by first | exact Or.inl rfl | exact Or.inr rfl) (pe_c c__law_parts hr (by first | decide | omega) rfl (pa_cons (pv 1) (pa_cons pe_int (pa_cons pe_int pa_nil)))))
  (pss_cons (ps_set (i := 3) sc_law.nd rfl (by first | exact Or.inl rfl | exact Or.inr rfl) (pe_mk m_Machine hr (by first | decide | omega) rfl (pa_cons (pe_ix (r := rIxT K) ix_tup (pv 2) pe_int (fun _ _ => rfl)) (pa_cons (pe_ix (r := rIxT K) ix_tup (pv 2) pe_int (fun _ _ => rfl)) (pa_cons (pe_ix (r := rIxT K) ix_tup (pv 2) pe_int (fun _ _ => rfl)) pa_nil)))))
  (pss_cons (ps_for PassesOwn.never rfl (pi_range1 rfl B.range (pa_cons pe_int pa_nil)) (pg_name (i := 4) sc_law.nd rfl (by first | exact Or.inl rfl | exact Or.inr rfl)) (pss_cons (ps_set (i := 5) sc_law.nd rfl (by first | exact Or.inl rfl | exact Or.inr rfl) (pe_c c__law_near hr (by first | decide | omega) rfl (pa_cons (pv 1) (pa_cons (pv 2) pa_nil))))
  (pss_cons (ps_set (i := 6) sc_law.nd rfl (by first | exact Or.inl rfl | exact Or.inr rfl) (pe_mk m_Machine hr (by first | decide | omega) rfl (pa_cons (pe_ix (r := rIxT K) ix_tup (pv 5) pe_int (fun _ _ => rfl)) (pa_cons (pe_ix (r := rIxT K) ix_tup (pv 5) pe_int (fun _ _ => rfl)) (pa_cons (pe_ix (r := rIxT K) ix_tup (pv 5) pe_int (fun _ _ => rfl)) pa_nil)))))
  (pss_cons (ps_if (PW.pt (pw_or (pt_not (pt_val (pe_cG c__law_is_parts gd hr (by first | decide | omega) rfl (pa_cons (pv 3) (pa_cons (pv 2) pa_nil))))) (pw_or1 (pt_not (pt_val (pe_cG c__law_is_parts gd hr (by first | decide | omega) rfl (pa_cons (pv 6) (pa_cons (pv 5) pa_nil)))))))) (pss_one (ps_ret pe_bl)) pss_nil)
  (pss_cons (ps_set (i := 7) sc_law.nd rfl (by first | exact Or.inl rfl | exact Or.inr rfl) (pe_cmpR (r := rEqD K) (op_eqD hr.units) (pv 5) (pv 2) (nomark _)))
  (pss_cons (ps_if (PW.pt (pw_or (pt_not (pt_val (pe_c c__law_flag hr (by first | decide | omega) rfl (pa_cons (pe_cmpR (op_eqM c_Machine___eq__ hr (by first | decide | omega)) (pv 3) (pv 6) (nomark _)) (pa_cons (pv 7) pa_nil))))) (pw_or (pt_not (pt_val (pe_c c__law_flag hr (by first | decide | omega) rfl (pa_cons (pe_cmpR (op_eqM c_Machine___eq__ hr (by first | decide | omega)) (pv 6) (pv 3) (nomark _)) (pa_cons (pv 7) pa_nil))))) (pw_or1 (pt_cmpR op_notBl (pe_cmpR (op_eqM c_Machine___eq__ hr (by first | decide | omega)) (pv 3) (pv 3) (nomark _)) pe_bl (nomark _)))))) (pss_one (ps_ret pe_bl)) pss_nil)
  (pss_cons (ps_set (i := 8) sc_law.nd rfl (by first | exact Or.inl rfl | exact Or.inr rfl) (pe_c c__law_odd hr (by first | decide | omega) rfl (pa_cons (pv 1) pa_nil)))
  (pss_one (ps_if (PW.pt (pw_or (pt_cmpR op_notBl (pe_cmpR (op_eqM c_Machine___eq__ hr (by first | decide | omega)) (pv 3) (pv 8) (nomark _)) pe_bl (nomark _)) (pw_or (pt_cmpR op_notBl (pe_cmpR (op_eqM c_Machine___eq__ hr (by first | decide | omega)) (pv 3) (pv 2) (nomark _)) pe_bl (nomark _)) (pw_or1 (pt_cmpR op_notBl (pe_cmpR (op_eqM c_Machine___eq__ hr (by first | decide | omega)) (pv 3) (pe_ix (r := rIxT K) ix_tup (pv 2) (pe_op z_mod (pv 4) pe_int) (fun _ _ => rfl)) (nomark _)) pe_bl (nomark _)))))) (pss_one (ps_ret pe_bl)) pss_nil)))))))))
  (pss_one (ps_ret pe_bl)))))), ?_⟩
    refine zstart [some (.ref a), none, none, none, none, none, none, none, none] rfl ?_; try dsimp only [zK, zK2]
    walk_at "zz"
    refine ⟨a, ns, rfl, hs, by omega, fun h H1 hn ok1 s1 => ?_⟩
    walk_at "zz"
    refine ⟨h, rfl, ok1, fun p vt va L tab acc H2 PT ep nph rt ra g2 => ?_⟩
    walk_at "zz"
    refine i_make ?_
    walk_at "zz"
    refine fun m dx hm hdx ndx => ?_
    have gA := ((Gd.refl g2.ok).new (o := .own m) hdx).new (o := .ins C dx []) (by rw [upd_ne (fun q => ndx q.symm)]; exact hm)
    refine ⟨m, dx, vt, va, L, tab, acc, rfl, upd_same, PT, (rt.mono gA.toKp).free, (ra.mono gA.toKp).free, fun H4 H5 s4 e5 => ⟨rfl, ?_⟩⟩
    obtain ⟨gB, nmh, em5, IM⟩ := made_ok (K := K) g2.ok hm hdx ndx rt ra s4 e5
    have ep5 := gB.kp' ep nph
    have rt5 := rt.mono gB.toKp
    have ra5 := ra.mono gB.toKp
    have ok5 := gB.ok
    clear e5 gA gB s4 rt ra ep hm hdx ndx g2
    walk_at "zz"
    refine i_KR1 (by omega) ?_
    refine l_range (fun i σ H' => Gd h H5 H' ∧ ∃ v5 v6 v7 v8 : Option V, ∃ v4 : Option V, σ = [some (.ref a), some (.ref h), some (.ref p), some (.ref m), v4, v5, v6, v7, v8]) ⟨Gd.refl ok5, none, none, none, none, none, rfl⟩ ?_ ?_
    · rintro i σ H6 hi ⟨g6, v5, v6, v7, v8, v4, rfl⟩
      walk_at "zz"
      refine ⟨h, p, vt, va, L, tab, acc, rfl, g6.ok, g6.kp' ep5 nph, nph, PT, rt5.mono g6.toKp, ra5.mono g6.toKp, fun p2 vt2 va2 L2 tab2 acc2 H7 PT2 ep2 np2 rt2 ra2 g7 => ?_⟩
      walk_at "zz"
      refine i_make ?_
      walk_at "zz"
      refine fun m2 dx2 hm2 hdx2 ndx2 => ?_
      have gA := ((Gd.refl g7.ok).new (o := .own m2) hdx2).new (o := .ins C dx2 []) (by rw [upd_ne (fun q => ndx2 q.symm)]; exact hm2)
      refine ⟨m2, dx2, vt2, va2, L2, tab2, acc2, rfl, upd_same, PT2, (rt2.mono gA.toKp).free, (ra2.mono gA.toKp).free, fun H8 H9 s8 e9 => ⟨rfl, ?_⟩⟩
      obtain ⟨gB, nmh2, em9, IM2⟩ := made_ok (K := K) g7.ok hm2 hdx2 ndx2 rt2 ra2 s8 e9
      have g9 := (g6.trans g7).trans gB
      have ep9 := gB.kp' ep2 np2
      have rt9 := rt2.mono gB.toKp
      have ra9 := ra2.mono gB.toKp
      have gg := Gd.refl gB.ok
      clear e9 gA s8 hm2 hdx2 ndx2 rt2 ra2 ep2 gB
      walk_at "zz"
      refine ⟨m, p, vt, va, L, tab, acc, (· = h), rfl, IM g9, PT, g9.kp' ep5 nph, rt5.mono g9.toKp, ra5.mono g9.toKp, fun H10 s10 => ?_⟩
      have g10 := gd_same g9 s10
      have q10 := gd_same gg s10
      walk_at "zz"
      refine ⟨m2, p2, vt2, va2, L2, tab2, acc2, (· = h), rfl, IM2 q10, PT2, q10.kp' ep9 np2, rt9.mono q10.toKp, ra9.mono q10.toKp, fun H11 s11 => ?_⟩
      have g11 := gd_same g10 s11
      have q11 := gd_same q10 s11
      walk_at "zz"
      refine ⟨partD L2 tab2 acc2, partD L tab acc, (part_rp (N := (· = h)) (q11.kp' ep9 np2) np2 (rt9.mono q11.toKp) (ra9.mono q11.toKp)).dp (part_noD _ _ _), (part_rp (N := (· = h)) (g11.kp' ep5 nph) nph (rt5.mono g11.toKp) (ra5.mono g11.toKp)).dp (part_noD _ _ _), part_ok PT2, part_ok PT, ?_⟩
      rw [part_eqv]
      walk_at "zz"
      have em11 := g11.kp' em5 nmh
      have en11 := q11.kp' em9 nmh2
      refine ⟨m, _, _, rfl, em11, .inr ⟨m2, _, _, rfl, en11⟩, m, .ref m2, L, tab, acc, rfl, IM g11, .inr ⟨m2, L2, tab2, acc2, rfl, IM2 q11, fun H12 s12 => ?_⟩⟩
      have g12 := gd_same g11 s12
      have q12 := gd_same q11 s12
      walk_at "zz"
      refine ⟨_, _, rfl, fun H13 s13 => ?_⟩
      have g13 := gd_same g12 s13
      have q13 := gd_same q12 s13
      have eS : decide (L = L2 ∧ tab = tab2 ∧ acc = acc2) = decide (L2 = L ∧ tab2 = tab ∧ acc2 = acc) := by
        rw [Bool.eq_iff_iff, decide_eq_true_iff, decide_eq_true_iff]
        constructor
        · rintro ⟨rfl, rfl, rfl⟩; exact ⟨rfl, rfl, rfl⟩
        · rintro ⟨rfl, rfl, rfl⟩; exact ⟨rfl, rfl, rfl⟩
      rw [eS, beq_self_eq_true]
      walk_at "zz"
      have em13 := g13.kp' em5 nmh
      have en13 := q13.kp' em9 nmh2
      refine ⟨m2, _, _, rfl, en13, .inr ⟨m, _, _, rfl, em13⟩, m2, .ref m, L2, tab2, acc2, rfl, IM2 q13, .inr ⟨m, L, tab, acc, rfl, IM g13, fun H14 s14 => ?_⟩⟩
      have g14 := gd_same g13 s14
      have q14 := gd_same q13 s14
      walk_at "zz"
      refine ⟨_, _, rfl, fun H15 s15 => ?_⟩
      have g15 := gd_same g14 s15
      have q15 := gd_same q14 s15
      rw [beq_self_eq_true]
      walk_at "zz"
      have em15 := g15.kp' em5 nmh
      refine ⟨m, _, _, rfl, em15, .inr ⟨m, _, _, rfl, em15⟩, m, .ref m, L, tab, acc, rfl, IM g15, .inr ⟨m, L, tab, acc, rfl, IM g15, fun H16 s16 => ?_⟩⟩
      have g16 := gd_same g15 s16
      rw [decide_eq_true (show L = L ∧ tab = tab ∧ acc = acc from ⟨rfl, rfl, rfl⟩)]
      walk_at "zz"
      refine ⟨true, true, rfl, rfl, ?_⟩
      rw [show (!decide (true = true)) = false from rfl]
      walk_at "zz"
      refine ⟨h, rfl, g16.ok, fun v d H17 td rd g17 => ?_⟩
      have g17 := g16.trans g17
      walk_at "zz"
      have em17 := g17.kp' em5 nmh
      refine ⟨m, _, _, rfl, em17, .inl ⟨_, d, rd⟩, m, v, L, tab, acc, rfl, IM g17, .inl ⟨_, d, rd, fun H18 s18 => ?_⟩⟩
      have g18 := gd_same g17 s18
      walk_at "zz"
      refine ⟨false, false, rfl, rfl, ?_⟩
      rw [show (!decide (false = false)) = false from rfl]
      walk_at "zz"
      have em18 := g18.kp' em5 nmh
      have rp18 := part_rp (N := (· = h)) (g18.kp' ep5 nph) nph (rt5.mono g18.toKp) (ra5.mono g18.toKp)
      refine ⟨m, _, _, rfl, em18, .inl ⟨_, _, rp18⟩, m, .ref p, L, tab, acc, rfl, IM g18, .inl ⟨_, _, rp18, fun H19 s19 => ?_⟩⟩
      have g19 := gd_same g18 s19
      walk_at "zz"
      refine ⟨false, false, rfl, rfl, ?_⟩
      rw [show (!decide (false = false)) = false from rfl]
      walk_at "zz"
      have em19 := g19.kp' em5 nmh
      obtain ⟨x, d2, hx, rx⟩ : ∃ x d2, atI [V.str (S L), vt, va] ((i : Int) % 3) = some x ∧ Rp (· = h) H19 x d2 := by
        have e3 : (i : Int) % 3 = ((i % 3 : Nat) : Int) := by omega
        rw [e3]
        have h3 : i % 3 < 3 := Nat.mod_lt _ (by decide)
        generalize i % 3 = j at h3
        rcases j with _ | _ | _ | j
        · exact ⟨_, _, rfl, .str (S L)⟩
        · exact ⟨_, _, rfl, rt5.mono g19.toKp⟩
        · exact ⟨_, _, rfl, ra5.mono g19.toKp⟩
        · omega
      refine i_ixT (SqT.of (g19.kp' ep5 nph)) hx ?_
      refine ⟨m, _, _, rfl, em19, .inl ⟨_, _, rx⟩, m, x, L, tab, acc, rfl, IM g19, .inl ⟨_, _, rx, fun H20 s20 => ?_⟩⟩
      have g20 := gd_same g19 s20
      walk_at "zz"
      refine ⟨false, false, rfl, rfl, ?_⟩
      rw [show (!decide (false = false)) = false from rfl]
      walk_at "zz"
      exact ⟨g20, _, _, _, _, _, rfl⟩
    · rintro σ H6 ⟨g6, v5, v6, v7, v8, v4, rfl⟩
      walk_at "zz"
      exact k _
end
end Y

namespace Y
open PySem PySem.Spec PyProof.Rows L2 Z
open C8 (tCut pss_cut Cal pe_c Met pe_mt pe_mt0 Mak pe_mk)
theorem all_mk {l : PySem.W.OpenLaw} {w : World} {K : PySem.W.Frag} {h : Heap} {mg : Str → Option Value} {fa f_is_integer f_is_between f_is_ascending f_is_letters f__is_table f__is_accepts f__is_states f__law_hand f__law_draw f__law_letters f__law_rows f__law_shuffled f__law_parts f__law_odd f__law_flag f__law_more f__law_near f__law_is_parts f_law : Addr} (X : K.In h) (G : h.Ns mainGlobals mg) (hfa : mg "law" = some (.ref fa))
    {od_is_integer an_is_integer od_is_between an_is_between od_is_ascending an_is_ascending od_is_letters an_is_letters od__is_table an__is_table od__is_accepts an__is_accepts od__is_states an__is_states od__law_hand an__law_hand od__law_draw an__law_draw od__law_letters an__law_letters od__law_rows an__law_rows od__law_shuffled an__law_shuffled od__law_parts an__law_parts od__law_odd an__law_odd od__law_flag an__law_flag od__law_more an__law_more od__law_near an__law_near od__law_is_parts an__law_is_parts od_law an_law : Option Addr} {sl_is_integer sl_is_between sl_is_ascending sl_is_letters sl__is_table sl__is_accepts sl__is_states sl__law_hand sl__law_draw sl__law_letters sl__law_rows sl__law_shuffled sl__law_parts sl__law_odd sl__law_flag sl__law_more sl__law_near sl__law_is_parts sl_law : Array (Option Value)} {oc_is_integer kV_is_integer dc_is_integer pm_is_integer cd_is_integer ct_is_integer oc_is_between kV_is_between dc_is_between pm_is_between cd_is_between ct_is_between oc_is_ascending kV_is_ascending dc_is_ascending pm_is_ascending cd_is_ascending ct_is_ascending oc_is_letters kV_is_letters dc_is_letters pm_is_letters cd_is_letters ct_is_letters oc__is_table kV__is_table dc__is_table pm__is_table cd__is_table ct__is_table oc__is_accepts kV__is_accepts dc__is_accepts pm__is_accepts cd__is_accepts ct__is_accepts oc__is_states kV__is_states dc__is_states pm__is_states cd__is_states ct__is_states oc__law_hand kV__law_hand dc__law_hand pm__law_hand cd__law_hand ct__law_hand oc__law_draw kV__law_draw dc__law_draw pm__law_draw cd__law_draw ct__law_draw oc__law_letters kV__law_letters dc__law_letters pm__law_letters cd__law_letters ct__law_letters oc__law_rows kV__law_rows dc__law_rows pm__law_rows cd__law_rows ct__law_rows oc__law_shuffled kV__law_shuffled dc__law_shuffled pm__law_shuffled cd__law_shuffled ct__law_shuffled oc__law_parts kV__law_parts dc__law_parts pm__law_parts cd__law_parts ct__law_parts oc__law_odd kV__law_odd dc__law_odd pm__law_odd cd__law_odd ct__law_odd oc__law_flag kV__law_flag dc__law_flag pm__law_flag cd__law_flag ct__law_flag oc__law_more kV__law_more dc__law_more pm__law_more cd__law_more ct__law_more oc__law_near kV__law_near dc__law_near pm__law_near cd__law_near ct__law_near oc__law_is_parts kV__law_is_parts dc__law_is_parts pm__law_is_parts cd__law_is_parts ct__law_is_parts oc_law kV_law dc_law pm_law cd_law ct_law : Value} {CM : Addr} {f_Machine___init__ f_Machine_letters f_Machine_table f_Machine_accepts f_Machine___eq__ : Addr} {od_Machine___init__ an_Machine___init__ od_Machine_letters an_Machine_letters od_Machine_table an_Machine_table od_Machine_accepts an_Machine_accepts od_Machine___eq__ an_Machine___eq__ : Option Addr} {sl_Machine___init__ sl_Machine_letters sl_Machine_table sl_Machine_accepts sl_Machine___eq__ : Array (Option Value)} {oc_Machine___init__ kV_Machine___init__ dc_Machine___init__ pm_Machine___init__ cd_Machine___init__ ct_Machine___init__ oc_Machine_letters kV_Machine_letters dc_Machine_letters pm_Machine_letters cd_Machine_letters ct_Machine_letters oc_Machine_table kV_Machine_table dc_Machine_table pm_Machine_table cd_Machine_table ct_Machine_table oc_Machine_accepts kV_Machine_accepts dc_Machine_accepts pm_Machine_accepts cd_Machine_accepts ct_Machine_accepts oc_Machine___eq__ kV_Machine___eq__ dc_Machine___eq__ pm_Machine___eq__ cd_Machine___eq__ ct_Machine___eq__ : Value}
    (a_is_integer : PySem.W.nsIn K mainGlobals "is_integer" = some (some (.ref f_is_integer)))
    (l_is_integer : K.lookup f_is_integer = some ⟨oc_is_integer, od_is_integer, .func (PySem.W.fnOf "is_integer" "is_integer" (defArgs s_is_integer) (defBody s_is_integer) (defScope s_is_integer) .none kV_is_integer dc_is_integer pm_is_integer an_is_integer cd_is_integer ct_is_integer), sl_is_integer⟩)
    (c_is_integer : PySem.W.codeIn K cd_is_integer "is_integer" = true) (k_is_integer : PySem.W.keepIn K (.ref f_is_integer) = true)
    (a_is_between : PySem.W.nsIn K mainGlobals "is_between" = some (some (.ref f_is_between)))
    (l_is_between : K.lookup f_is_between = some ⟨oc_is_between, od_is_between, .func (PySem.W.fnOf "is_between" "is_between" (defArgs s_is_between) (defBody s_is_between) (defScope s_is_between) .none kV_is_between dc_is_between pm_is_between an_is_between cd_is_between ct_is_between), sl_is_between⟩)
    (c_is_between : PySem.W.codeIn K cd_is_between "is_between" = true) (k_is_between : PySem.W.keepIn K (.ref f_is_between) = true)
    (a_is_ascending : PySem.W.nsIn K mainGlobals "is_ascending" = some (some (.ref f_is_ascending)))
    (l_is_ascending : K.lookup f_is_ascending = some ⟨oc_is_ascending, od_is_ascending, .func (PySem.W.fnOf "is_ascending" "is_ascending" (defArgs s_is_ascending) (defBody s_is_ascending) (defScope s_is_ascending) .none kV_is_ascending dc_is_ascending pm_is_ascending an_is_ascending cd_is_ascending ct_is_ascending), sl_is_ascending⟩)
    (c_is_ascending : PySem.W.codeIn K cd_is_ascending "is_ascending" = true) (k_is_ascending : PySem.W.keepIn K (.ref f_is_ascending) = true)
    (a_is_letters : PySem.W.nsIn K mainGlobals "is_letters" = some (some (.ref f_is_letters)))
    (l_is_letters : K.lookup f_is_letters = some ⟨oc_is_letters, od_is_letters, .func (PySem.W.fnOf "is_letters" "is_letters" (defArgs s_is_letters) (defBody s_is_letters) (defScope s_is_letters) .none kV_is_letters dc_is_letters pm_is_letters an_is_letters cd_is_letters ct_is_letters), sl_is_letters⟩)
    (c_is_letters : PySem.W.codeIn K cd_is_letters "is_letters" = true) (k_is_letters : PySem.W.keepIn K (.ref f_is_letters) = true)
    (a__is_table : PySem.W.nsIn K mainGlobals "_is_table" = some (some (.ref f__is_table)))
    (l__is_table : K.lookup f__is_table = some ⟨oc__is_table, od__is_table, .func (PySem.W.fnOf "_is_table" "_is_table" (defArgs s__is_table) (defBody s__is_table) (defScope s__is_table) .none kV__is_table dc__is_table pm__is_table an__is_table cd__is_table ct__is_table), sl__is_table⟩)
    (c__is_table : PySem.W.codeIn K cd__is_table "_is_table" = true) (k__is_table : PySem.W.keepIn K (.ref f__is_table) = true)
    (a__is_accepts : PySem.W.nsIn K mainGlobals "_is_accepts" = some (some (.ref f__is_accepts)))
    (l__is_accepts : K.lookup f__is_accepts = some ⟨oc__is_accepts, od__is_accepts, .func (PySem.W.fnOf "_is_accepts" "_is_accepts" (defArgs s__is_accepts) (defBody s__is_accepts) (defScope s__is_accepts) .none kV__is_accepts dc__is_accepts pm__is_accepts an__is_accepts cd__is_accepts ct__is_accepts), sl__is_accepts⟩)
    (c__is_accepts : PySem.W.codeIn K cd__is_accepts "_is_accepts" = true) (k__is_accepts : PySem.W.keepIn K (.ref f__is_accepts) = true)
    (a__is_states : PySem.W.nsIn K mainGlobals "_is_states" = some (some (.ref f__is_states)))
    (l__is_states : K.lookup f__is_states = some ⟨oc__is_states, od__is_states, .func (PySem.W.fnOf "_is_states" "_is_states" (defArgs s__is_states) (defBody s__is_states) (defScope s__is_states) .none kV__is_states dc__is_states pm__is_states an__is_states cd__is_states ct__is_states), sl__is_states⟩)
    (c__is_states : PySem.W.codeIn K cd__is_states "_is_states" = true) (k__is_states : PySem.W.keepIn K (.ref f__is_states) = true)
    (a__law_hand : PySem.W.nsIn K mainGlobals "_law_hand" = some (some (.ref f__law_hand)))
    (l__law_hand : K.lookup f__law_hand = some ⟨oc__law_hand, od__law_hand, .func (PySem.W.fnOf "_law_hand" "_law_hand" (defArgs s__law_hand) (defBody s__law_hand) (defScope s__law_hand) .none kV__law_hand dc__law_hand pm__law_hand an__law_hand cd__law_hand ct__law_hand), sl__law_hand⟩)
    (c__law_hand : PySem.W.codeIn K cd__law_hand "_law_hand" = true) (k__law_hand : PySem.W.keepIn K (.ref f__law_hand) = true)
    (a__law_draw : PySem.W.nsIn K mainGlobals "_law_draw" = some (some (.ref f__law_draw)))
    (l__law_draw : K.lookup f__law_draw = some ⟨oc__law_draw, od__law_draw, .func (PySem.W.fnOf "_law_draw" "_law_draw" (defArgs s__law_draw) (defBody s__law_draw) (defScope s__law_draw) .none kV__law_draw dc__law_draw pm__law_draw an__law_draw cd__law_draw ct__law_draw), sl__law_draw⟩)
    (c__law_draw : PySem.W.codeIn K cd__law_draw "_law_draw" = true) (k__law_draw : PySem.W.keepIn K (.ref f__law_draw) = true)
    (a__law_letters : PySem.W.nsIn K mainGlobals "_law_letters" = some (some (.ref f__law_letters)))
    (l__law_letters : K.lookup f__law_letters = some ⟨oc__law_letters, od__law_letters, .func (PySem.W.fnOf "_law_letters" "_law_letters" (defArgs s__law_letters) (defBody s__law_letters) (defScope s__law_letters) .none kV__law_letters dc__law_letters pm__law_letters an__law_letters cd__law_letters ct__law_letters), sl__law_letters⟩)
    (c__law_letters : PySem.W.codeIn K cd__law_letters "_law_letters" = true) (k__law_letters : PySem.W.keepIn K (.ref f__law_letters) = true)
    (a__law_rows : PySem.W.nsIn K mainGlobals "_law_rows" = some (some (.ref f__law_rows)))
    (l__law_rows : K.lookup f__law_rows = some ⟨oc__law_rows, od__law_rows, .func (PySem.W.fnOf "_law_rows" "_law_rows" (defArgs s__law_rows) (defBody s__law_rows) (defScope s__law_rows) .none kV__law_rows dc__law_rows pm__law_rows an__law_rows cd__law_rows ct__law_rows), sl__law_rows⟩)
    (c__law_rows : PySem.W.codeIn K cd__law_rows "_law_rows" = true) (k__law_rows : PySem.W.keepIn K (.ref f__law_rows) = true)
    (a__law_shuffled : PySem.W.nsIn K mainGlobals "_law_shuffled" = some (some (.ref f__law_shuffled)))
    (l__law_shuffled : K.lookup f__law_shuffled = some ⟨oc__law_shuffled, od__law_shuffled, .func (PySem.W.fnOf "_law_shuffled" "_law_shuffled" (defArgs s__law_shuffled) (defBody s__law_shuffled) (defScope s__law_shuffled) .none kV__law_shuffled dc__law_shuffled pm__law_shuffled an__law_shuffled cd__law_shuffled ct__law_shuffled), sl__law_shuffled⟩)
    (c__law_shuffled : PySem.W.codeIn K cd__law_shuffled "_law_shuffled" = true) (k__law_shuffled : PySem.W.keepIn K (.ref f__law_shuffled) = true)
    (a__law_parts : PySem.W.nsIn K mainGlobals "_law_parts" = some (some (.ref f__law_parts)))
    (l__law_parts : K.lookup f__law_parts = some ⟨oc__law_parts, od__law_parts, .func (PySem.W.fnOf "_law_parts" "_law_parts" (defArgs s__law_parts) (defBody s__law_parts) (defScope s__law_parts) .none kV__law_parts dc__law_parts pm__law_parts an__law_parts cd__law_parts ct__law_parts), sl__law_parts⟩)
    (c__law_parts : PySem.W.codeIn K cd__law_parts "_law_parts" = true) (k__law_parts : PySem.W.keepIn K (.ref f__law_parts) = true)
    (a__law_odd : PySem.W.nsIn K mainGlobals "_law_odd" = some (some (.ref f__law_odd)))
    (l__law_odd : K.lookup f__law_odd = some ⟨oc__law_odd, od__law_odd, .func (PySem.W.fnOf "_law_odd" "_law_odd" (defArgs s__law_odd) (defBody s__law_odd) (defScope s__law_odd) .none kV__law_odd dc__law_odd pm__law_odd an__law_odd cd__law_odd ct__law_odd), sl__law_odd⟩)
    (c__law_odd : PySem.W.codeIn K cd__law_odd "_law_odd" = true) (k__law_odd : PySem.W.keepIn K (.ref f__law_odd) = true)
    (a__law_flag : PySem.W.nsIn K mainGlobals "_law_flag" = some (some (.ref f__law_flag)))
    (l__law_flag : K.lookup f__law_flag = some ⟨oc__law_flag, od__law_flag, .func (PySem.W.fnOf "_law_flag" "_law_flag" (defArgs s__law_flag) (defBody s__law_flag) (defScope s__law_flag) .none kV__law_flag dc__law_flag pm__law_flag an__law_flag cd__law_flag ct__law_flag), sl__law_flag⟩)
    (c__law_flag : PySem.W.codeIn K cd__law_flag "_law_flag" = true) (k__law_flag : PySem.W.keepIn K (.ref f__law_flag) = true)
    (a__law_more : PySem.W.nsIn K mainGlobals "_law_more" = some (some (.ref f__law_more)))
    (l__law_more : K.lookup f__law_more = some ⟨oc__law_more, od__law_more, .func (PySem.W.fnOf "_law_more" "_law_more" (defArgs s__law_more) (defBody s__law_more) (defScope s__law_more) .none kV__law_more dc__law_more pm__law_more an__law_more cd__law_more ct__law_more), sl__law_more⟩)
    (c__law_more : PySem.W.codeIn K cd__law_more "_law_more" = true) (k__law_more : PySem.W.keepIn K (.ref f__law_more) = true)
    (a__law_near : PySem.W.nsIn K mainGlobals "_law_near" = some (some (.ref f__law_near)))
    (l__law_near : K.lookup f__law_near = some ⟨oc__law_near, od__law_near, .func (PySem.W.fnOf "_law_near" "_law_near" (defArgs s__law_near) (defBody s__law_near) (defScope s__law_near) .none kV__law_near dc__law_near pm__law_near an__law_near cd__law_near ct__law_near), sl__law_near⟩)
    (c__law_near : PySem.W.codeIn K cd__law_near "_law_near" = true) (k__law_near : PySem.W.keepIn K (.ref f__law_near) = true)
    (a__law_is_parts : PySem.W.nsIn K mainGlobals "_law_is_parts" = some (some (.ref f__law_is_parts)))
    (l__law_is_parts : K.lookup f__law_is_parts = some ⟨oc__law_is_parts, od__law_is_parts, .func (PySem.W.fnOf "_law_is_parts" "_law_is_parts" (defArgs s__law_is_parts) (defBody s__law_is_parts) (defScope s__law_is_parts) .none kV__law_is_parts dc__law_is_parts pm__law_is_parts an__law_is_parts cd__law_is_parts ct__law_is_parts), sl__law_is_parts⟩)
    (c__law_is_parts : PySem.W.codeIn K cd__law_is_parts "_law_is_parts" = true) (k__law_is_parts : PySem.W.keepIn K (.ref f__law_is_parts) = true)
    (a_law : PySem.W.nsIn K mainGlobals "law" = some (some (.ref f_law)))
    (l_law : K.lookup f_law = some ⟨oc_law, od_law, .func (PySem.W.fnOf "law" "law" (defArgs s_law) (defBody s_law) (defScope s_law) .none kV_law dc_law pm_law an_law cd_law ct_law), sl_law⟩)
    (c_law : PySem.W.codeIn K cd_law "law" = true) (k_law : PySem.W.keepIn K (.ref f_law) = true)
    (z_range : PySem.W.nsIn K mainGlobals "range" = some none)
    (z_len : PySem.W.nsIn K mainGlobals "len" = some none)
    (z_abs : PySem.W.nsIn K mainGlobals "abs" = some none)
    (z_int : PySem.W.nsIn K mainGlobals "int" = some none)
    (z_str : PySem.W.nsIn K mainGlobals "str" = some none)
    (z_bool : PySem.W.nsIn K mainGlobals "bool" = some none)
    (z_list : PySem.W.nsIn K mainGlobals "list" = some none)
    (z_tuple : PySem.W.nsIn K mainGlobals "tuple" = some none)
    (z_dict : PySem.W.nsIn K mainGlobals "dict" = some none)
    (z_set : PySem.W.nsIn K mainGlobals "set" = some none)
    (z_isinstance : PySem.W.nsIn K mainGlobals "isinstance" = some none)
    (z_all : PySem.W.nsIn K mainGlobals "all" = some none)
    (z_any : PySem.W.nsIn K mainGlobals "any" = some none)
    (z_sum : PySem.W.nsIn K mainGlobals "sum" = some none)
    (z_max : PySem.W.nsIn K mainGlobals "max" = some none)
    (z_min : PySem.W.nsIn K mainGlobals "min" = some none)
    (z_sorted : PySem.W.nsIn K mainGlobals "sorted" = some none)
    (z_zip : PySem.W.nsIn K mainGlobals "zip" = some none)
    (z_enumerate : PySem.W.nsIn K mainGlobals "enumerate" = some none)
    (z_reversed : PySem.W.nsIn K mainGlobals "reversed" = some none)
    (a_Machine : PySem.W.nsIn K mainGlobals "Machine" = some (some (.ref CM)))
    (z_repr : PySem.W.nsIn K mainGlobals "repr" = some none)
    (fi_Machine___init__ : PySem.W.findIn K (.ref CM) "__init__" = some (some (.ref f_Machine___init__)))
    (l_Machine___init__ : K.lookup f_Machine___init__ = some ⟨oc_Machine___init__, od_Machine___init__, .func (PySem.W.fnOf "__init__" "Machine.__init__" (defArgs s_Machine___init__) (defBody s_Machine___init__) (defScope s_Machine___init__) .none kV_Machine___init__ dc_Machine___init__ pm_Machine___init__ an_Machine___init__ cd_Machine___init__ ct_Machine___init__), sl_Machine___init__⟩)
    (c_Machine___init__ : PySem.W.codeIn K cd_Machine___init__ "Machine.__init__" = true)
    (k_Machine___init__ : PySem.W.keepIn K (.ref f_Machine___init__) = true)
    (fn_Machine___init__ : PySem.W.isFn K (.ref f_Machine___init__) = true)
    (fi_Machine_letters : PySem.W.findIn K (.ref CM) "letters" = some (some (.ref f_Machine_letters)))
    (l_Machine_letters : K.lookup f_Machine_letters = some ⟨oc_Machine_letters, od_Machine_letters, .func (PySem.W.fnOf "letters" "Machine.letters" (defArgs s_Machine_letters) (defBody s_Machine_letters) (defScope s_Machine_letters) .none kV_Machine_letters dc_Machine_letters pm_Machine_letters an_Machine_letters cd_Machine_letters ct_Machine_letters), sl_Machine_letters⟩)
    (c_Machine_letters : PySem.W.codeIn K cd_Machine_letters "Machine.letters" = true)
    (k_Machine_letters : PySem.W.keepIn K (.ref f_Machine_letters) = true)
    (fn_Machine_letters : PySem.W.isFn K (.ref f_Machine_letters) = true)
    (fi_Machine_table : PySem.W.findIn K (.ref CM) "table" = some (some (.ref f_Machine_table)))
    (l_Machine_table : K.lookup f_Machine_table = some ⟨oc_Machine_table, od_Machine_table, .func (PySem.W.fnOf "table" "Machine.table" (defArgs s_Machine_table) (defBody s_Machine_table) (defScope s_Machine_table) .none kV_Machine_table dc_Machine_table pm_Machine_table an_Machine_table cd_Machine_table ct_Machine_table), sl_Machine_table⟩)
    (c_Machine_table : PySem.W.codeIn K cd_Machine_table "Machine.table" = true)
    (k_Machine_table : PySem.W.keepIn K (.ref f_Machine_table) = true)
    (fn_Machine_table : PySem.W.isFn K (.ref f_Machine_table) = true)
    (fi_Machine_accepts : PySem.W.findIn K (.ref CM) "accepts" = some (some (.ref f_Machine_accepts)))
    (l_Machine_accepts : K.lookup f_Machine_accepts = some ⟨oc_Machine_accepts, od_Machine_accepts, .func (PySem.W.fnOf "accepts" "Machine.accepts" (defArgs s_Machine_accepts) (defBody s_Machine_accepts) (defScope s_Machine_accepts) .none kV_Machine_accepts dc_Machine_accepts pm_Machine_accepts an_Machine_accepts cd_Machine_accepts ct_Machine_accepts), sl_Machine_accepts⟩)
    (c_Machine_accepts : PySem.W.codeIn K cd_Machine_accepts "Machine.accepts" = true)
    (k_Machine_accepts : PySem.W.keepIn K (.ref f_Machine_accepts) = true)
    (fn_Machine_accepts : PySem.W.isFn K (.ref f_Machine_accepts) = true)
    (fi_Machine___eq__ : PySem.W.findIn K (.ref CM) "__eq__" = some (some (.ref f_Machine___eq__)))
    (l_Machine___eq__ : K.lookup f_Machine___eq__ = some ⟨oc_Machine___eq__, od_Machine___eq__, .func (PySem.W.fnOf "__eq__" "Machine.__eq__" (defArgs s_Machine___eq__) (defBody s_Machine___eq__) (defScope s_Machine___eq__) .none kV_Machine___eq__ dc_Machine___eq__ pm_Machine___eq__ an_Machine___eq__ cd_Machine___eq__ ct_Machine___eq__), sl_Machine___eq__⟩)
    (c_Machine___eq__ : PySem.W.codeIn K cd_Machine___eq__ "Machine.__eq__" = true)
    (k_Machine___eq__ : PySem.W.keepIn K (.ref f_Machine___eq__) = true)
    (fn_Machine___eq__ : PySem.W.isFn K (.ref f_Machine___eq__) = true)
    (c_pg : PySem.W.plainGet K CM Str.empty = true)
    (c_hd : PySem.W.hasDictIn K CM = true)
    (c_po : PySem.W.plainOver K CM = true)
    (c_sa : PySem.W.findIn K (.ref CM) "__setattr__" = some (some (.builtin "object.__setattr__")))
    (n_letters : PySem.W.findIn K (.ref CM) "_letters" = some none)
    (n_table : PySem.W.findIn K (.ref CM) "_table" = some none)
    (n_accepts : PySem.W.findIn K (.ref CM) "_accepts" = some none)
    (h_makes : PySem.W.makesIn K CM = true)
    (kp_Machine : PySem.W.keepIn K (.ref CM) = true)
    (i_Machine : PySem.W.isClsIn K CM = true)
    (t_Machine0 : PySem.W.typeIn K (.ref CM) = some (.type "type"))
    (e_ha : PySem.W.findIn K (.ref CM) "__class__" = some (some (.builtin "object.__class__")))
    (e_hn : PySem.W.specialIn K (.builtin "object.__class__") "__get__" = some (some (.builtin "getset_descriptor.__get__")))
    (e_ht : PySem.W.takesIn K (.builtin "object.__class__") = some true)
    (e_hm : PySem.W.mroIn K CM (.type "object") = some true) :
    ∃ fd : FuncData, (∀ (s : Shared) (v : Value), BindsTo s fd ⟨[v], []⟩ [("_law_script", v)]) ∧ ∀ base : Heap, K.In base → base.Ns mainGlobals mg → FnG l.prog w K mg base CX0 7 fa fd ["_law_script"] (spLaw K) := by
  have e := hfa.symm.trans (PySem.W.mg_of X G a_law)
  cases e
  have B : Bi mg := ⟨PySem.W.mg_none_of X G z_range, PySem.W.mg_none_of X G z_len, PySem.W.mg_none_of X G z_abs, PySem.W.mg_none_of X G z_int, PySem.W.mg_none_of X G z_str, PySem.W.mg_none_of X G z_bool, PySem.W.mg_none_of X G z_list, PySem.W.mg_none_of X G z_tuple, PySem.W.mg_none_of X G z_dict, PySem.W.mg_none_of X G z_set, PySem.W.mg_none_of X G z_isinstance, PySem.W.mg_none_of X G z_all, PySem.W.mg_none_of X G z_any, PySem.W.mg_none_of X G z_sum, PySem.W.mg_none_of X G z_max, PySem.W.mg_none_of X G z_min, PySem.W.mg_none_of X G z_sorted, PySem.W.mg_none_of X G z_zip, PySem.W.mg_none_of X G z_enumerate, PySem.W.mg_none_of X G z_reversed⟩
  have d_is_integer : DF K mg "is_integer" s_is_integer := ⟨_, _, fun_mk (st := s_is_integer) l_is_integer c_is_integer k_is_integer, PySem.W.mg_of X G a_is_integer⟩
  have d_is_between : DF K mg "is_between" s_is_between := ⟨_, _, fun_mk (st := s_is_between) l_is_between c_is_between k_is_between, PySem.W.mg_of X G a_is_between⟩
  have d_is_ascending : DF K mg "is_ascending" s_is_ascending := ⟨_, _, fun_mk (st := s_is_ascending) l_is_ascending c_is_ascending k_is_ascending, PySem.W.mg_of X G a_is_ascending⟩
  have d_is_letters : DF K mg "is_letters" s_is_letters := ⟨_, _, fun_mk (st := s_is_letters) l_is_letters c_is_letters k_is_letters, PySem.W.mg_of X G a_is_letters⟩
  have d__is_table : DF K mg "_is_table" s__is_table := ⟨_, _, fun_mk (st := s__is_table) l__is_table c__is_table k__is_table, PySem.W.mg_of X G a__is_table⟩
  have d__is_accepts : DF K mg "_is_accepts" s__is_accepts := ⟨_, _, fun_mk (st := s__is_accepts) l__is_accepts c__is_accepts k__is_accepts, PySem.W.mg_of X G a__is_accepts⟩
  have d__is_states : DF K mg "_is_states" s__is_states := ⟨_, _, fun_mk (st := s__is_states) l__is_states c__is_states k__is_states, PySem.W.mg_of X G a__is_states⟩
  have d__law_hand : DF K mg "_law_hand" s__law_hand := ⟨_, _, fun_mk (st := s__law_hand) l__law_hand c__law_hand k__law_hand, PySem.W.mg_of X G a__law_hand⟩
  have d__law_draw : DF K mg "_law_draw" s__law_draw := ⟨_, _, fun_mk (st := s__law_draw) l__law_draw c__law_draw k__law_draw, PySem.W.mg_of X G a__law_draw⟩
  have d__law_letters : DF K mg "_law_letters" s__law_letters := ⟨_, _, fun_mk (st := s__law_letters) l__law_letters c__law_letters k__law_letters, PySem.W.mg_of X G a__law_letters⟩
  have d__law_rows : DF K mg "_law_rows" s__law_rows := ⟨_, _, fun_mk (st := s__law_rows) l__law_rows c__law_rows k__law_rows, PySem.W.mg_of X G a__law_rows⟩
  have d__law_shuffled : DF K mg "_law_shuffled" s__law_shuffled := ⟨_, _, fun_mk (st := s__law_shuffled) l__law_shuffled c__law_shuffled k__law_shuffled, PySem.W.mg_of X G a__law_shuffled⟩
  have d__law_parts : DF K mg "_law_parts" s__law_parts := ⟨_, _, fun_mk (st := s__law_parts) l__law_parts c__law_parts k__law_parts, PySem.W.mg_of X G a__law_parts⟩
  have d__law_odd : DF K mg "_law_odd" s__law_odd := ⟨_, _, fun_mk (st := s__law_odd) l__law_odd c__law_odd k__law_odd, PySem.W.mg_of X G a__law_odd⟩
  have d__law_flag : DF K mg "_law_flag" s__law_flag := ⟨_, _, fun_mk (st := s__law_flag) l__law_flag c__law_flag k__law_flag, PySem.W.mg_of X G a__law_flag⟩
  have d__law_more : DF K mg "_law_more" s__law_more := ⟨_, _, fun_mk (st := s__law_more) l__law_more c__law_more k__law_more, PySem.W.mg_of X G a__law_more⟩
  have d__law_near : DF K mg "_law_near" s__law_near := ⟨_, _, fun_mk (st := s__law_near) l__law_near c__law_near k__law_near, PySem.W.mg_of X G a__law_near⟩
  have d__law_is_parts : DF K mg "_law_is_parts" s__law_is_parts := ⟨_, _, fun_mk (st := s__law_is_parts) l__law_is_parts c__law_is_parts k__law_is_parts, PySem.W.mg_of X G a__law_is_parts⟩

  refine ⟨PySem.W.fnOf "law" "law" (defArgs s_law) (defBody s_law) (defScope s_law) .none kV_law dc_law pm_law an_law cd_law ct_law, fun s v => .of_eq rfl, fun base _ _ => ?_⟩
  have T : MTxt K CM := ⟨⟨c_pg, c_hd, c_po, c_sa⟩, n_letters, n_table, n_accepts⟩
  have d_Machine___init__ : MF K CM "__init__" "Machine.__init__" s_Machine___init__ := ⟨_, _, fun_mk (st := s_Machine___init__) l_Machine___init__ c_Machine___init__ k_Machine___init__, fi_Machine___init__, fn_Machine___init__⟩
  have d_Machine_letters : MF K CM "letters" "Machine.letters" s_Machine_letters := ⟨_, _, fun_mk (st := s_Machine_letters) l_Machine_letters c_Machine_letters k_Machine_letters, fi_Machine_letters, fn_Machine_letters⟩
  have d_Machine_table : MF K CM "table" "Machine.table" s_Machine_table := ⟨_, _, fun_mk (st := s_Machine_table) l_Machine_table c_Machine_table k_Machine_table, fi_Machine_table, fn_Machine_table⟩
  have d_Machine_accepts : MF K CM "accepts" "Machine.accepts" s_Machine_accepts := ⟨_, _, fun_mk (st := s_Machine_accepts) l_Machine_accepts c_Machine_accepts k_Machine_accepts, fi_Machine_accepts, fn_Machine_accepts⟩
  have d_Machine___eq__ : MF K CM "__eq__" "Machine.__eq__" s_Machine___eq__ := ⟨_, _, fun_mk (st := s_Machine___eq__) l_Machine___eq__ c_Machine___eq__ k_Machine___eq__, fi_Machine___eq__, fn_Machine___eq__⟩
  have g_Machine := PySem.W.mg_of X G a_Machine
  have IM : InsM K CM := ⟨e_ha, e_hn, e_ht, e_hm⟩
  have N_Machine : ∃ u, mg "Machine" = some u ∧ RelV (.ref CM) u := ⟨_, g_Machine, rfl⟩
  have BR : mg "repr" = none := PySem.W.mg_none_of X G z_repr
  have t_is_integer := Y.c_is_integer (P := l.prog) (w := w) (base := base) d_is_integer B
  have t_is_between := Y.c_is_between (P := l.prog) (w := w) (base := base) d_is_between B t_is_integer
  have t_is_ascending := Y.c_is_ascending (P := l.prog) (w := w) (base := base) d_is_ascending B
  have t_is_letters := Y.c_is_letters (P := l.prog) (w := w) (base := base) d_is_letters B t_is_ascending
  have t_is_states := Y.c__is_states (P := l.prog) (w := w) (base := base) d__is_states B t_is_between
  have t_is_table := Y.c__is_table (P := l.prog) (w := w) (base := base) d__is_table B t_is_states
  have t_is_accepts := Y.c__is_accepts (P := l.prog) (w := w) (base := base) d__is_accepts B t_is_states t_is_ascending
  have t_Machine := Y.m_Machine (P := l.prog) (w := w) (base := base) T g_Machine h_makes kp_Machine d_Machine___init__ B t_is_letters t_is_table t_is_accepts
  have t_letters := Y.c_Machine_letters (P := l.prog) (w := w) (base := base) (mg := mg) T d_Machine_letters
  have t_table := Y.c_Machine_table (P := l.prog) (w := w) (base := base) (mg := mg) T d_Machine_table
  have t_accepts := Y.c_Machine_accepts (P := l.prog) (w := w) (base := base) (mg := mg) T d_Machine_accepts
  have t_eq := Y.c_Machine___eq__ (P := l.prog) (w := w) (base := base) T N_Machine i_Machine t_Machine0 IM d_Machine___eq__ B
  have t_draw := Y.c__law_draw (P := l.prog) (w := w) (base := base) d__law_draw B
  have t_hand := Y.c__law_hand (P := l.prog) (w := w) (base := base) d__law_hand B
  have t_lletters := Y.c__law_letters (P := l.prog) (w := w) (base := base) d__law_letters B t_draw
  have t_shuffled := Y.c__law_shuffled (P := l.prog) (w := w) (base := base) d__law_shuffled B t_draw
  have t_rows := Y.c__law_rows (P := l.prog) (w := w) (base := base) d__law_rows B t_draw t_shuffled
  have t_parts := Y.c__law_parts (P := l.prog) (w := w) (base := base) d__law_parts B t_draw t_lletters t_rows
  have t_odd := Y.c__law_odd (P := l.prog) (w := w) (base := base) d__law_odd B t_draw
  have t_flag := Y.c__law_flag (P := l.prog) (w := w) (base := base) d__law_flag B
  have t_more := Y.c__law_more (P := l.prog) (w := w) (base := base) d__law_more B t_draw
  have t_near := Y.c__law_near (P := l.prog) (w := w) (base := base) d__law_near B t_draw t_lletters t_more t_parts
  have t_isp := Y.c__law_is_parts (P := l.prog) (w := w) (base := base) d__law_is_parts B BR t_letters t_table t_accepts
  exact Y.ok_law (fun_mk (st := s_law) l_law c_law k_law) B t_hand t_parts t_Machine t_near t_isp t_flag t_eq t_odd
theorem walk {l : PySem.W.OpenLaw} {q : Program} {loose : List Str} {XP : (Str → Option Value) → Heap → Prop} {YP : World → Heap → Prop} {d : DefRec} {K : Params → PySem.W.Frag} (hn : l.most = some 63) (hdf : d.params.defaults = [])
    (hY : ∀ (w : World) (h : Heap), YP w h → (K w.params).In h)
    (F : ∀ (w : World) (mg : Str → Option Value) (fa : Addr) (h : Heap), (K w.params).In h → h.Ns mainGlobals mg → mg d.name = some (.ref fa) →
      ∃ fd : FuncData, (∀ (s : Shared) (u : Value), BindsTo s fd ⟨[u], []⟩ [("_law_script", u)]) ∧ ∀ base : Heap, (K w.params).In base → base.Ns mainGlobals mg → FnG l.prog w (K w.params) mg base CX0 7 fa fd ["_law_script"] (spLaw (K w.params))) :
    PySem.W.WalkO q loose XP YP l.row.toRowW d [] (fun f vs => PySem.call f vs) :=
  walk_G (d := d) (k := 7) (x := "_law_script") hn hdf ⟨rfl, by decide, by decide⟩ hY F
end Y
open PySem PySem.W PyProof.Rows
set_option maxRecDepth 100000 in
set_option maxHeartbeats 0 in
theorem PySem.Challenge.cw_saidacross_k01_parts_and_equal_machines_holds : PySem.Challenge.rw_saidacross_k01_parts_and_equal_machines.Holds := by
  w_on; o_law; k_head; (case hw => w_witness2)
  k_fill
  refine Y.walk (l := PySem.Challenge.rw_saidacross_k01_parts_and_equal_machines) rfl rfl (fun w h Y => PySem.W.kIn_of Y) ?F
  case F =>
    intro w mg fa h KX G hmg
    refine' Y.all_mk KX G hmg ?a_is_integer ?l_is_integer ?c_is_integer ?k_is_integer ?a_is_between ?l_is_between ?c_is_between ?k_is_between ?a_is_ascending ?l_is_ascending ?c_is_ascending ?k_is_ascending ?a_is_letters ?l_is_letters ?c_is_letters ?k_is_letters ?a__is_table ?l__is_table ?c__is_table ?k__is_table ?a__is_accepts ?l__is_accepts ?c__is_accepts ?k__is_accepts ?a__is_states ?l__is_states ?c__is_states ?k__is_states ?a__law_hand ?l__law_hand ?c__law_hand ?k__law_hand ?a__law_draw ?l__law_draw ?c__law_draw ?k__law_draw ?a__law_letters ?l__law_letters ?c__law_letters ?k__law_letters ?a__law_rows ?l__law_rows ?c__law_rows ?k__law_rows ?a__law_shuffled ?l__law_shuffled ?c__law_shuffled ?k__law_shuffled ?a__law_parts ?l__law_parts ?c__law_parts ?k__law_parts ?a__law_odd ?l__law_odd ?c__law_odd ?k__law_odd ?a__law_flag ?l__law_flag ?c__law_flag ?k__law_flag ?a__law_more ?l__law_more ?c__law_more ?k__law_more ?a__law_near ?l__law_near ?c__law_near ?k__law_near ?a__law_is_parts ?l__law_is_parts ?c__law_is_parts ?k__law_is_parts ?a_law ?l_law ?c_law ?k_law ?z_range ?z_len ?z_abs ?z_int ?z_str ?z_bool ?z_list ?z_tuple ?z_dict ?z_set ?z_isinstance ?z_all ?z_any ?z_sum ?z_max ?z_min ?z_sorted ?z_zip ?z_enumerate ?z_reversed ?a_Machine ?z_repr ?fi_Machine___init__ ?l_Machine___init__ ?c_Machine___init__ ?k_Machine___init__ ?fn_Machine___init__ ?fi_Machine_letters ?l_Machine_letters ?c_Machine_letters ?k_Machine_letters ?fn_Machine_letters ?fi_Machine_table ?l_Machine_table ?c_Machine_table ?k_Machine_table ?fn_Machine_table ?fi_Machine_accepts ?l_Machine_accepts ?c_Machine_accepts ?k_Machine_accepts ?fn_Machine_accepts ?fi_Machine___eq__ ?l_Machine___eq__ ?c_Machine___eq__ ?k_Machine___eq__ ?fn_Machine___eq__ ?c_pg ?c_hd ?c_po ?c_sa ?n_letters ?n_table ?n_accepts ?h_makes ?kp_Machine ?i_Machine ?t_Machine0 ?e_ha ?e_hn ?e_ht ?e_hm
    (case a_is_integer => k_is)
    (case l_is_integer => k_is)
    (case c_is_integer => k_is)
    (case k_is_integer => k_is)
    (case a_is_between => k_is)
    (case l_is_between => k_is)
    (case c_is_between => k_is)
    (case k_is_between => k_is)
    (case a_is_ascending => k_is)
    (case l_is_ascending => k_is)
    (case c_is_ascending => k_is)
    (case k_is_ascending => k_is)
    (case a_is_letters => k_is)
    (case l_is_letters => k_is)
    (case c_is_letters => k_is)
    (case k_is_letters => k_is)
    (case a__is_table => k_is)
    (case l__is_table => k_is)
    (case c__is_table => k_is)
    (case k__is_table => k_is)
    (case a__is_accepts => k_is)
    (case l__is_accepts => k_is)
    (case c__is_accepts => k_is)
    (case k__is_accepts => k_is)
    (case a__is_states => k_is)
    (case l__is_states => k_is)
    (case c__is_states => k_is)
    (case k__is_states => k_is)
    (case a__law_hand => k_is)
    (case l__law_hand => k_is)
    (case c__law_hand => k_is)
    (case k__law_hand => k_is)
    (case a__law_draw => k_is)
    (case l__law_draw => k_is)
    (case c__law_draw => k_is)
    (case k__law_draw => k_is)
    (case a__law_letters => k_is)
    (case l__law_letters => k_is)
    (case c__law_letters => k_is)
    (case k__law_letters => k_is)
    (case a__law_rows => k_is)
    (case l__law_rows => k_is)
    (case c__law_rows => k_is)
    (case k__law_rows => k_is)
    (case a__law_shuffled => k_is)
    (case l__law_shuffled => k_is)
    (case c__law_shuffled => k_is)
    (case k__law_shuffled => k_is)
    (case a__law_parts => k_is)
    (case l__law_parts => k_is)
    (case c__law_parts => k_is)
    (case k__law_parts => k_is)
    (case a__law_odd => k_is)
    (case l__law_odd => k_is)
    (case c__law_odd => k_is)
    (case k__law_odd => k_is)
    (case a__law_flag => k_is)
    (case l__law_flag => k_is)
    (case c__law_flag => k_is)
    (case k__law_flag => k_is)
    (case a__law_more => k_is)
    (case l__law_more => k_is)
    (case c__law_more => k_is)
    (case k__law_more => k_is)
    (case a__law_near => k_is)
    (case l__law_near => k_is)
    (case c__law_near => k_is)
    (case k__law_near => k_is)
    (case a__law_is_parts => k_is)
    (case l__law_is_parts => k_is)
    (case c__law_is_parts => k_is)
    (case k__law_is_parts => k_is)
    (case a_law => k_is)
    (case l_law => k_is)
    (case c_law => k_is)
    (case k_law => k_is)
    (case z_range => k_is)
    (case z_len => k_is)
    (case z_abs => k_is)
    (case z_int => k_is)
    (case z_str => k_is)
    (case z_bool => k_is)
    (case z_list => k_is)
    (case z_tuple => k_is)
    (case z_dict => k_is)
    (case z_set => k_is)
    (case z_isinstance => k_is)
    (case z_all => k_is)
    (case z_any => k_is)
    (case z_sum => k_is)
    (case z_max => k_is)
    (case z_min => k_is)
    (case z_sorted => k_is)
    (case z_zip => k_is)
    (case z_enumerate => k_is)
    (case z_reversed => k_is)
    (case a_Machine => k_is)
    (case z_repr => k_is)
    (case fi_Machine___init__ => k_is)
    (case l_Machine___init__ => k_is)
    (case c_Machine___init__ => k_is)
    (case k_Machine___init__ => k_is)
    (case fn_Machine___init__ => k_is)
    (case fi_Machine_letters => k_is)
    (case l_Machine_letters => k_is)
    (case c_Machine_letters => k_is)
    (case k_Machine_letters => k_is)
    (case fn_Machine_letters => k_is)
    (case fi_Machine_table => k_is)
    (case l_Machine_table => k_is)
    (case c_Machine_table => k_is)
    (case k_Machine_table => k_is)
    (case fn_Machine_table => k_is)
    (case fi_Machine_accepts => k_is)
    (case l_Machine_accepts => k_is)
    (case c_Machine_accepts => k_is)
    (case k_Machine_accepts => k_is)
    (case fn_Machine_accepts => k_is)
    (case fi_Machine___eq__ => k_is)
    (case l_Machine___eq__ => k_is)
    (case c_Machine___eq__ => k_is)
    (case k_Machine___eq__ => k_is)
    (case fn_Machine___eq__ => k_is)
    (case c_pg => first | rfl | k_is)
    (case c_hd => k_is)
    (case c_po => k_is)
    (case c_sa => k_is)
    (case n_letters => k_is)
    (case n_table => k_is)
    (case n_accepts => k_is)
    (case h_makes => k_is)
    (case kp_Machine => k_is)
    (case i_Machine => k_is)
    (case t_Machine0 => k_is)
    (case e_ha => k_is)
    (case e_hn => first | rfl | k_is)
    (case e_ht => first | rfl | k_is)
    (case e_hm => k_is)
