import PyProof.Rows.All
import Wide.All
import OpenK.AllK
import Wide.FinOn
import HandS.ForMost
import HandS.ForExc
import HandS.StrMore
import HandS.Zip
import HandS.IsInst
import HandS.Conv
import HandS.Codes
import HandS.Evl
import HandS.Wide
import HandS.Replace
import HandS.Walk
import HandS.More
import HandS.TupAny
import KE.GoesZip
import KE.GoesMore
import PySem.Challenge.RW_saidacross_k38_whole_pieces_of_words
import HandS.Small
import HandS.TryMany
import HandS.Style
set_option Elab.async false
set_option linter.all false
set_option maxRecDepth 100000
set_option maxHeartbeats 4000000
namespace Z
open PySem PySem.Spec PyProof.Rows L2
open C8 (tCut pss_cut Cal pe_c Met pe_mt pe_mt0 Mak pe_mk)
/-! ### texts as lists of codes -/
abbrev S (l : List Nat) : Str := ⟨l.toArray⟩
abbrev codes (w : Str) : List Nat := w.cps.toList
theorem S_codes (w : Str) : S (codes w) = w := rfl
theorem codes_S (l : List Nat) : codes (S l) = l := rfl
theorem S_len (l : List Nat) : (S l).length = l.length := by show l.toArray.size = _; simp
theorem S_inj {a b : List Nat} (h : S a = S b) : a = b := by
  have := congrArg codes h
  simpa using this
theorem S_app (a b : List Nat) : S a ++ S b = S (a ++ b) := by
  show (⟨a.toArray ++ b.toArray⟩ : Str) = _
  simp [S]
/-! ### readings under names, and how one goes into them -/
def zAdd : R2 := rI0 fun i j => .int (i + j)
def zSub : R2 := rI0 fun i j => .int (i - j)
def zMul : R2 := rI CMul fun i j => .int (i * j)
def zMod : R2 := rI (fun _ j => 0 < j) fun i j => .int (i % j)
def zDiv : R2 := rI CDivW fun i j => .int (i / j)
def zPow : R2 := rI CPow fun i j => .int (i ^ Int.toNat j)
def zAddS : R2 := fun x y H Q => ∃ i j : Str, x = V.str i ∧ y = V.str j ∧ i.length + j.length ≤ sizeLine ∧ Q (V.str (i ++ j)) H
def zLt : R2 := rI0 fun i j => .bl (decide (i < j))
def zLe : R2 := rI0 fun i j => .bl (decide (i ≤ j))
def zGt : R2 := rI0 fun i j => .bl (decide (j < i))
def zGe : R2 := rI0 fun i j => .bl (decide (j ≤ i))
def zLtS : R2 := fun x y H Q => ∃ i j : Str, x = V.str i ∧ y = V.str j ∧ Q (V.bl (decide (i.cps.toList < j.cps.toList))) H
def zLeS : R2 := fun x y H Q => ∃ i j : Str, x = V.str i ∧ y = V.str j ∧ Q (V.bl (!decide (j.cps.toList < i.cps.toList))) H
def zInS : R2 := fun x y H Q => ∃ (c : Nat) (z : Str), x = V.str ⟨#[c]⟩ ∧ y = V.str z ∧ Q (V.bl (decide (c ∈ z.cps.toList))) H
def zNInS : R2 := fun x y H Q => ∃ (c : Nat) (z : Str), x = V.str ⟨#[c]⟩ ∧ y = V.str z ∧ Q (V.bl (!decide (c ∈ z.cps.toList))) H
section
variable {X : Cx}
theorem z_add : OpR X (binaryOp .Add) zAdd := op_add
theorem z_sub : OpR X (binaryOp .Sub) zSub := op_sub
theorem z_mul : OpR X (binaryOp .Mult) zMul := op_mul
theorem z_mod : OpR X (binaryOp .Mod) zMod := op_mod
theorem z_div : OpR X (binaryOp .FloorDiv) zDiv := op_fdivW
theorem z_pow : OpR X (binaryOp .Pow) zPow := op_pow
theorem z_adds : OpR X (binaryOp .Add) zAddS := op_add_str
theorem z_lt : OpR X (compareOp .Lt) zLt := op_lt
theorem z_le : OpR X (compareOp .LtE) zLe := op_le
theorem z_gt : OpR X (compareOp .Gt) zGt := op_gt
theorem z_ge : OpR X (compareOp .GtE) zGe := op_ge
theorem z_lts : OpR X (compareOp .Lt) zLtS := op_lt_str
theorem z_les : OpR X (compareOp .LtE) zLeS := op_le_str
theorem z_ins : OpR X (compareOp .In) zInS := op_in_sign
theorem z_nins : OpR X (compareOp .NotIn) zNInS := op_notIn_sign
end
/-- what a boolean value is for what follows -/
def KB (x : V) (P : Bool → Prop) : Prop := ∃ c, x = V.bl c ∧ P c
theorem i_KB {b : Bool} {P : Bool → Prop} (h : P b) : KB (.bl b) P := ⟨b, rfl, h⟩
section
variable {σ : L2.St} {H : Hp} {Q : VK} {D : Ends} {K : PySem.W.Frag} {ta tb tc te : TE} {t u : TS} {r r' : R2} {i j : Int} {a b : List Nat} {x y v : V} {P : V → Hp → Prop}
theorem i_var {n : Nat} (h : σ[n]? = some (some v)) (q : Q v H) : tVar n σ H Q := ⟨v, h, q⟩
theorem i_c (q : Q v H) : tC v σ H Q := q
theorem i_cs {w : Str} (q : Q (.str (S (codes w))) H) : tC (.str w) σ H Q := q
theorem i_op (q : ta σ H fun x H1 => tb σ H1 fun y H2 => r x y H2 Q) : tOp r ta tb σ H Q := q
theorem i_un {r : V → Hp → VK → Prop} (q : ta σ H fun x H1 => r x H1 Q) : tUn r ta σ H Q := q
theorem i_add (q : Q (.int (i + j)) H) : zAdd (.int i) (.int j) H Q := ⟨i, j, rfl, rfl, q⟩
theorem i_sub (q : Q (.int (i - j)) H) : zSub (.int i) (.int j) H Q := ⟨i, j, rfl, rfl, q⟩
theorem i_mul (h : -2 ^ 64 < i ∧ i < 2 ^ 64 ∨ -2 ^ 64 < j ∧ j < 2 ^ 64) (q : Q (.int (i * j)) H) : zMul (.int i) (.int j) H Q := ⟨i, j, rfl, rfl, h, q⟩
theorem i_mod (h : 0 < j) (q : Q (.int (i % j)) H) : zMod (.int i) (.int j) H Q := ⟨i, j, rfl, rfl, h, q⟩
theorem i_div (h : CDivW i j) (q : Q (.int (i / j)) H) : zDiv (.int i) (.int j) H Q := ⟨i, j, rfl, rfl, h, q⟩
theorem i_pow (h : CPow i j) (q : Q (.int (i ^ Int.toNat j)) H) : zPow (.int i) (.int j) H Q := ⟨i, j, rfl, rfl, h, q⟩
theorem i_adds (h : a.length + b.length ≤ 100000) (q : Q (.str (S (a ++ b))) H) : zAddS (.str (S a)) (.str (S b)) H Q :=
  ⟨_, _, rfl, rfl, by rw [S_len, S_len]; exact Nat.le_trans h (by decide), by rw [S_app]; exact q⟩
theorem i_lt (q : Q (.bl (decide (i < j))) H) : zLt (.int i) (.int j) H Q := ⟨i, j, rfl, rfl, q⟩
theorem i_le (q : Q (.bl (decide (i ≤ j))) H) : zLe (.int i) (.int j) H Q := ⟨i, j, rfl, rfl, q⟩
theorem i_gt (q : Q (.bl (decide (j < i))) H) : zGt (.int i) (.int j) H Q := ⟨i, j, rfl, rfl, q⟩
theorem i_ge (q : Q (.bl (decide (j ≤ i))) H) : zGe (.int i) (.int j) H Q := ⟨i, j, rfl, rfl, q⟩
theorem i_lts (q : Q (.bl (decide (a < b))) H) : zLtS (.str (S a)) (.str (S b)) H Q := ⟨_, _, rfl, rfl, q⟩
theorem i_les (q : Q (.bl (!decide (b < a))) H) : zLeS (.str (S a)) (.str (S b)) H Q := ⟨_, _, rfl, rfl, q⟩
theorem i_ins {c : Nat} (q : Q (.bl (decide (c ∈ a))) H) : zInS (.str (S [c])) (.str (S a)) H Q := ⟨c, S a, rfl, rfl, q⟩
theorem i_nins {c : Nat} (q : Q (.bl (!decide (c ∈ a))) H) : zNInS (.str (S [c])) (.str (S a)) H Q := ⟨c, S a, rfl, rfl, q⟩
theorem i_eqI (q : Q (.bl (decide (i = j))) H) : rEq (.int i) (.int j) H Q := ⟨rfl, by have e : decide (V.int i = V.int j) = decide (i = j) := by simp
                                                                                       rw [e]; exact q⟩
theorem i_neI (q : Q (.bl (!decide (i = j))) H) : rNe (.int i) (.int j) H Q := ⟨rfl, by have e : decide (V.int i = V.int j) = decide (i = j) := by simp
                                                                                        rw [e]; exact q⟩
theorem eq_S : decide (V.str (S a) = V.str (S b)) = decide (a = b) := by
  by_cases h : a = b
  · subst h; simp
  · rw [decide_eq_false h]; exact decide_eq_false fun e => h (S_inj (V.str.inj e))
theorem i_eqS (q : Q (.bl (decide (a = b))) H) : rEq (.str (S a)) (.str (S b)) H Q := ⟨rfl, by rw [eq_S]; exact q⟩
theorem i_neS (q : Q (.bl (!decide (a = b))) H) : rNe (.str (S a)) (.str (S b)) H Q := ⟨rfl, by rw [eq_S]; exact q⟩
theorem i_eqB {c d : Bool} (q : Q (.bl (decide (c = d))) H) : rEq (.bl c) (.bl d) H Q := ⟨rfl, by have e : decide (V.bl c = V.bl d) = decide (c = d) := by simp
                                                                                                  rw [e]; exact q⟩
theorem i_neg (q : Q (.int (-i)) H) : rU (fun i => V.int (-i)) (.int i) H Q := ⟨i, rfl, q⟩
/-! booleans as values -/
theorem i_and (q : ta σ H fun x H1 => KB x fun c => if c = true then tb σ H1 Q else Q (.bl false) H1) : tAndV ta tb σ H Q := q
theorem i_or (q : ta σ H fun x H1 => KB x fun c => if c = true then Q (.bl true) H1 else tb σ H1 Q) : tOrV ta tb σ H Q := q
theorem i_not (q : ta σ H fun x H1 => KB x fun c => Q (.bl (!c)) H1) : tNotV ta σ H Q := q
theorem i_chain (q : ta σ H fun x H1 => tb σ H1 fun y H2 => r x y H2 fun z H3 => KB z fun k => if k = true then tc σ H3 fun w' H4 => r' y w' H4 Q else Q (.bl false) H3) : tChain r r' ta tb tc σ H Q := q
theorem i_tB {R : Bool → Hp → Prop} (q : te σ H fun x H1 => KB x fun c => R c H1) : tB te σ H R := q
theorem i_ifS {c : TT} (q : c σ H fun b H1 => if b = true then t D σ H1 else u D σ H1) : tIfS c t u D σ H := q
theorem i_if {c : TT} (q : c σ H fun b H1 => if b = true then ta σ H1 Q else tb σ H1 Q) : tIf c ta tb σ H Q := q
theorem i_test {R : Bool → Hp → Prop} (q : te σ H fun x H1 => KB x fun c => R c H1) : tTest te σ H R := q
theorem i_tand {c d : TT} {R : Bool → Hp → Prop} (q : c σ H fun b H1 => if b = true then d σ H1 R else R false H1) : tAnd c d σ H R := q
theorem i_tor {c d : TT} {R : Bool → Hp → Prop} (q : c σ H fun b H1 => if b = true then R true H1 else d σ H1 R) : tOr c d σ H R := q
theorem i_tnot {c : TT} {R : Bool → Hp → Prop} (q : c σ H fun b H1 => R (!b) H1) : tNot c σ H R := q
theorem brb {c : Bool} {A B : Prop} (h1 : c = true → A) (h2 : c = false → B) : if c = true then A else B := by
  cases c
  · exact iteF (h2 rfl)
  · exact iteT (h1 rfl)
theorem brd {p : Prop} [Decidable p] {A B : Prop} (h1 : p → A) (h2 : ¬ p → B) : if decide p = true then A else B := by
  by_cases h : p
  · rw [decide_eq_true h]; exact iteT (h1 h)
  · rw [decide_eq_false h]; exact iteF (h2 h)
theorem brn {p : Prop} [Decidable p] {A B : Prop} (h1 : ¬ p → A) (h2 : p → B) : if (!decide p) = true then A else B := by
  by_cases h : p
  · rw [decide_eq_true h]; exact iteF (h2 h)
  · rw [decide_eq_false h]; exact iteT (h1 h)
/-! arguments, calls, displays -/
theorem i_nil {R : List V → Hp → Prop} (q : R [] H) : tNil σ H R := q
theorem i_cons {tr : TA} {R : List V → Hp → Prop} (q : ta σ H fun x H1 => tr σ H1 fun xs H2 => R (x :: xs) H2) : tCons ta tr σ H R := q
theorem i_call {sp : Sp} {dvs : List V} {E : XK} {t : TA} (q : t σ H fun vs H1 => sp (vs ++ dvs) H1 Q E) : tCall sp dvs E t σ H Q := q
theorem i_cb {r : List V → Hp → VK → Prop} {t : TA} (q : t σ H fun vs H1 => r vs H1 Q) : tCB r t σ H Q := q
theorem i_tup {t : TA} (q : t σ H fun xs H1 => xs.length ≤ sizeLine ∧ ∀ p, H1 p = none → Q (.ref p) (upd H1 p (.tup xs))) : tTup t σ H Q := q
theorem i_lst {t : TA} (q : t σ H fun xs H1 => xs.length ≤ sizeLine ∧ ∀ p, H1 p = none → Q (.ref p) (upd H1 p (.lst xs))) : tLst t σ H Q := q
theorem i_bm {T : String} {r : V → List V → Hp → VK → Prop} {t : TA} (q : ta σ H fun x H1 => tyV K T x H1 ∧ t σ H1 fun xs H2 => r x xs H2 Q) : tBM K T r ta t σ H Q := q
theorem i_bm0 {T : String} {r : V → List V → Hp → VK → Prop} (q : ta σ H fun x H1 => tyV K T x H1 ∧ r x [] H1 Q) : tBM0 K T r ta σ H Q := q
theorem i_sl {r : V → Option Int → Option Int → Hp → VK → Prop} {tl th : TO} (q : te σ H fun x H1 => tl σ H1 fun l H2 => th σ H2 fun u H3 => r x l u H3 Q) : L2.tSl r te tl th σ H Q := q
theorem i_po0 {R : Option Int → Hp → Prop} (q : R none H) : tNoPart σ H R := q
def KI (x : V) (P : Int → Prop) : Prop := ∃ i, x = V.int i ∧ P i
theorem i_KI {P : Int → Prop} (h : P i) : KI (.int i) P := ⟨i, rfl, h⟩
theorem i_po1 {R : Option Int → Hp → Prop} (q : te σ H fun x H1 => KI x fun i => R (some i) H1) : tPart te σ H R := q
/-! statements -/
theorem i_seq (q : t { D with nx := u D } σ H) : tSeq t u D σ H := q
theorem i_next (q : D.nx σ H) : tNext D σ H := q
theorem i_asg {g : TG} (q : te σ H fun x H1 => g x σ H1 D.nx) : tAsg te g D σ H := q
theorem i_gname {n : Nat} {R : L2.St → Hp → Prop} (q : R (σ.set n (some v)) H) : gName n v σ H R := q
theorem i_ret (q : te σ H D.rt) : tRet te D σ H := q
theorem i_retN (q : D.rt .non H) : tRetN D σ H := q
theorem i_drop (q : te σ H fun _ H1 => D.nx σ H1) : tDrop te D σ H := q
theorem i_brk (q : D.bk σ H) : tBreak D σ H := q
theorem i_cont (q : D.ct σ H) : tCont D σ H := q
theorem i_gsub {to ti : TE} {s : TSet} {R : L2.St → Hp → Prop} (q : to σ H fun o H1 => ti σ H1 fun i H2 => s o i v H2 fun H3 => R σ H3) : gSub to ti s v σ H R := q
/-! loops -/
def FOR (J : It) (g : TG) (tb : TS) (D : Ends) (σ : L2.St) (H : Hp) : Prop := ∃ W : Nat → Nat → L2.St → Hp → Prop, (∃ m, W 0 m σ H) ∧ ∀ i m σ H, W i m σ H →
  (J.stop i H ∧ D.nx σ H) ∨ (J.go i H ∧ ∃ N : L2.St → Hp → Prop, (∀ σ' H', N σ' H' → ∃ m', m' < m ∧ W (i + 1) m' σ' H') ∧ ∀ x H', J.yld i H x H' → g x σ H' fun σ2 H2 => tb { D with nx := N, ct := N, bk := D.nx } σ2 H2)
theorem i_for {wi : TI} {g : TG} {tb : TS} (q : wi σ H fun J H1 => FOR J g tb D σ H1) : tFor wi g tb D σ H := q
def LC (J : It) (g : TG) (tt : TT) (te : TE) (vs : List Nat) (σ : L2.St) (H1 : Hp) (Q : VK) (D : Addr) : Prop := ∃ W : Nat → Nat → Hp → Prop, (∃ m, W 0 m (upd H1 D (.lst []))) ∧ ∀ i m H, W i m H →
  (J.stop i H ∧ Q (.ref D) H) ∨ (J.go i H ∧ ∃ Nx : Hp → Prop, (∀ H', Nx H' → ∃ m', m' < m ∧ W (i + 1) m' H') ∧ ∀ x H', J.yld i H x H' → g x (wipe σ vs) H' fun σ2 H2 => wipe σ2 vs = wipe σ vs ∧ tt σ2 H2 fun b H3 =>
    if b = true then te σ2 H3 fun y H4 => ∃ acc, H4 D = some (.lst acc) ∧ acc.length < sizeLine ∧ Nx (upd H4 D (.lst (acc ++ [y]))) else Nx H3)
theorem i_lc {wi : TI} {g : TG} {tt : TT} {vs : List Nat} (q : wi σ H fun J H1 => ∀ D, H1 D = none → LC J g tt te vs σ H1 Q D) : tLc wi g tt te vs σ H Q := q
theorem i_yes {R : Bool → Hp → Prop} (q : R true H) : tYes σ H R := q
def KR1 (vs : List V) (P : Int → Prop) : Prop := ∃ j : Int, vs = [.int j] ∧ -(2 ^ 62) ≤ j ∧ j < 2 ^ 62 ∧ P j
theorem i_r1 {ta : TA} {R : It → Hp → Prop} (q : ta σ H fun vs H1 => KR1 vs fun j => R (Itr 0 j.toNat) H1) : iRng1 ta σ H R := q
theorem i_KR1 {P : Int → Prop} (h : -100000 ≤ j ∧ j ≤ 100000) (q : P j) : KR1 [.int j] P := ⟨j, rfl, by omega, by omega, q⟩
def KS (x : V) (P : Str → Prop) : Prop := ∃ z, x = V.str z ∧ P z
theorem i_KS {P : Str → Prop} (q : P (S a)) : KS (.str (S a)) P := ⟨_, rfl, q⟩
theorem i_istr {R : It → Hp → Prop} (q : te σ H fun x H1 => KS x fun z => R (Its z) H1) : iStr te σ H R := q
def KL (K : PySem.W.Frag) (x : V) (H1 : Hp) (P : Addr → Prop) : Prop := ∃ a, x = V.ref a ∧ (∃ xs, SqL K H1 a xs) ∧ P a
theorem i_ilist {R : It → Hp → Prop} (q : te σ H fun x H1 => KL K x H1 fun a => R (Itl K a) H1) : iList K te σ H R := q
theorem i_KL {a : Addr} {xs : List V} {P : Addr → Prop} (h : SqL K H a xs) (q : P a) : KL K (.ref a) H P := ⟨a, rfl, ⟨xs, h⟩, q⟩
def KT (K : PySem.W.Frag) (x : V) (H1 : Hp) (P : Addr → Prop) : Prop := ∃ a, x = V.ref a ∧ (∃ xs, SqT K H1 a xs) ∧ P a
theorem i_itup {R : It → Hp → Prop} (q : te σ H fun x H1 => KT K x H1 fun a => R (Itt K a) H1) : iTup K te σ H R := q
theorem i_KT {a : Addr} {xs : List V} {P : Addr → Prop} (h : SqT K H a xs) (q : P a) : KT K (.ref a) H P := ⟨a, rfl, ⟨xs, h⟩, q⟩
theorem l_for {J : It} {n : Nat} {G : Hp → Prop} {Y : Nat → Hp → V → Hp → Prop} (w : Walk J n G Y) {g : TG} {tb : TS} (Pv : Nat → L2.St → Hp → Prop) (h0 : Pv 0 σ H) (hG : ∀ i σ H, i ≤ n → Pv i σ H → G H)
    (hs : ∀ i x σ H H', i < n → Pv i σ H → Y i H x H' → g x σ H' fun σ2 H2 => tb { D with nx := Pv (i + 1), ct := Pv (i + 1), bk := D.nx } σ2 H2) (hd : ∀ σ H, Pv n σ H → D.nx σ H) : FOR J g tb D σ H :=
  for_it w Pv h0 hG hs hd
theorem l_range {n : Nat} {g : TG} {tb : TS} (Pv : Nat → L2.St → Hp → Prop) (h0 : Pv 0 σ H)
    (hs : ∀ i σ H, i < n → Pv i σ H → g (.int i) σ H fun σ2 H2 => tb { D with nx := Pv (i + 1), ct := Pv (i + 1), bk := D.nx } σ2 H2) (hd : ∀ σ H, Pv n σ H → D.nx σ H) : FOR (Itr 0 n) g tb D σ H :=
  for_range (lo := 0) Pv h0 (fun i σ H hi p => by rw [Int.zero_add]; exact hs i σ H hi p) hd
theorem l_str {g : TG} {tb : TS} (Pv : Nat → L2.St → Hp → Prop) (h0 : Pv 0 σ H)
    (hs : ∀ i c σ H, a[i]? = some c → Pv i σ H → g (.str (S [c])) σ H fun σ2 H2 => tb { D with nx := Pv (i + 1), ct := Pv (i + 1), bk := D.nx } σ2 H2) (hd : ∀ σ H, Pv a.length σ H → D.nx σ H) : FOR (Its (S a)) g tb D σ H :=
  for_it walk_str Pv h0 (fun _ _ _ _ _ => trivial) (fun i x σ H H' hi p y => by
    obtain ⟨e, c, hc, ex⟩ := y
    subst e; subst ex
    exact hs i c σ _ (by simpa using hc) p) fun σ H p => hd σ H (by simpa using p)
theorem l_lc {J : It} {n : Nat} {G : Hp → Prop} {Y : Nat → Hp → V → Hp → Prop} (w : Walk J n G Y) {g : TG} {tt : TT} {te : TE} {vs : List Nat} {Dl : Addr} (Pv : Nat → Hp → Prop) (h0 : Pv 0 (upd H Dl (.lst []))) (hG : ∀ i H, i ≤ n → Pv i H → G H)
    (hs : ∀ i x H H', i < n → Pv i H → Y i H x H' → g x (wipe σ vs) H' fun σ2 H2 => wipe σ2 vs = wipe σ vs ∧ tt σ2 H2 fun b H3 =>
      if b = true then te σ2 H3 fun y H4 => ∃ acc, H4 Dl = some (.lst acc) ∧ acc.length < sizeLine ∧ Pv (i + 1) (upd H4 Dl (.lst (acc ++ [y]))) else Pv (i + 1) H3) (hd : ∀ H, Pv n H → Q (.ref Dl) H) : LC J g tt te vs σ H Q Dl :=
  lc_it w Pv h0 hG hs hd
theorem l_lcstr {g : TG} {tt : TT} {te : TE} {vs : List Nat} {Dl : Addr} (Pv : Nat → Hp → Prop) (h0 : Pv 0 (upd H Dl (.lst [])))
    (hs : ∀ i c H, a[i]? = some c → Pv i H → g (.str (S [c])) (wipe σ vs) H fun σ2 H2 => wipe σ2 vs = wipe σ vs ∧ tt σ2 H2 fun b H3 =>
      if b = true then te σ2 H3 fun y H4 => ∃ acc, H4 Dl = some (.lst acc) ∧ acc.length < sizeLine ∧ Pv (i + 1) (upd H4 Dl (.lst (acc ++ [y]))) else Pv (i + 1) H3) (hd : ∀ H, Pv a.length H → Q (.ref Dl) H) : LC (Its (S a)) g tt te vs σ H Q Dl :=
  lc_it walk_str Pv h0 (fun _ _ _ _ => trivial) (fun i x H H' hi p y => by
    obtain ⟨e, c, hc, ex⟩ := y
    subst e; subst ex
    exact hs i c _ (by simpa using hc) p) fun H p => hd H (by simpa using p)
end
end Z
namespace Z
open PySem PySem.Spec PyProof.Rows L2
open C8 (tCut pss_cut Cal pe_c Met pe_mt pe_mt0 Mak pe_mk)
section
variable {H : Hp} {Q : VK} {v : V} {R : L2.St → Hp → Prop} {y : Option V} {r : L2.St}
theorem i_v0 (q : Q v H) : tVar 0 (some v :: r) H Q := ⟨v, rfl, q⟩
theorem i_g0 (q : R (some v :: r) H) : gName 0 v (y :: r) H R := q
theorem i_v1 {x0 : Option V} (q : Q v H) : tVar 1 (x0 :: some v :: r) H Q := ⟨v, rfl, q⟩
theorem i_g1 {x0 : Option V} (q : R (x0 :: some v :: r) H) : gName 1 v (x0 :: y :: r) H R := q
theorem i_v2 {x0 x1 : Option V} (q : Q v H) : tVar 2 (x0 :: x1 :: some v :: r) H Q := ⟨v, rfl, q⟩
theorem i_g2 {x0 x1 : Option V} (q : R (x0 :: x1 :: some v :: r) H) : gName 2 v (x0 :: x1 :: y :: r) H R := q
theorem i_v3 {x0 x1 x2 : Option V} (q : Q v H) : tVar 3 (x0 :: x1 :: x2 :: some v :: r) H Q := ⟨v, rfl, q⟩
theorem i_g3 {x0 x1 x2 : Option V} (q : R (x0 :: x1 :: x2 :: some v :: r) H) : gName 3 v (x0 :: x1 :: x2 :: y :: r) H R := q
theorem i_v4 {x0 x1 x2 x3 : Option V} (q : Q v H) : tVar 4 (x0 :: x1 :: x2 :: x3 :: some v :: r) H Q := ⟨v, rfl, q⟩
theorem i_g4 {x0 x1 x2 x3 : Option V} (q : R (x0 :: x1 :: x2 :: x3 :: some v :: r) H) : gName 4 v (x0 :: x1 :: x2 :: x3 :: y :: r) H R := q
theorem i_v5 {x0 x1 x2 x3 x4 : Option V} (q : Q v H) : tVar 5 (x0 :: x1 :: x2 :: x3 :: x4 :: some v :: r) H Q := ⟨v, rfl, q⟩
theorem i_g5 {x0 x1 x2 x3 x4 : Option V} (q : R (x0 :: x1 :: x2 :: x3 :: x4 :: some v :: r) H) : gName 5 v (x0 :: x1 :: x2 :: x3 :: x4 :: y :: r) H R := q
theorem i_v6 {x0 x1 x2 x3 x4 x5 : Option V} (q : Q v H) : tVar 6 (x0 :: x1 :: x2 :: x3 :: x4 :: x5 :: some v :: r) H Q := ⟨v, rfl, q⟩
theorem i_g6 {x0 x1 x2 x3 x4 x5 : Option V} (q : R (x0 :: x1 :: x2 :: x3 :: x4 :: x5 :: some v :: r) H) : gName 6 v (x0 :: x1 :: x2 :: x3 :: x4 :: x5 :: y :: r) H R := q
theorem i_v7 {x0 x1 x2 x3 x4 x5 x6 : Option V} (q : Q v H) : tVar 7 (x0 :: x1 :: x2 :: x3 :: x4 :: x5 :: x6 :: some v :: r) H Q := ⟨v, rfl, q⟩
theorem i_g7 {x0 x1 x2 x3 x4 x5 x6 : Option V} (q : R (x0 :: x1 :: x2 :: x3 :: x4 :: x5 :: x6 :: some v :: r) H) : gName 7 v (x0 :: x1 :: x2 :: x3 :: x4 :: x5 :: x6 :: y :: r) H R := q
theorem i_v8 {x0 x1 x2 x3 x4 x5 x6 x7 : Option V} (q : Q v H) : tVar 8 (x0 :: x1 :: x2 :: x3 :: x4 :: x5 :: x6 :: x7 :: some v :: r) H Q := ⟨v, rfl, q⟩
theorem i_g8 {x0 x1 x2 x3 x4 x5 x6 x7 : Option V} (q : R (x0 :: x1 :: x2 :: x3 :: x4 :: x5 :: x6 :: x7 :: some v :: r) H) : gName 8 v (x0 :: x1 :: x2 :: x3 :: x4 :: x5 :: x6 :: x7 :: y :: r) H R := q
theorem i_v9 {x0 x1 x2 x3 x4 x5 x6 x7 x8 : Option V} (q : Q v H) : tVar 9 (x0 :: x1 :: x2 :: x3 :: x4 :: x5 :: x6 :: x7 :: x8 :: some v :: r) H Q := ⟨v, rfl, q⟩
theorem i_g9 {x0 x1 x2 x3 x4 x5 x6 x7 x8 : Option V} (q : R (x0 :: x1 :: x2 :: x3 :: x4 :: x5 :: x6 :: x7 :: x8 :: some v :: r) H) : gName 9 v (x0 :: x1 :: x2 :: x3 :: x4 :: x5 :: x6 :: x7 :: x8 :: y :: r) H R := q
theorem i_v10 {x0 x1 x2 x3 x4 x5 x6 x7 x8 x9 : Option V} (q : Q v H) : tVar 10 (x0 :: x1 :: x2 :: x3 :: x4 :: x5 :: x6 :: x7 :: x8 :: x9 :: some v :: r) H Q := ⟨v, rfl, q⟩
theorem i_g10 {x0 x1 x2 x3 x4 x5 x6 x7 x8 x9 : Option V} (q : R (x0 :: x1 :: x2 :: x3 :: x4 :: x5 :: x6 :: x7 :: x8 :: x9 :: some v :: r) H) : gName 10 v (x0 :: x1 :: x2 :: x3 :: x4 :: x5 :: x6 :: x7 :: x8 :: x9 :: y :: r) H R := q
theorem i_v11 {x0 x1 x2 x3 x4 x5 x6 x7 x8 x9 x10 : Option V} (q : Q v H) : tVar 11 (x0 :: x1 :: x2 :: x3 :: x4 :: x5 :: x6 :: x7 :: x8 :: x9 :: x10 :: some v :: r) H Q := ⟨v, rfl, q⟩
theorem i_g11 {x0 x1 x2 x3 x4 x5 x6 x7 x8 x9 x10 : Option V} (q : R (x0 :: x1 :: x2 :: x3 :: x4 :: x5 :: x6 :: x7 :: x8 :: x9 :: x10 :: some v :: r) H) : gName 11 v (x0 :: x1 :: x2 :: x3 :: x4 :: x5 :: x6 :: x7 :: x8 :: x9 :: x10 :: y :: r) H R := q
theorem i_v12 {x0 x1 x2 x3 x4 x5 x6 x7 x8 x9 x10 x11 : Option V} (q : Q v H) : tVar 12 (x0 :: x1 :: x2 :: x3 :: x4 :: x5 :: x6 :: x7 :: x8 :: x9 :: x10 :: x11 :: some v :: r) H Q := ⟨v, rfl, q⟩
theorem i_g12 {x0 x1 x2 x3 x4 x5 x6 x7 x8 x9 x10 x11 : Option V} (q : R (x0 :: x1 :: x2 :: x3 :: x4 :: x5 :: x6 :: x7 :: x8 :: x9 :: x10 :: x11 :: some v :: r) H) : gName 12 v (x0 :: x1 :: x2 :: x3 :: x4 :: x5 :: x6 :: x7 :: x8 :: x9 :: x10 :: x11 :: y :: r) H R := q
theorem i_v13 {x0 x1 x2 x3 x4 x5 x6 x7 x8 x9 x10 x11 x12 : Option V} (q : Q v H) : tVar 13 (x0 :: x1 :: x2 :: x3 :: x4 :: x5 :: x6 :: x7 :: x8 :: x9 :: x10 :: x11 :: x12 :: some v :: r) H Q := ⟨v, rfl, q⟩
theorem i_g13 {x0 x1 x2 x3 x4 x5 x6 x7 x8 x9 x10 x11 x12 : Option V} (q : R (x0 :: x1 :: x2 :: x3 :: x4 :: x5 :: x6 :: x7 :: x8 :: x9 :: x10 :: x11 :: x12 :: some v :: r) H) : gName 13 v (x0 :: x1 :: x2 :: x3 :: x4 :: x5 :: x6 :: x7 :: x8 :: x9 :: x10 :: x11 :: x12 :: y :: r) H R := q
theorem i_v14 {x0 x1 x2 x3 x4 x5 x6 x7 x8 x9 x10 x11 x12 x13 : Option V} (q : Q v H) : tVar 14 (x0 :: x1 :: x2 :: x3 :: x4 :: x5 :: x6 :: x7 :: x8 :: x9 :: x10 :: x11 :: x12 :: x13 :: some v :: r) H Q := ⟨v, rfl, q⟩
theorem i_g14 {x0 x1 x2 x3 x4 x5 x6 x7 x8 x9 x10 x11 x12 x13 : Option V} (q : R (x0 :: x1 :: x2 :: x3 :: x4 :: x5 :: x6 :: x7 :: x8 :: x9 :: x10 :: x11 :: x12 :: x13 :: some v :: r) H) : gName 14 v (x0 :: x1 :: x2 :: x3 :: x4 :: x5 :: x6 :: x7 :: x8 :: x9 :: x10 :: x11 :: x12 :: x13 :: y :: r) H R := q
theorem i_v15 {x0 x1 x2 x3 x4 x5 x6 x7 x8 x9 x10 x11 x12 x13 x14 : Option V} (q : Q v H) : tVar 15 (x0 :: x1 :: x2 :: x3 :: x4 :: x5 :: x6 :: x7 :: x8 :: x9 :: x10 :: x11 :: x12 :: x13 :: x14 :: some v :: r) H Q := ⟨v, rfl, q⟩
theorem i_g15 {x0 x1 x2 x3 x4 x5 x6 x7 x8 x9 x10 x11 x12 x13 x14 : Option V} (q : R (x0 :: x1 :: x2 :: x3 :: x4 :: x5 :: x6 :: x7 :: x8 :: x9 :: x10 :: x11 :: x12 :: x13 :: x14 :: some v :: r) H) : gName 15 v (x0 :: x1 :: x2 :: x3 :: x4 :: x5 :: x6 :: x7 :: x8 :: x9 :: x10 :: x11 :: x12 :: x13 :: x14 :: y :: r) H R := q
theorem i_v16 {x0 x1 x2 x3 x4 x5 x6 x7 x8 x9 x10 x11 x12 x13 x14 x15 : Option V} (q : Q v H) : tVar 16 (x0 :: x1 :: x2 :: x3 :: x4 :: x5 :: x6 :: x7 :: x8 :: x9 :: x10 :: x11 :: x12 :: x13 :: x14 :: x15 :: some v :: r) H Q := ⟨v, rfl, q⟩
theorem i_g16 {x0 x1 x2 x3 x4 x5 x6 x7 x8 x9 x10 x11 x12 x13 x14 x15 : Option V} (q : R (x0 :: x1 :: x2 :: x3 :: x4 :: x5 :: x6 :: x7 :: x8 :: x9 :: x10 :: x11 :: x12 :: x13 :: x14 :: x15 :: some v :: r) H) : gName 16 v (x0 :: x1 :: x2 :: x3 :: x4 :: x5 :: x6 :: x7 :: x8 :: x9 :: x10 :: x11 :: x12 :: x13 :: x14 :: x15 :: y :: r) H R := q
theorem i_v17 {x0 x1 x2 x3 x4 x5 x6 x7 x8 x9 x10 x11 x12 x13 x14 x15 x16 : Option V} (q : Q v H) : tVar 17 (x0 :: x1 :: x2 :: x3 :: x4 :: x5 :: x6 :: x7 :: x8 :: x9 :: x10 :: x11 :: x12 :: x13 :: x14 :: x15 :: x16 :: some v :: r) H Q := ⟨v, rfl, q⟩
theorem i_g17 {x0 x1 x2 x3 x4 x5 x6 x7 x8 x9 x10 x11 x12 x13 x14 x15 x16 : Option V} (q : R (x0 :: x1 :: x2 :: x3 :: x4 :: x5 :: x6 :: x7 :: x8 :: x9 :: x10 :: x11 :: x12 :: x13 :: x14 :: x15 :: x16 :: some v :: r) H) : gName 17 v (x0 :: x1 :: x2 :: x3 :: x4 :: x5 :: x6 :: x7 :: x8 :: x9 :: x10 :: x11 :: x12 :: x13 :: x14 :: x15 :: x16 :: y :: r) H R := q
theorem i_v18 {x0 x1 x2 x3 x4 x5 x6 x7 x8 x9 x10 x11 x12 x13 x14 x15 x16 x17 : Option V} (q : Q v H) : tVar 18 (x0 :: x1 :: x2 :: x3 :: x4 :: x5 :: x6 :: x7 :: x8 :: x9 :: x10 :: x11 :: x12 :: x13 :: x14 :: x15 :: x16 :: x17 :: some v :: r) H Q := ⟨v, rfl, q⟩
theorem i_g18 {x0 x1 x2 x3 x4 x5 x6 x7 x8 x9 x10 x11 x12 x13 x14 x15 x16 x17 : Option V} (q : R (x0 :: x1 :: x2 :: x3 :: x4 :: x5 :: x6 :: x7 :: x8 :: x9 :: x10 :: x11 :: x12 :: x13 :: x14 :: x15 :: x16 :: x17 :: some v :: r) H) : gName 18 v (x0 :: x1 :: x2 :: x3 :: x4 :: x5 :: x6 :: x7 :: x8 :: x9 :: x10 :: x11 :: x12 :: x13 :: x14 :: x15 :: x16 :: x17 :: y :: r) H R := q
theorem i_v19 {x0 x1 x2 x3 x4 x5 x6 x7 x8 x9 x10 x11 x12 x13 x14 x15 x16 x17 x18 : Option V} (q : Q v H) : tVar 19 (x0 :: x1 :: x2 :: x3 :: x4 :: x5 :: x6 :: x7 :: x8 :: x9 :: x10 :: x11 :: x12 :: x13 :: x14 :: x15 :: x16 :: x17 :: x18 :: some v :: r) H Q := ⟨v, rfl, q⟩
theorem i_g19 {x0 x1 x2 x3 x4 x5 x6 x7 x8 x9 x10 x11 x12 x13 x14 x15 x16 x17 x18 : Option V} (q : R (x0 :: x1 :: x2 :: x3 :: x4 :: x5 :: x6 :: x7 :: x8 :: x9 :: x10 :: x11 :: x12 :: x13 :: x14 :: x15 :: x16 :: x17 :: x18 :: some v :: r) H) : gName 19 v (x0 :: x1 :: x2 :: x3 :: x4 :: x5 :: x6 :: x7 :: x8 :: x9 :: x10 :: x11 :: x12 :: x13 :: x14 :: x15 :: x16 :: x17 :: x18 :: y :: r) H R := q
theorem i_v20 {x0 x1 x2 x3 x4 x5 x6 x7 x8 x9 x10 x11 x12 x13 x14 x15 x16 x17 x18 x19 : Option V} (q : Q v H) : tVar 20 (x0 :: x1 :: x2 :: x3 :: x4 :: x5 :: x6 :: x7 :: x8 :: x9 :: x10 :: x11 :: x12 :: x13 :: x14 :: x15 :: x16 :: x17 :: x18 :: x19 :: some v :: r) H Q := ⟨v, rfl, q⟩
theorem i_g20 {x0 x1 x2 x3 x4 x5 x6 x7 x8 x9 x10 x11 x12 x13 x14 x15 x16 x17 x18 x19 : Option V} (q : R (x0 :: x1 :: x2 :: x3 :: x4 :: x5 :: x6 :: x7 :: x8 :: x9 :: x10 :: x11 :: x12 :: x13 :: x14 :: x15 :: x16 :: x17 :: x18 :: x19 :: some v :: r) H) : gName 20 v (x0 :: x1 :: x2 :: x3 :: x4 :: x5 :: x6 :: x7 :: x8 :: x9 :: x10 :: x11 :: x12 :: x13 :: x14 :: x15 :: x16 :: x17 :: x18 :: x19 :: y :: r) H R := q
theorem i_v21 {x0 x1 x2 x3 x4 x5 x6 x7 x8 x9 x10 x11 x12 x13 x14 x15 x16 x17 x18 x19 x20 : Option V} (q : Q v H) : tVar 21 (x0 :: x1 :: x2 :: x3 :: x4 :: x5 :: x6 :: x7 :: x8 :: x9 :: x10 :: x11 :: x12 :: x13 :: x14 :: x15 :: x16 :: x17 :: x18 :: x19 :: x20 :: some v :: r) H Q := ⟨v, rfl, q⟩
theorem i_g21 {x0 x1 x2 x3 x4 x5 x6 x7 x8 x9 x10 x11 x12 x13 x14 x15 x16 x17 x18 x19 x20 : Option V} (q : R (x0 :: x1 :: x2 :: x3 :: x4 :: x5 :: x6 :: x7 :: x8 :: x9 :: x10 :: x11 :: x12 :: x13 :: x14 :: x15 :: x16 :: x17 :: x18 :: x19 :: x20 :: some v :: r) H) : gName 21 v (x0 :: x1 :: x2 :: x3 :: x4 :: x5 :: x6 :: x7 :: x8 :: x9 :: x10 :: x11 :: x12 :: x13 :: x14 :: x15 :: x16 :: x17 :: x18 :: x19 :: x20 :: y :: r) H R := q
theorem i_v22 {x0 x1 x2 x3 x4 x5 x6 x7 x8 x9 x10 x11 x12 x13 x14 x15 x16 x17 x18 x19 x20 x21 : Option V} (q : Q v H) : tVar 22 (x0 :: x1 :: x2 :: x3 :: x4 :: x5 :: x6 :: x7 :: x8 :: x9 :: x10 :: x11 :: x12 :: x13 :: x14 :: x15 :: x16 :: x17 :: x18 :: x19 :: x20 :: x21 :: some v :: r) H Q := ⟨v, rfl, q⟩
theorem i_g22 {x0 x1 x2 x3 x4 x5 x6 x7 x8 x9 x10 x11 x12 x13 x14 x15 x16 x17 x18 x19 x20 x21 : Option V} (q : R (x0 :: x1 :: x2 :: x3 :: x4 :: x5 :: x6 :: x7 :: x8 :: x9 :: x10 :: x11 :: x12 :: x13 :: x14 :: x15 :: x16 :: x17 :: x18 :: x19 :: x20 :: x21 :: some v :: r) H) : gName 22 v (x0 :: x1 :: x2 :: x3 :: x4 :: x5 :: x6 :: x7 :: x8 :: x9 :: x10 :: x11 :: x12 :: x13 :: x14 :: x15 :: x16 :: x17 :: x18 :: x19 :: x20 :: x21 :: y :: r) H R := q
theorem i_v23 {x0 x1 x2 x3 x4 x5 x6 x7 x8 x9 x10 x11 x12 x13 x14 x15 x16 x17 x18 x19 x20 x21 x22 : Option V} (q : Q v H) : tVar 23 (x0 :: x1 :: x2 :: x3 :: x4 :: x5 :: x6 :: x7 :: x8 :: x9 :: x10 :: x11 :: x12 :: x13 :: x14 :: x15 :: x16 :: x17 :: x18 :: x19 :: x20 :: x21 :: x22 :: some v :: r) H Q := ⟨v, rfl, q⟩
theorem i_g23 {x0 x1 x2 x3 x4 x5 x6 x7 x8 x9 x10 x11 x12 x13 x14 x15 x16 x17 x18 x19 x20 x21 x22 : Option V} (q : R (x0 :: x1 :: x2 :: x3 :: x4 :: x5 :: x6 :: x7 :: x8 :: x9 :: x10 :: x11 :: x12 :: x13 :: x14 :: x15 :: x16 :: x17 :: x18 :: x19 :: x20 :: x21 :: x22 :: some v :: r) H) : gName 23 v (x0 :: x1 :: x2 :: x3 :: x4 :: x5 :: x6 :: x7 :: x8 :: x9 :: x10 :: x11 :: x12 :: x13 :: x14 :: x15 :: x16 :: x17 :: x18 :: x19 :: x20 :: x21 :: x22 :: y :: r) H R := q
end
section
variable {σ : L2.St} {H : Hp} {v : V} {a c d : L2.St → Hp → Prop} {b : VK}
theorem i_nx (q : a σ H) : Ends.nx ⟨a, b, c, d⟩ σ H := q
theorem i_rt (q : b v H) : Ends.rt ⟨a, b, c, d⟩ v H := q
theorem i_bk (q : c σ H) : Ends.bk ⟨a, b, c, d⟩ σ H := q
theorem i_ct (q : d σ H) : Ends.ct ⟨a, b, c, d⟩ σ H := q
end
end Z
namespace Z
open PySem PySem.Spec PyProof.Rows L2
open C8 (tCut pss_cut Cal pe_c Met pe_mt pe_mt0 Mak pe_mk)
/-! ### calls of built-ins, items, methods, by names -/
def zInt : List V → Hp → VK → Prop := fun xs H Q => (∃ i, xs = [.int i] ∧ Q (.int i) H) ∨ ∃ k, xs = [.bl k] ∧ Q (.int (if k = true then 1 else 0)) H
def zLenS : List V → Hp → VK → Prop := fun xs H Q => ∃ z : Str, xs = [.str z] ∧ z.length ≤ sizeLine ∧ Q (.int z.length) H
def zLen (K : PySem.W.Frag) : List V → Hp → VK → Prop := fun xs H Q => ∃ p ys, xs = [.ref p] ∧ (SqL K H p ys ∨ SqT K H p ys) ∧ Q (.int ys.length) H
def zAbs : List V → Hp → VK → Prop := fun xs H Q => ∃ i : Int, xs = [.int i] ∧ Q (.int (if i < 0 then -i else i)) H
def zMax : List V → Hp → VK → Prop := fun xs H Q => ∃ i j : Int, xs = [.int i, .int j] ∧ Q (.int (if j > i then j else i)) H
def zMin : List V → Hp → VK → Prop := fun xs H Q => ∃ i j : Int, xs = [.int i, .int j] ∧ Q (.int (if j < i then j else i)) H
def zList (K : PySem.W.Frag) : List V → Hp → VK → Prop := fun xs H Q => ∃ p ys, xs = [.ref p] ∧ (SqL K H p ys ∨ SqT K H p ys) ∧ ∀ l, H l = none → Q (.ref l) (upd H l (.lst ys))
def zTuple (K : PySem.W.Frag) : List V → Hp → VK → Prop := fun xs H Q => ∃ p ys, xs = [.ref p] ∧ ((SqL K H p ys ∧ ∀ l, H l = none → Q (.ref l) (upd H l (.tup ys))) ∨ SqT K H p ys ∧ Q (.ref p) H)
section
variable {X : Cx}
theorem zc_int : CallR X (.type "int") zInt := call_int1
theorem zc_lens : CallR X (.builtin "len") zLenS := call_len_str
theorem zc_len : CallR X (.builtin "len") (zLen X.K) := call_len_seq
theorem zc_abs : CallR X (.builtin "abs") zAbs := call_abs
theorem zc_max (hc : X.calm = true) : CallR X (.builtin "max") zMax := call_max2 hc
theorem zc_min (hc : X.calm = true) : CallR X (.builtin "min") zMin := call_min2 hc
theorem zc_list : CallR X (.type "list") (zList X.K) := call_list_of
theorem zc_tuple : CallR X (.type "tuple") (zTuple X.K) := call_tuple_of
end
section
variable {σ : L2.St} {H : Hp} {Q : VK} {D : Ends} {K : PySem.W.Frag} {i j : Int} {a b : List Nat} {x y v : V} {p : Addr} {xs : List V}
theorem i_int (q : Q (.int i) H) : zInt [.int i] H Q := .inl ⟨i, rfl, q⟩
theorem i_intB {k : Bool} (q : Q (.int (if k = true then 1 else 0)) H) : zInt [.bl k] H Q := .inr ⟨k, rfl, q⟩
theorem le_line {n : Nat} (h : n ≤ 100000) : n ≤ sizeLine := Nat.le_trans h (by decide)
theorem lt_line {n : Nat} (h : n < 100000) : n < sizeLine := Nat.lt_of_lt_of_le h (by decide)
theorem i_lens (h : a.length ≤ 100000) (q : Q (.int (a.length : Int)) H) : zLenS [.str (S a)] H Q := ⟨_, rfl, by rw [S_len]; exact le_line h, by rw [S_len]; exact q⟩
theorem i_lenL (h : SqL K H p xs) (q : Q (.int (xs.length : Int)) H) : zLen K [.ref p] H Q := ⟨p, xs, rfl, .inl h, q⟩
theorem i_lenT (h : SqT K H p xs) (q : Q (.int (xs.length : Int)) H) : zLen K [.ref p] H Q := ⟨p, xs, rfl, .inr h, q⟩
theorem i_abs (q : Q (.int (if i < 0 then -i else i)) H) : zAbs [.int i] H Q := ⟨i, rfl, q⟩
theorem i_max (q : Q (.int (if j > i then j else i)) H) : zMax [.int i, .int j] H Q := ⟨i, j, rfl, q⟩
theorem i_min (q : Q (.int (if j < i then j else i)) H) : zMin [.int i, .int j] H Q := ⟨i, j, rfl, q⟩
theorem i_listL (h : SqL K H p xs) (q : ∀ l, H l = none → Q (.ref l) (upd H l (.lst xs))) : zList K [.ref p] H Q := ⟨p, xs, rfl, .inl h, q⟩
theorem i_tupleL (h : SqL K H p xs) (q : ∀ l, H l = none → Q (.ref l) (upd H l (.tup xs))) : zTuple K [.ref p] H Q := ⟨p, xs, rfl, .inl ⟨h, q⟩⟩
theorem i_ixL (h : SqL K H p xs) (ha : atI xs i = some v) (q : Q v H) : rIxL K (.ref p) (.int i) H Q := ⟨p, xs, i, v, rfl, rfl, h, ha, q⟩
theorem i_ixT (h : SqT K H p xs) (ha : atI xs i = some v) (q : Q v H) : rIxT K (.ref p) (.int i) H Q := ⟨p, xs, i, v, rfl, rfl, h, ha, q⟩
theorem i_ixS {c : Nat} (hz : a.length ≤ 100000) (ha : atI a i = some c) (q : Q (.str (S [c])) H) : rIxS (.str (S a)) (.int i) H Q :=
  ⟨S a, i, c, rfl, rfl, by rw [S_len]; exact le_line hz, ha, q⟩
theorem i_setL {k : Int} {n : Nat} {R : Hp → Prop} (h : H p = some (.lst xs)) (hn : ixN xs.length k = some n) (q : R (upd H p (.lst (xs.set n v)))) : rSetL (.ref p) (.int k) v H R := ⟨p, xs, k, n, rfl, rfl, h, hn, q⟩
theorem at_nat {α : Type} {xs : List α} {i : Int} {v : α} (h0 : 0 ≤ i) (h : xs[i.toNat]? = some v) : atI xs i = some v := by
  obtain ⟨n, rfl⟩ : ∃ n : Nat, i = n := ⟨i.toNat, by omega⟩
  exact atI_nat (by simpa using h)
theorem at_lt {α : Type} {xs : List α} {i : Int} (h0 : 0 ≤ i) (h1 : i < xs.length) : atI xs i = some (xs[i.toNat]'(by omega)) :=
  at_nat h0 (List.getElem?_eq_getElem (by omega))
theorem i_cut {t u : TS} (Mid : L2.St → Hp → Prop) (h1 : t { D with nx := Mid } σ H) (h2 : ∀ σ' H', Mid σ' H' → u D σ' H') : tCut t u D σ H := ⟨Mid, h1, h2⟩
theorem cdivw (h0 : 0 < j) (h : j < 2 ^ 200) : CDivW i j := by
  refine ⟨h0, ?_⟩
  have h2 : j.natAbs < 2 ^ 200 := by omega
  have h3 : j.natAbs ≠ 0 := by omega
  have h4 : Nat.log2 j.natAbs < 200 := (Nat.log2_lt h3).2 h2
  omega
end
/-! ### what the hand of a law is, and what a draw leaves -/
structure HandOk (H : Hp) (h : Addr) : Prop where
  ex : ∃ (c : Addr) (cells : List Int) (a1 a2 a3 a4 : Int), H h = some (.lst [.ref c, .int a1, .int a2, .int a3, .int a4]) ∧ H c = some (.lst (cells.map V.int)) ∧ (∀ x ∈ cells, 0 ≤ x) ∧ 0 ≤ a1 ∧ 0 ≤ a2 ∧ 0 ≤ a3 ∧ a3 < 2147483647 ∧ 0 ≤ a4
/-- all but the hand is as it was, the hand is one, over the same cells -/
structure Gd (h : Addr) (H H' : Hp) : Prop where
  ok : HandOk H' h
  kp : ∀ b o, H b = some o → b ≠ h → H' b = some o
  ok0 : HandOk H h
  cell : ∃ (c : Addr) (r r' : List V), H h = some (.lst (.ref c :: r)) ∧ H' h = some (.lst (.ref c :: r'))
theorem Gd.of {h c : Addr} {H H' : Hp} {r r' : List V} (k0 : HandOk H h) (e0 : H h = some (.lst (.ref c :: r))) (e1 : H' h = some (.lst (.ref c :: r'))) (k : HandOk H' h) (kp : ∀ b o, H b = some o → b ≠ h → H' b = some o) : Gd h H H' :=
  ⟨k, kp, k0, c, r, r', e0, e1⟩
theorem Gd.refl {h : Addr} {H : Hp} (k : HandOk H h) : Gd h H H := by
  obtain ⟨c, _, _, _, _, _, e, _⟩ := k.ex
  exact ⟨k, fun _ _ e _ => e, k, c, _, _, e, e⟩
theorem Gd.trans {h : Addr} {H H1 H2 : Hp} (a : Gd h H H1) (b : Gd h H1 H2) : Gd h H H2 := by
  obtain ⟨c, r, r1, e0, e1⟩ := a.cell
  obtain ⟨c', r1', r2, e1', e2⟩ := b.cell
  have q := Option.some.inj (e1.symm.trans e1')
  have q2 : c = c' := by
    have := (List.cons.inj (HO.lst.inj q)).1
    exact V.ref.inj this
  subst q2
  exact ⟨b.ok, fun c o e n => b.kp c o (a.kp c o e n) n, a.ok0, c, r, r2, e0, e2⟩
theorem HandOk.some {h : Addr} {H : Hp} (k : HandOk H h) : ∃ o, H h = some o := by obtain ⟨_, _, _, _, _, _, e, _⟩ := k.ex; exact ⟨_, e⟩
theorem map_int_ne {c : Addr} {cells : List Int} {r : List V} : HO.lst (.ref c :: r) ≠ HO.lst (cells.map V.int) := fun e => by
  cases cells with
  | nil => cases e
  | cons a l =>
    have e2 := (List.cons.inj (HO.lst.inj e)).1
    cases e2
theorem HandOk.new {h p : Addr} {o : HO} {H : Hp} (k : HandOk H h) (hp : H p = none) : HandOk (upd H p o) h := by
  obtain ⟨c, cells, a1, a2, a3, a4, e1, e2, r⟩ := k.ex
  exact ⟨c, cells, a1, a2, a3, a4, by rw [upd_ne (ne_of_none e1 hp)]; exact e1, by rw [upd_ne (ne_of_none e2 hp)]; exact e2, r⟩
theorem Gd.new {h p : Addr} {o : HO} {H H' : Hp} (g : Gd h H H') (hp : H' p = none) : Gd h H (upd H' p o) := by
  obtain ⟨c, r, r', e0, e1⟩ := g.cell
  exact ⟨g.ok.new hp, fun b u e n => by have := g.kp b u e n; rw [upd_ne (ne_of_none this hp)]; exact this, g.ok0, c, r, r', e0, by rw [upd_ne (ne_of_none e1 hp)]; exact e1⟩
theorem Gd.mutz {h p : Addr} {o : HO} {H H' : Hp} (g : Gd h H H') (hp : H p = none) : Gd h H (upd H' p o) := by
  obtain ⟨c, r, r', e0, e1⟩ := g.cell
  obtain ⟨c0, cells0, _, _, _, _, f0, f1, _⟩ := g.ok0.ex
  obtain ⟨c1, cells, a1, a2, a3, a4, g0, g1, rest⟩ := g.ok.ex
  have q0 : c = c0 := by
    have := (List.cons.inj (HO.lst.inj (Option.some.inj (e0.symm.trans f0)))).1
    exact V.ref.inj this
  have q1 : c = c1 := by
    have := (List.cons.inj (HO.lst.inj (Option.some.inj (e1.symm.trans g0)))).1
    exact V.ref.inj this
  subst q0 q1
  have n1 : h ≠ p := ne_of_none e0 hp
  have n2 : c ≠ p := ne_of_none f1 hp
  exact ⟨⟨c, cells, a1, a2, a3, a4, by rw [upd_ne n1]; exact g0, by rw [upd_ne n2]; exact g1, rest⟩, fun b u e n => by rw [upd_ne (ne_of_none e hp)]; exact g.kp b u e n, g.ok0, c, r, r', e0, by rw [upd_ne n1]; exact e1⟩
end Z
namespace Z
open PySem PySem.Spec PyProof.Rows L2
theorem i_setH {H : Hp} {p : Addr} {xs : List V} {k : Int} {n : Nat} {v : V} {R : Hp → Prop} (h : H p = some (.lst xs)) (hn : ixN xs.length k = some n) (L : List V) (hL : xs.set n v = L) (q : ∀ H1, H1 = upd H p (.lst L) → R H1) : rSetL (.ref p) (.int k) v H R := by
  subst hL
  exact ⟨p, xs, k, n, rfl, rfl, h, hn, q _ rfl⟩
theorem hstep {h c : Addr} {H0 H H1 : Hp} {L : List V} {cells : List Int} (e : H1 = upd H h (.lst L)) (hne : c ≠ h) (e2 : H c = some (.lst (cells.map V.int))) (kp : ∀ b o, H0 b = some o → b ≠ h → H b = some o) :
    H1 h = some (.lst L) ∧ H1 c = some (.lst (cells.map V.int)) ∧ (∀ b o, H0 b = some o → b ≠ h → H1 b = some o) := by
  subst e
  exact ⟨upd_same, by rw [upd_ne hne]; exact e2, fun b o e n => by rw [upd_ne n]; exact kp b o e n⟩
end Z
namespace Z
open PySem PySem.Spec PyProof.Rows L2
open C8 (tCut pss_cut Cal pe_c Met pe_mt pe_mt0 Mak pe_mk)
/-! ### defs of the text -/
structure DF (K : PySem.W.Frag) (mg : Str → Option Value) (x : Str) (st : Stmt) : Prop where
  ex : ∃ (f : Addr) (fd : FuncData), Fun K x x st f fd ∧ mg x = some (.ref f)
section
variable {P : Program} {w : World} {K : PySem.W.Frag} {mg : Str → Option Value} {base : Heap}
theorem DF.cal {x : Str} {st : Stmt} {N ps : List Str} {k : Nat} {sp : Sp} (d : DF K mg x st) (S : FnScope N ps (defScope st))
    (hb : ∀ (kV doc pm : Value) (an : Option Addr) (cdv ct : Value) (us : List Value), us.length = ps.length → bindArgs (PySem.W.fnOf x x (defArgs st) (defBody st) (defScope st) .none kV doc pm an cdv ct) ⟨us, []⟩ = pure (ps.zip us))
    (len : ∀ vs H Q E, sp vs H Q E → vs.length = ps.length)
    (hbody : ∀ (f : Addr) (cdv : Value) (A : Around) (outer : List Env) (s : Shared) (H : Hp) (vs : List V) (Q : VK) (E : XK), Room k (A.deeper (envOfC x (defScope st) s.heap.objs.size f cdv)) → sp vs H Q E →
      ∃ t, PSs (cxOf CX0 P w K mg base N x (defScope st) f cdv A outer s H E).nox (defBody st) t ∧ t { nx := fun _ H' => Q .non H', rt := Q } (start N vs) H) : Cal P w K mg base (k + 1) x sp [] := by
  obtain ⟨f, fd, F, hm⟩ := d.ex
  exact ⟨f, fd, ps, [], F.ok S len (hbody f), hm, F.kp, F.binds hb, .nil⟩
end
/-- the built-ins stand as they are -/
structure Bi (mg : Str → Option Value) : Prop where
  range : mg "range" = none
  len : mg "len" = none
  abs : mg "abs" = none
  int : mg "int" = none
  str : mg "str" = none
  bool : mg "bool" = none
  list : mg "list" = none
  tuple : mg "tuple" = none
  dict : mg "dict" = none
  set : mg "set" = none
  isinstance : mg "isinstance" = none
  all : mg "all" = none
  any : mg "any" = none
  sum : mg "sum" = none
  max : mg "max" = none
  min : mg "min" = none
  sorted : mg "sorted" = none
  zip : mg "zip" = none
  enumerate : mg "enumerate" = none
  reversed : mg "reversed" = none
/-! ### the promises of the hand -/
def spHand (K : PySem.W.Frag) : Sp := fun vs H Q _ => ∃ (a : Addr) (ns : List Int), vs = [.ref a] ∧ SqL K H a (ns.map V.int) ∧ ns.length ≤ 1000 ∧ ∀ h H', H h = none → HandOk H' h → Same H H' → Q (.ref h) H'
def spDraw : Sp := fun vs H Q _ => ∃ (h : Addr) (m : Int), vs = [.ref h, .int m] ∧ HandOk H h ∧ 0 < m ∧ m < 2 ^ 200 ∧ ∀ (r : Nat) H', (r : Int) < m → Gd h H H' → Q (.int (r : Int)) H'
theorem use_draw {h : Addr} {m : Int} {H : Hp} {Q : VK} {E : XK} (hh : HandOk H h) (h0 : 0 < m) (h1 : m < 2 ^ 200) (k : ∀ (r : Nat) H', (r : Int) < m → Gd h H H' → Q (.int (r : Int)) H') : spDraw ([.ref h, .int m] ++ []) H Q E :=
  ⟨h, m, rfl, hh, h0, h1, k⟩
theorem draw_k {h : Addr} {m r : Int} {H H' : Hp} {Q : VK} (k : ∀ (r : Nat) H', (r : Int) < m → Gd h H H' → Q (.int (r : Int)) H') (h0 : 0 ≤ r) (h1 : r < m) (g : Gd h H H') : Q (.int r) H' := by
  obtain ⟨n, rfl⟩ := Int.eq_ofNat_of_zero_le h0
  exact k n H' h1 g
end Z
namespace Z
open PySem PySem.Spec PyProof.Rows L2
theorem zstart {t : TS} {D : Ends} {σ : L2.St} {H : Hp} (L : L2.St) (h : σ = L) (q : t D L H) : t D σ H := h ▸ q
end Z
namespace Z
open PySem PySem.Spec PyProof.Rows L2
theorem zK {CX : CXT} {P : Program} {w : World} {K : PySem.W.Frag} {mg : Str → Option Value} {base : Heap} {N : List Str} {qual : Str} {scope : Scope} {f : Addr} {cd : Value} {A : Around} {outer : List Env} {s : Shared} {H : Hp} {E : XK} :
    (cxOf CX P w K mg base N qual scope f cd A outer s H E).nox.K = K := rfl
theorem zK2 {CX : CXT} {P : Program} {w : World} {K : PySem.W.Frag} {mg : Str → Option Value} {base : Heap} {N : List Str} {qual : Str} {scope : Scope} {f : Addr} {cd : Value} {A : Around} {outer : List Env} {s : Shared} {H : Hp} {E : XK} :
    (cxOf CX P w K mg base N qual scope f cd A outer s H E).K = K := rfl
end Z
namespace Z
open PySem PySem.Spec PyProof.Rows L2
open PySem.Sem (wp)
/-! ### zip over texts, lists, tuples, in any mixture -/
inductive Sd where
  | str (z : Str) | lst (a : Addr) | tup (a : Addr)
def Sd.is (K : PySem.W.Frag) (H : Hp) : Sd → List V → Prop
  | .str z, xs => xs = (codes z).map fun c => V.str (S [c])
  | .lst a, xs => SqL K H a xs
  | .tup a, xs => SqT K H a xs
def Sd.cell (it : Addr) (i : Nat) (h : Heap) : Sd → Prop
  | .str z => ∃ t, h.IsStrIter it (strIterType z) z t i
  | .lst a => h.IsListIter it a i
  | .tup a => h.IsTupleIter it a i
def Sd.off (b : Addr) : Sd → Prop
  | .str _ => True
  | .lst a => a ≠ b
  | .tup a => a ≠ b
def Sd.val : V → Sd → Prop
  | v, .str z => v = .str z
  | v, .lst a => v = .ref a
  | v, .tup a => v = .ref a
theorem Draws.tuple {prog : Program} {w : World} {A : Around} (hh : A.handled = none) (it l : Addr) (hne : l ≠ it) (items : Array Value) :
    Draws prog w A it [it, l] items.size (fun i v => items[i]? = some v) (fun i h => h.IsTupleIter it l i ∧ h.IsTuple l items) where
  live := fun _ _ st => let ⟨o, ho, _⟩ := st.1; ⟨o, ho⟩
  frame := fun _ _ _ st hk => ⟨st.1.at fun o e => hk it (by simp) o e, st.2.at fun o e => hk l (by simp) o e⟩
  item := fun i s Q E hi st hQ => by
    refine RZ.nextOf_tuple_item st.1 st.2 (x := items[i]) (by simp [hi]) fun h' hit' hs' => ?_
    exact hQ _ h' s.toks (by simp [hi]) ⟨hit', st.2.at fun o e => hs'.extBut _ _ hne e⟩ hs'
  done := fun s Q E st hE => RZ.nextOf_tuple_end hh st.1 st.2 (by simp) hE
section
variable {X : Cx} {pins : List (Addr × Obj)} {σ : L2.St} {H : Hp} {s : Shared}
theorem Sd.cell_keep {c : Sd} {it : Addr} {i : Nat} {h h' : Heap} (st : c.cell it i h) (k : ∀ o, h.get? it = some o → h'.get? it = some o) : c.cell it i h' := by
  cases c with
  | str z => obtain ⟨t, o, ho, r⟩ := st; exact ⟨t, o, k o ho, r⟩
  | lst a => exact Heap.IsListIter.at st k
  | tup a => exact Heap.IsTupleIter.at st k
theorem Sd.cell_obj {c : Sd} {it : Addr} {i : Nat} {h : Heap} (st : c.cell it i h) : ∃ o, h.get? it = some o ∧ ∀ v, o.data ≠ .cell v := by
  cases c with
  | str z => obtain ⟨t, o, ho, _, d⟩ := st; exact ⟨o, ho, fun v q => by rw [d] at q; cases q⟩
  | lst a => obtain ⟨o, ho, _, d⟩ := st; exact ⟨o, ho, fun v q => by rw [d] at q; cases q⟩
  | tup a => obtain ⟨o, ho, _, d⟩ := st; exact ⟨o, ho, fun v q => by rw [d] at q; cases q⟩
/-- one side of a zip as an iterator that draws -/
theorem Sd.draws {A : Around} (hh : A.handled = none) {c : Sd} {it : Addr} {i : Nat} {xs : List V} (I : Inv X pins σ H s) (st : c.cell it i s.heap) (hx : c.is X.K H xs) (ho : c.off it) :
    ∃ fp P St, Draws X.prog X.w A it fp xs.length P St ∧ St i s.heap ∧ it ∈ fp ∧ (∀ b, b ∈ fp → b = it ∨ ¬ c.off b) ∧ (∀ j v, P j v → ∃ x, xs[j]? = some x ∧ RelV x v) ∧ ∀ j h, St j h → c.cell it j h := by
  cases c with
  | str z =>
    obtain ⟨t, st⟩ := st
    have hx : xs = (codes z).map fun c => V.str (S [c]) := hx
    have hl : xs.length = z.cps.size := by rw [hx]; simp
    have hP : ∀ (j : Nat) (v : Value), (∃ c u, z.cps[j]? = some c ∧ v = .str ⟨#[c]⟩ u) → ∃ x, xs[j]? = some x ∧ RelV x v := by
      rintro j v ⟨c, u, hc, rfl⟩
      refine ⟨.str (S [c]), ?_, ⟨u, rfl⟩⟩
      rw [hx, List.getElem?_map]
      have : (codes z)[j]? = some c := by simpa using hc
      rw [this]; rfl
    rw [hl]
    by_cases ha : z.cps.all (· < 128) = true
    · have e : strIterType z = "str_ascii_iterator" := if_pos ha
      rw [e] at st
      refine ⟨_, _, _, Draws.strAscii hh it z t, st, by simp, fun b hb => .inl (by simpa using hb), hP, fun j h q => ⟨t, ?_⟩⟩
      rw [e]; exact q
    · have e : strIterType z = "str_iterator" := if_neg ha
      rw [e] at st
      refine ⟨_, _, _, Draws.strWide hh it z t, st, by simp, fun b hb => .inl (by simpa using hb), hP, fun j h q => ⟨t, ?_⟩⟩
      rw [e]; exact q
  | lst a =>
    obtain ⟨its, rv, p, _⟩ := I.list hx
    have hl : xs.length = its.toArray.size := by rw [rv.length]; simp
    rw [hl]
    refine ⟨_, _, _, Draws.list hh it a ho its.toArray, ⟨st, p.isList⟩, by simp, fun b hb => ?_, fun j v hv => ?_, fun j h q => q.1⟩
    · rcases List.mem_cons.mp hb with q | q
      · exact .inl q
      · exact .inr fun o => o (List.mem_singleton.mp q).symm
    · have hv' : its[j]? = some v := by simpa using hv
      cases e : xs[j]? with
      | none => rw [rv.none_of e] at hv'; cases hv'
      | some x => obtain ⟨u, hu, ru⟩ := rv.get e; rw [hu] at hv'; cases hv'; exact ⟨x, rfl, ru⟩
  | tup a =>
    obtain ⟨its, rv, p, _⟩ := I.tuple hx
    have hl : xs.length = its.toArray.size := by rw [rv.length]; simp
    rw [hl]
    refine ⟨_, _, _, Draws.tuple hh it a ho its.toArray, ⟨st, p⟩, by simp, fun b hb => ?_, fun j v hv => ?_, fun j h q => q.1⟩
    · rcases List.mem_cons.mp hb with q | q
      · exact .inl q
      · exact .inr fun o => o (List.mem_singleton.mp q).symm
    · have hv' : its[j]? = some v := by simpa using hv
      cases e : xs[j]? with
      | none => rw [rv.none_of e] at hv'; cases hv'
      | some x => obtain ⟨u, hu, ru⟩ := rv.get e; rw [hu] at hv'; cases hv'; exact ⟨x, rfl, ru⟩
theorem Sd.is_inj {c : Sd} {xs ys : List V} (I : Inv X pins σ H s) (a : c.is X.K H xs) (b : c.is X.K H ys) : xs = ys := by
  cases c with
  | str z => exact a.trans b.symm
  | lst p => exact I.list_inj a b
  | tup p => exact I.tuple_inj a b
theorem Sd.is_new {K : PySem.W.Frag} {c : Sd} {xs : List V} {p : Addr} {o : HO} {H : Hp} (hp : H p = none) (a : c.is K H xs) : c.is K (upd H p o) xs := by
  have e : Same H (upd H p o) := fun b u q => by rw [upd_ne (ne_of_none q hp)]; exact q
  cases c with
  | str z => exact a
  | lst q => exact e.seq a
  | tup q =>
    rcases a with (h | ⟨u, h⟩) | h
    · exact .inl (.inl (e _ _ h))
    · exact .inl (.inr ⟨u, e _ _ h⟩)
    · exact .inr h
end
def ItZ (K : PySem.W.Frag) (c d : Sd) : It :=
  ⟨fun i H => ∃ (xs ys : List V), c.is K H xs ∧ d.is K H ys ∧ i < xs.length ∧ i < ys.length,
    fun i H v H' => ∃ T x y, v = .ref T ∧ H T = none ∧ H' = upd H T (.tup [x, y]) ∧ (∀ xs, c.is K H xs → xs[i]? = some x) ∧ ∀ ys, d.is K H ys → ys[i]? = some y,
    fun i H => ∃ xs ys : List V, c.is K H xs ∧ d.is K H ys ∧ i ≤ xs.length ∧ i ≤ ys.length ∧ (i = xs.length ∨ i = ys.length)⟩
structure ZApart (z TI TO i1 i2 : Addr) (c d : Sd) : Prop where
  TIz : TI ≠ z
  TOz : TO ≠ z
  TITO : TI ≠ TO
  TIi1 : TI ≠ i1
  TIi2 : TI ≠ i2
  i1z : i1 ≠ z
  i2z : i2 ≠ z
  i1T : i1 ≠ TO
  i2T : i2 ≠ TO
  i12 : i1 ≠ i2
  cf : ∀ b, b ∈ [z, TI, TO, i1, i2] → c.off b
  df : ∀ b, b ∈ [z, TI, TO, i1, i2] → d.off b
theorem turn_zipZ {P : Program} {w : World} {K : PySem.W.Frag} {elts : List Expr} {kk : Nat} {tpos : Pos} {c d : Sd} {z TI TO i1 i2 : Addr} (D : ZApart z TI TO i1 i2 c d) :
    Turn P w K (.Tuple elts kk tpos) (ItZ K c d) [z, TI, TO, i1, i2] z (fun i h => IsZip h z TI TO .none ∧ IsTupOf2 h TI (.ref i1) (.ref i2) ∧ (∃ x y, IsTupOf2 h TO x y) ∧ c.cell i1 i h ∧ d.cell i2 i h) where
  mem := by simp
  obj := fun i h st b hb => by
    obtain ⟨hz, hTI, ⟨x, y, hTO⟩, h1, h2⟩ := st
    have e' : b = z ∨ b = TI ∨ b = TO ∨ b = i1 ∨ b = i2 := by simpa using hb
    rcases e' with q | q | q | q | q
    · rw [q]; exact ⟨_, hz, fun v q => nomatch q⟩
    · rw [q]; exact ⟨_, hTI, fun v q => nomatch q⟩
    · rw [q]; exact ⟨_, hTO, fun v q => nomatch q⟩
    · rw [q]; exact Sd.cell_obj h1
    · rw [q]; exact Sd.cell_obj h2
  keep := fun i h h' st k => by
    obtain ⟨hz, hTI, ⟨x, y, hTO⟩, h1, h2⟩ := st
    exact ⟨k z (by simp) _ hz, k TI (by simp) _ hTI, ⟨x, y, k TO (by simp) _ hTO⟩, Sd.cell_keep h1 fun o q => k i1 (by simp) o q, Sd.cell_keep h2 fun o q => k i2 (by simp) o q⟩
  item := by
    intro X hP hw hK hc i pins s σ H E I hf st hg
    subst hP hw hK
    obtain ⟨hz, hTI, ⟨x0, y0, hTO⟩, h1, h2⟩ := st
    obtain ⟨xs, ys, hx, hy, li, lj⟩ := hg
    have hh : X.A.in1.handled = none := I.ok.hd hc
    obtain ⟨fp1, P1, St1, D1, s1, m1, f1, r1, b1⟩ := Sd.draws hh I h1 hx (D.cf i1 (by simp))
    obtain ⟨fp2, P2, St2, D2, s2, m2, f2, r2, b2⟩ := Sd.draws hh I h2 hy (D.df i2 (by simp))
    have nin : ∀ b, b ∈ [z, TI, TO, i1, i2] → b ≠ i1 → b ∉ fp1 := fun b hb n hm => by
      rcases f1 b hm with q | q
      · exact n q
      · exact q (D.cf b hb)
    have nin2 : ∀ b, b ∈ [z, TI, TO, i1, i2] → b ≠ i2 → b ∉ fp2 := fun b hb n hm => by
      rcases f2 b hm with q | q
      · exact n q
      · exact q (D.df b hb)
    have Zs : ZipSep2 z TI TO i1 i2 fp1 fp2 := ⟨D.TIz, D.TOz, D.TITO, D.TIi1, m1, nin z (by simp) D.i1z.symm, nin TO (by simp) D.i1T.symm, D.TIi2, m2, nin2 z (by simp) D.i2z.symm, nin2 TO (by simp) D.i2T.symm, nin2 i1 (by simp) D.i12, nin i2 (by simp) D.i12.symm⟩
    have hzl : z < s.heap.objs.size := Heap.lt_size hz
    refine wpAny_pyNext_zipD2_item Zs D1 D2 hz hTI hTO s1 s2 li lj fun u u2 h' tk p1 p2 z' TO' t1 t2 hT hsz hk => ?_
    obtain ⟨x, hxi, ru⟩ := r1 i u p1
    obtain ⟨y, hyi, ru2⟩ := r2 i u2 p2
    refine ⟨_, rfl, wpAny_letOwnedTupleGo_zip (s := { s with heap := h', toks := tk }) z' fun h'' z'' sb => ?_⟩
    have hT2 : h''.get? s.heap.objs.size = some { cls := .type "tuple", data := .seq #[u, u2] } := (sb.2 _ (Nat.ne_of_gt hzl)).trans hT
    have new : ObjOk X.prog X.w (upd H s.heap.objs.size (.tup [x, y])) h'' s.heap.objs.size (.tup [x, y]) :=
      ⟨by show 2 ≤ sizeLine; decide, [u, u2], .cons ru (.cons ru2 .nil), ⟨_, hT2, rfl, _, rfl⟩⟩
    have I1 : Inv X pins σ (upd H s.heap.objs.size (.tup [x, y])) { s with heap := h'', toks := tk } :=
      I.turnedNew (t' := tk) (ch := [z, TI, TO, i1, i2]) (fun c o hb q => (sb.2 c (fun q' => hb (by simp [q']))).trans (hk c o (fun q' => hb (by simp [q'])) (fun q' => hb (by simp [q'])) (fun q' => hb (by simp [q'])) (fun q' => hb (by simp [q'])) q)) hf (Nat.le_refl _) new
    refine ⟨.ref s.heap.objs.size, _, I1, rfl, ⟨_, x, y, rfl, I.hok.fresh (Nat.le_refl _), rfl, fun l hl => by rw [Sd.is_inj I hl hx]; exact hxi, fun l hl => by rw [Sd.is_inj I hl hy]; exact hyi⟩, ⟨z'', ?_, ⟨u, u2, ?_⟩, ?_, ?_⟩, fun c hcm => ?_⟩
    · exact (sb.2 _ D.TIz).trans (hk _ _ D.TIz D.TITO D.TIi1 D.TIi2 hTI)
    · exact (sb.2 _ D.TOz).trans TO'
    · exact Sd.cell_keep (b1 _ _ t1) fun o q => (sb.2 _ D.i1z).trans q
    · exact Sd.cell_keep (b2 _ _ t2) fun o q => (sb.2 _ D.i2z).trans q
    · have hlt : c < s.heap.objs.size := by
        have e' : c = z ∨ c = TI ∨ c = TO ∨ c = i1 ∨ c = i2 := by simpa using hcm
        rcases e' with q | q | q | q | q
        · rw [q]; exact hzl
        · rw [q]; exact Heap.lt_size hTI
        · rw [q]; exact Heap.lt_size hTO
        · rw [q]; obtain ⟨_, e1, _⟩ := Sd.cell_obj h1; exact Heap.lt_size e1
        · rw [q]; obtain ⟨_, e1, _⟩ := Sd.cell_obj h2; exact Heap.lt_size e1
      rw [upd_ne (Nat.ne_of_lt hlt)]
      exact (hf c hcm).1
  done := by
    intro X hP hw hK hc i pins s σ H E I hf st hg
    subst hP hw hK
    obtain ⟨hz, hTI, ⟨x0, y0, hTO⟩, h1, h2⟩ := st
    obtain ⟨xs, ys, hx, hy, li, lj, hend⟩ := hg
    have hh : X.A.in1.handled = none := I.ok.hd hc
    obtain ⟨fp1, P1, St1, D1, s1, m1, f1, r1, b1⟩ := Sd.draws hh I h1 hx (D.cf i1 (by simp))
    obtain ⟨fp2, P2, St2, D2, s2, m2, f2, r2, b2⟩ := Sd.draws hh I h2 hy (D.df i2 (by simp))
    have nin : ∀ b, b ∈ [z, TI, TO, i1, i2] → b ≠ i1 → b ∉ fp1 := fun b hb n hm => by
      rcases f1 b hm with q | q
      · exact n q
      · exact q (D.cf b hb)
    have nin2 : ∀ b, b ∈ [z, TI, TO, i1, i2] → b ≠ i2 → b ∉ fp2 := fun b hb n hm => by
      rcases f2 b hm with q | q
      · exact n q
      · exact q (D.df b hb)
    have Zs : ZipSep2 z TI TO i1 i2 fp1 fp2 := ⟨D.TIz, D.TOz, D.TITO, D.TIi1, m1, nin z (by simp) D.i1z.symm, nin TO (by simp) D.i1T.symm, D.TIi2, m2, nin2 z (by simp) D.i2z.symm, nin2 TO (by simp) D.i2T.symm, nin2 i1 (by simp) D.i12, nin i2 (by simp) D.i12.symm⟩
    exact wpAny_pyNext_zipD2_end Zs D1 D2 hz hTI hTO s1 s2 li lj hend fun h' tk hk => ⟨rfl, I.turnedL (t' := tk) (ch := [z, TI, TO, i1, i2]) (fun c o hb q =>
      hk c o (fun q' => hb (by simp [q'])) (fun q' => hb (by simp [q'])) (fun q' => hb (by simp [q'])) (fun q' => hb (by simp [q'])) q) hf⟩
  self := fun A i s Q E st h => wpAny_pyIter_zip st.1 h
/-- how a side begins -/
def Sd.hh (its : List Value) : Sd → Heap → Prop
  | .str _, _ => True
  | .lst a, h => h.IsList a its.toArray
  | .tup a, h => h.IsTuple a its.toArray
theorem Sd.begins {X : Cx} {pins : List (Addr × Obj)} {σ : L2.St} {H : Hp} {s : Shared} {c : Sd} {v : V} {u : Value} {xs : List V} (I : Inv X pins σ H s) (hv : c.val v) (r : RelV v u) (hx : c.is X.K H xs) :
    ∃ (o : Obj) (its : List Value), Begins u o (c.hh its) ∧ c.hh its s.heap ∧ (∀ b, s.heap.objs.size ≤ b → c.off b) ∧ ∀ (it : Addr) (h : Heap), h.get? it = some o → c.cell it 0 h := by
  cases c with
  | str z =>
    have e : v = .str z := hv
    subst e
    obtain ⟨t, rfl⟩ := r
    exact ⟨_, [], begins_text z t, trivial, fun _ _ => trivial, fun it h e => ⟨t, _, e, rfl, rfl⟩⟩
  | lst a =>
    have e : v = .ref a := hv
    subst e
    cases r
    obtain ⟨its, rv, p, _⟩ := I.list hx
    exact ⟨_, its, begins_list a its.toArray, p.isList, fun b hb => Nat.ne_of_lt (Nat.lt_of_lt_of_le p.lt hb), fun it h e => ⟨_, e, rfl, rfl⟩⟩
  | tup a =>
    have e : v = .ref a := hv
    subst e
    cases r
    obtain ⟨its, rv, p, _⟩ := I.tuple hx
    exact ⟨_, its, begins_tuple a its.toArray, p, fun b hb => Nat.ne_of_lt (Nat.lt_of_lt_of_le p.lt hb), fun it h e => ⟨_, e, rfl, rfl⟩⟩
theorem nadd {N i j : Nat} (h : i ≠ j) : (N + i : Nat) ≠ N + j := by omega
theorem nad0 {N i : Nat} (h : i ≠ 0) : (N + i : Nat) ≠ N := by omega
theorem zap (N : Nat) (c d : Sd) (h1 : ∀ b, b ∈ [N + 4, N + 2, N + 3, N, N + 1] → c.off b) (h2 : ∀ b, b ∈ [N + 4, N + 2, N + 3, N, N + 1] → d.off b) : ZApart (N + 4) (N + 2) (N + 3) N (N + 1) c d :=
  ⟨nadd (by decide), nadd (by decide), nadd (by decide), nad0 (by decide), nadd (by decide), (nad0 (by decide)).symm, nadd (by decide), (nad0 (by decide)).symm, nadd (by decide), (nad0 (by decide)).symm, h1, h2⟩
def KZ (K : PySem.W.Frag) (vs : List V) (H : Hp) (R : It → Prop) : Prop := ∃ (x y : V) (c d : Sd) (xs ys : List V), vs = [x, y] ∧ c.val x ∧ d.val y ∧ c.is K H xs ∧ d.is K H ys ∧ R (ItZ K c d)
def iZipZ (K : PySem.W.Frag) (ta : TA) : TI := fun σ H R => ta σ H fun vs H1 => KZ K vs H1 fun J => R J H1
theorem pi_zipZ {X : Cx} {e e2 : Expr} {ta : TA} {p pos tpos : Pos} {elts : List Expr} {kk : Nat} (hg : Gl X "zip") (hm : X.mg "zip" = none) (ha : PA X [e, e2] ta)
    (hs : starEach [e, e2] X.env = (false, eval e X.env) :: starEach [e2] X.env := by rfl) (hpl : (backTo pos (starEach [e2] X.env)).any (·.1) = false := by rfl) :
    PI X (.Tuple elts kk tpos) (.Call (.Name "zip" p) [e, e2] [] pos) (iZipZ X.K ta) := by
  refine ⟨fun pins s σ H R I h => ?_⟩
  refine PyProof.Rows.Call_ (ld_blt I hg hm PyProof.Rows.boot_zip (PyProof.Rows.callWith_type1 (thn (ha.run pos pins s σ H _ I h) fun us s1 ⟨vs, H1, I1, r1, q1⟩ => ?_) hs hpl))
  obtain ⟨x, y, c, d, xs, ys, ex, vc, vd, hx, hy, q⟩ := q1
  subst ex
  cases r1 with
  | cons r rr =>
    cases rr with
    | cons r' rr =>
      cases rr
      obtain ⟨o1, its1, B1, g1, off1, cell1⟩ := Sd.begins I1 vc r hx
      obtain ⟨o2, its2, B2, g2, off2, cell2⟩ := Sd.begins I1 vd r' hy
      have fresh5 : ∀ c, c ∈ [s1.heap.objs.size + 4, s1.heap.objs.size + 2, s1.heap.objs.size + 3, s1.heap.objs.size, s1.heap.objs.size + 1] → s1.heap.objs.size ≤ c := fun c hcm => by
        have e' : c = s1.heap.objs.size + 4 ∨ c = s1.heap.objs.size + 2 ∨ c = s1.heap.objs.size + 3 ∨ c = s1.heap.objs.size ∨ c = s1.heap.objs.size + 1 := by simpa using hcm
        rcases e' with z | z | z | z | z
        · rw [z]; exact Nat.le_add_right _ _
        · rw [z]; exact Nat.le_add_right _ _
        · rw [z]; exact Nat.le_add_right _ _
        · rw [z]; exact Nat.le_refl _
        · rw [z]; exact Nat.le_add_right _ _
      refine zip_begins2 B1 B2 g1 g2 fun h' hz hTI hTO h1 h2 hsz hk => wpAny_pyIter_zip hz ?_
      have I2 : Inv X pins σ H1 { s1 with heap := h' } := I1.kept (t' := s1.toks) hk
      have ap : ZApart (s1.heap.objs.size + 4) (s1.heap.objs.size + 2) (s1.heap.objs.size + 3) s1.heap.objs.size (s1.heap.objs.size + 1) c d :=
        zap s1.heap.objs.size c d (fun b hb => off1 b (fresh5 b hb)) (fun b hb => off2 b (fresh5 b hb))
      exact ⟨s1.heap.objs.size + 4, [s1.heap.objs.size + 4, s1.heap.objs.size + 2, s1.heap.objs.size + 3, s1.heap.objs.size, s1.heap.objs.size + 1], _, _, H1, rfl, I2, turn_zipZ ap, ⟨hz, hTI, ⟨_, _, hTO⟩, cell1 _ _ h1, cell2 _ _ h2⟩, fun c hc => I1.fpOk (fresh5 c hc) (I1.hok.fresh (fresh5 c hc)), q⟩
theorem walk_zipZ {K : PySem.W.Frag} {c d : Sd} {xs ys : List V} {n : Nat} (hn : n = min xs.length ys.length) :
    Walk (ItZ K c d) n (fun H => c.is K H xs ∧ d.is K H ys) (YPair (fun i => xs[i]?) (fun i => ys[i]?)) := by
  subst hn
  refine ⟨fun i _ hi q => ⟨xs, ys, q.1, q.2, by omega, by omega⟩, fun _ q => ⟨xs, ys, q.1, q.2, by omega, by omega, by omega⟩, fun i H v H' hi q y => ?_⟩
  obtain ⟨T, x, z, h1, h2, h3, h4, h5⟩ := y
  exact ⟨T, x, z, h1, h2, h3, h4 xs q.1, h5 ys q.2⟩
end Z
namespace Z
open PySem PySem.Spec PyProof.Rows L2
open PySem.Sem (wp)
/-! ### sorted of a text, a text times a number -/
theorem strs_of_signs : ∀ (l : List Nat) (vs : List Value), vs.length = l.length → (∀ (j : Nat) (v : Value), vs[j]? = some v → ∃ c u, l[j]? = some c ∧ v = .str ⟨#[c]⟩ u) → StrsAre vs (l.map fun c => S [c])
  | [], [], _, _ => .nil
  | [], _ :: _, h, _ => by simp at h
  | _ :: _, [], h, _ => by simp at h
  | c :: l, v :: vs, h, q => by
    obtain ⟨c', u, e1, e2⟩ := q 0 v (by simp)
    have : c = c' := by simpa using e1
    subst this
    subst e2
    exact .cons _ u (strs_of_signs l vs (by simpa using h) fun j w hw => by
      have := q (j + 1) w (by simpa using hw)
      simpa using this)
theorem rising_pw : ∀ (p : Nat) (l : List Nat), risingS (S [p]) (l.map fun c => S [c]) = true → (p :: l).Pairwise (· ≤ ·)
  | p, [], _ => by simp
  | p, c :: l, h => by
    have h' : (!ltCps [c] [p] && risingS (S [c]) (l.map fun c => S [c])) = true := h
    rw [Bool.and_eq_true] at h'
    obtain ⟨h1, h2⟩ := h'
    have ih := rising_pw c l h2
    have hpc : p ≤ c := by
      have e : ltCps [c] [p] = false := by simpa using h1
      rw [ltCps_eq] at e
      have : ¬ ([c] < [p]) := by simpa using e
      have h3 : ¬ c < p := fun q => this (List.Lex.rel q)
      omega
    refine List.pairwise_cons.mpr ⟨fun d hd => ?_, ih⟩
    rcases List.mem_cons.mp hd with q | q
    · rw [q]; exact hpc
    · exact Nat.le_trans hpc (List.rel_of_pairwise_cons ih q)
theorem sorted_pw : ∀ (l : List Nat), sortedS (l.map fun c => S [c]) = true → l.Pairwise (· ≤ ·)
  | [], _ => by simp
  | p :: l, h => rising_pw p l h
theorem unmap_S : ∀ {l : List Nat} {ys : List Str}, ys.Perm (l.map fun c => S [c]) → ∃ zs : List Nat, ys = zs.map (fun c => S [c]) ∧ zs.Perm l := fun {l ys} h => by
  have e : ys = (ys.map fun y => (codes y).headD 0).map fun c => S [c] := by
    rw [List.map_map]
    refine (List.map_congr_left (fun y hy => ?_)).symm.trans (List.map_id _) |>.symm
    obtain ⟨c, _, rfl⟩ := List.mem_map.mp (h.mem_iff.mp hy)
    rfl
  refine ⟨ys.map fun y => (codes y).headD 0, e, ?_⟩
  have := h.map fun y => (codes y).headD 0
  rw [List.map_map] at this
  refine this.trans (List.Perm.of_eq ?_)
  exact (List.map_congr_left (g := id) fun c _ => rfl).trans (List.map_id _)
def zSortedC : List V → Hp → VK → Prop := fun vs H Q => ∃ z : List Nat, vs = [.str (S z)] ∧ z.length < 64 ∧ ∀ (ys : List Nat) (p : Addr), ys.Perm z → ys.Pairwise (· ≤ ·) → H p = none → Q (.ref p) (upd H p (.lst (ys.map fun c => V.str (S [c]))))
theorem zc_sortedC {X : Cx} (hc : X.calm = true) : CallR X (.builtin "sorted") zSortedC := by
  intro pins s σ H vs us Q I r h
  obtain ⟨z, rfl, h64, q⟩ := h
  obtain ⟨u, rfl, rx⟩ := vals1 r
  obtain ⟨t, rfl⟩ := rx
  refine Calls.call_function_entry kind_sorted plain_sorted entry_sorted (args_sorted1 _) ?_
  unfold Builtin.«sorted»
  refine wpAny_bind (m := checkCount "sorted" 1 1 _) (wpAny_pure ?_)
  have h64' : (S z).cps.size = z.length := by simp
  have hh : X.A.in1.handled = none := I.ok.hd hc
  refine wpAny_bind (wpAny_collect_str (A := X.A.in1) hh (S z) t (fun s1 acc k g dr os it => ?_) (by rw [h64']; exact Nat.le_trans (Nat.le_of_lt h64) (by decide)))
  obtain ⟨h1, g1, d1, t1, o1⟩ := s1
  subst g dr os
  replace k : ∀ b o, s.heap.get? b = some o → h1.get? b = some o := k
  have hl64 : acc.toList.length < 64 := by rw [Array.length_toList, it.1, h64']; exact h64
  refine wpAny_bind (wpAny_newList ?_ (by exact Nat.le_trans (Nat.le_of_lt hl64) (by decide)))
  have hS : StrsAre acc.toList (z.map fun c => S [c]) := strs_of_signs z acc.toList (by rw [Array.length_toList, it.1, h64']) fun j v hv => by
    obtain ⟨c, u, e1, e2⟩ := it.2 j v (by simpa using hv)
    exact ⟨c, u, by simpa using e1, e2⟩
  have hoL : (h1.push (seqObj "list" acc.toList.toArray 0)).get? h1.objs.size = some (seqObj "list" acc.toList.toArray 0) := Heap.get?_push_size _ rfl
  refine wpAny_bind (wpAny_holding (wpAny_call_entry slot_list_sort ⟨_, hoL, rfl⟩ entry_list_sort (list_sort_treeK strKind_oneLt hoL hS.keysOf (fun v₁ v₂ rest e => keyKind_strs (by rw [← e]; exact hS)) hl64 fun st' a1 a2 => ⟨_, rfl, ?_⟩) (args_list_sort _)))
  refine wpAny_pure ⟨_, rfl, ?_⟩
  obtain ⟨ss', b1, b2, b3⟩ := sorted_out_str hS a1 a2
  obtain ⟨zs, rfl, pz⟩ := unmap_S b2
  obtain ⟨ep, he'⟩ := PyProof.Rows.sortedHeap_at (vs := acc.toList) (out := (arrOf st').map (·.2)) hoL
  have hlen : (zs.map fun c => V.str (S [c])).length ≤ sizeLine := by rw [List.length_map, pz.length_eq]; exact Nat.le_trans (Nat.le_of_lt h64) (by decide)
  have I1 : Inv X pins σ H ⟨h1, s.gens, s.drawn, t1, s.os⟩ := I.kept (t' := t1) k
  refine ⟨.ref _, upd H h1.objs.size (.lst (zs.map fun c => V.str (S [c]))), I1.laid (t' := t1) (fun b u e => ?_) (Nat.le_refl _) ⟨hlen, _, ep, ?_, he'⟩, rfl, q zs _ pz (sorted_pw zs b3) (I1.hok.fresh (Nat.le_refl _))⟩
  · have hb : b ≠ h1.objs.size := Nat.ne_of_lt (Heap.lt_size e)
    exact PyProof.Rows.sortedHeap_old hb (Heap.lt_size (Heap.get?_push_of_some _ e)) |>.trans (Heap.get?_push_of_some _ e)
  · have := vals_of_strs b1
    rwa [List.map_map] at this
end Z
namespace Z
open PySem PySem.Spec PyProof.Rows L2
open PySem.Sem (wp)
def zRepS : R2 := fun x y H Q => ∃ (z : List Nat) (n : Int), x = .str (S z) ∧ y = .int n ∧ 0 ≤ n ∧ z.length * n.toNat ≤ 100000 ∧ n ≤ 100000 ∧ Q (.str (S (List.replicate n.toNat z).flatten)) H
theorem foldl_app : ∀ (k : Nat) (z : Array Nat) (a : Array Nat), ((List.replicate k z).foldl (· ++ ·) a).toList = a.toList ++ (List.replicate k z.toList).flatten
  | 0, z, a => by simp
  | k + 1, z, a => by
    rw [List.replicate_succ, List.foldl_cons, foldl_app k z (a ++ z), List.replicate_succ, List.flatten_cons, Array.toList_append, List.append_assoc]
theorem mul_S (z : List Nat) (n : Int) (h0 : 0 ≤ n) : Txt.mul (S z) n = S (List.replicate n.toNat z).flatten := by
  unfold Txt.mul
  by_cases h1 : n < 1
  · rw [if_pos h1]
    have : n = 0 := by omega
    subst this
    rfl
  · rw [if_neg h1]
    by_cases h2 : (n == 1 || (S z).length == 0) = true
    · rw [if_pos h2]
      rcases (Bool.or_eq_true _ _).mp h2 with h3 | h3
      · have : n = 1 := by simpa using h3
        subst this
        simp
      · have : z = [] := by
          have h4 : (S z).length = 0 := by simpa using h3
          rw [S_len] at h4
          exact List.eq_nil_of_length_eq_zero h4
        subst this
        simp
    · rw [if_neg h2]
      have := foldl_app n.toNat z.toArray #[]
      rw [List.nil_append] at this
      show (⟨_⟩ : Str) = ⟨_⟩
      rw [← Array.toArray_toList (xs := (List.replicate n.toNat (S z).cps).foldl (· ++ ·) #[])]
      exact congrArg (fun l : List Nat => (⟨l.toArray⟩ : Str)) this
theorem op_rep_str {X : Cx} : OpR X (binaryOp .Mult) zRepS := by
  intro pins s σ H x y v u Q I rx ry h
  obtain ⟨z, n, rfl, rfl, h0, hl, hn, q⟩ := h
  obtain ⟨t, rfl⟩ := rx
  obtain ⟨t', rfl⟩ := ry
  have hmul : MulOk (S z) n := by
    refine ⟨?_, fun h1 h2 => ?_, fun h1 h2 => ?_⟩
    · rw [Bool.or_eq_false_iff]
      exact ⟨decide_eq_false (by omega), decide_eq_false (by omega)⟩
    · have e : ((S z).length : Int) = z.length := by rw [S_len]
      have hz : z.length ≤ 100000 := by
        have : 1 ≤ n.toNat := by omega
        exact Nat.le_trans (Nat.le_mul_of_pos_right _ this) hl
      have h3 : (100000 : Int) ≤ (2 ^ 63 - 1) / n := by
        rw [Int.le_ediv_iff_mul_le (by omega)]
        have : (100000 : Int) * n ≤ 100000 * 100000 := Int.mul_le_mul_of_nonneg_left hn (by decide)
        omega
      omega
    · unfold Builtin.Str.tooLong
      rw [S_len]
      exact decide_eq_false (Nat.not_lt.mpr (Nat.le_trans hl (by decide)))
  refine SB.mul hmul fun tk k => ?_
  rw [mul_S z n h0]
  exact ⟨.str (S (List.replicate n.toNat z).flatten), H, I.tok k, ⟨tk, rfl⟩, q⟩
theorem i_repS {a : List Nat} {n : Int} {H : Hp} {Q : VK} (h0 : 0 ≤ n) (hl : a.length * n.toNat ≤ 100000) (hn : n ≤ 100000) (q : Q (.str (S (List.replicate n.toNat a).flatten)) H) : zRepS (.str (S a)) (.int n) H Q := ⟨a, n, rfl, rfl, h0, hl, hn, q⟩
end Z
namespace Z
open PySem PySem.Spec PyProof.Rows L2
open PySem.Builtin.Str (occurrences subAt lastOccurrence)
/-! ### texts: what find, count and their kin are on lists of codes -/
theorem cutS_S (a : List Nat) (lo hi : Option Int) : cutS (S a) lo hi = S ((a.drop (HT.sIx a.length 0 lo)).take (HT.sIx a.length a.length hi - HT.sIx a.length 0 lo)) := by
  unfold cutS
  rw [S_len]
theorem sub_iff (a b : List Nat) (i : Nat) : subAt (S a) (S b) i = true ↔ (a.drop i).take b.length = b := by
  unfold subAt
  have e : ((S a).cps.extract i (i + (S b).length)) = ((a.drop i).take b.length).toArray := by
    rw [S_len]
    show a.toArray.extract i (i + b.length) = _
    rw [List.extract_toArray, List.extract_eq_take_drop]
    have : i + b.length - i = b.length := by omega
    rw [this]
  rw [e]
  constructor
  · intro h
    have := eq_of_beq h
    exact congrArg Array.toList this
  · intro h
    rw [h]
    exact beq_self_eq_true _
def idx (c : Nat) : List Nat → Nat → List Nat
  | [], _ => []
  | x :: r, i => if x = c then i :: idx c r (i + 1) else idx c r (i + 1)
theorem idx_len (c : Nat) : ∀ (l : List Nat) (i : Nat), (idx c l i).length = l.count c
  | [], _ => rfl
  | x :: r, i => by
    unfold idx
    by_cases h : x = c
    · subst h; rw [if_pos rfl, List.length_cons, idx_len x r, List.count_cons_self]
    · rw [if_neg h, idx_len c r, List.count_cons_of_ne h]
theorem idx_lo (c : Nat) : ∀ (l : List Nat) (i j : Nat), j ∈ idx c l i → i ≤ j
  | [], _, _, h => by simp [idx] at h
  | x :: r, i, j, h => by
    unfold idx at h
    split at h
    · rcases List.mem_cons.mp h with e | h
      · omega
      · have := idx_lo c r (i + 1) j h; omega
    · have := idx_lo c r (i + 1) j h; omega
theorem take1 (c : Nat) (a : List Nat) (i : Nat) : ((a.drop i).take 1 = [c]) ↔ a[i]? = some c := by
  rcases h : a[i]? with _ | x
  · have : a.drop i = [] := List.drop_eq_nil_iff.mpr (List.getElem?_eq_none_iff.mp h)
    rw [this]; simp
  · obtain ⟨hl, e⟩ := List.getElem?_eq_some_iff.mp h
    have : a.drop i = x :: a.drop (i + 1) := by rw [List.drop_eq_getElem_cons hl, e]
    rw [this]; simp
theorem occ_loop (a : List Nat) (c lim : Nat) : ∀ (k i : Nat) (st : Array Nat × Nat), i + k = a.length + 1 → st.2 ≤ i →
    (forIn (List.range' i k) st (StrLaws.occBody (S a) (S [c]) a.length lim)).run.fst.toList = st.1.toList ++ (idx c (a.drop i) i).take (lim - st.1.size)
  | 0, i, st, hk, _ => by
    have : a.drop i = [] := List.drop_eq_nil_iff.mpr (by omega)
    rw [this]
    simp [idx]
  | k + 1, i, st, hk, hf => by
    rw [List.range'_succ, List.forIn_cons]
    unfold StrLaws.occBody
    have hS : (S [c]).length = 1 := S_len [c]
    by_cases hc : ((st.fst.size < lim ∧ st.snd ≤ i) ∧ i + (S [c]).length ≤ a.length) ∧ subAt (S a) (S [c]) i = true
    · rw [if_pos hc]
      have h1 : a[i]? = some c := (take1 c a i).mp ((sub_iff a [c] i).mp hc.2)
      obtain ⟨hl, e⟩ := List.getElem?_eq_some_iff.mp h1
      have hd : a.drop i = c :: a.drop (i + 1) := by rw [List.drop_eq_getElem_cons hl, e]
      have ih := occ_loop a c lim k (i + 1) (st.fst.push i, i + (S [c]).length) (by omega) (by rw [hS]; exact Nat.le_refl _)
      refine ih.trans ?_
      rw [hd, show idx c (c :: a.drop (i + 1)) i = i :: idx c (a.drop (i + 1)) (i + 1) from if_pos rfl]
      have hlt := hc.1.1.1
      obtain ⟨n, hn⟩ : ∃ n, lim - st.fst.size = n + 1 := ⟨lim - st.fst.size - 1, by omega⟩
      have hn2 : lim - (st.fst.push i).size = n := by rw [Array.size_push]; omega
      rw [hn, List.take_succ_cons, Array.toList_push, List.append_assoc]
      show _ ++ ([i] ++ _) = _
      rw [hn2]
      rfl
    · rw [if_neg hc]
      have ih := occ_loop a c lim k (i + 1) st (by omega) (by omega)
      refine ih.trans ?_
      by_cases hz : lim - st.fst.size = 0
      · rw [hz]; simp
      · have hne : ¬ a[i]? = some c := fun h1 => hc ⟨⟨⟨by omega, hf⟩, by obtain ⟨hl, _⟩ := List.getElem?_eq_some_iff.mp h1; rw [hS]; omega⟩, (sub_iff a [c] i).mpr ((take1 c a i).mpr h1)⟩
        rcases h : a[i]? with _ | x
        · have e0 : a.drop i = [] := List.drop_eq_nil_iff.mpr (List.getElem?_eq_none_iff.mp h)
          have e1 : a.drop (i + 1) = [] := List.drop_eq_nil_iff.mpr (by have := List.getElem?_eq_none_iff.mp h; omega)
          rw [e0, e1]; simp [idx]
        · obtain ⟨hl, e⟩ := List.getElem?_eq_some_iff.mp h
          have hd : a.drop i = x :: a.drop (i + 1) := by rw [List.drop_eq_getElem_cons hl, e]
          rw [hd]
          have hx : ¬ x = c := fun q => hne (by rw [h, q])
          show _ = _ ++ List.take _ (idx c (x :: a.drop (i + 1)) i)
          rw [show idx c (x :: a.drop (i + 1)) i = idx c (a.drop (i + 1)) (i + 1) from if_neg hx]
theorem occ_idx (a : List Nat) (c lo lim : Nat) (h : lo ≤ a.length) : occurrences (S a) (S [c]) lo a.length lim = (idx c (a.drop lo) lo).take lim := by
  rw [StrLaws.occ_eq, occ_loop a c lim (a.length + 1 - lo) lo (#[], lo) (by omega) (Nat.le_refl _)]
  simp
theorem find_S (a : List Nat) (c : Nat) : Txt.find (S a) (S [c]) = match idx c a 0 with | i :: _ => (i : Int) | [] => -1 := by
  unfold Txt.find
  rw [S_len, occ_idx a c 0 1 (Nat.zero_le _), List.drop_zero]
  cases idx c a 0 <;> rfl
theorem count_S (a : List Nat) (c : Nat) : Txt.count (S a) (S [c]) = (a.count c : Nat) := by
  unfold Txt.count
  rw [S_len, occ_idx a c 0 (a.length + 1) (Nat.zero_le _), List.drop_zero, List.take_of_length_le (by rw [idx_len]; have := List.count_le_length (a := c) (l := a); omega), idx_len]
theorem starts_S (a b : List Nat) : Txt.startswith (S a) (S b) = decide (b <+: a) := by
  unfold Txt.startswith
  rw [S_len, S_len]
  by_cases h : b <+: a
  · rw [decide_eq_true h]
    obtain ⟨r, rfl⟩ := h
    have h1 : subAt (S (b ++ r)) (S b) 0 = true := (sub_iff _ _ _).mpr (by simp)
    rw [h1]; simp
  · rw [decide_eq_false h]
    rw [Bool.and_eq_false_iff]
    refine .inr ?_
    cases q : subAt (S a) (S b) 0 with
    | false => rfl
    | true =>
      have := (sub_iff a b 0).mp q
      rw [List.drop_zero] at this
      exact absurd (by rw [← this]; exact List.take_prefix _ _) h
theorem ends_S (a b : List Nat) : Txt.endswith (S a) (S b) = decide (b <:+ a) := by
  unfold Txt.endswith
  rw [S_len, S_len]
  by_cases h : b <:+ a
  · rw [decide_eq_true h]
    obtain ⟨r, rfl⟩ := h
    have h1 : subAt (S (r ++ b)) (S b) ((r ++ b).length - b.length) = true := (sub_iff _ _ _).mpr (by simp)
    rw [h1]; simp
  · rw [decide_eq_false h]
    cases q : (decide (0 + b.length ≤ a.length) && subAt (S a) (S b) (a.length - b.length)) with
    | false => rfl
    | true =>
      obtain ⟨q1, q2⟩ := (Bool.and_eq_true _ _).mp q
      have q1 : 0 + b.length ≤ a.length := of_decide_eq_true q1
      have := (sub_iff a b _).mp q2
      have hl : (a.drop (a.length - b.length)).length = b.length := by rw [List.length_drop]; omega
      rw [List.take_of_length_le (by omega)] at this
      exact absurd (by rw [← this]; exact List.drop_suffix _ _) h
theorem in_S (a b : List Nat) : (!(occurrences (S a) (S b) 0 (S a).length 1).isEmpty) = decide (b <:+: a) := by
  rw [Bool.eq_iff_iff, StrLaws.found_iff, decide_eq_true_iff]
  constructor
  · rintro ⟨i, h1, h2⟩
    have := (sub_iff a b i).mp h2
    rw [← this]
    exact (List.take_prefix _ _).isInfix.trans (List.drop_suffix _ _).isInfix
  · rintro ⟨r, t, rfl⟩
    refine ⟨r.length, by rw [S_len, S_len, List.length_append, List.length_append]; omega, (sub_iff _ _ _).mpr (by simp)⟩
end Z
namespace Z
open PySem PySem.Spec PyProof.Rows L2
open PySem.Builtin.Str (occurrences subAt lastOccurrence)
/-! ### methods of texts by name -/
def find1 (c : Nat) (a : List Nat) : Int := match idx c a 0 with | i :: _ => (i : Int) | [] => -1
def zJoin0 (K : PySem.W.Frag) : V → List V → Hp → VK → Prop := fun x xs H Q => ∃ a p, ∃ ys : List Str, x = V.str a ∧ xs = [.ref p] ∧ (SqL K H p (ys.map V.str) ∨ SqT K H p (ys.map V.str)) ∧ (ys.map (·.length)).sum + ys.length * a.length ≤ 16777216 ∧ Q (.str (Txt.join a ys)) H
def zFind : V → List V → Hp → VK → Prop := fun x xs H Q => ∃ a b : Str, x = V.str a ∧ xs = [.str b] ∧ Q (.int (Txt.find a b)) H
def zFind3 : V → List V → Hp → VK → Prop := fun x xs H Q => ∃ (a b : Str) (i : Int), x = V.str a ∧ xs = [.str b, .int i] ∧ Q (.int (Txt.find3 a b i)) H
def zCount : V → List V → Hp → VK → Prop := fun x xs H Q => ∃ a b : Str, x = V.str a ∧ xs = [.str b] ∧ Q (.int (Txt.count a b)) H
def zStarts : V → List V → Hp → VK → Prop := fun x xs H Q => ∃ a b : Str, x = V.str a ∧ xs = [.str b] ∧ Q (.bl (Txt.startswith a b)) H
def zEnds : V → List V → Hp → VK → Prop := fun x xs H Q => ∃ a b : Str, x = V.str a ∧ xs = [.str b] ∧ Q (.bl (Txt.endswith a b)) H
def zIndex : V → List V → Hp → VK → Prop := fun x xs H Q => ∃ (a b : Str) (i : Nat) (rest : List Nat), x = V.str a ∧ xs = [.str b] ∧ occurrences a b 0 a.length 1 = i :: rest ∧ Q (.int (i : Nat)) H
def zUpper : V → List V → Hp → VK → Prop := fun x xs H Q => ∃ a : Str, x = V.str a ∧ xs = [] ∧ a.length ≤ 5592405 ∧ Q (.str (Txt.upper a)) H
def zInStr : R2 := fun x y H Q => ∃ i j : Str, x = V.str i ∧ y = V.str j ∧ Q (V.bl (!(occurrences j i 0 j.length 1).isEmpty)) H
def zAppend : V → List V → Hp → VK → Prop := fun x vs H Q => ∃ l xs y, x = V.ref l ∧ vs = [y] ∧ H l = some (.lst xs) ∧ xs.length < sizeLine ∧ Q .non (upd H l (.lst (xs ++ [y])))
def zPopAt : V → List V → Hp → VK → Prop := fun x vs H Q => ∃ l xs i k y, x = V.ref l ∧ vs = [.int i] ∧ H l = some (.lst xs) ∧ -(2 ^ 63) ≤ i ∧ i < 2 ^ 63 ∧ seqIndex? i xs.length = some k ∧ xs[k]? = some y ∧ Q y (upd H l (.lst (xs.eraseIdx k)))
section
variable {X : Cx}
theorem zm_find : MtR X "str.find" zFind := mt_find
theorem zm_find3 : MtR X "str.find" zFind3 := mt_find3
theorem zm_count : MtR X "str.count" zCount := mt_count
theorem zm_starts : MtR X "str.startswith" zStarts := mt_startswith
theorem zm_ends : MtR X "str.endswith" zEnds := mt_endswith
theorem zm_index : MtR X "str.index" zIndex := mt_sindex
theorem zm_upper : MtR X "str.upper" zUpper := mt_upper
theorem zm_append : MtR X "list.append" zAppend := mt_append
theorem zm_popAt : MtR X "list.pop" zPopAt := mt_popAt
theorem z_instr : OpR X (compareOp .In) zInStr := op_in_str
theorem pe_joinZ {K : PySem.W.Frag} {o e : Expr} {to te : TE} {apos pos : Pos} (hK : X.K = K) (ho : PE X o to) (he : PE X e te) (h1 : starEach [e] X.env = [(false, eval e X.env)] := by rfl)
    (h2 : attributeBase o "join" X.env (eval o X.env) = eval o X.env := by rfl) (h3 : (apos.endLine == pos.line) = true := by rfl) :
    PE X (.Call (.Attribute o "join" apos) [e] [] pos) (tM1 (zJoin0 K) to te) := hK ▸ pe_join ho he h1 h2 h3
theorem pe_bmZ {K : PySem.W.Frag} {o e : Expr} {es : List Expr} {to : TE} {t : TA} {name : Str} {apos cpos : Pos} {T id : String} {r : V → List V → Hp → VK → Prop} (hK : X.K = K)
    (pa : PlainAttrs T) (slot : Slot T name id) (hty : typeOf (.builtin id) = pure (.type "method_descriptor")) (hm : MtR X id r) (ho : PE X o to) (ha : PA X (e :: es) t)
    (h1 : attributeBase o name X.env (eval o X.env) = eval o X.env := by rfl)
    (h2 : ((((backTo cpos (starEach (e :: es) X.env)).all fun x => !x.1) && (backToKw cpos (keywordEach [] X.env)).all fun x => x.1.isSome) && decide (((e :: es).length + ([] : List Keyword).length + if ([] : List Keyword).isEmpty = true then 0 else 1) < 30)) = true := by rfl)
    (h3 : (apos.endLine == cpos.line) = true := by rfl) (h4 : starEach (e :: es) X.env = (false, eval e X.env) :: starEach es X.env := by rfl) (h5 : (backTo cpos (starEach es X.env)).any (fun x => x.1) = false := by rfl) :
    PE X (.Call (.Attribute o name apos) (e :: es) [] cpos) (tBM K T r to t) := hK ▸ pe_bm pa slot hty hm ho ha h1 h2 h3 h4 h5
theorem pe_bm0Z {K : PySem.W.Frag} {o : Expr} {to : TE} {name : Str} {apos cpos : Pos} {T id : String} {r : V → List V → Hp → VK → Prop} (hK : X.K = K)
    (pa : PlainAttrs T) (slot : Slot T name id) (hty : typeOf (.builtin id) = pure (.type "method_descriptor")) (hm : MtR X id r) (ho : PE X o to)
    (h1 : attributeBase o name X.env (eval o X.env) = eval o X.env := by rfl) (h3 : (apos.endLine == cpos.line) = true := by rfl) :
    PE X (.Call (.Attribute o name apos) [] [] cpos) (tBM0 K T r to) := hK ▸ pe_bm0 pa slot hty hm ho h1 h3
theorem pe_fldZ {K : PySem.W.Frag} {e : Expr} {f : Str} {pos : Pos} {ta : TE} (hK : X.K = K) (he : PE X e ta) (hb : attributeBase e f X.env (eval e X.env) = eval e X.env) : PE X (.Attribute e f pos) (tFld K ta f) := hK ▸ pe_fld he hb
end
section
variable {σ : L2.St} {H : Hp} {Q : VK} {D : Ends} {K : PySem.W.Frag} {i j : Int} {a b : List Nat} {x y v : V} {p : Addr} {xs : List V} {te : TE}
theorem i_m1 {r : V → List V → Hp → VK → Prop} {to : TE} (q : to σ H fun x H1 => KS x fun z => te σ H1 fun y H2 => r (.str z) [y] H2 Q) : tM1 r to te σ H Q := by
  have e : (fun (x : V) (H1 : Hp) => KS x fun z => te σ H1 fun y H2 => r (.str z) [y] H2 Q) = fun x H1 => (∃ a, x = V.str a) ∧ te σ H1 fun y H2 => r x [y] H2 Q := by
    funext x H1
    refine propext ⟨?_, ?_⟩
    · rintro ⟨z, rfl, h⟩; exact ⟨⟨z, rfl⟩, h⟩
    · rintro ⟨⟨z, rfl⟩, h⟩; exact ⟨z, rfl, h⟩
  rw [e] at q
  exact q
theorem i_tyS {t : TA} {R : List V → Hp → Prop} (q : t σ H R) : tyV K "str" (.str (S a)) H ∧ t σ H R := ⟨rfl, q⟩
theorem i_tyS0 {A : Prop} (q : A) : tyV K "str" (.str (S a)) H ∧ A := ⟨rfl, q⟩
theorem i_tyL {A : Prop} (h : SqL K H p xs) (q : A) : tyV K "list" (.ref p) H ∧ A := ⟨.inl ⟨rfl, xs, h⟩, q⟩
theorem i_find {c : Nat} (q : Q (.int (find1 c a)) H) : zFind (.str (S a)) [.str (S [c])] H Q := ⟨_, _, rfl, rfl, by rw [find_S]; exact q⟩
theorem i_count {c : Nat} (q : Q (.int (a.count c : Nat)) H) : zCount (.str (S a)) [.str (S [c])] H Q := ⟨_, _, rfl, rfl, by rw [count_S]; exact q⟩
theorem i_starts (q : Q (.bl (decide (b <+: a))) H) : zStarts (.str (S a)) [.str (S b)] H Q := ⟨_, _, rfl, rfl, by rw [starts_S]; exact q⟩
theorem i_ends (q : Q (.bl (decide (b <:+ a))) H) : zEnds (.str (S a)) [.str (S b)] H Q := ⟨_, _, rfl, rfl, by rw [ends_S]; exact q⟩
theorem i_instr (q : Q (.bl (decide (b <:+: a))) H) : zInStr (.str (S b)) (.str (S a)) H Q := ⟨_, _, rfl, rfl, by rw [in_S]; exact q⟩
theorem i_index {c n : Nat} (h : (idx c a 0).head? = some n) (q : Q (.int (n : Nat)) H) : zIndex (.str (S a)) [.str (S [c])] H Q := by
  cases e : idx c a 0 with
  | nil => rw [e] at h; cases h
  | cons m r =>
    rw [e] at h; cases h
    exact ⟨_, _, n, [], rfl, rfl, by rw [S_len, occ_idx a c 0 1 (Nat.zero_le _), List.drop_zero, e]; rfl, q⟩
theorem placed_len (x : Str) (f : Nat → Nat → Array Nat) : True := trivial
theorem i_append (h : H p = some (.lst xs)) (hl : xs.length < 100000) (q : Q .non (upd H p (.lst (xs ++ [v])))) : zAppend (.ref p) [v] H Q := ⟨p, xs, v, rfl, rfl, h, lt_line hl, q⟩
theorem i_slS {lo hi : Option Int} (hl : a.length ≤ 100000) (q : Q (.str (S ((a.drop (HT.sIx a.length 0 lo)).take (HT.sIx a.length a.length hi - HT.sIx a.length 0 lo)))) H) : rSlS (.str (S a)) lo hi H Q :=
  ⟨S a, rfl, by rw [S_len]; exact le_line hl, by rw [cutS_S]; exact q⟩
/-- the slices that a text is cut by: [:i], [i:], [i:j] with places in it -/
theorem i_slTo {n : Nat} (hl : a.length ≤ 100000) (q : Q (.str (S (a.take n))) H) : rSlS (.str (S a)) none (some (n : Int)) H Q := by
  refine i_slS hl ?_
  rw [HT.sIx_none, HT.sIx_nat, List.drop_zero, Nat.sub_zero]
  have : a.take (min n a.length) = a.take n := by
    rcases Nat.le_total n a.length with h | h
    · rw [Nat.min_eq_left h]
    · rw [Nat.min_eq_right h, List.take_of_length_le (Nat.le_refl _), List.take_of_length_le h]
  rw [this]; exact q
theorem i_slFrom {n : Nat} (hl : a.length ≤ 100000) (q : Q (.str (S (a.drop n))) H) : rSlS (.str (S a)) (some (n : Int)) none H Q := by
  refine i_slS hl ?_
  rw [HT.sIx_none, HT.sIx_nat]
  have : (a.drop (min n a.length)).take (a.length - min n a.length) = a.drop n := by
    rcases Nat.le_total n a.length with h | h
    · rw [Nat.min_eq_left h, List.take_of_length_le (by rw [List.length_drop]; exact Nat.le_refl _)]
    · rw [Nat.min_eq_right h, Nat.sub_self, List.take_zero, List.drop_of_length_le h]
  rw [this]; exact q
theorem i_slBoth {n m : Nat} (hl : a.length ≤ 100000) (q : Q (.str (S ((a.drop n).take (m - n)))) H) : rSlS (.str (S a)) (some (n : Int)) (some (m : Int)) H Q := by
  refine i_slS hl ?_
  rw [HT.sIx_nat, HT.sIx_nat]
  have e : (a.drop (min n a.length)).take (min m a.length - min n a.length) = (a.drop n).take (m - n) := by
    rcases Nat.le_total n a.length with h | h
    · rw [Nat.min_eq_left h]
      rcases Nat.le_total m a.length with h2 | h2
      · rw [Nat.min_eq_left h2]
      · rw [Nat.min_eq_right h2, List.take_of_length_le (by rw [List.length_drop]; exact Nat.le_refl _), List.take_of_length_le (by rw [List.length_drop]; omega)]
    · rw [Nat.min_eq_right h, List.drop_length, List.drop_of_length_le h, List.take_nil, List.take_nil]
  rw [e]; exact q
theorem glued_nil : ∀ (l : List (List Nat)) (acc : Array Nat), ((l.map S).foldl (fun (acc : Array Nat) (p : Str) => acc ++ (S []).cps ++ p.cps) acc).toList = acc.toList ++ l.flatten
  | [], acc => by simp
  | x :: l, acc => by
    rw [List.map_cons, List.foldl_cons, glued_nil l]
    simp
theorem join_nil (l : List (List Nat)) : Txt.join (S []) (l.map S) = S l.flatten := by
  cases l with
  | nil => rfl
  | cons x l =>
    have := glued_nil l x.toArray
    show (⟨_⟩ : Str) = ⟨_⟩
    refine congrArg Str.mk ?_
    rw [← Array.toArray_toList (xs := List.foldl _ _ _)]
    exact congrArg List.toArray this
theorem i_join0 {l : List (List Nat)} (h : SqL K H p (l.map fun x => V.str (S x)) ∨ SqT K H p (l.map fun x => V.str (S x))) (hl : l.flatten.length ≤ 100000) (q : Q (.str (S l.flatten)) H) : zJoin0 K (.str (S [])) [.ref p] H Q := by
  refine ⟨S [], p, l.map S, rfl, rfl, ?_, ?_, by rw [join_nil]; exact q⟩
  · rw [List.map_map]; exact h
  · have e : ((l.map S).map (·.length)).sum = l.flatten.length := by
      rw [List.map_map, List.length_flatten]
      exact congrArg List.sum (List.map_congr_left fun x _ => S_len x)
    have e0 : (S []).length = 0 := rfl
    rw [e, e0]; omega
end
end Z
namespace Z
open PySem PySem.Spec PyProof.Rows L2
/-! ### comprehensions by an invariant over what is made so far -/
section
variable {σ : L2.St} {H : Hp} {Q : VK} {K : PySem.W.Frag}
/-- the list at D is acc, and I speaks of it -/
def LcI (Dl : Addr) (I : Nat → List V → Hp → Prop) (i : Nat) (H : Hp) : Prop := ∃ acc, H Dl = some (.lst acc) ∧ acc.length ≤ i ∧ I i acc H
def CEnd (Dl : Addr) (P : Hp → Prop) (y : V) (H4 : Hp) : Prop := ∃ acc, H4 Dl = some (.lst acc) ∧ acc.length < sizeLine ∧ P (upd H4 Dl (.lst (acc ++ [y])))
def LcT (Dl : Addr) (I : Nat → List V → Hp → Prop) (i : Nat) (te : TE) (W : L2.St) (vs : List Nat) (tt : TT) (σ2 : L2.St) (H2 : Hp) : Prop := wipe σ2 vs = W ∧ tt σ2 H2 fun b H3 => if b = true then te σ2 H3 (CEnd Dl (LcI Dl I (i + 1))) else LcI Dl I (i + 1) H3
theorem l_comp {J : It} {n : Nat} {G : Hp → Prop} {Y : Nat → Hp → V → Hp → Prop} (w : Walk J n G Y) {g : TG} {tt : TT} {te : TE} {vs : List Nat} {Dl : Addr} (W : L2.St) (hw : wipe σ vs = W) (I : Nat → List V → Hp → Prop)
    (h0 : I 0 [] (upd H Dl (.lst []))) (hG : ∀ i acc H, i ≤ n → I i acc H → H Dl = some (.lst acc) → G H)
    (hs : ∀ i x acc H H', i < n → I i acc H → H Dl = some (.lst acc) → acc.length ≤ i → Y i H x H' → g x W H' (LcT Dl I i te W vs tt))
    (hd : ∀ acc H, I n acc H → H Dl = some (.lst acc) → acc.length ≤ n → Q (.ref Dl) H) : LC J g tt te vs σ H Q Dl := by
  subst hw
  refine l_lc w (LcI Dl I) ⟨[], upd_same, Nat.le_refl _, h0⟩ (fun i H hi ⟨acc, e, _, p⟩ => hG i acc H hi p e) (fun i x H H' hi ⟨acc, e, hl, p⟩ y => ?_) fun H ⟨acc, e, hl, p⟩ => hd acc H p e hl
  exact hs i x acc H H' hi p e hl y
theorem cend {Dl : Addr} {I : Nat → List V → Hp → Prop} {i : Nat} {y : V} {acc : List V} (h : H Dl = some (.lst acc)) (hl : acc.length ≤ i) (hi : i < 100000) (p : I (i + 1) (acc ++ [y]) (upd H Dl (.lst (acc ++ [y])))) : CEnd Dl (LcI Dl I (i + 1)) y H :=
  ⟨acc, h, lt_line (by omega), acc ++ [y], upd_same, by rw [List.length_append]; simp; omega, p⟩
theorem i_lct {Dl : Addr} {I : Nat → List V → Hp → Prop} {i : Nat} {te : TE} {W : L2.St} {vs : List Nat} {tt : TT} {σ2 : L2.St} (hw : wipe σ2 vs = W) (q : tt σ2 H fun b H3 => if b = true then te σ2 H3 (CEnd Dl (LcI Dl I (i + 1))) else LcI Dl I (i + 1) H3) :
    LcT Dl I i te W vs tt σ2 H := ⟨hw, q⟩
theorem i_slL {p : Addr} {xs : List V} {lo hi : Option Int} (h : SqL K H p xs) (q : ∀ l, H l = none → Q (.ref l) (upd H l (.lst (cutV xs lo hi)))) : rSlL K (.ref p) lo hi H Q := ⟨p, xs, rfl, h, q⟩
theorem cutV_to (xs : List V) (n : Nat) : cutV xs none (some (n : Int)) = xs.take n := by
  unfold cutV
  rw [HT.sIx_none, HT.sIx_nat, List.drop_zero, Nat.sub_zero]
  rcases Nat.le_total n xs.length with h | h
  · rw [Nat.min_eq_left h]
  · rw [Nat.min_eq_right h, List.take_of_length_le (Nat.le_refl _), List.take_of_length_le h]
theorem cutV_from (xs : List V) (n : Nat) : cutV xs (some (n : Int)) none = xs.drop n := by
  unfold cutV
  rw [HT.sIx_none, HT.sIx_nat]
  rcases Nat.le_total n xs.length with h | h
  · rw [Nat.min_eq_left h, List.take_of_length_le (by rw [List.length_drop]; exact Nat.le_refl _)]
  · rw [Nat.min_eq_right h, Nat.sub_self, List.take_zero, List.drop_of_length_le h]
end
theorem _root_.L2.Same.newz {H H' : Hp} {p : Addr} {o : HO} (e : Same H H') (hp : H' p = none) : Same H (upd H' p o) := fun b u q => by have := e b u q; rw [upd_ne (ne_of_none this hp)]; exact this
theorem _root_.L2.Same.mutz {H H' : Hp} {p : Addr} {o : HO} (e : Same H H') (hp : H p = none) : Same H (upd H' p o) := fun b u q => by rw [upd_ne (ne_of_none q hp)]; exact e b u q
end Z
namespace Z
theorem perm_pick {α : Type} {found rest l : List α} {r : Nat} (hr : r < rest.length) (hp : (found ++ rest).Perm l) : ((found ++ [rest[r]]) ++ (rest.take r ++ rest.drop (r + 1))).Perm l := by
  refine List.Perm.trans ?_ hp
  rw [List.append_assoc]
  refine List.Perm.append_left found ?_
  have e : rest = rest.take r ++ rest[r] :: rest.drop (r + 1) := by
    rw [List.getElem_cons_drop, List.take_append_drop]
  refine List.Perm.trans ?_ (List.Perm.of_eq e.symm)
  show (rest[r] :: (rest.take r ++ rest.drop (r + 1))).Perm _
  exact List.perm_middle.symm
theorem az : codes (PySem.Str.ofString "abcdefghijklmnopqrstuvwxyz") = List.range' 97 26 := by decide +kernel
theorem empty_codes : codes (PySem.Str.ofString "") = [] := by decide +kernel
theorem perm_nodup_of {α : Type} {found rest l : List α} (hp : (found ++ rest).Perm l) (hn : l.Nodup) : found.Nodup := (List.nodup_append.mp (hp.nodup_iff.mpr hn)).1
/-- a sorted arrangement of different ones ascends -/
theorem asc_of {ys : List Nat} (h : ys.Pairwise (· ≤ ·)) (hn : ys.Nodup) : ys.Pairwise (· < ·) :=
  (h.and hn).imp fun {a b} q => by have := q.1; have := q.2; omega
theorem flat_one : ∀ ys : List Nat, (ys.map fun c => [c]).flatten = ys
  | [] => rfl
  | a :: l => by rw [List.map_cons, List.flatten_cons, flat_one l]; rfl
end Z
namespace Z
open PySem PySem.Spec PyProof.Rows L2
/-! ### data in the heap: what a value stands for; N tells the addresses that may change -/
mutual
inductive Rp (N : Addr → Prop) (H : Hp) : V → PyData → Prop
  | non : Rp N H .non .none
  | bl (b : Bool) : Rp N H (.bl b) (.bool b)
  | int (i : Int) : Rp N H (.int i) (.int i)
  | str (x : Str) : Rp N H (.str x) (.str x)
  | lst {a : Addr} {xs : List V} {ds : List PyData} : H a = some (.lst xs) → ¬ N a → RpAll N H xs ds → Rp N H (.ref a) (.list ds)
  | tup {a : Addr} {xs : List V} {ds : List PyData} : H a = some (.tup xs) → ¬ N a → RpAll N H xs ds → Rp N H (.ref a) (.tuple ds)
  | dct {a : Addr} {kvs : List (Key × V)} : H a = some (.dK kvs) → ¬ N a → Rp N H (.ref a) (.dict [])
inductive RpAll (N : Addr → Prop) (H : Hp) : List V → List PyData → Prop
  | nil : RpAll N H [] []
  | cons {v : V} {vs : List V} {d : PyData} {ds : List PyData} : Rp N H v d → RpAll N H vs ds → RpAll N H (v :: vs) (d :: ds)
end
/-- all but what may change is as it was -/
def Kp (N : Addr → Prop) (H H' : Hp) : Prop := ∀ b o, H b = some o → ¬ N b → H' b = some o
theorem Kp.refl {N : Addr → Prop} {H : Hp} : Kp N H H := fun _ _ e _ => e
theorem Kp.trans {N : Addr → Prop} {H H1 H2 : Hp} (a : Kp N H H1) (b : Kp N H1 H2) : Kp N H H2 := fun c o e n => b c o (a c o e n) n
theorem Kp.of_same {N : Addr → Prop} {H H' : Hp} (s : Same H H') : Kp N H H' := fun b o e _ => s b o e
theorem Gd.toKp {h : Addr} {H H' : Hp} (g : Gd h H H') : Kp (· = h) H H' := g.kp
theorem Kp.newz {N : Addr → Prop} {H H' : Hp} {p : Addr} {o : HO} (k : Kp N H H') (hp : H' p = none) : Kp N H (upd H' p o) := fun b u e n => by
  have := k b u e n
  rw [upd_ne (ne_of_none this hp)]; exact this
mutual
theorem Rp.mono {N : Addr → Prop} {H H' : Hp} (k : Kp N H H') : ∀ {v : V} {d : PyData}, Rp N H v d → Rp N H' v d
  | _, _, .non => .non
  | _, _, .bl b => .bl b
  | _, _, .int i => .int i
  | _, _, .str x => .str x
  | _, _, .lst e n r => .lst (k _ _ e n) n (RpAll.mono k r)
  | _, _, .tup e n r => .tup (k _ _ e n) n (RpAll.mono k r)
  | _, _, .dct e n => .dct (k _ _ e n) n
theorem RpAll.mono {N : Addr → Prop} {H H' : Hp} (k : Kp N H H') : ∀ {vs : List V} {ds : List PyData}, RpAll N H vs ds → RpAll N H' vs ds
  | _, _, .nil => .nil
  | _, _, .cons a b => .cons (Rp.mono k a) (RpAll.mono k b)
end
mutual
theorem Rp.sub {N M : Addr → Prop} {H : Hp} (k : ∀ b, M b → N b) : ∀ {v : V} {d : PyData}, Rp N H v d → Rp M H v d
  | _, _, .non => .non
  | _, _, .bl b => .bl b
  | _, _, .int i => .int i
  | _, _, .str x => .str x
  | _, _, .lst e n r => .lst e (fun q => n (k _ q)) (RpAll.sub k r)
  | _, _, .tup e n r => .tup e (fun q => n (k _ q)) (RpAll.sub k r)
  | _, _, .dct e n => .dct e fun q => n (k _ q)
theorem RpAll.sub {N M : Addr → Prop} {H : Hp} (k : ∀ b, M b → N b) : ∀ {vs : List V} {ds : List PyData}, RpAll N H vs ds → RpAll M H vs ds
  | _, _, .nil => .nil
  | _, _, .cons a b => .cons (Rp.sub k a) (RpAll.sub k b)
end
/-- nothing may change -/
abbrev N0 : Addr → Prop := fun _ => False
theorem Rp.same {H H' : Hp} {N : Addr → Prop} {v : V} {d : PyData} (s : Same H H') (r : Rp N H v d) : Rp N H' v d := r.mono (Kp.of_same s)
theorem Rp.free {N : Addr → Prop} {H : Hp} {v : V} {d : PyData} (r : Rp N H v d) : Rp N0 H v d := r.sub fun _ q => q.elim
theorem RpAll.length {N : Addr → Prop} {H : Hp} : ∀ {vs : List V} {ds : List PyData}, RpAll N H vs ds → vs.length = ds.length
  | _, _, .nil => rfl
  | _, _, .cons _ r => by rw [List.length_cons, List.length_cons, r.length]
theorem RpAll.get {N : Addr → Prop} {H : Hp} : ∀ {vs : List V} {ds : List PyData} {i : Nat} {d : PyData}, RpAll N H vs ds → ds[i]? = some d → ∃ v, vs[i]? = some v ∧ Rp N H v d
  | _, _, _, _, .nil, e => by simp at e
  | _, _, 0, _, .cons a _, e => by simp at e; subst e; exact ⟨_, rfl, a⟩
  | _, _, i + 1, _, .cons _ r, e => by obtain ⟨v, h1, h2⟩ := r.get (i := i) (by simpa using e); exact ⟨v, by simpa using h1, h2⟩
theorem RpAll.get' {N : Addr → Prop} {H : Hp} : ∀ {vs : List V} {ds : List PyData} {i : Nat} {v : V}, RpAll N H vs ds → vs[i]? = some v → ∃ d, ds[i]? = some d ∧ Rp N H v d
  | _, _, _, _, .nil, e => by simp at e
  | _, _, 0, _, .cons a _, e => by simp at e; subst e; exact ⟨_, rfl, a⟩
  | _, _, i + 1, _, .cons _ r, e => by obtain ⟨v, h1, h2⟩ := r.get' (i := i) (by simpa using e); exact ⟨v, by simpa using h1, h2⟩
theorem RpAll.drop {N : Addr → Prop} {H : Hp} : ∀ {vs : List V} {ds : List PyData} (n : Nat), RpAll N H vs ds → RpAll N H (vs.drop n) (ds.drop n)
  | _, _, 0, r => r
  | _, _, _ + 1, .nil => .nil
  | _, _, n + 1, .cons _ r => r.drop n
theorem RpAll.append {N : Addr → Prop} {H : Hp} : ∀ {vs ws : List V} {ds es : List PyData}, RpAll N H vs ds → RpAll N H ws es → RpAll N H (vs ++ ws) (ds ++ es)
  | _, _, _, _, .nil, r => r
  | _, _, _, _, .cons a q, r => .cons a (q.append r)
theorem RpAll.ints {N : Addr → Prop} {H : Hp} : ∀ (l : List Int), RpAll N H (l.map V.int) (l.map PyData.int)
  | [] => .nil
  | _ :: l => .cons (.int _) (RpAll.ints l)
mutual
/-- without dicts -/
def noD : PyData → Bool
  | .dict _ => false
  | .list l => noDs l
  | .tuple l => noDs l
  | .none => true
  | .bool _ => true
  | .int _ => true
  | .str _ => true
def noDs : List PyData → Bool
  | [] => true
  | d :: r => noD d && noDs r
end
mutual
theorem Rp.dp {K : PySem.W.Frag} {N : Addr → Prop} {H : Hp} : ∀ {v : V} {d : PyData}, noD d = true → Rp N H v d → Dp K H v d
  | _, _, _, .non => .non
  | _, _, _, .bl b => .bl b
  | _, _, _, .int i => .int i
  | _, _, _, .str x => .str x
  | _, _, s, .lst e _ r => .lst (SqL.of e) (RpAll.dp (by simpa [noD] using s) r)
  | _, _, s, .tup e _ r => .tup (SqT.of e) (RpAll.dp (by simpa [noD] using s) r)
  | _, _, s, .dct _ _ => by simp [noD] at s
theorem RpAll.dp {K : PySem.W.Frag} {N : Addr → Prop} {H : Hp} : ∀ {vs : List V} {ds : List PyData}, noDs ds = true → RpAll N H vs ds → DpAll K H vs ds
  | _, _, _, .nil => .nil
  | _, _, s, .cons a b => by
    have s' := s
    simp only [noDs, Bool.and_eq_true] at s'
    exact .cons (Rp.dp s'.1 a) (RpAll.dp s'.2 b)
end
/-- the built-in class of a datum -/
def tyN : PyData → String
  | .none => "NoneType"
  | .bool _ => "bool"
  | .int _ => "int"
  | .str _ => "str"
  | .list _ => "list"
  | .tuple _ => "tuple"
  | .dict _ => "dict"
theorem Rp.ty {K : PySem.W.Frag} {N : Addr → Prop} {H : Hp} {v : V} {d : PyData} (r : Rp N H v d) : TyX K H v (.type (tyN d)) := by
  cases r with
  | non => exact .base .non
  | bl b => exact .base (.bl b)
  | int i => exact .base (.int i)
  | str x => exact .base (.str x)
  | lst e _ _ => exact .base (.lst e)
  | tup e _ _ => exact .base (.tup e)
  | dct e _ => exact .base (.dK e)
def isTy (d : PyData) (T : String) : Bool := tyN d == T || (tyN d == "bool" && T == "int")
def tys : List String := ["int", "str", "bool", "list", "tuple", "dict"]
theorem kit_all : ∀ n, n ∈ ["NoneType", "bool", "int", "str", "list", "tuple", "dict"] → ∀ T, T ∈ tys → kitB n T = some (n == T || (n == "bool" && T == "int")) := by decide +kernel
theorem tyN_mem (d : PyData) : tyN d ∈ ["NoneType", "bool", "int", "str", "list", "tuple", "dict"] := by cases d <;> simp [tyN]
def zIsi (K : PySem.W.Frag) : List V → Hp → VK → Prop := rIsi K
theorem zc_isi {X : Cx} : CallR X (.builtin "isinstance") (zIsi X.K) := call_isi
theorem i_isi {K : PySem.W.Frag} {N : Addr → Prop} {H : Hp} {Q : VK} {x : V} {d : PyData} {T : String} (r : Rp N H x d) (hT : T ∈ tys) (q : Q (.bl (isTy d T)) H) : zIsi K [x, .ty T] H Q :=
  ⟨x, .ty T, _, _, _, rfl, .ty T, r.ty, kit_ty (kit_all _ (tyN_mem d) T hT), q⟩
theorem rel_ty (n : String) : RelV (.ty n) (.type n) := rfl
theorem Rp.isStr {N : Addr → Prop} {H : Hp} {x : V} {d : PyData} (r : Rp N H x d) : isTy d "str" = true → ∃ l, x = .str (S l) ∧ d = .str (S l) := by
  intro h
  cases r with
  | str w => exact ⟨codes w, rfl, rfl⟩
  | _ => simp [isTy, tyN] at h
theorem Rp.isTup {N : Addr → Prop} {H : Hp} {x : V} {d : PyData} (r : Rp N H x d) : isTy d "tuple" = true → ∃ a xs ds, x = .ref a ∧ d = .tuple ds ∧ H a = some (.tup xs) ∧ ¬ N a ∧ RpAll N H xs ds := by
  intro h
  cases r with
  | tup e n q => exact ⟨_, _, _, rfl, rfl, e, n, q⟩
  | _ => simp [isTy, tyN] at h
theorem Rp.isList {N : Addr → Prop} {H : Hp} {x : V} {d : PyData} (r : Rp N H x d) : isTy d "list" = true → ∃ a xs ds, x = .ref a ∧ d = .list ds ∧ H a = some (.lst xs) ∧ ¬ N a ∧ RpAll N H xs ds := by
  intro h
  cases r with
  | lst e n q => exact ⟨_, _, _, rfl, rfl, e, n, q⟩
  | _ => simp [isTy, tyN] at h
/-! ### a comprehension whose element is a function of the item -/
section
variable {σ : L2.St} {H : Hp} {Q : VK} {K : PySem.W.Frag}
theorem l_map {J : It} {n : Nat} {G : Hp → Prop} {Y : Nat → Hp → V → Hp → Prop} (w : Walk J n G Y) {j : Nat} {te : TE} {vs : List Nat} {Dl : Addr} (hD : H Dl = none) (W : L2.St) (hw : wipe σ vs = W) (hw2 : ∀ x : V, wipe (W.set j (some x)) vs = W)
    (xs : List V) (hn : n = xs.length) (hl : xs.length ≤ 99999) (hY : ∀ i H1 x H2, i < n → G H1 → Y i H1 x H2 → H2 = H1 ∧ xs[i]? = some x) (hG : ∀ H1, Same H H1 → G H1) (f : V → V)
    (hs : ∀ (x : V) (H1 : Hp) (P : VK), x ∈ xs → Same H H1 → (∀ H2, Same H1 H2 → P (f x) H2) → te (W.set j (some x)) H1 P)
    (hd : ∀ H1, Same H H1 → H1 Dl = some (.lst (xs.map f)) → Q (.ref Dl) H1) : LC J (gName j) tYes te vs σ H Q Dl := by
  subst hn
  refine l_comp w W hw (fun i acc H1 => Same H H1 ∧ acc = (xs.take i).map f) ⟨(Same.refl H).newz hD, by simp⟩ (fun i acc H1 _ p _ => hG H1 p.1) ?_ ?_
  · rintro i x acc H1 H2 hi ⟨sm, rfl⟩ e hl2 y
    obtain ⟨rfl, hx⟩ := hY i _ x _ hi (hG _ sm) y
    refine i_gname ?_
    refine i_lct (hw2 x) ?_
    refine i_yes ?_
    refine iteT ?_
    refine hs x _ _ (List.mem_of_getElem? hx) sm fun H3 s3 => ?_
    refine cend (s3 _ _ e) hl2 (by omega) ⟨(sm.trans s3).mutz hD, ?_⟩
    rw [List.take_add_one, hx]
    simp
  · rintro acc H1 ⟨sm, rfl⟩ e _
    rw [List.take_length] at e
    exact hd H1 sm e
theorem l_mapS {a : List Nat} {j : Nat} {te : TE} {vs : List Nat} {Dl : Addr} (hD : H Dl = none) (W : L2.St) (hw : wipe σ vs = W) (hw2 : ∀ x : V, wipe (W.set j (some x)) vs = W) (hl : a.length ≤ 99999) (f : Nat → V)
    (hs : ∀ (c : Nat) (H1 : Hp) (P : VK), c ∈ a → Same H H1 → (∀ H2, Same H1 H2 → P (f c) H2) → te (W.set j (some (.str (S [c])))) H1 P)
    (hd : ∀ H1, Same H H1 → H1 Dl = some (.lst (a.map f)) → Q (.ref Dl) H1) : LC (Its (S a)) (gName j) tYes te vs σ H Q Dl := by
  let f' : V → V := fun v => match v with | .str w => f ((codes w).headD 0) | _ => .non
  refine l_map (walk_str (z := S a)) hD W hw hw2 (a.map fun c => V.str (S [c])) (by simp) (by rw [List.length_map]; exact hl) (fun i H1 x H2 hi _ y => ?_) (fun _ _ => trivial) f' (fun x H1 P hx sm hP => ?_) fun H1 sm e => hd H1 sm ?_
  · obtain ⟨e, c, hc, ex⟩ := y
    refine ⟨e, ?_⟩
    rw [List.getElem?_map, show a[i]? = some c by simpa using hc, ex]
    rfl
  · obtain ⟨c, hc, rfl⟩ := List.mem_map.mp hx
    exact hs c H1 P hc sm hP
  · rw [List.map_map] at e
    exact e
end
def zAll (K : PySem.W.Frag) : List V → Hp → VK → Prop := rAll K
def zAny (K : PySem.W.Frag) : List V → Hp → VK → Prop := rAny K
theorem zc_all {X : Cx} (hc : X.calm = true) : CallR X (.builtin "all") (zAll X.K) := cr_all hc
theorem zc_any {X : Cx} (hc : X.calm = true) : CallR X (.builtin "any") (zAny X.K) := cr_any hc
theorem i_all {K : PySem.W.Frag} {H : Hp} {Q : VK} {a : Addr} {bs : List Bool} (h : SqL K H a (bs.map V.bl)) (q : Q (.bl (bs.all id)) H) : zAll K [.ref a] H Q := ⟨a, bs, rfl, h, q⟩
theorem i_any {K : PySem.W.Frag} {H : Hp} {Q : VK} {a : Addr} {bs : List Bool} (h : SqL K H a (bs.map V.bl)) (q : Q (.bl (bs.any id)) H) : zAny K [.ref a] H Q := ⟨a, bs, rfl, h, q⟩
def zSum (K : PySem.W.Frag) : List V → Hp → VK → Prop := rSum K
theorem zc_sum {X : Cx} (hc : X.calm = true) : CallR X (.builtin "sum") (zSum X.K) := cr_sum hc
theorem i_sum {K : PySem.W.Frag} {H : Hp} {Q : VK} {a : Addr} {ns : List Int} (h : SqL K H a (ns.map V.int)) (q : Q (.int ns.sum) H) : zSum K [.ref a] H Q := ⟨a, ns, rfl, h, q⟩
/-! for operands of more than one kind -/
def zLtA : R2 := fun x y H Q => zLt x y H Q ∨ zLtS x y H Q
theorem z_ltA {X : Cx} : OpR X (compareOp .Lt) zLtA := by
  intro pins s σ H x y v u Q I rx ry h
  rcases h with h | h
  · exact z_lt pins s σ H x y v u Q I rx ry h
  · exact z_lts pins s σ H x y v u Q I rx ry h
theorem i_ltAI {i j : Int} {H : Hp} {Q : VK} (q : Q (.bl (decide (i < j))) H) : zLtA (.int i) (.int j) H Q := .inl (i_lt q)
theorem i_ltAS {a b : List Nat} {H : Hp} {Q : VK} (q : Q (.bl (decide (a < b))) H) : zLtA (.str (S a)) (.str (S b)) H Q := .inr (i_lts q)
def zSlA (K : PySem.W.Frag) : V → Option Int → Option Int → Hp → VK → Prop := fun x lo hi H Q => rSlS x lo hi H Q ∨ rSlA K x lo hi H Q ∨ rSlL K x lo hi H Q
theorem sl_A {X : Cx} : SlR X (zSlA X.K) := by
  intro pins s σ H x v vl vu lo hi sl Q I rx hs pl pu h
  rcases h with h | h | h
  · exact sl_str pins s σ H x v vl vu lo hi sl Q I rx hs pl pu h
  · exact sl_tupA pins s σ H x v vl vu lo hi sl Q I rx hs pl pu h
  · exact sl_list pins s σ H x v vl vu lo hi sl Q I rx hs pl pu h
theorem one_lt {c d : Nat} : decide ([c] < [d]) = decide (c < d) := by
  by_cases h : c < d
  · rw [decide_eq_true h]; exact decide_eq_true (List.Lex.rel h)
  · rw [decide_eq_false h]
    refine decide_eq_false fun q => ?_
    cases q with
    | rel q => exact h q
    | cons q => cases q
section
variable {σ : L2.St} {H : Hp} {K : PySem.W.Frag} {R : L2.St → Hp → Prop} {v : V} {r : List V} {t : TG} {u ts : TGs}
theorem i_gtup {a : Addr} {xs : List V} {n : Nat} (h : SqT K H a xs) (hl : xs.length = n) (q : ts xs σ H R) : gTup K n ts (.ref a) σ H R := ⟨a, xs, rfl, h, hl, q⟩
theorem i_gcons (q : t v σ H fun σ' H' => u r σ' H' R) : gCons t u (v :: r) σ H R := ⟨v, r, rfl, q⟩
theorem i_gnil (q : R σ H) : gNil [] σ H R := ⟨rfl, q⟩
theorem i_izip {ta : TA} {R : It → Hp → Prop} (q : ta σ H fun vs H1 => KZ K vs H1 fun J => R J H1) : iZipZ K ta σ H R := q
theorem i_KZ {x y : V} {R : It → Prop} (c d : Sd) {xs ys : List V} (vc : c.val x) (vd : d.val y) (hx : c.is K H xs) (hy : d.is K H ys) (q : R (ItZ K c d)) : KZ K [x, y] H R := ⟨x, y, c, d, xs, ys, rfl, vc, vd, hx, hy, q⟩
end
/-- each one is less than the next -/
def adj {α : Type} (lt : α → α → Bool) : List α → Bool
  | [] => true
  | [_] => true
  | a :: b :: r => lt a b && adj lt (b :: r)
theorem adj_all {α : Type} (lt : α → α → Bool) : ∀ l : List α, ((l.zip (l.drop 1)).map fun p => lt p.1 p.2).all id = adj lt l
  | [] => rfl
  | [_] => rfl
  | a :: b :: r => by
    have ih := adj_all lt (b :: r)
    show (lt a b && (((b :: r).zip r).map fun p => lt p.1 p.2).all id) = (lt a b && adj lt (b :: r))
    rw [← ih]; rfl
theorem adj_asc : ∀ l : List Nat, adj (fun a b => decide (a < b)) l = decide (l.Pairwise (· < ·))
  | [] => by simp [adj]
  | [_] => by simp [adj]
  | a :: b :: r => by
    have ih := adj_asc (b :: r)
    show (decide (a < b) && adj (fun a b => decide (a < b)) (b :: r)) = _
    rw [ih, Bool.eq_iff_iff, Bool.and_eq_true, decide_eq_true_iff, decide_eq_true_iff, decide_eq_true_iff]
    constructor
    · rintro ⟨h1, h2⟩
      refine List.pairwise_cons.mpr ⟨fun c hc => ?_, h2⟩
      rcases List.mem_cons.mp hc with q | q
      · rw [q]; exact h1
      · exact Nat.lt_trans h1 (List.rel_of_pairwise_cons h2 q)
    · intro h
      exact ⟨List.rel_of_pairwise_cons h (by simp), (List.pairwise_cons.mp h).2⟩
theorem adj_ascI : ∀ l : List Int, adj (fun a b => decide (a < b)) l = decide (l.Pairwise (· < ·))
  | [] => by simp [adj]
  | [_] => by simp [adj]
  | a :: b :: r => by
    have ih := adj_ascI (b :: r)
    show (decide (a < b) && adj (fun a b => decide (a < b)) (b :: r)) = _
    rw [ih, Bool.eq_iff_iff, Bool.and_eq_true, decide_eq_true_iff, decide_eq_true_iff, decide_eq_true_iff]
    constructor
    · rintro ⟨h1, h2⟩
      refine List.pairwise_cons.mpr ⟨fun c hc => ?_, h2⟩
      rcases List.mem_cons.mp hc with q | q
      · rw [q]; exact h1
      · exact Int.lt_trans h1 (List.rel_of_pairwise_cons h2 q)
    · intro h
      exact ⟨List.rel_of_pairwise_cons h (by simp), (List.pairwise_cons.mp h).2⟩
theorem zte {t : TE} {σ : L2.St} {H : Hp} {P : VK} (L : L2.St) (h : σ = L) (q : t L H P) : t σ H P := h ▸ q
theorem l_zipmap {σ : L2.St} {H : Hp} {Q : VK} {K : PySem.W.Frag} {c d : Sd} {xs ys : List V} {j1 j2 : Nat} {te : TE} {vs : List Nat} {Dl : Addr} (hD : H Dl = none) (W : L2.St) (hw : wipe σ vs = W) (hw2 : ∀ x y : V, wipe ((W.set j1 (some x)).set j2 (some y)) vs = W)
    (hc : ∀ H1, Same H H1 → c.is K H1 xs) (hd : ∀ H1, Same H H1 → d.is K H1 ys) (hl : min xs.length ys.length ≤ 99999) (f : V → V → V)
    (hs : ∀ (x y : V) (H1 : Hp) (P : VK), x ∈ xs → y ∈ ys → Same H H1 → (∀ H2, Same H1 H2 → P (f x y) H2) → te ((W.set j1 (some x)).set j2 (some y)) H1 P)
    (hq : ∀ H1, Same H H1 → H1 Dl = some (.lst ((xs.zip ys).map fun p => f p.1 p.2)) → Q (.ref Dl) H1) : LC (ItZ K c d) (gTup K 2 (gCons (gName j1) (gCons (gName j2) gNil))) tYes te vs σ H Q Dl := by
  refine l_comp (walk_zipZ (K := K) (n := min xs.length ys.length) rfl) W hw (fun i acc H1 => Same H H1 ∧ acc = ((xs.zip ys).take i).map fun p => f p.1 p.2) ⟨(Same.refl H).newz hD, by simp⟩ (fun i acc H1 _ p _ => ⟨hc _ p.1, hd _ p.1⟩) ?_ ?_
  · rintro i v acc H1 H2 hi ⟨sm, rfl⟩ e hl2 ⟨T, x, y, rfl, hT, rfl, hx, hy⟩
    have hx : xs[i]? = some x := hx
    have hy : ys[i]? = some y := hy
    refine i_gtup (SqT.of upd_same) rfl ?_
    refine i_gcons (i_gname (i_gcons (i_gname (i_gnil ?_))))
    refine i_lct (hw2 x y) ?_
    refine i_yes ?_
    refine iteT ?_
    have s2 : Same H (upd H1 T (.tup [x, y])) := sm.newz hT
    refine hs x y _ _ (List.mem_of_getElem? hx) (List.mem_of_getElem? hy) s2 fun H3 s3 => ?_
    refine cend (s3 _ _ (by rw [upd_ne (ne_of_none e hT)]; exact e)) hl2 (by omega) ⟨(s2.trans s3).mutz hD, ?_⟩
    have hz : (xs.zip ys)[i]? = some (x, y) := List.getElem?_zip_eq_some.mpr ⟨hx, hy⟩
    rw [List.take_add_one, hz]
    simp
  · rintro acc H1 ⟨sm, rfl⟩ e _
    rw [List.take_of_length_le (by simp)] at e
    exact hq H1 sm e
theorem zip_map {α β : Type} (f : α → V) (g : β → V) (F : V → V → V) (b : α → β → V) (hb : ∀ x y, F (f x) (g y) = b x y) : ∀ (l : List α) (m : List β), ((l.map f).zip (m.map g)).map (fun p => F p.1 p.2) = (l.zip m).map fun p => b p.1 p.2
  | [], _ => rfl
  | _ :: _, [] => rfl
  | x :: l, y :: m => by
    show F (f x) (g y) :: _ = b x y :: _
    rw [hb]
    exact congrArg _ (zip_map f g F b hb l m)
/-- the first code of a text of one sign, an int of a value -/
def chr1 : V → Nat
  | .str w => (codes w).headD 0
  | _ => 0
def int1 : V → Int
  | .int i => i
  | _ => 0
theorem i_slTA {K : PySem.W.Frag} {H : Hp} {Q : VK} {a : Addr} {xs : List V} {lo hi : Option Int} (h : H a = some (.tup xs)) (q : ∀ p H', Same H H' → H' p = some (.tup (cutV xs lo hi)) → Q (.ref p) H') : rSlA K (.ref a) lo hi H Q := by
  refine ⟨a, xs, rfl, SqT.of h, fun hw => ?_, fun _ p hp => q p _ ((Same.refl H).newz hp) upd_same⟩
  refine q a H (Same.refl H) ?_
  have e : cutV xs lo hi = xs := by
    unfold cutV
    rw [hw.1, hw.2, List.drop_zero, Nat.sub_zero, List.take_length]
  rw [e]; exact h
theorem one_lt' {c d : Nat} : (!decide ([c] < [d])) = decide (d ≤ c) := by
  rw [one_lt]
  by_cases h : c < d
  · rw [decide_eq_true h, decide_eq_false (by omega)]; rfl
  · rw [decide_eq_false h, decide_eq_true (by omega)]; rfl
theorem brnb {c : Bool} {A B : Prop} (h1 : c = false → A) (h2 : c = true → B) : if (!c) = true then A else B := by
  cases c
  · exact iteT (h1 rfl)
  · exact iteF (h2 rfl)
theorem iteNF {A B : Prop} (h : A) : if (!false) = true then A else B := h
theorem iteNT {A B : Prop} (h : B) : if (!true) = true then A else B := h
theorem brT {p : Prop} [Decidable p] {A B : Prop} (hp : p) (h : A) : if decide p = true then A else B := by rw [decide_eq_true hp]; exact iteT h
theorem brF {p : Prop} [Decidable p] {A B : Prop} (hp : ¬ p) (h : B) : if decide p = true then A else B := by rw [decide_eq_false hp]; exact iteF h
theorem HandOk.ne {h p : Addr} {H : Hp} (k : HandOk H h) (hp : H p = none) : ¬ p = h := fun e => by obtain ⟨o, ho⟩ := k.some; rw [e, ho] at hp; cases hp
theorem Gd.kp' {h p : Addr} {H H' : Hp} {o : HO} (g : Gd h H H') (e : H p = some o) (n : ¬ p = h) : H' p = some o := g.kp _ _ e n
theorem sub_snoc {α : Type} {cs l : List α} {i : Nat} {x : α} (h : cs.Sublist (l.take i)) (hx : l[i]? = some x) : (cs ++ [x]).Sublist (l.take (i + 1)) := by
  rw [List.take_add_one, hx]
  exact h.append (List.Sublist.refl _)
theorem sub_skip {α : Type} {cs l : List α} {i : Nat} (h : cs.Sublist (l.take i)) : cs.Sublist (l.take (i + 1)) := h.trans (List.take_sublist_take_left (Nat.le_succ i))
theorem find3_S (a : List Nat) (c n : Nat) : (Txt.find3 (S a) (S [c]) (n : Int) = -1 ∧ ∀ k, n ≤ k → a[k]? ≠ some c) ∨
    ∃ k : Nat, Txt.find3 (S a) (S [c]) (n : Int) = (k : Int) ∧ n ≤ k ∧ a[k]? = some c ∧ ∀ v, n ≤ v → v < k → a[v]? ≠ some c := by
  have e : fromIndex (S a).length (n : Int) = n := by
    unfold fromIndex
    rw [if_neg (by omega)]
    omega
  have g : ∀ v, v < a.length → ((S a).cps.getD v 0 = c ↔ a[v]? = some c) := fun v hv => by
    have : (S a).cps.getD v 0 = a[v] := by
      show a.toArray.getD v 0 = _
      simp [Array.getD, hv]
    rw [this, List.getElem?_eq_getElem hv]
    exact ⟨fun h => by rw [h], fun h => Option.some.inj h⟩
  rcases StrLaws.find3_spec (S a) c (n : Int) with ⟨h1, h2⟩ | ⟨k, h1, h2, h3, h4, h5⟩
  · refine .inl ⟨h1, fun k hk q => ?_⟩
    obtain ⟨hl, _⟩ := List.getElem?_eq_some_iff.mp q
    exact h2 k (by rw [e]; exact hk) (by rw [S_len]; exact hl) ((g k hl).mpr q)
  · rw [S_len] at h3
    refine .inr ⟨k, h1, by rw [e] at h2; exact h2, (g k h3).mp h4, fun v hv hvk q => ?_⟩
    exact h5 v (by rw [e]; exact hv) hvk ((g v (by omega)).mpr q)
theorem i_find3 {a : List Nat} {c n : Nat} {H : Hp} {Q : VK} (q1 : (∀ k, n ≤ k → a[k]? ≠ some c) → Q (.int (-1)) H) (q2 : ∀ k : Nat, n ≤ k → a[k]? = some c → (∀ v, n ≤ v → v < k → a[v]? ≠ some c) → Q (.int (k : Int)) H) : zFind3 (.str (S a)) [.str (S [c]), .int (n : Int)] H Q := by
  refine ⟨_, _, _, rfl, rfl, ?_⟩
  rcases find3_S a c n with ⟨h1, h2⟩ | ⟨k, h1, h2, h3, h4⟩
  · rw [h1]; exact q1 h2
  · rw [h1]; exact q2 k h2 h3 h4
/-- the first place is the best one -/
theorem sub_first {c : Nat} {u : List Nat} : ∀ {a : List Nat} {n k : Nat}, n ≤ k → a[k]? = some c → (∀ v, n ≤ v → v < k → a[v]? ≠ some c) → ((c :: u).Sublist (a.drop n) ↔ u.Sublist (a.drop (k + 1))) := by
  intro a n k
  induction k generalizing n a with
  | zero =>
    intro hn hk _
    obtain rfl : n = 0 := by omega
    cases a with
    | nil => simp at hk
    | cons x r =>
      have : x = c := by simpa using hk
      subst this
      simp
  | succ k ih =>
    intro hn hk h
    cases a with
    | nil => simp at hk
    | cons x r =>
      have hk' : r[k]? = some c := by simpa using hk
      cases n with
      | succ n =>
        have := ih (a := r) (n := n) (by omega) hk' (fun v h1 h2 => by have := h (v + 1) (by omega) (by omega); simpa using this)
        simpa using this
      | zero =>
        have hx : x ≠ c := fun q => h 0 (by omega) (by omega) (by simp [q])
        have := ih (a := r) (n := 0) (by omega) hk' (fun v h1 h2 => by have := h (v + 1) (by omega) (by omega); simpa using this)
        rw [List.drop_zero] at this
        rw [List.drop_zero, List.drop_succ_cons, ← this]
        constructor
        · intro q
          cases q with
          | cons _ q => exact q
          | cons_cons => exact absurd rfl hx
        · intro q
          exact .cons _ q
theorem sub_none {c : Nat} {u a : List Nat} {n : Nat} (h : ∀ k, n ≤ k → a[k]? ≠ some c) : ¬ (c :: u).Sublist (a.drop n) := fun q => by
  have hc : c ∈ a.drop n := q.subset (by simp)
  obtain ⟨i, hi⟩ := List.getElem?_of_mem hc
  rw [List.getElem?_drop] at hi
  exact h (n + i) (by omega) hi
theorem l_mapR {σ : L2.St} {H : Hp} {Q : VK} {n j : Nat} {te : TE} {vs : List Nat} {Dl : Addr} (hD : H Dl = none) (W : L2.St) (hw : wipe σ vs = W) (hw2 : ∀ x : V, wipe (W.set j (some x)) vs = W) (hl : n ≤ 99999) (f : Nat → V)
    (hs : ∀ (i : Nat) (H1 : Hp) (P : VK), i < n → Same H H1 → (∀ H2, Same H1 H2 → P (f i) H2) → te (W.set j (some (.int (i : Int)))) H1 P)
    (hd : ∀ H1, Same H H1 → H1 Dl = some (.lst ((List.range n).map f)) → Q (.ref Dl) H1) : LC (Itr 0 n) (gName j) tYes te vs σ H Q Dl := by
  let f' : V → V := fun v => match v with | .int i => f i.toNat | _ => .non
  refine l_map (walk_range (lo := 0) (n := n)) hD W hw hw2 ((List.range n).map fun (i : Nat) => V.int (i : Int)) (by simp) (by simpa using hl) (fun i H1 x H2 hi _ y => ?_) (fun _ _ => trivial) f' (fun x H1 P hx sm hP => ?_) fun H1 sm e => hd H1 sm ?_
  · obtain ⟨e, hx⟩ := y
    refine ⟨e, ?_⟩
    rw [List.getElem?_map, List.getElem?_range hi, hx]
    show some (V.int (i : Int)) = some (V.int (0 + (i : Int)))
    rw [Int.zero_add]
  · obtain ⟨c, hc, rfl⟩ := List.mem_map.mp hx
    exact hs c H1 P (List.mem_range.mp hc) sm hP
  · rw [List.map_map] at e
    exact e
theorem Rp.tupS {N : Addr → Prop} {H : Hp} {v : V} {ds : List PyData} (r : Rp N H v (.tuple ds)) : ∃ a xs, v = .ref a ∧ H a = some (.tup xs) ∧ ¬ N a ∧ RpAll N H xs ds := by
  cases r with
  | tup e n q => exact ⟨_, _, rfl, e, n, q⟩
theorem Rp.strS {N : Addr → Prop} {H : Hp} {v : V} {w : Str} (r : Rp N H v (.str w)) : v = .str w := by cases r; rfl
theorem Rp.intS {N : Addr → Prop} {H : Hp} {v : V} {i : Int} (r : Rp N H v (.int i)) : v = .int i := by cases r; rfl
theorem RpAll.consS {N : Addr → Prop} {H : Hp} {vs : List V} {d : PyData} {ds : List PyData} (r : RpAll N H vs (d :: ds)) : ∃ v ws, vs = v :: ws ∧ Rp N H v d ∧ RpAll N H ws ds := by
  cases r with
  | cons a b => exact ⟨_, _, rfl, a, b⟩
theorem RpAll.nilS {N : Addr → Prop} {H : Hp} {vs : List V} (r : RpAll N H vs []) : vs = [] := by cases r; rfl
theorem RpAll.one {N : Addr → Prop} {H : Hp} {vs : List V} {d : PyData} (r : RpAll N H vs [d]) : ∃ v, vs = [v] ∧ Rp N H v d := by
  obtain ⟨v, ws, rfl, a, b⟩ := r.consS
  rw [b.nilS]; exact ⟨v, rfl, a⟩
theorem RpAll.two {N : Addr → Prop} {H : Hp} {vs : List V} {d d2 : PyData} (r : RpAll N H vs [d, d2]) : ∃ v v2, vs = [v, v2] ∧ Rp N H v d ∧ Rp N H v2 d2 := by
  obtain ⟨v, ws, rfl, a, b⟩ := r.consS
  obtain ⟨v2, rfl, a2⟩ := b.one
  exact ⟨v, v2, rfl, a, a2⟩
theorem RpAll.three {N : Addr → Prop} {H : Hp} {vs : List V} {d d2 d3 : PyData} (r : RpAll N H vs [d, d2, d3]) : ∃ v v2 v3, vs = [v, v2, v3] ∧ Rp N H v d ∧ Rp N H v2 d2 ∧ Rp N H v3 d3 := by
  obtain ⟨v, ws, rfl, a, b⟩ := r.consS
  obtain ⟨v2, v3, rfl, a2, a3⟩ := b.two
  exact ⟨v, v2, v3, rfl, a, a2, a3⟩
theorem RpAll.four {N : Addr → Prop} {H : Hp} {vs : List V} {d d2 d3 d4 : PyData} (r : RpAll N H vs [d, d2, d3, d4]) : ∃ v v2 v3 v4, vs = [v, v2, v3, v4] ∧ Rp N H v d ∧ Rp N H v2 d2 ∧ Rp N H v3 d3 ∧ Rp N H v4 d4 := by
  obtain ⟨v, ws, rfl, a, b⟩ := r.consS
  obtain ⟨v2, v3, v4, rfl, a2, a3, a4⟩ := b.three
  exact ⟨v, v2, v3, v4, rfl, a, a2, a3, a4⟩
theorem sum_count (a : List Nat) (c : Nat) : (a.map fun x => if decide ([x] = [c]) = true then (1 : Int) else 0).sum = (a.count c : Nat) := by
  induction a with
  | nil => rfl
  | cons x r ih =>
    rw [List.map_cons, List.sum_cons, ih]
    by_cases h : x = c
    · subst h
      rw [if_pos (by simp), List.count_cons_self]
      omega
    · rw [if_neg (by simpa using h), List.count_cons_of_ne h]
      omega
theorem row_any (a u : List Nat) (hu : 1 ≤ u.length) : ((List.range a.length).map fun i => decide ((a.drop i).take u.length = u)).any id = decide (u <:+: a) := by
  rw [Bool.eq_iff_iff, decide_eq_true_iff, List.any_eq_true]
  constructor
  · rintro ⟨b, hb, e⟩
    obtain ⟨i, _, rfl⟩ := List.mem_map.mp hb
    have := of_decide_eq_true e
    rw [← this]
    exact (List.take_prefix _ _).isInfix.trans (List.drop_suffix _ _).isInfix
  · rintro ⟨s, t, rfl⟩
    refine ⟨true, List.mem_map.mpr ⟨s.length, List.mem_range.mpr ?_, ?_⟩, rfl⟩
    · rw [List.length_append, List.length_append]; omega
    · exact decide_eq_true (by simp)
theorem one_eq {c d : Nat} : decide ([c] = [d]) = decide (c = d) := by
  by_cases h : c = d
  · subst h; simp
  · rw [decide_eq_false h]; exact decide_eq_false fun q => h (by simpa using q)
theorem mod_eq {x n m : Nat} (hm : m < n) : x % n = m ↔ ((x : Int) - (m : Int)) % (n : Int) = 0 := by
  have h1 : ((x % n : Nat) : Int) = (x : Int) % (n : Int) := Int.natCast_emod x n
  have h2 : (m : Int) % (n : Int) = (m : Int) := Int.emod_eq_of_lt (by omega) (by omega)
  rw [← Int.emod_eq_emod_iff_emod_sub_eq_zero, h2, ← h1]
  omega
theorem nodup_len : ∀ {l L : List Nat}, l.Nodup → (∀ c ∈ l, c ∈ L) → l.length ≤ L.length
  | [], _, _, _ => Nat.zero_le _
  | a :: l, L, hn, hs => by
    have ha : a ∈ L := hs a (by simp)
    have hn' := List.nodup_cons.mp hn
    have ih := nodup_len (l := l) (L := L.erase a) hn'.2 fun c hc => (List.mem_erase_of_ne (show c ≠ a from fun e => hn'.1 (by rw [← e]; exact hc))).mpr (hs c (by simp [hc]))
    have := List.length_erase_of_mem ha
    have h0 : 0 < L.length := List.length_pos_of_mem ha
    rw [List.length_cons]
    omega
/-- different ones out of a list are no more than it has -/
theorem asc_len {l L : List Nat} (h : l.Pairwise (· < ·)) (hs : ∀ c ∈ l, c ∈ L) : l.length ≤ L.length :=
  nodup_len (h.imp fun {a b} q => by omega) hs
end Z

local macro_rules | `(tactic| walk_at "zz") => `(tactic| repeat first
  | with_reducible first
    | refine Z.i_op ?_ | refine Z.i_v0 ?_ | refine Z.i_v1 ?_ | refine Z.i_v2 ?_ | refine Z.i_v3 ?_ | refine Z.i_v4 ?_ | refine Z.i_v5 ?_ | refine Z.i_cs ?_ | refine Z.i_c ?_ | refine Z.i_cons ?_ | refine Z.i_nil ?_ | refine Z.i_seq ?_ | refine Z.i_asg ?_ | refine Z.i_nx ?_ | refine Z.i_rt ?_
    | refine Z.i_KB ?_ | refine Z.i_cb ?_ | refine Z.i_call ?_ | refine Z.i_add ?_ | refine Z.i_sub ?_ | refine Z.i_test ?_ | refine Z.i_ifS ?_ | refine Z.i_eqI ?_ | refine Z.i_lt ?_ 
    | refine Z.i_g0 ?_ | refine Z.i_g1 ?_ | refine Z.i_g2 ?_ | refine Z.i_g3 ?_ | refine Z.i_g4 ?_ | refine Z.i_g5 ?_
    | refine Z.i_v6 ?_ | refine Z.i_v7 ?_ | refine Z.i_v8 ?_ | refine Z.i_v9 ?_ | refine Z.i_v10 ?_ | refine Z.i_v11 ?_ | refine Z.i_v12 ?_ | refine Z.i_v13 ?_ | refine Z.i_v14 ?_
    | refine Z.i_g6 ?_ | refine Z.i_g7 ?_ | refine Z.i_g8 ?_ | refine Z.i_g9 ?_ | refine Z.i_g10 ?_ | refine Z.i_g11 ?_ | refine Z.i_g12 ?_ | refine Z.i_g13 ?_ | refine Z.i_g14 ?_
    | refine Z.i_le ?_ | refine Z.i_gt ?_ | refine Z.i_ge ?_ | refine Z.i_lts ?_ | refine Z.i_les ?_ | refine Z.i_ins ?_ | refine Z.i_nins ?_ | refine Z.i_neI ?_ | refine Z.i_eqS ?_ | refine Z.i_neS ?_ | refine Z.i_eqB ?_ | refine Z.i_neg ?_ | refine Z.i_un ?_
    | refine Z.i_next ?_ | refine Z.i_ret ?_ | refine Z.i_retN ?_ | refine Z.i_drop ?_ | refine Z.i_brk ?_ | refine Z.i_cont ?_ | refine Z.i_bk ?_ | refine Z.i_ct ?_ | refine Z.i_gsub ?_
    | refine Z.i_KI ?_ | refine Z.i_KS ?_ | refine Z.i_if ?_ | refine Z.i_tB ?_ | refine Z.i_tand ?_ | refine Z.i_tor ?_ | refine Z.i_tnot ?_ | refine Z.i_and ?_ | refine Z.i_or ?_ | refine Z.i_not ?_ | refine Z.i_chain ?_
    | refine Z.i_tup ?_ | refine Z.i_lst ?_ | refine Z.i_bm ?_ | refine Z.i_bm0 ?_ | refine Z.i_sl ?_ | refine Z.i_po0 ?_ | refine Z.i_po1 ?_
    | refine Z.i_m1 ?_ | refine Z.i_tyS ?_ | refine Z.i_tyS0 ?_ | refine Z.i_find ?_ | refine Z.i_count ?_ | refine Z.i_starts ?_ | refine Z.i_ends ?_ | refine Z.i_instr ?_ | refine Z.i_gcons ?_ | refine Z.i_gnil ?_ | refine Z.i_izip ?_ | refine Z.i_ltAI ?_ | refine Z.i_ltAS ?_ | refine Z.i_for ?_ | refine Z.i_lc ?_ | refine Z.i_yes ?_ | refine Z.i_r1 ?_ | refine Z.i_istr ?_ | refine Z.i_ilist ?_ | refine Z.i_itup ?_ | refine Z.i_int ?_ | refine Z.i_abs ?_ | refine Z.i_max ?_ | refine Z.i_min ?_
  | ((with_reducible refine' Z.i_ixL ?za ?zb ?_); (case za => exact L2.SqL.of (by assumption)); (case zb => first | rfl | exact Z.at_nat (by decide) rfl))
  | ((with_reducible refine' Z.i_ixT ?za ?zb ?_); (case za => exact L2.SqT.of (by assumption)); (case zb => first | rfl | exact Z.at_nat (by decide) rfl))
  | with_reducible refine Z.i_mul (by first | exact Or.inr ⟨by decide, by decide⟩ | exact Or.inl ⟨by decide, by decide⟩ | omega) ?_
  | with_reducible refine Z.i_mod (by first | decide | omega) ?_
  | with_reducible refine Z.i_div (Z.cdivw (by first | decide | omega) (by first | decide | omega)) ?_
  | ((with_reducible refine' Z.i_lenL ?za ?_); (case za => exact L2.SqL.of (by assumption)))
  | with_reducible refine Z.i_adds (by simp only [List.length_append, List.length_cons, List.length_nil]; omega) ?_
  | with_reducible refine Z.i_lens (by first | omega | (simp only [List.length_append, List.length_cons, List.length_nil]; omega)) ?_
  | ((with_reducible refine Z.i_lct ?zw ?_); (case zw => rfl))
  | ((with_reducible refine' Z.i_gtup ?zt ?zl ?_); (case zt => exact L2.SqT.of (by first | assumption | exact L2.upd_same)); (case zl => rfl))
  | with_reducible refine Z.brT (by decide +kernel) ?_ | with_reducible refine Z.brF (by decide +kernel) ?_
  | with_reducible refine Z.iteNF ?_ | with_reducible refine Z.iteNT ?_
  | with_reducible refine L2.iteT ?_
  | with_reducible refine L2.iteF ?_)
namespace Y
open PySem PySem.Spec PyProof.Rows L2 Z
open C8 (tCut pss_cut Cal pe_c Met pe_mt pe_mt0 Mak pe_mk)
def topS (i : Nat) : Stmt := PySem.Challenge.pw_saidacross_k38_whole_pieces_of_words.main.body.getD i (.Pass ⟨0, 0, 0, 0⟩)
abbrev s__law_draw : Stmt := topS 17
abbrev n__law_draw : List Str := ["_law_hand_here", "_law_many", "_law_cell", "_law_digit", "_law_number"]
theorem sc__law_draw : FnScope n__law_draw ["_law_hand_here", "_law_many"] (defScope s__law_draw) := ⟨rfl, rfl, rfl, by decide +kernel, rfl, by decide +kernel, by decide +kernel⟩

abbrev s__law_hand : Stmt := topS 16
abbrev n__law_hand : List Str := ["_law_script", "_law_cells", "_law_cell"]
theorem sc__law_hand : FnScope n__law_hand ["_law_script"] (defScope s__law_hand) := ⟨rfl, rfl, rfl, by decide +kernel, rfl, by decide +kernel, by decide +kernel⟩

section
variable {P : Program} {w : World} {K : PySem.W.Frag} {mg : Str → Option Value} {base : Heap}
theorem c__law_draw (d : DF K mg "_law_draw" s__law_draw) (B : Bi mg) : Cal P w K mg base 1 "_law_draw" spDraw [] := by
  refine d.cal (N := n__law_draw) sc__law_draw (fun _ _ _ _ _ _ us hl => match us, hl with | [_, _], _ => rfl) (fun vs H Q E h => ?_) (fun f cdv A outer s H vs Q E hr h => ?_)
  · obtain ⟨h, m, rfl, _⟩ := h
    rfl
  · obtain ⟨h, m, rfl, hh, hm0, hm1, k⟩ := h
    refine ⟨_, (pss_cut (ps_if (PW.pt (pw_and (pt_cmpR op_eq (pe_ix (r := rIxL K) ix_list (pv 0) pe_int (fun _ _ => rfl)) pe_int (nomark _)) (pw_and1 (pt_cmpR z_lt (pe_ix (r := rIxL K) ix_list (pv 0) pe_int (fun _ _ => rfl)) (pe_callB (r := zLen K) zc_len (by rfl) B.len (by decide +kernel) (pa_cons (pe_ix (r := rIxL K) ix_list (pv 0) pe_int (fun _ _ => rfl)) pa_nil)) (nomark _))))) (pss_cons (ps_set (i := 2) sc__law_draw.nd rfl (by first | exact Or.inl rfl | exact Or.inr rfl) (pe_ix (r := rIxL K) ix_list (pe_ix (r := rIxL K) ix_list (pv 0) pe_int (fun _ _ => rfl)) (pe_ix (r := rIxL K) ix_list (pv 0) pe_int (fun _ _ => rfl)) (fun _ _ => rfl)))
  (pss_cons (ps_asg (pe_op z_add (pe_ix (r := rIxL K) ix_list (pv 0) pe_int (fun _ _ => rfl)) pe_int) (pg_sub (pv 0) pe_int set_list))
  (pss_cons (ps_asg (pe_op z_mod (pe_callTy zc_int (by rfl) B.int (by decide +kernel) (pa_cons (pe_op z_add (pe_op z_add (pe_op z_mul (pe_ix (r := rIxL K) ix_list (pv 0) pe_int (fun _ _ => rfl)) pe_int) (pv 2)) pe_int) pa_nil)) pe_int) (pg_sub (pv 0) pe_int set_list))
  (pss_one (ps_if (pt_cmpR z_ge (pv 2) (pe_op z_pow pe_int pe_int) (nomark _)) (pss_one (ps_asg (pv 2) (pg_sub (pv 0) pe_int set_list))) pss_nil))))) pss_nil)
  (pss_cons (ps_if (pt_cmpR z_gt (pe_ix (r := rIxL K) ix_list (pv 0) pe_int (fun _ _ => rfl)) pe_int (nomark _)) (pss_cons (ps_set (i := 3) sc__law_draw.nd rfl (by first | exact Or.inl rfl | exact Or.inr rfl) (pe_op z_mod (pe_callTy zc_int (by rfl) B.int (by decide +kernel) (pa_cons (pe_ix (r := rIxL K) ix_list (pv 0) pe_int (fun _ _ => rfl)) pa_nil)) (pv 1)))
  (pss_cons (ps_asg (pe_op z_div (pe_ix (r := rIxL K) ix_list (pv 0) pe_int (fun _ _ => rfl)) (pv 1)) (pg_sub (pv 0) pe_int set_list))
  (pss_one (ps_ret (pv 3))))) pss_nil)
  (pss_cons (ps_asg (pe_op z_add (pe_ix (r := rIxL K) ix_list (pv 0) pe_int (fun _ _ => rfl)) pe_int) (pg_sub (pv 0) pe_int set_list))
  (pss_cons (ps_set (i := 4) sc__law_draw.nd rfl (by first | exact Or.inl rfl | exact Or.inr rfl) (pe_op z_mod (pe_callTy zc_int (by rfl) B.int (by decide +kernel) (pa_cons (pe_op z_mul (pe_callTy zc_int (by rfl) B.int (by decide +kernel) (pa_cons (pe_op z_add (pe_ix (r := rIxL K) ix_list (pv 0) pe_int (fun _ _ => rfl)) (pe_op z_mul pe_int (pe_ix (r := rIxL K) ix_list (pv 0) pe_int (fun _ _ => rfl)))) pa_nil)) pe_int) pa_nil)) pe_int))
  (pss_cons (ps_set (i := 4) sc__law_draw.nd rfl (by first | exact Or.inl rfl | exact Or.inr rfl) (pe_op z_mod (pe_callTy zc_int (by rfl) B.int (by decide +kernel) (pa_cons (pe_op z_mul (pv 4) (pe_op z_add (pe_op z_div (pv 4) pe_int) pe_int)) pa_nil)) pe_int))
  (pss_cons (ps_set (i := 4) sc__law_draw.nd rfl (by first | exact Or.inl rfl | exact Or.inr rfl) (pe_op z_mod (pe_callTy zc_int (by rfl) B.int (by decide +kernel) (pa_cons (pe_op z_mul (pv 4) (pe_op z_add (pe_op z_div (pv 4) pe_int) pe_int)) pa_nil)) pe_int))
  (pss_one (ps_ret (pe_op z_mod (pe_callTy zc_int (by rfl) B.int (by decide +kernel) (pa_cons (pe_op z_div (pv 4) pe_int) pa_nil)) (pv 1)))))))))), ?_⟩
    refine zstart [some (.ref h), some (.int m), none, none, none] rfl ?_; try dsimp only [zK, zK2]
    refine i_cut (fun σ' H' => ∃ v2, σ' = [some (.ref h), some (.int m), v2, none, none] ∧ Gd h H H') ?_ ?_
    · obtain ⟨c, cells, a1, a2, a3, a4, e1, e2, hc, h1, h2, h3, h3', h4⟩ := hh.ex
      have hch : c ≠ h := fun e => by subst e; exact map_int_ne (Option.some.inj (e1.symm.trans e2))
      walk_at "zz"
      refine brd (fun q2 => ?_) fun q2 => ?_
      · walk_at "zz"
        refine brd (fun q1 => ?_) fun q1 => ?_
        · rw [List.length_map] at q1
          walk_at "zz"
          obtain ⟨cell, hcell⟩ : ∃ x, cells[a1.toNat]? = some x := ⟨_, List.getElem?_eq_getElem (by omega)⟩
          have hcell0 := hc _ (List.mem_of_getElem? hcell)
          refine i_ixL (SqL.of e2) (at_nat h1 (by rw [List.getElem?_map, hcell]; rfl)) ?_
          walk_at "zz"
          refine i_setH e1 rfl [V.ref c, V.int (a1 + 1), V.int a2, V.int a3, V.int a4] rfl fun H1 eH => ?_
          obtain ⟨f1, f2, kp1⟩ := hstep eH hch e2 (fun b o e _ => e)
          clear eH
          walk_at "zz"
          refine i_setH f1 rfl [V.ref c, V.int (a1 + 1), V.int a2, V.int ((a3 * 69621 + cell + 11) % 2147483629), V.int a4] rfl fun H2 eH => ?_
          obtain ⟨f3, f4, kp2⟩ := hstep eH hch f2 kp1
          clear eH
          walk_at "zz"
          refine i_pow ⟨by decide, by decide, by decide⟩ ?_
          walk_at "zz"
          have b1 := Int.emod_nonneg (a3 * 69621 + cell + 11) (b := 2147483629) (by decide)
          have b2 := Int.emod_lt_of_pos (a3 * 69621 + cell + 11) (b := 2147483629) (by decide)
          refine brd (fun q3 => ?_) fun q3 => ?_
          · walk_at "zz"
            refine i_setH f3 rfl [V.ref c, V.int (a1 + 1), V.int cell, V.int ((a3 * 69621 + cell + 11) % 2147483629), V.int a4] rfl fun H3 eH => ?_
            obtain ⟨f5, f6, kp3⟩ := hstep eH hch f4 kp2
            clear eH
            walk_at "zz"
            exact ⟨_, rfl, Gd.of hh e1 f5 ⟨c, cells, _, _, _, _, f5, f6, hc, by omega, hcell0, b1, by omega, h4⟩ kp3⟩
          · walk_at "zz"
            exact ⟨_, rfl, Gd.of hh e1 f3 ⟨c, cells, _, _, _, _, f3, f4, hc, by omega, h2, b1, by omega, h4⟩ kp2⟩
        · walk_at "zz"
          exact ⟨_, rfl, Gd.refl hh⟩
      · walk_at "zz"
        exact ⟨_, rfl, Gd.refl hh⟩
    · rintro σ' H1 ⟨v2, rfl, g⟩
      obtain ⟨c, cells, a1, a2, a3, a4, e1, e2, hc, h1, h2, h3, h3', h4⟩ := g.ok.ex
      have hch : c ≠ h := fun e => by subst e; exact map_int_ne (Option.some.inj (e1.symm.trans e2))
      walk_at "zz"
      refine brd (fun q1 => ?_) fun q1 => ?_
      · walk_at "zz"
        refine i_setH e1 rfl [V.ref c, V.int a1, V.int (a2 / m), V.int a3, V.int a4] rfl fun H2 eH => ?_
        obtain ⟨f1, f2, kp1⟩ := hstep eH hch e2 (fun b o e _ => e)
        clear eH
        walk_at "zz"
        exact draw_k k (Int.emod_nonneg _ (by omega)) (Int.emod_lt_of_pos _ hm0) (g.trans (Gd.of g.ok e1 f1 ⟨c, cells, _, _, _, _, f1, f2, hc, h1, Int.ediv_nonneg h2 (by omega), h3, h3', h4⟩ kp1))
      · walk_at "zz"
        refine i_setH e1 rfl [V.ref c, V.int a1, V.int a2, V.int a3, V.int (a4 + 1)] rfl fun H2 eH => ?_
        obtain ⟨f1, f2, kp1⟩ := hstep eH hch e2 (fun b o e _ => e)
        clear eH
        walk_at "zz"
        exact draw_k k (Int.emod_nonneg _ (by omega)) (Int.emod_lt_of_pos _ hm0) (g.trans (Gd.of g.ok e1 f1 ⟨c, cells, _, _, _, _, f1, f2, hc, h1, h2, h3, h3', by omega⟩ kp1))
theorem c__law_hand (d : DF K mg "_law_hand" s__law_hand) (B : Bi mg) : Cal P w K mg base 1 "_law_hand" (spHand K) [] := by
  refine d.cal (N := n__law_hand) sc__law_hand (fun _ _ _ _ _ _ us hl => match us, hl with | [_], _ => rfl) (fun vs H Q E h => ?_) (fun f cdv A outer s H vs Q E hr h => ?_)
  · obtain ⟨a, ns, rfl, _⟩ := h
    rfl
  · obtain ⟨a, ns, rfl, hs, hk, k⟩ := h
    refine ⟨_, (pss_cons (ps_setLc (i := 1) (own := [("_law_cell", 2)]) (g := gName 2) (tt := tYes) rfl sc__law_hand.nd rfl rfl (sw_true rfl rfl rfl (by decide +kernel)) (pi_list (pe_slice (r := rSlL K) sl_list (pv 0) po_none (po_some pe_int))) (blkOk_by (N := n__law_hand) (sc := defScope s__law_hand) (by decide +kernel)) (fun _ _ _ _ _ => (pg_name (i := 2) sc__law_hand.nd rfl (by first | exact Or.inl rfl | exact Or.inr rfl))) (fun _ _ _ _ _ => pts_nil) (fun _ _ _ _ _ => (pe_callB zc_abs (by rfl) B.abs (by decide +kernel) (pa_cons (pe_callTy zc_int (by rfl) B.int (by decide +kernel) (pa_cons (pv 2) pa_nil)) pa_nil))))
  (pss_one (ps_ret (pe_lst (pa_cons (pv 1) (pa_cons pe_int (pa_cons pe_int (pa_cons (pe_op z_add pe_int (pe_callB (r := zLen K) zc_len (by rfl) B.len (by decide +kernel) (pa_cons (pv 1) pa_nil))) (pa_cons pe_int pa_nil))))))))), ?_⟩
    refine zstart [some (.ref a), none, none] rfl ?_; try dsimp only [zK, zK2]
    walk_at "zz"
    refine i_slL hs fun p hp => ?_
    refine i_KL (SqL.of upd_same) fun Dl hD => ?_
    have e63 : cutV (ns.map V.int) none (some 63) = (ns.take 63).map V.int := by
      rw [show (63 : Int) = ((63 : Nat) : Int) from rfl, cutV_to, List.map_take]
    rw [e63] at hD ⊢
    have npD : p ≠ Dl := fun e => by subst e; rw [upd_same] at hD; cases hD
    refine l_comp (walk_list (xs := (ns.take 63).map V.int)) [some (.ref a), none, none] rfl (fun i acc H' => Same H H' ∧ H' p = some (.lst ((ns.take 63).map V.int)) ∧ ∃ cells : List Int, acc = cells.map V.int ∧ ∀ x ∈ cells, 0 ≤ x)
      ⟨((Same.refl H).newz hp).newz hD, by rw [upd_ne npD]; exact upd_same, [], rfl, by simp⟩ (fun i acc H' _ ⟨_, e, _⟩ _ => SqL.of e) ?_ ?_
    · rintro i x acc H1 H2 hi ⟨sm, ep, cells, rfl, h0⟩ eD hl ⟨rfl, hx⟩
      rw [List.getElem?_map] at hx
      obtain ⟨z, hz, rfl⟩ := Option.map_eq_some_iff.mp hx
      have hD0 : H Dl = none := by rw [upd_ne npD.symm] at hD; exact hD
      walk_at "zz"
      refine cend eD hl (by rw [List.length_map, List.length_take] at hi; omega) ⟨sm.mutz hD0, by rw [upd_ne npD]; exact ep, cells ++ [if z < 0 then -z else z], by simp, ?_⟩
      intro x hx
      rcases List.mem_append.mp hx with q | q
      · exact h0 x q
      · rw [List.mem_singleton.mp q]; split <;> omega
    · rintro acc H1 ⟨sm, ep, cells, rfl, h0⟩ eD hl
      walk_at "zz"
      have hlen : cells.length ≤ 63 := by rw [List.length_map, List.length_map, List.length_take] at hl; omega
      refine ⟨by show 5 ≤ sizeLine; decide, fun h hh => ?_⟩
      refine k h _ (sm.free hh) ⟨Dl, cells, 0, 0, _, 0, upd_same, by rw [upd_ne (ne_of_none eD hh)]; exact eD, h0, by omega, by omega, ?_, ?_, by omega⟩ (sm.newz hh)
      · rw [List.length_map]; omega
      · rw [List.length_map]; omega
end
end Y

namespace Y
open PySem PySem.Spec PyProof.Rows L2 Z
open C8 (tCut pss_cut Cal pe_c Met pe_mt pe_mt0 Mak pe_mk)
theorem ztt {t : TT} {σ : L2.St} {H : Hp} {R : Bool → Hp → Prop} (L : L2.St) (h : σ = L) (q : t L H R) : t σ H R := h ▸ q
theorem l_filtR {σ : L2.St} {H : Hp} {Q : VK} {n j : Nat} {tt : TT} {te : TE} {vs : List Nat} {Dl : Addr} (hD : H Dl = none) (W : L2.St) (hw : wipe σ vs = W) (hw2 : ∀ x : V, wipe (W.set j (some x)) vs = W) (hl : n ≤ 99999) (p : Nat → Bool) (f : Nat → V)
    (ht : ∀ (i : Nat) (H1 : Hp) (R : Bool → Hp → Prop), i < n → Same H H1 → (∀ H2, Same H1 H2 → R (p i) H2) → tt (W.set j (some (.int (i : Int)))) H1 R)
    (hs : ∀ (i : Nat) (H1 : Hp) (P : VK), i < n → p i = true → Same H H1 → (∀ H2, Same H1 H2 → P (f i) H2) → te (W.set j (some (.int (i : Int)))) H1 P)
    (hd : ∀ H1, Same H H1 → H1 Dl = some (.lst (((List.range n).filter p).map f)) → Q (.ref Dl) H1) : LC (Itr 0 n) (gName j) tt te vs σ H Q Dl := by
  refine l_comp (walk_range (lo := 0) (n := n)) W hw (fun i acc H1 => Same H H1 ∧ acc = ((List.range i).filter p).map f) ⟨(Same.refl H).newz hD, by simp⟩ (fun _ _ _ _ _ _ => trivial) ?_ ?_
  · rintro i x acc H1 H2 hi ⟨sm, rfl⟩ e hl2 ⟨e2, rfl⟩
    subst e2
    show gName j (V.int (0 + (i : Int))) _ _ _
    rw [Int.zero_add]
    refine i_gname ?_
    refine i_lct (hw2 _) ?_
    refine ht i _ _ hi sm fun H3 s3 => ?_
    refine brb (fun hb => ?_) fun hb => ?_
    · refine hs i _ _ hi hb (sm.trans s3) fun H4 s4 => ?_
      refine cend ((s3.trans s4) _ _ e) hl2 (by omega) ⟨((sm.trans s3).trans s4).mutz hD, ?_⟩
      rw [List.range_succ, List.filter_append, List.map_append]; simp [hb]
    · exact ⟨_, s3 _ _ e, by omega, sm.trans s3, by rw [List.range_succ, List.filter_append]; simp [hb]⟩
  · rintro acc H1 ⟨sm, rfl⟩ e _
    exact hd H1 sm e
theorem i_cat {H : Hp} {Q : VK} {a b : Addr} {xs ys : List V} (h : H a = some (.lst xs)) (h2 : H b = some (.lst ys)) (hl : xs.length + ys.length ≤ 100000) (q : ∀ p, H p = none → Q (.ref p) (upd H p (.lst (xs ++ ys)))) : rCat (.ref a) (.ref b) H Q := ⟨a, b, xs, ys, rfl, rfl, h, h2, le_line hl, q⟩
theorem gd_same {h : Addr} {H H1 H2 : Hp} (g : Gd h H H1) (s : Same H1 H2) : Gd h H H2 := by
  obtain ⟨c, r, r', e0, e1⟩ := g.cell
  obtain ⟨c1, cells, a1, a2, a3, a4, g0, g1, rest⟩ := g.ok.ex
  exact ⟨⟨c1, cells, a1, a2, a3, a4, s _ _ g0, s _ _ g1, rest⟩, fun b u e n => s _ _ (g.kp b u e n), g.ok0, c, r, r', e0, s _ _ e1⟩
theorem and_merge {b c : Bool} {i : Nat} {σ : L2.St} {H : Hp} {R : VK} (hσ : σ[i]? = some (some (.bl c))) (q : R (.bl (b && c)) H) : if b = true then tVar i σ H R else R (.bl false) H := by
  cases b
  · exact q
  · exact ⟨_, hσ, q⟩
theorem or_merge {b c : Bool} {i : Nat} {σ : L2.St} {H : Hp} {R : VK} (hσ : σ[i]? = some (some (.bl c))) (q : R (.bl (b || c)) H) : if (!b) = true then tVar i σ H R else R (.bl true) H := by
  cases b
  · exact ⟨_, hσ, q⟩
  · exact q
theorem ite_swap {b : Bool} {A B : Prop} (h : if (!b) = true then B else A) : if b = true then A else B := by
  cases b <;> exact h
theorem nw {H : Hp} {p a : Addr} {o u : HO} (hp : H p = none) (e : H a = some u) : upd H p o a = some u := by rw [upd_ne (ne_of_none e hp)]; exact e
theorem kp_mut {Tl : Addr} {H : Hp} {o : HO} : Kp (· = Tl) H (upd H Tl o) := fun b u e n => by rw [upd_ne n]; exact e
def spLaw (K : PySem.W.Frag) : Sp := fun vs H Q _ => ∃ (a : Addr) (ns : List Int), vs = [.ref a] ∧ SqL K H a (ns.map V.int) ∧ ns.length ≤ 63 ∧ ∀ H', Q (.bl true) H'
end Y

namespace Y
open PySem
section
variable {prog : Program} {w : World} {A : Around} {s : Shared} {R : Result → Shared → Prop}
theorem wpAny_extend_str (S : Addr) (x : Str) (t : Tok) (res : Value) (c₀ : Nat) (hh : A.handled = none) (hS : s.heap.get? S = some { cls := .type "list", data := .seq #[] c₀ })
    (hR : ∀ s' acc c', (∀ b o, b ≠ S → s.heap.get? b = some o → s'.heap.get? b = some o) → s'.gens = s.gens → s'.drawn = s.drawn → s'.os = s.os → s'.heap.get? S = some { cls := .type "list", data := .seq acc c' } → ItemsOf (SignAt x) acc x.cps.size → R (.ok (.ret res)) s')
    (hn : x.cps.size ≤ sizeLine) :
    wpAny (model prog w) A.in1 (Builtin.List.listExtendWith (.ref S) (.str x t) res)
      (fun fin s' => match fin with | .done f => R (.ok f) s' | .again c' => c'.quiet = true ∧ codeAny (model prog w) A c' R s') (fun e s' => R (.error e) s') s := by
  have hSl := Heap.lt_size hS
  unfold Builtin.List.listExtendWith
  refine wpAny_bind (wpAny_typeOf (T := "str") (v := .str x t) rfl ?_)
  have h1 : Builtin.List.listSameRef (.ref S) (.str x t) = false := rfl
  have h2 : (Value.type "str" == Value.type "list") = false := by decide
  have h3 : (Value.type "str" == Value.type "tuple") = false := by decide
  simp only [h1, h2, h3, Bool.or_false, Bool.false_eq_true, if_false]
  refine wpAny_bind (wpAny_pyIter_str fun o St W hst => ?_)
  refine wpAny_bind (wpAny_holding ?_)
  unfold Builtin.List.listLengthHint
  refine wpAny_bind (wpAny_specialOf (T := "str") (v := .str x t) rfl F.str_len ?_)
  wp_delta
  refine wpAny_bind (wpAny_isInstance (T := "str") (v := .str x t) (b := true) rfl (by rw [isSubtype_type]; kernel_rfl) ?_)
  show wpAny _ A.in1 (typeOf (Value.str x t) >>= _) _ _ _
  refine wpAny_bind (wpAny_typeOf (T := "str") (v := .str x t) rfl ?_)
  refine wpAny_pure ?_
  rw [if_neg (by decide)]
  have hSf : S ∉ [s.heap.objs.size] := fun hm => by rw [List.mem_singleton.mp hm] at hSl; exact absurd hSl (Nat.lt_irrefl _)
  have hS' : (s.heap.push o).get? S = some { cls := .type "list", data := .seq #[] c₀ } := Heap.get?_push_of_some _ hS
  refine wpAny_pure ⟨plainId_quiet F.plain_extend_loop _, codeAny_extend_loopS (W A.in1 hh).toS hn _ hSf _ x.cps.size 0 _ _ _ rfl (Nat.zero_le _) hst hS' (ItemsOf.nil _) fun s' acc' c' hm hS' hacc => ?_⟩
  refine hR s' acc' c' (fun b ob hb e => hm.heap b ob (fun hb2 => ?_) (Heap.get?_push_of_some _ e)) hm.gens hm.drawn hm.os hS' hacc
  have hlt := Heap.lt_size e
  rcases List.mem_cons.mp hb2 with h | h
  · exact hb h
  · rw [List.mem_singleton.mp h] at hlt; exact Nat.lt_irrefl _ hlt
end
section
variable {prog : Program} {w : World} {A : Around} {E : Value → Shared → Prop} {s : Shared}
theorem call_list_str {Q : Value → Shared → Prop} (hh : A.handled = none) (x : Str) (t : Tok) (hn : x.cps.size ≤ sizeLine)
    (hQ : ∀ s' acc c', (∀ b o, s.heap.get? b = some o → s'.heap.get? b = some o) → s'.gens = s.gens → s'.drawn = s.drawn → s'.os = s.os → s'.heap.get? s.heap.objs.size = some { cls := .type "list", data := .seq acc c' } → ItemsOf (SignAt x) acc x.cps.size → Q (.ref s.heap.objs.size) s') :
    wpAny (model prog w) A (call (.type "list") [.str x t]) Q E s := by
  refine callType_codes (Q₁ := fun obj s₁ => obj = .ref s.heap.objs.size ∧ s₁ = { s with heap := s.heap.push { cls := .type "list", data := .seq #[] } }) F.called_list (F.typeCall_list_1 _) F.entry_list_init
    (code_list_new _ ⟨rfl, rfl⟩) fun obj s₁ h₁ => ?_
  obtain ⟨rfl, rfl⟩ := h₁
  have hS : (s.heap.push { cls := .type "list", data := .seq #[] }).get? s.heap.objs.size = some { cls := .type "list", data := .seq #[] } := Heap.get?_push_size _ rfl
  refine ⟨⟨_, hS, rfl⟩, F.args_list_init_2 _ _, ?_⟩
  show wpAny _ _ (do let old ← Builtin.List.listItems (.ref s.heap.objs.size); Builtin.List.listUpdate (.ref s.heap.objs.size) (fun _ => #[]); letGo old.toList.reverse; Builtin.List.listExtendWith (.ref s.heap.objs.size) (.str x t) .none) _ _ _
  refine wpAny_bind ?_
  unfold Builtin.List.listItems
  refine wpAny_bind (wpAny_seqItems hS rfl (wpAny_pure ?_))
  show wpAny _ _ (updateSeq s.heap.objs.size (fun _ => #[]) >>= fun _ => letGo (#[] : Array Value).toList.reverse >>= fun _ => Builtin.List.listExtendWith (.ref s.heap.objs.size) (.str x t) .none) _ _ _
  refine wpAny_bind (wpAny_updateSeq hS rfl ?_)
  have hS₂ := Heap.get?_update_self (Obj.mapSeq (fun _ => (#[] : Array Value))) hS rfl
  refine wpAny_bind (wpAny_letGo ?_)
  refine wpAny_extend_str _ x t _ _ hh hS₂ (fun s' acc c' k g d o e it => ⟨rfl, ?_⟩) hn
  refine hQ s' acc c' (fun b ob eb => ?_) g d o e it
  have hb : b ≠ s.heap.objs.size := fun e' => Nat.lt_irrefl _ (e' ▸ Heap.lt_size eb)
  exact k b ob hb ((Heap.get?_update_other _ _ (Ne.symm hb)).trans (Heap.get?_push_of_some _ eb))
theorem cmp_signs {P : Nat → Value → Prop} (val : Nat → Nat) (hval : ∀ i v, P i v → ∃ t, v = .str ⟨#[val i]⟩ t) :
    CmpOf prog w A .Gt P (fun i j => decide ((val i : Int) > (val j : Int))) := fun i j vi vj s Q E hi hj h => by
  obtain ⟨t, rfl⟩ := hval i vi hi
  obtain ⟨u, rfl⟩ := hval j vj hj
  have e : decide ((⟨#[val j]⟩ : Str).cps.toList < (⟨#[val i]⟩ : Str).cps.toList) = decide ((val i : Int) > (val j : Int)) := by
    show decide ([val j] < [val i]) = _
    simp [List.cons_lt_cons_iff]
  replace h : Q (Value.bool (decide ((val i : Int) > (val j : Int)))) s := h
  rw [← e] at h
  exact richCompare_gives (op := .Gt) (typeIs_str s _ t) (typeIs_str s _ u) F.slot_str_gt F.entry_str_gt (F.args_str_gt_2 _ _) (gives_str_gt _ _ t u) (fun x => nomatch x) h
theorem max_signs {Q : Value → Shared → Prop} {l : Addr} {items : Array Value} (val : Nat → Nat) (hh : A.handled = none) (hl : s.heap.IsList l items) (hv : ∀ (i : Nat) (v : Value), items[i]? = some v → ∃ t, v = .str ⟨#[val i]⟩ t) (hne : 0 < items.size)
    (h : ∀ k t h' tk, k < items.size → (∀ j, j < items.size → val j ≤ val k) → (∀ b o, s.heap.get? b = some o → h'.get? b = some o) → Q (.str ⟨#[val k]⟩ t) { s with heap := h', toks := tk }) :
    wpAny (model prog w) A (call (.builtin "max") [.ref l]) Q E s := by
  refine call_max_walk ?_
  have hlt : l < s.heap.objs.size := by obtain ⟨_, e, _⟩ := hl; exact Heap.lt_size e
  refine wpAny_pyIter_list hl ?_
  refine ⟨_, _, _, _, _, _, _, rfl, Walks.list (A := A.in1) hh _ l (Nat.ne_of_lt hlt) items, ⟨⟨_, Heap.get?_push_size _ rfl, rfl, rfl⟩, hl.push _⟩, fun b hb => ?_, hne, cmp_signs val (fun i v => hv i v), fun v h' tk hP hk => ?_⟩
  · show b < (s.heap.push _).objs.size
    rw [Heap.size_push]
    rcases List.mem_cons.mp hb with rfl | hb
    · exact Nat.lt_succ_self _
    · rcases List.mem_cons.mp hb with rfl | hb
      · exact Nat.lt_succ_of_lt hlt
      · cases hb
  · obtain ⟨t, rfl⟩ := hv _ _ hP
    obtain ⟨h1, h2⟩ := argBest_gt (fun i => (val i : Int)) (items.size - 1)
    exact h _ t h' tk (by omega) (fun j hj => by have := h2 j (by omega); exact Int.ofNat_le.mp this) (old_kept hk)
end
end Y
namespace Y
open PySem PySem.Spec PyProof.Rows L2 Z
open C8 (tCut pss_cut Cal pe_c Met pe_mt pe_mt0 Mak pe_mk)
def zListS : List V → Hp → VK → Prop := fun vs H Q => ∃ z : List Nat, vs = [.str (S z)] ∧ z.length ≤ 100000 ∧ ∀ p, H p = none → Q (.ref p) (upd H p (.lst (z.map fun c => V.str (S [c]))))
theorem vals_signs : ∀ (z : List Nat) (vs : List Value), vs.length = z.length → (∀ (j : Nat) (v : Value), vs[j]? = some v → ∃ c u, z[j]? = some c ∧ v = .str ⟨#[c]⟩ u) → Vals (z.map fun c => V.str (S [c])) vs
  | [], [], _, _ => .nil
  | c :: z, v :: vs, h, q => by
    obtain ⟨c', u, e1, e2⟩ := q 0 v rfl
    cases e1
    refine .cons ⟨u, e2⟩ (vals_signs z vs (by simpa using h) fun j v hv => ?_)
    obtain ⟨c', u, e1, e2⟩ := q (j + 1) v (by simpa using hv)
    exact ⟨c', u, by simpa using e1, e2⟩
  | [], _ :: _, h, _ => by simp at h
  | _ :: _, [], h, _ => by simp at h
theorem zc_listS {X : Cx} (hc : X.calm = true) : CallR X (.type "list") zListS := by
  intro pins s σ H vs us Q I r h
  obtain ⟨z, rfl, hz, q⟩ := h
  obtain ⟨u, rfl, rx⟩ := vals1 r
  obtain ⟨t, rfl⟩ := rx
  have hsz : (S z).cps.size = z.length := by simp
  refine call_list_str (I.ok.hd hc) (S z) t (by rw [hsz]; exact le_line hz) fun s1 acc c' k g dr os e it => ?_
  obtain ⟨h1, g1, d1, t1, o1⟩ := s1
  subst g dr os
  replace k : ∀ b o, s.heap.get? b = some o → h1.get? b = some o := k
  replace e : h1.get? s.heap.objs.size = some { cls := .type "list", data := .seq acc c' } := e
  have hV : Vals (z.map fun c => V.str (S [c])) acc.toList := vals_signs z acc.toList (by rw [Array.length_toList, it.1, hsz]) fun j v hv => by
    obtain ⟨c, u, e1, e2⟩ := it.2 j v (by simpa using hv)
    exact ⟨c, u, by simpa using e1, e2⟩
  exact ⟨.ref _, upd H s.heap.objs.size (.lst (z.map fun c => V.str (S [c]))), I.laid (t' := t1) k (Nat.le_refl _) ⟨by rw [List.length_map]; exact le_line hz, _, c', hV, by simpa using e⟩, rfl, q _ (I.hok.fresh (Nat.le_refl _))⟩
theorem i_listS {a : List Nat} {H : Hp} {Q : VK} (hl : a.length ≤ 100000) (q : ∀ p, H p = none → Q (.ref p) (upd H p (.lst (a.map fun c => V.str (S [c]))))) : zListS [.str (S a)] H Q := ⟨a, rfl, hl, q⟩
def zMaxC (K : PySem.W.Frag) : List V → Hp → VK → Prop := fun vs H Q => ∃ (a : Addr) (cs : List Nat), vs = [.ref a] ∧ SqL K H a (cs.map fun c => V.str (S [c])) ∧ 0 < cs.length ∧ ∀ m, m ∈ cs → (∀ y, y ∈ cs → y ≤ m) → Q (.str (S [m])) H
theorem signs_at : ∀ {cs : List Nat} {vs : List Value}, Vals (cs.map fun c => V.str (S [c])) vs → ∀ {i : Nat} {v : Value}, vs[i]? = some v → ∃ t, v = .str ⟨#[cs.getD i 0]⟩ t
  | [], _, .nil, i, v, h => by simp at h
  | c :: cs, _, .cons a r, 0, v, h => by
    cases h
    obtain ⟨t, e⟩ := a
    exact ⟨t, e⟩
  | c :: cs, _, .cons a r, i + 1, v, h => signs_at r (i := i) (by simpa using h)
theorem zc_maxC {X : Cx} (hc : X.calm = true) : CallR X (.builtin "max") (zMaxC X.K) := by
  intro pins s σ H vs us Q I r h
  obtain ⟨a, cs, rfl, hs, hne, q⟩ := h
  obtain ⟨its, rv, hl, _⟩ := I.list hs
  rw [Vals.ref1 r]
  have hlen : its.length = cs.length := by have := rv.length; rw [List.length_map] at this; exact this.symm
  refine max_signs (fun i => cs.getD i 0) (I.ok.hd hc) hl.isList (fun i v hv => signs_at rv (by simpa using hv)) (by rw [List.size_toArray, hlen]; exact hne) fun k t h' tk h1 h2 hk => ?_
  rw [List.size_toArray, hlen] at h1
  refine ⟨.str (S [cs.getD k 0]), H, I.kept hk, ⟨_, rfl⟩, q _ ?_ fun y hy => ?_⟩
  · rw [List.getD_eq_getElem?_getD, List.getElem?_eq_getElem h1]
    exact List.getElem_mem h1
  · obtain ⟨j, hj, rfl⟩ := List.getElem_of_mem hy
    have := h2 j (by rw [List.size_toArray, hlen]; exact hj)
    rwa [List.getD_eq_getElem?_getD, List.getElem?_eq_getElem hj] at this
theorem i_maxC {K : PySem.W.Frag} {a : Addr} {cs : List Nat} {H : Hp} {Q : VK} (h : SqL K H a (cs.map fun c => V.str (S [c]))) (h0 : 0 < cs.length) (q : ∀ m, m ∈ cs → (∀ y, y ∈ cs → y ≤ m) → Q (.str (S [m])) H) : zMaxC K [.ref a] H Q := ⟨a, cs, rfl, h, h0, q⟩
end Y

namespace Y
open PySem PySem.Spec PyProof.Rows L2 Z
open C8 (tCut pss_cut Cal pe_c Met pe_mt pe_mt0 Mak pe_mk)
/-! enumerate over a text -/
def ItN (z : Str) : It :=
  ⟨fun i _ => i < (codes z).length,
    fun i H v H' => ∃ T x, v = .ref T ∧ H T = none ∧ H' = upd H T (.tup [.int (i : Nat), x]) ∧ ((codes z).map fun c => V.str (S [c]))[i]? = some x,
    fun i _ => i = (codes z).length⟩
theorem turn_enumZ {P : Program} {w : World} {K : PySem.W.Frag} {elts : List Expr} {kk : Nat} {tpos : Pos} (z : Str) (e it : Addr) (hne : e ≠ it) :
    Turn P w K (.Tuple elts kk tpos) (ItN z) [e, it] e (fun i h => (∃ old, IsEnum h e it ((i : Nat) : Int) old) ∧ (Sd.str z).cell it i h) where
  mem := by simp
  obj := fun i h st b hb => by
    obtain ⟨⟨old, he⟩, hit⟩ := st
    have e' : b = e ∨ b = it := by simpa using hb
    rcases e' with q | q
    · rw [q]; exact ⟨_, he, fun v q => nomatch q⟩
    · rw [q]; exact Sd.cell_obj hit
  keep := fun i h h' st k => let ⟨⟨old, he⟩, hi⟩ := st; ⟨⟨old, k e (by simp) _ he⟩, Sd.cell_keep hi fun o q => k it (by simp) o q⟩
  item := by
    intro X hP hw hK hc i pins s σ H E I hf st hg
    subst hP hw hK
    obtain ⟨⟨old, he⟩, hit⟩ := st
    have hg : i < (codes z).length := hg
    have hh : X.A.in1.handled = none := I.ok.hd hc
    obtain ⟨fp1, P1, St1, D1, s1, m1, f1, r1, b1⟩ := Sd.draws (xs := (codes z).map fun c => V.str (S [c])) hh I hit rfl (show Sd.off it (.str z) from trivial)
    have hel : e < s.heap.objs.size := Heap.lt_size he
    have hil : it < s.heap.objs.size := by obtain ⟨_, q, _⟩ := Sd.cell_obj hit; exact Heap.lt_size q
    have hef : e ∉ fp1 := fun hm => by
      rcases f1 e hm with q | q
      · exact hne q
      · exact q trivial
    refine wpAny_pyNext_enum_itemD D1 he s1 (by rw [List.length_map]; exact hg) hne hef fun u h' tk p1 ho t1 hT hsz hk => ?_
    obtain ⟨x, hxi, ru⟩ := r1 i u p1
    refine ⟨_, rfl, wpAny_letOwnedTupleGo_enum (s := { s with heap := h', toks := tk + 1 }) ho fun h'' he' sb => ?_⟩
    have hT2 : h''.get? s.heap.objs.size = some { cls := .type "tuple", data := .seq #[.int i tk, u] } := (sb.2 _ (Nat.ne_of_gt hel)).trans hT
    have new : ObjOk X.prog X.w (upd H s.heap.objs.size (.tup [.int (i : Nat), x])) h'' s.heap.objs.size (.tup [.int (i : Nat), x]) :=
      ⟨by show 2 ≤ sizeLine; decide, [.int i tk, u], .cons ⟨_, rfl⟩ (.cons ru .nil), ⟨_, hT2, rfl, _, rfl⟩⟩
    have I1 : Inv X pins σ (upd H s.heap.objs.size (.tup [.int (i : Nat), x])) { s with heap := h'', toks := tk + 1 } :=
      I.turnedNew (t' := tk + 1) (ch := [e, it]) (fun b ob hb q => (sb.2 b (fun z => hb (by simp [z]))).trans (hk b ob (fun z => hb (by simp [z])) (fun z => hb (by simp [z])) q)) hf (Nat.le_refl _) new
    refine ⟨.ref s.heap.objs.size, _, I1, rfl, ⟨_, x, rfl, I.hok.fresh (Nat.le_refl _), rfl, hxi⟩, ⟨⟨u, ?_⟩, Sd.cell_keep (b1 _ _ t1) fun o q => (sb.2 it (Ne.symm hne)).trans q⟩, fun b hb => ?_⟩
    · have e1 : ((i + 1 : Nat) : Int) = (i : Int) + 1 := by omega
      rw [e1]; exact he'
    · have hb' : b < s.heap.objs.size := by
        have e' : b = e ∨ b = it := by simpa using hb
        rcases e' with z | z
        · rw [z]; exact hel
        · rw [z]; exact hil
      rw [upd_ne (Nat.ne_of_lt hb')]
      exact (hf b hb).1
  done := by
    intro X hP hw hK hc i pins s σ H E I hf st hg
    subst hP hw hK
    obtain ⟨⟨old, he⟩, hit⟩ := st
    have hg : i = (codes z).length := hg
    have hh : X.A.in1.handled = none := I.ok.hd hc
    obtain ⟨fp1, P1, St1, D1, s1, m1, f1, r1, b1⟩ := Sd.draws (xs := (codes z).map fun c => V.str (S [c])) hh I hit rfl (show Sd.off it (.str z) from trivial)
    obtain ⟨f0, f1', f2', f3, f4, f5⟩ := hf it (by simp)
    have hn : ((codes z).map fun c => V.str (S [c])).length = i := by rw [List.length_map]; exact hg.symm
    rw [hn] at D1
    exact wpAny_pyNext_enum_endD D1 he s1 fun h' eb => ⟨rfl, I.turned (t' := s.toks) (fun b o hb q => eb b o hb q) f0 f1' f3 f4 f5⟩
  self := fun A i s Q E st h => let ⟨⟨_, he⟩, _⟩ := st; wpAny_pyIter_enum he h
def KN (vs : List V) (R : It → Prop) : Prop := ∃ z : Str, vs = [.str z] ∧ R (ItN z)
def iEnumS (ta : TA) : TI := fun σ H R => ta σ H fun vs H1 => KN vs fun J => R J H1
theorem pi_enumS {X : Cx} {e : Expr} {ta : TA} {p pos tpos : Pos} {elts : List Expr} {kk : Nat} (hg : Gl X "enumerate") (hm : X.mg "enumerate" = none) (ha : PA X [e] ta) (hs : starEach [e] X.env = [(false, eval e X.env)] := by rfl) :
    PI X (.Tuple elts kk tpos) (.Call (.Name "enumerate" p) [e] [] pos) (iEnumS ta) := by
  refine ⟨fun pins s σ H R I h => ?_⟩
  refine Call_ (ld_blt I hg hm boot_enumerate (PyProof.Rows.callWith_type1 (thn (ha.run pos pins s σ H _ I h) fun us s1 ⟨vs, H1, I1, r1, q1⟩ => ?_) hs rfl))
  obtain ⟨z, ex, q⟩ := q1
  subst ex
  cases r1 with
  | cons r rr =>
    cases rr
    obtain ⟨t, rfl⟩ := r
    refine call_enumerate_str fun h' he hit hsz hk => wpAny_pyIter_enum he ?_
    have I2 : Inv X pins σ H1 { s1 with heap := h' } := I1.kept (t' := s1.toks) hk
    refine ⟨s1.heap.objs.size + 1, [s1.heap.objs.size + 1, s1.heap.objs.size], _, _, H1, rfl, I2, turn_enumZ z (s1.heap.objs.size + 1) s1.heap.objs.size (Nat.succ_ne_self _), ⟨⟨.none, he⟩, ⟨t, hit⟩⟩, fun b hb => ?_, q⟩
    have e' : b = s1.heap.objs.size + 1 ∨ b = s1.heap.objs.size := by simpa using hb
    have hle : s1.heap.objs.size ≤ b := by
      rcases e' with z | z
      · rw [z]; exact Nat.le_add_right _ _
      · rw [z]; exact Nat.le_refl _
    exact I1.fpOk hle (I1.hok.fresh hle)
theorem walk_enumS {a : List Nat} : Walk (ItN (S a)) a.length (fun _ => True) (YPair (fun i => some (.int (i : Nat))) (fun i => (a.map fun c => V.str (S [c]))[i]?)) := by
  refine ⟨fun i _ hi q => hi, fun _ q => rfl, fun i H v H' _ q y => ?_⟩
  obtain ⟨T, x, h1, h2, h3, h4⟩ := y
  exact ⟨T, .int (i : Nat), x, h1, h2, h3, rfl, h4⟩
theorem i_enumS {σ : L2.St} {H : Hp} {ta : TA} {R : It → Hp → Prop} (q : ta σ H fun vs H1 => KN vs fun J => R J H1) : iEnumS ta σ H R := q
theorem i_KN {a : List Nat} {R : It → Prop} (q : R (ItN (S a))) : KN [.str (S a)] R := ⟨_, rfl, q⟩
end Y

namespace Y
open PySem PySem.Spec PyProof.Rows L2 Z
open C8 (tCut pss_cut Cal pe_c Met pe_mt pe_mt0 Mak pe_mk)
section
variable {P : Program} {w : World} {K : PySem.W.Frag} {mg : Str → Option Value} {base : Heap}
/-- a def that may raise -/
structure CalX (P : Program) (w : World) (K : PySem.W.Frag) (mg : Str → Option Value) (base : Heap) (k : Nat) (x : Str) (sp : Sp) : Prop where
  ex : ∃ (f : Addr) (fd : FuncData) (ps : List Str), FnOk P w K mg base (L2.CX P w) k f fd ps sp ∧ mg x = some (.ref f) ∧ PySem.W.keepIn K (.ref f) = true ∧ Binds K fd ps []
theorem calX {x : Str} {st : Stmt} {N ps : List Str} {k : Nat} {sp : Sp} (d : DF K mg x st) (S : FnScope N ps (defScope st))
    (hb : ∀ (kV doc pm : Value) (an : Option Addr) (cdv ct : Value) (us : List Value), us.length = ps.length → bindArgs (PySem.W.fnOf x x (defArgs st) (defBody st) (defScope st) .none kV doc pm an cdv ct) ⟨us, []⟩ = pure (ps.zip us))
    (len : ∀ vs H Q E, sp vs H Q E → vs.length = ps.length)
    (hbody : ∀ (f : Addr) (cdv : Value) (A : Around) (outer : List Env) (s : Shared) (H : Hp) (vs : List V) (Q : VK) (E : XK), Room k (A.deeper (envOfC x (defScope st) s.heap.objs.size f cdv)) → sp vs H Q E →
      ∃ t, PSs (cxOf (L2.CX P w) P w K mg base N x (defScope st) f cdv A outer s H E) (defBody st) t ∧ t { nx := fun _ H' => Q .non H', rt := Q } (start N vs) H) : CalX P w K mg base (k + 1) x sp := by
  obtain ⟨f, fd, F, hm⟩ := d.ex
  exact ⟨f, fd, ps, F.okX S len (hbody f), hm, F.kp, F.binds hb⟩
end
section
variable {X : Cx} {k j : Nat} {x : Str} {sp : Sp} {p pos : Pos} {e : Expr} {es : List Expr} {t : TA} {W : WX}
theorem pe_cX (c : CalX X.prog X.w X.K X.mg X.base k x sp) (hr : Room j X.A) (hk : k ≤ j) (hg : Gl X x) (tk : Takes X W) (ha : PA X (e :: es) t)
    (hdb : (x == ("__debug__" : Str)) = false := by decide) (he : starEach (e :: es) X.env = (false, eval e X.env) :: starEach es X.env := by rfl) (hpl : (backTo pos (starEach es X.env)).any (·.1) = false := by rfl) :
    PE X (.Call (.Name x p) (e :: es) [] pos) (tCallS sp (WE W) t) := by
  obtain ⟨f, fd, ps, F, hm, kp, b⟩ := c.ex
  exact pe_callS F (hr.mono hk) hg hm kp b (fun σ => passAt tk σ) ha hdb he hpl
theorem i_callS {sp : Sp} {E : L2.St → XK} {t : TA} {σ : L2.St} {H : Hp} {Q : VK} (q : t σ H fun vs H1 => sp vs H1 Q (E σ)) : tCallS sp E t σ H Q := q
end
/-- whether an error of the class at S is what «except C» names -/
theorem exm_pair {K : PySem.W.Frag} {S C : Addr} {b : Bool} (h1 : PySem.W.subIn K (.ref C) (.type "BaseException") = some true) (h2 : PySem.W.isClsIn K C = true) (h3 : PySem.W.typeIn K (.ref C) = some (.type "type")) (h4 : PySem.W.subIn K (.ref S) (.ref C) = some b) :
    PySem.W.exmOne K (.ref S) (.ref C) = some b := by
  have e1 : (PySem.W.subIn K (.ref C) (.type "BaseException") == some true) = true := by rw [h1] <;> rfl
  have e2 : ((PySem.W.clsIn K C).isSome && PySem.W.typeIn K (.ref C) == some (.type "type")) = true := by
    have h2' : (PySem.W.clsIn K C).isSome = true := h2
    rw [h2', h3] <;> rfl
  unfold PySem.W.exmOne
  rw [if_pos e1]
  show (if ((PySem.W.clsIn K C).isSome && PySem.W.typeIn K (.ref C) == some (.type "type")) = true then PySem.W.subIn K (.ref S) (.ref C) else none) = some b
  rw [if_pos e2]
  exact h4
/-- an own exception over own ones, without an __init__ of its own -/
structure OwnX (K : PySem.W.Frag) (mg : Str → Option Value) (x : Str) (C : Addr) : Prop where
  ex : ∃ bmB newId initId, ExcBaseFacts "ValueError" newId initId bmB ∧ PySem.W.excIn K C bmB newId = true
  g : mg x = some (.ref C)
  kp : PySem.W.keepIn K (.ref C) = true
  b : PySem.W.subIn K (.ref C) (.type "BaseException") = some true
  t : PySem.W.typeIn K (.ref C) = some (.type "type")
section
variable {X : Cx}
theorem pmk_own0 {C : Addr} {x : Str} {p pos : Pos} (T : OwnX X.K X.mg x C) (hg : Gl X x) (hdb : (x == ("__debug__" : Str)) = false := by decide) :
    PMk X (.Call (.Name x p) [] [] pos) (fun σ H Q => Q (.ref C) none H) := by
  intro pins s σ H Q I h
  obtain ⟨bmB, newId, initId, F, q⟩ := T.ex
  refine wpAny_Call_Name_kw (ld_glob I hg T.g ?_ hdb)
  refine PySem.W.callWith_K0 I.kIn T.kp ?_
  show wpAny _ _ (call (.ref C) []) _ _ _
  obtain ⟨bm, N, nm, qn, bs, hdct, sn, sub, ab, col, dd, k0, k1, k2, k3, k5, mN, hC, hN, hni, TT⟩ := exc_obj I.kIn q
  refine wpAny_call_exc_subT F TT hC hN hni (fun h' e hm => ?_) (Nat.zero_le _)
  exact mk_of I hm (raises_own T.b T.t) h (I.hok.gone hm.new)
def tRaise0 (C : Addr) (W : WX) : TS := fun _ σ H => W (.ref C) none σ H
theorem ps_raise0 {C : Addr} {W : WX} {x : Str} {p pos pos2 : Pos} (hc : X.calm = true) (T : OwnX X.K X.mg x C) (tk : Takes X W) (hg : Gl X x) (hdb : (x == ("__debug__" : Str)) = false := by decide) :
    PS X (.Raise (some (.Call (.Name x p) [] [] pos)) none pos2) (tRaise0 C W) := ps_raise hc tk (pmk_own0 T hg hdb)
theorem i_raise0 {C : Addr} {W : WX} {D : Ends} {σ : L2.St} {H : Hp} (q : W (.ref C) none σ H) : tRaise0 C W D σ H := q
/-! t[::-1] -/
def tRevS (te : TE) : TE := fun σ H Q => te σ H fun x H1 => ∃ l : List Nat, x = .str (S l) ∧ l.length ≤ 100000 ∧ Q (.str (S l.reverse)) H1
theorem i_revS {te : TE} {σ : L2.St} {H : Hp} {Q : VK} (q : te σ H fun x H1 => ∃ l : List Nat, x = .str (S l) ∧ l.length ≤ 100000 ∧ Q (.str (S l.reverse)) H1) : tRevS te σ H Q := q
theorem rev_S (l : List Nat) (u : Tok) : Txt.sliceBy (S l) none none (-1, u) = S l.reverse := by
  have h := step_rev_list (S l) u
  have e : (List.range (S l).length).map (fun k => (S l).cps.getD ((S l).length - 1 - k) 0) = l.reverse := by
    rw [S_len]
    refine List.ext_getElem (by simp) fun i h1 h2 => ?_
    rw [List.length_map, List.length_range] at h1
    rw [List.getElem_map, List.getElem_range, List.getElem_reverse]
    show l.toArray.getD (l.length - 1 - i) 0 = _
    rw [Array.getD, dif_pos (by simp; omega)]
    rfl
  rw [e] at h
  rw [← S_codes (Txt.sliceBy (S l) none none (-1, u)), show codes (Txt.sliceBy (S l) none none (-1, u)) = l.reverse from h]
theorem pe_revS {e : Expr} {te : TE} {k : Nat} {p1 p2 p3 pos : Pos} (he : PE X e te) : PE X (.Subscript e (.Slice none none (some (.UnaryOp .USub (.Constant (.int 1) k p1) p2)) p3) pos) (tRevS te) := by
  refine ⟨fun pins s σ H Q I h => ?_⟩
  refine Subscript_ (thn (he.run pins s σ H _ I h) fun v s1 ⟨x, H1, I1, r1, q1⟩ => ?_)
  obtain ⟨l, ex, hl, q⟩ := q1
  subst ex
  obtain ⟨t, rfl⟩ := r1
  have hst : PO X (some (.UnaryOp .USub (.Constant (.int 1) k p1) p2)) (tPart (tUn (rU fun i => .int (-i)) (tC (.int 1)))) := po_some (pe_un un_neg pe_int)
  refine wpAny_Slice (thn (po_none.run pins s1 σ H1 (fun o H2 => o = none ∧ H2 = H1) I1 ⟨rfl, rfl⟩) fun vl s2 ⟨l', H2, I2, pl, el, e2⟩ => ?_)
  subst el e2
  refine thn (po_none.run pins s2 σ H2 (fun o H3 => o = none ∧ H3 = H2) I2 ⟨rfl, rfl⟩) fun vu s3 ⟨u, H3, I3, pu, eu, e3⟩ => ?_
  subst eu e3
  refine thn (hst.run pins s3 σ H3 (fun o H4 => o = some (-1) ∧ H4 = H3) I3 ⟨1, rfl, -1, rfl, rfl, rfl⟩) fun vs s4 ⟨o, H4, I4, ps, eo, e4⟩ => ?_
  subst eo e4
  have I5 : Inv X pins σ H4 { s4 with heap := s4.heap.push { cls := .type "slice", data := .fields #[vl, vu, vs] } } := I4.kept (t' := s4.toks) fun b ob q => Heap.get?_push_of_some _ q
  show wpAny (model X.prog X.w) X.A (subscriptTail e (.Slice none none (some (.UnaryOp .USub (.Constant (.int 1) k p1) p2)) p3) (.str (S l) t) (.ref s4.heap.objs.size)) (EP X pins σ Q) X.xe { s4 with heap := s4.heap.push { cls := .type "slice", data := .fields #[vl, vu, vs] } }
  have e1 : vl = .none := by cases pl; rfl
  have e2 : vu = .none := by cases pu; rfl
  obtain ⟨tk, e3⟩ : ∃ tk, vs = .int (-1) tk := by cases ps; exact ⟨_, rfl⟩
  subst e1 e2 e3
  have hsz : (S l).length ≤ sizeLine := by rw [S_len]; exact le_line hl
  have h0 : (((-1 : Int) == 0) = false) := by decide
  have h1 : ((-1 : Int), tk).1 ≠ 0 := show (-1 : Int) ≠ 0 by decide
  refine tail_any (ops := [.ref s4.heap.objs.size, .str (S l) t]) (typeIs_str _ _ _) (PySem.F.slot_str_getitem.lookup) ?_ (by with_unfolding_all rfl)
  refine wpAny_getItem_str_slice (l := none) (u := none) (st := some (-1, tk)) ⟨_, Heap.get?_push_size _ rfl, rfl, rfl⟩ h0 (post_val_or_str ⟨Nat.le_trans (Txt.sliceBy_le (S l) none none (-1, tk) h1) hsz, fun t' c => ?_⟩)
  show EP X pins σ Q (.str (Txt.sliceBy (S l) none none (-1, tk)) t') _
  rw [rev_S]
  exact ⟨.str (S l.reverse), H4, I5.tok _, ⟨_, rfl⟩, q⟩
end
end Y

namespace Y
open PySem PySem.Spec PyProof.Rows L2 Z
open C8 (tCut pss_cut Cal pe_c Met pe_mt pe_mt0 Mak pe_mk)
abbrev s_is_ascending : Stmt := topS 6
abbrev n_is_ascending : List Str := ["row", "one", "other"]
theorem sc_is_ascending : FnScope n_is_ascending ["row"] (defScope s_is_ascending) := ⟨rfl, rfl, rfl, by decide +kernel, rfl, by decide +kernel, by decide +kernel⟩

abbrev s_is_word : Stmt := topS 7
abbrev n_is_word : List Str := ["letters", "thing", "sign"]
theorem sc_is_word : FnScope n_is_word ["letters", "thing"] (defScope s_is_word) := ⟨rfl, rfl, rfl, by decide +kernel, rfl, by decide +kernel, by decide +kernel⟩

abbrev s_is_choice : Stmt := topS 8
abbrev n_is_choice : List Str := ["letters", "thing"]
theorem sc_is_choice : FnScope n_is_choice ["letters", "thing"] (defScope s_is_choice) := ⟨rfl, rfl, rfl, by decide +kernel, rfl, by decide +kernel, by decide +kernel⟩

abbrev s_is_lot : Stmt := topS 9
abbrev n_is_lot : List Str := ["letters", "thing"]
theorem sc_is_lot : FnScope n_is_lot ["letters", "thing"] (defScope s_is_lot) := ⟨rfl, rfl, rfl, by decide +kernel, rfl, by decide +kernel, by decide +kernel⟩

abbrev AZ : List Nat := List.range' 97 26
/-- what the module holds -/
structure Alph (mg : Str → Option Value) : Prop where
  ALPHABET : ∃ u, mg "ALPHABET" = some u ∧ RelV (.str (S AZ)) u
def isWord (l : List Nat) : PyData → Bool
  | .str w => (codes w).all fun c => decide (c ∈ l)
  | _ => false
theorem isWord_str {l : List Nat} {d : PyData} (h : isWord l d = true) : isTy d "str" = true := by
  cases d <;> first | (simp [isWord] at h; done) | rfl
def ascD : PyData → Bool
  | .str w => decide ((codes w).Pairwise (· < ·))
  | _ => false
def isChoice (l : List Nat) (d : PyData) : Bool := isWord l d && ascD d
def lenD : PyData → Nat
  | .str w => (codes w).length
  | .list l => l.length
  | .tuple l => l.length
  | _ => 0
def isLot (l : List Nat) (d : PyData) : Bool := isChoice l d && decide (0 < lenD d)
/-- what is handed in is short enough -/
def Sml : PyData → Prop
  | .str w => (codes w).length ≤ 90000
  | .list l => l.length ≤ 90000
  | .tuple l => l.length ≤ 90000
  | _ => True
def spIsAscending : Sp := fun vs H Q _ => ∃ x, vs = [x] ∧ ((∃ l : List Nat, x = .str (S l) ∧ l.length ≤ 90000 ∧ ∀ H', Same H H' → Q (.bl (decide (l.Pairwise (· < ·)))) H') ∨
  ∃ (a : Addr) (ns : List Int), x = .ref a ∧ H a = some (.tup (ns.map V.int)) ∧ ns.length ≤ 90000 ∧ ∀ H', Same H H' → Q (.bl (decide (ns.Pairwise (· < ·)))) H')
def spIsWord : Sp := fun vs H Q _ => ∃ (l : List Nat) (x : V) (d : PyData), vs = [.str (S l), x] ∧ Rp N0 H x d ∧ Sml d ∧ ∀ H', Same H H' → Q (.bl (isWord l d)) H'
def spIsChoice : Sp := fun vs H Q _ => ∃ (l : List Nat) (x : V) (d : PyData), vs = [.str (S l), x] ∧ Rp N0 H x d ∧ Sml d ∧ ∀ H', Same H H' → Q (.bl (isChoice l d)) H'
def spIsLot : Sp := fun vs H Q _ => ∃ (l : List Nat) (x : V) (d : PyData), vs = [.str (S l), x] ∧ Rp N0 H x d ∧ Sml d ∧ ∀ H', Same H H' → Q (.bl (isLot l d)) H'
section
variable {P : Program} {w : World} {K : PySem.W.Frag} {mg : Str → Option Value} {base : Heap}
theorem c_is_word (d : DF K mg "is_word" s_is_word) (B : Bi mg) : Cal P w K mg base 1 "is_word" spIsWord [] := by
  refine d.cal (N := n_is_word) sc_is_word (fun _ _ _ _ _ _ us hl => match us, hl with | [_, _], _ => rfl) (fun vs H Q E h => ?_) (fun f cdv A outer s H vs Q E hr h => ?_)
  · obtain ⟨l, x, d, rfl, _⟩ := h
    rfl
  · obtain ⟨l, x, d, rfl, r, sm, k⟩ := h
    refine ⟨_, (pss_one (ps_ret (pe_and (pe_callB (r := zIsi K) zc_isi (by rfl) B.isinstance (by decide +kernel) (pa_cons (pv 1) (pa_cons (pe_bltn (by rfl) B.str (by decide +kernel) (rel_ty "str")) pa_nil))) (pe_one (pe_callB (r := zAll K) (zc_all rfl) (by rfl) B.all (by decide +kernel) (pa_cons (pe_lc (own := [("sign", 2)]) (g := gName 2) (tt := tYes) (by rfl) sc_is_word.nd (pi_str (pv 1)) (blkOk_by (N := n_is_word) (sc := defScope s_is_word) (by decide +kernel)) (fun _ _ _ _ _ => (pg_name (i := 2) sc_is_word.nd rfl (by first | exact Or.inl rfl | exact Or.inr rfl))) (fun _ _ _ _ _ => pts_nil) (fun _ _ _ _ _ => (pe_cmpR z_ins (pv 2) (pv 0) (by rfl)))) pa_nil)))))), ?_⟩
    refine zstart [some (.str (S l)), some (x), none] rfl ?_; try dsimp only [zK, zK2]
    walk_at "zz"
    refine i_isi r (by decide) ?_
    walk_at "zz"
    refine brb (fun hb => ?_) fun hb => ?_
    · obtain ⟨a, rfl, rfl⟩ := r.isStr hb
      walk_at "zz"
      refine fun Dl hD => ?_
      refine l_mapS hD [some (.str (S l)), some (.str (S a)), none] rfl (fun _ => rfl) (Nat.le_trans sm (by decide)) (fun c => .bl (decide (c ∈ l))) (fun c H1 P hc s1 hP => ?_) fun H1 s1 e => ?_
      · refine zte [some (.str (S l)), some (.str (S a)), some (.str (S [c]))] rfl ?_
        walk_at "zz"
        exact hP _ (Same.refl _)
      · walk_at "zz"
        refine i_all (bs := a.map fun c => decide (c ∈ l)) (SqL.of (by rw [List.map_map]; exact e)) ?_
        rw [List.all_map]
        exact k _ s1
    · walk_at "zz"
      have e : isWord l d = false := by cases r <;> first | rfl | (simp [isTy, tyN] at hb)
      rw [← e]
      exact k _ (Same.refl _)
theorem c_is_ascending (d : DF K mg "is_ascending" s_is_ascending) (B : Bi mg) : Cal P w K mg base 1 "is_ascending" spIsAscending [] := by
  refine d.cal (N := n_is_ascending) sc_is_ascending (fun _ _ _ _ _ _ us hl => match us, hl with | [_], _ => rfl) (fun vs H Q E h => ?_) (fun f cdv A outer s H vs Q E hr h => ?_)
  · obtain ⟨x, rfl, _⟩ := h
    rfl
  · obtain ⟨x, rfl, h⟩ := h
    refine ⟨_, (pss_one (ps_ret (pe_callB (r := zAll K) (zc_all rfl) (by rfl) B.all (by decide +kernel) (pa_cons (pe_lc (own := [("one", 1), ("other", 2)]) (g := (gTup _ 2 (gCons (gName 1) (gCons (gName 2) gNil)))) (tt := tYes) (by rfl) sc_is_ascending.nd (pi_zipZ rfl B.zip (pa_cons (pv 0) (pa_cons (pe_slice (r := zSlA K) sl_A (pv 0) (po_some pe_int) po_none) pa_nil))) (blkOk_by (N := n_is_ascending) (sc := defScope s_is_ascending) (by decide +kernel)) (fun _ _ _ _ _ => (pg_tup rfl (pgs_cons (pg_name (i := 1) sc_is_ascending.nd rfl (by first | exact Or.inl rfl | exact Or.inr rfl)) (pgs_cons (pg_name (i := 2) sc_is_ascending.nd rfl (by first | exact Or.inl rfl | exact Or.inr rfl)) pgs_nil)))) (fun _ _ _ _ _ => pts_nil) (fun _ _ _ _ _ => (pe_cmpR z_ltA (pv 1) (pv 2) (nomark _)))) pa_nil)))), ?_⟩
    refine zstart [some (x), none, none] rfl ?_; try dsimp only [zK, zK2]
    walk_at "zz"
    rcases h with ⟨l, rfl, hl, k⟩ | ⟨a, ns, rfl, ha, hl, k⟩
    · refine .inl (i_slFrom (n := 1) (by omega) ?_)
      walk_at "zz"
      refine i_KZ (.str (S l)) (.str (S (l.drop 1))) rfl rfl rfl rfl fun Dl hD => ?_
      refine l_zipmap hD [some (.str (S l)), none, none] rfl (fun _ _ => rfl) (fun _ _ => rfl) (fun _ _ => rfl) (by rw [List.length_map]; have : (codes (S l)).length = l.length := rfl; omega) (fun x y => .bl (decide (chr1 x < chr1 y))) (fun x y H1 P hx hy s1 hP => ?_) fun H1 s1 e => ?_
      · obtain ⟨c, hc, rfl⟩ := List.mem_map.mp hx
        obtain ⟨c2, hc2, rfl⟩ := List.mem_map.mp hy
        refine zte [some (.str (S l)), some (.str (S [c])), some (.str (S [c2]))] rfl ?_
        walk_at "zz"
        rw [one_lt]
        exact hP _ (Same.refl _)
      · walk_at "zz"
        rw [zip_map (fun c => V.str (S [c])) (fun c => V.str (S [c])) (fun x y => V.bl (decide (chr1 x < chr1 y))) (fun c c2 => V.bl (decide (c < c2))) (fun _ _ => rfl)] at e
        refine i_all (bs := (l.zip (l.drop 1)).map fun p => decide (p.1 < p.2)) (SqL.of (by rw [List.map_map]; exact e)) ?_
        rw [adj_all (fun a b => decide (a < b)), adj_asc]
        exact k _ s1
    · refine .inr (.inl (i_slTA ha fun p H0 s0 hp => ?_))
      walk_at "zz"
      rw [show (1 : Int) = ((1 : Nat) : Int) from rfl, cutV_from, ← List.map_drop] at hp
      have ha0 := s0 _ _ ha
      refine i_KZ (.tup a) (.tup p) rfl rfl (SqT.of ha0) (SqT.of hp) fun Dl hD => ?_
      refine l_zipmap hD [some (.ref a), none, none] rfl (fun _ _ => rfl) (fun H1 s1 => SqT.of (s1 _ _ ha0)) (fun H1 s1 => SqT.of (s1 _ _ hp)) (by rw [List.length_map]; omega) (fun x y => .bl (decide (int1 x < int1 y))) (fun x y H1 P hx hy s1 hP => ?_) fun H1 s1 e => ?_
      · obtain ⟨c, hc, rfl⟩ := List.mem_map.mp hx
        obtain ⟨c2, hc2, rfl⟩ := List.mem_map.mp hy
        refine zte [some (.ref a), some (.int c), some (.int c2)] rfl ?_
        walk_at "zz"
        exact hP _ (Same.refl _)
      · walk_at "zz"
        rw [zip_map V.int V.int (fun x y => V.bl (decide (int1 x < int1 y))) (fun c c2 => V.bl (decide (c < c2))) (fun _ _ => rfl)] at e
        refine i_all (bs := (ns.zip (ns.drop 1)).map fun p => decide (p.1 < p.2)) (SqL.of (by rw [List.map_map]; exact e)) ?_
        rw [adj_all (fun a b => decide (a < b)), adj_ascI]
        exact k _ (s0.trans s1)
theorem c_is_choice (d : DF K mg "is_choice" s_is_choice) (B : Bi mg) (c_is_word : Cal P w K mg base 1 "is_word" spIsWord []) (c_is_ascending : Cal P w K mg base 1 "is_ascending" spIsAscending []) : Cal P w K mg base 2 "is_choice" spIsChoice [] := by
  refine d.cal (N := n_is_choice) sc_is_choice (fun _ _ _ _ _ _ us hl => match us, hl with | [_, _], _ => rfl) (fun vs H Q E h => ?_) (fun f cdv A outer s H vs Q E hr h => ?_)
  · obtain ⟨l, x, d, rfl, _⟩ := h
    rfl
  · obtain ⟨l, x, d, rfl, r, sm, k⟩ := h
    refine ⟨_, (pss_one (ps_ret (pe_and (pe_c c_is_word hr (by first | decide | omega) rfl (pa_cons (pv 0) (pa_cons (pv 1) pa_nil))) (pe_one (pe_c c_is_ascending hr (by first | decide | omega) rfl (pa_cons (pv 1) pa_nil)))))), ?_⟩
    refine zstart [some (.str (S l)), some (x)] rfl ?_; try dsimp only [zK, zK2]
    walk_at "zz"
    refine ⟨l, x, d, rfl, r, sm, fun H1 s1 => ?_⟩
    walk_at "zz"
    refine brb (fun hb => ?_) fun hb => ?_
    · cases r with
      | str w =>
        walk_at "zz"
        refine ⟨_, rfl, .inl ⟨codes w, rfl, sm, fun H2 s2 => ?_⟩⟩
        have e : isChoice l (.str w) = decide ((codes w).Pairwise (· < ·)) := by
          show (isWord l (.str w) && decide ((codes w).Pairwise (· < ·))) = _
          rw [hb, Bool.true_and]
        rw [← e]
        exact k _ (s1.trans s2)
      | _ => simp [isWord] at hb
    · walk_at "zz"
      have e : isChoice l d = false := by show (isWord l d && _) = false; rw [hb, Bool.false_and]
      rw [← e]
      exact k _ s1
theorem c_is_lot (d : DF K mg "is_lot" s_is_lot) (B : Bi mg) (c_is_choice : Cal P w K mg base 2 "is_choice" spIsChoice []) : Cal P w K mg base 3 "is_lot" spIsLot [] := by
  refine d.cal (N := n_is_lot) sc_is_lot (fun _ _ _ _ _ _ us hl => match us, hl with | [_, _], _ => rfl) (fun vs H Q E h => ?_) (fun f cdv A outer s H vs Q E hr h => ?_)
  · obtain ⟨l, x, d, rfl, _⟩ := h
    rfl
  · obtain ⟨l, x, d, rfl, r, sm, k⟩ := h
    refine ⟨_, (pss_one (ps_ret (pe_and (pe_c c_is_choice hr (by first | decide | omega) rfl (pa_cons (pv 0) (pa_cons (pv 1) pa_nil))) (pe_one (pe_cmpR z_gt (pe_callB zc_lens (by rfl) B.len (by decide +kernel) (pa_cons (pv 1) pa_nil)) pe_int (nomark _)))))), ?_⟩
    refine zstart [some (.str (S l)), some (x)] rfl ?_; try dsimp only [zK, zK2]
    walk_at "zz"
    refine ⟨l, x, d, rfl, r, sm, fun H1 s1 => ?_⟩
    walk_at "zz"
    refine brb (fun hb => ?_) fun hb => ?_
    · have hw : isWord l d = true := by unfold isChoice at hb; exact (Bool.and_eq_true_iff.mp hb).1
      obtain ⟨a, rfl, rfl⟩ := r.isStr (isWord_str hw)
      walk_at "zz"
      refine i_lens (Nat.le_trans sm (by decide)) ?_
      walk_at "zz"
      have e : isLot l (.str (S a)) = decide ((0 : Int) < (a.length : Int)) := by
        unfold isLot
        rw [hb, Bool.true_and, Bool.eq_iff_iff, decide_eq_true_iff, decide_eq_true_iff]
        show 0 < a.length ↔ _
        omega
      rw [← e]
      exact k _ s1
    · walk_at "zz"
      have e : isLot l d = false := by unfold isLot; rw [hb]; rfl
      rw [← e]
      exact k _ s1
end
end Y

namespace Y
/-- all letters of the lot stand in the word -/
def full (L w : List Nat) : Bool := L.all fun c => decide (c ∈ w)
def stepC (L : List Nat) (s : List (List Nat) × List Nat) (c : Nat) : List (List Nat) × List Nat := if full L (s.2 ++ [c]) = true then (s.1 ++ [s.2 ++ [c]], []) else (s.1, s.2 ++ [c])
def cutL (L w : List Nat) : List (List Nat) × List Nat := w.foldl (stepC L) ([], [])
theorem full_iff {L w : List Nat} : full L w = true ↔ ∀ c ∈ L, c ∈ w := by
  unfold full
  rw [List.all_eq_true]
  exact ⟨fun h c hc => of_decide_eq_true (h c hc), fun h c hc => decide_eq_true (h c hc)⟩
theorem full_mono {L w v : List Nat} (h : ∀ c ∈ w, c ∈ v) (f : full L w = true) : full L v = true := full_iff.mpr fun c hc => h c (full_iff.mp f c hc)
theorem full_nil {L : List Nat} (h : 1 ≤ L.length) : full L [] = false := by
  cases e : full L [] with
  | false => rfl
  | true =>
    cases L with
    | nil => simp at h
    | cons a l => exact absurd (full_iff.mp e a List.mem_cons_self) (by simp)
theorem full_rev (L w : List Nat) : full L w.reverse = full L w := by
  rw [Bool.eq_iff_iff, full_iff, full_iff]
  simp
structure Cut (L : List Nat) (s : List (List Nat) × List Nat) (u : List Nat) : Prop where
  all : s.1.flatten ++ s.2 = u
  rest : full L s.2 = false
  one : ∀ p ∈ s.1, full L p = true ∧ full L p.dropLast = false
theorem Cut.step {L : List Nat} (hL : 1 ≤ L.length) {s : List (List Nat) × List Nat} {u : List Nat} (h : Cut L s u) (c : Nat) : Cut L (stepC L s c) (u ++ [c]) := by
  unfold stepC
  cases e : full L (s.2 ++ [c]) with
  | true =>
    rw [if_pos rfl]
    refine ⟨by rw [← h.all]; simp, full_nil hL, fun p hp => ?_⟩
    rcases List.mem_append.mp hp with q | q
    · exact h.one p q
    · rw [List.mem_singleton.mp q]
      exact ⟨e, by rw [List.dropLast_concat]; exact h.rest⟩
  | false =>
    rw [if_neg (by simp)]
    exact ⟨by rw [← h.all]; simp, e, h.one⟩
theorem Cut.fold {L : List Nat} (hL : 1 ≤ L.length) : ∀ (w : List Nat) {s : List (List Nat) × List Nat} {u : List Nat}, Cut L s u → Cut L (w.foldl (stepC L) s) (u ++ w)
  | [], s, u, h => by rw [List.append_nil]; exact h
  | c :: w, s, u, h => by
    have := Cut.fold hL w (h.step hL c)
    rw [List.append_assoc] at this
    exact this
theorem cut_ok {L : List Nat} (hL : 1 ≤ L.length) (w : List Nat) : Cut L (cutL L w) w := by
  have := Cut.fold hL w (s := ([], [])) (u := []) ⟨rfl, full_nil hL, fun p hp => by simp at hp⟩
  exact this
theorem cut_take {L w : List Nat} {i c : Nat} (h : w[i]? = some c) : cutL L (w.take (i + 1)) = stepC L (cutL L (w.take i)) c := by
  unfold cutL
  rw [List.take_add_one, h]
  show List.foldl _ _ (w.take i ++ [c]) = _
  rw [List.foldl_append]; rfl
/-- how many pieces -/
def cnt (L : List Nat) : List Nat → List Nat → Nat
  | _, [] => 0
  | x, c :: w => if full L (x ++ [c]) = true then 1 + cnt L [] w else cnt L (x ++ [c]) w
theorem cnt_fold (L : List Nat) : ∀ (w : List Nat) (s : List (List Nat) × List Nat), (w.foldl (stepC L) s).1.length = s.1.length + cnt L s.2 w
  | [], s => rfl
  | c :: w, s => by
    rw [List.foldl_cons, cnt_fold L w]
    unfold stepC
    cases e : full L (s.2 ++ [c]) with
    | true =>
      rw [if_pos rfl, cnt, e, if_pos rfl, List.length_append]
      simp only [List.length_cons, List.length_nil]
      omega
    | false => rw [if_neg (by simp), cnt, e, if_neg (by simp)]
theorem cnt_cut (L w : List Nat) : (cutL L w).1.length = cnt L [] w := by
  unfold cutL
  rw [cnt_fold]
  simp
theorem cnt_two (L : List Nat) : ∀ (w : List Nat), (∀ x y : List Nat, (∀ c ∈ x, c ∈ y) → cnt L x w ≤ cnt L y w) ∧ (∀ x y : List Nat, cnt L x w ≤ 1 + cnt L y w)
  | [] => ⟨fun _ _ _ => Nat.le_refl _, fun _ _ => Nat.zero_le _⟩
  | c :: w => by
    obtain ⟨hB, hC⟩ := cnt_two L w
    refine ⟨fun x y h => ?_, fun x y => ?_⟩
    · have hxy : ∀ d ∈ x ++ [c], d ∈ y ++ [c] := fun d hd => by
        rcases List.mem_append.mp hd with q | q
        · exact List.mem_append_left _ (h d q)
        · exact List.mem_append_right _ q
      rw [cnt, cnt]
      cases e1 : full L (x ++ [c]) with
      | true => rw [full_mono hxy e1, if_pos rfl, if_pos rfl]; exact Nat.le_refl _
      | false =>
        rw [if_neg (by simp)]
        cases e2 : full L (y ++ [c]) with
        | true => rw [if_pos rfl]; exact hC _ _
        | false => rw [if_neg (by simp)]; exact hB _ _ hxy
    · rw [cnt, cnt]
      cases e1 : full L (x ++ [c]) with
      | true =>
        rw [if_pos rfl]
        cases e2 : full L (y ++ [c]) with
        | true => rw [if_pos rfl]; omega
        | false =>
          rw [if_neg (by simp)]
          have := hB [] (y ++ [c]) (by simp)
          omega
      | false =>
        rw [if_neg (by simp)]
        cases e2 : full L (y ++ [c]) with
        | true =>
          rw [if_pos rfl]
          have := hC (x ++ [c]) []
          omega
        | false => rw [if_neg (by simp)]; exact hC _ _
theorem cnt_over (L : List Nat) : ∀ (u : List Nat) (x w : List Nat), cnt L [] w ≤ cnt L x (u ++ w)
  | [], x, w => (cnt_two L w).1 [] x (by simp)
  | c :: u, x, w => by
    show _ ≤ cnt L x (c :: (u ++ w))
    rw [cnt]
    split
    · have := cnt_over L u [] w; omega
    · exact cnt_over L u _ w
theorem cnt_full (L : List Nat) : ∀ (u : List Nat) (x w : List Nat), full L x = false → full L (x ++ u) = true → 1 + cnt L [] w ≤ cnt L x (u ++ w)
  | [], x, w, h, f => by rw [List.append_nil, h] at f; cases f
  | c :: u, x, w, h, f => by
    show _ ≤ cnt L x (c :: (u ++ w))
    rw [cnt]
    cases e : full L (x ++ [c]) with
    | true =>
      rw [if_pos rfl]
      have := cnt_over L u [] w; omega
    | false =>
      rw [if_neg (by simp)]
      exact cnt_full L u _ w e (by rw [List.append_assoc]; exact f)
theorem cnt_many {L : List Nat} (hL : 1 ≤ L.length) : ∀ (vs : List (List Nat)) (r : List Nat), (∀ v ∈ vs, full L v = true) → vs.length ≤ cnt L [] (r ++ vs.flatten)
  | [], r, _ => Nat.zero_le _
  | v :: vs, r, h => by
    have ih := cnt_many hL vs [] fun u hu => h u (List.mem_cons_of_mem _ hu)
    have hf : full L ([] ++ (r ++ v)) = true := full_mono (w := v) (fun c hc => by simp [hc]) (h v List.mem_cons_self)
    have := cnt_full L (r ++ v) [] vs.flatten (full_nil hL) hf
    rw [List.flatten_cons, ← List.append_assoc, List.length_cons]
    simp only [List.nil_append] at ih
    omega
theorem cut_le {L : List Nat} (hL : 1 ≤ L.length) (w : List Nat) : (cutL L w).1.length ≤ (cutL L w.reverse).1.length := by
  obtain ⟨h1, h2, h3⟩ := cut_ok hL w
  generalize cutL L w = s at h1 h2 h3 ⊢
  rw [cnt_cut, ← h1, List.reverse_append, List.reverse_flatten]
  have := cnt_many hL (s.1.map List.reverse).reverse s.2.reverse (fun v hv => by
    obtain ⟨p, hp, rfl⟩ := List.mem_map.mp (List.mem_reverse.mp hv)
    rw [full_rev]; exact (h3 p hp).1)
  rw [List.length_reverse, List.length_map] at this
  exact this
theorem cut_back {L : List Nat} (hL : 1 ≤ L.length) (w : List Nat) : (cutL L w.reverse).1.length = (cutL L w).1.length := by
  have h1 := cut_le hL w
  have h2 := cut_le hL w.reverse
  rw [List.reverse_reverse] at h2
  omega
end Y

namespace Y
open PySem PySem.Spec PyProof.Rows L2 Z
open C8 (tCut pss_cut Cal pe_c Met pe_mt pe_mt0 Mak pe_mk pe_gc)
abbrev s__check : Stmt := topS 14
abbrev n__check : List Str := ["lot", "word"]
theorem sc__check : FnScope n__check ["lot", "word"] (defScope s__check) := ⟨rfl, rfl, rfl, by decide +kernel, rfl, by decide +kernel, by decide +kernel⟩

abbrev s__cut : Stmt := topS 13
abbrev n__cut : List Str := ["lot", "word", "found", "begin", "have", "at", "letter"]
theorem sc__cut : FnScope n__cut ["lot", "word"] (defScope s__cut) := ⟨rfl, rfl, rfl, by decide +kernel, rfl, by decide +kernel, by decide +kernel⟩

abbrev s_pieces : Stmt := topS 11
abbrev n_pieces : List Str := ["lot", "word"]
theorem sc_pieces : FnScope n_pieces ["lot", "word"] (defScope s_pieces) := ⟨rfl, rfl, rfl, by decide +kernel, rfl, by decide +kernel, by decide +kernel⟩

abbrev s_pieces_back : Stmt := topS 12
abbrev n_pieces_back : List Str := ["lot", "word", "found", "rest", "piece"]
theorem sc_pieces_back : FnScope n_pieces_back ["lot", "word"] (defScope s_pieces_back) := ⟨rfl, rfl, rfl, by decide +kernel, rfl, by decide +kernel, by decide +kernel⟩

/-- rows as values -/
def rvs (rs : List (List Nat)) : List V := rs.map fun r => V.str (S r)
/-- a lot of letters -/
structure Lot (L : List Nat) : Prop where
  nd : L.Nodup
  asc : L.Pairwise (· < ·)
  az : ∀ c ∈ L, c ∈ AZ
  lo : 1 ≤ L.length
  hi : L.length ≤ 26
/-- the keys of a dict of letters -/
def kvsOf (ks : List Nat) : List (Key × V) := ks.map fun c => (.inr (S [c]), V.bl true)
theorem put_old {ks : List Nat} {c : Nat} (h : c ∈ ks) : putK (kvsOf ks) (.inr (S [c])) (.bl true) = kvsOf ks := by
  unfold putK
  rw [if_pos (by rw [List.any_eq_true]; exact ⟨(.inr (S [c]), V.bl true), List.mem_map.mpr ⟨c, h, rfl⟩, by simp⟩)]
  unfold kvsOf
  rw [List.map_map]
  refine List.map_congr_left fun d _ => ?_
  show (if (Sum.inr (S [d]) : Key) = .inr (S [c]) then _ else _) = _
  split
  · rfl
  · rfl
theorem put_new {ks : List Nat} {c : Nat} (h : c ∉ ks) : putK (kvsOf ks) (.inr (S [c])) (.bl true) = kvsOf (ks ++ [c]) := by
  unfold putK
  rw [if_neg ?_]
  · unfold kvsOf
    rw [List.map_append]; rfl
  · intro q
    obtain ⟨p, hp, q⟩ := List.any_eq_true.mp q
    obtain ⟨d, hd, rfl⟩ := List.mem_map.mp hp
    have q := of_decide_eq_true q
    have q2 : S [d] = S [c] := Sum.inr.inj q
    have := S_inj q2
    simp at this
    exact h (this ▸ hd)
theorem keys_full {L ks cur : List Nat} (hL : L.Nodup) (hk : ks.Nodup) (hi : ∀ c, c ∈ ks ↔ c ∈ cur) (hs : ∀ c ∈ cur, c ∈ L) : ks.length = L.length ↔ full L cur = true := by
  rw [full_iff]
  constructor
  · intro h c hc
    rw [← hi]
    by_cases q : c ∈ ks
    · exact q
    · have := nodup_len (l := c :: ks) (L := L) (List.nodup_cons.mpr ⟨q, hk⟩) fun d hd => by
        rcases List.mem_cons.mp hd with rfl | hd
        · exact hc
        · exact hs d ((hi d).mp hd)
      rw [List.length_cons] at this; omega
  · intro h
    have h1 := nodup_len (l := ks) (L := L) hk fun d hd => hs d ((hi d).mp hd)
    have h2 := nodup_len (l := L) (L := ks) hL fun d hd => (hi d).mpr (h d hd)
    omega
def spCheck (C1 C2 : Addr) : Sp := fun vs H Q E => ∃ (v1 v2 : V) (d1 d2 : PyData), vs = [v1, v2] ∧ Rp N0 H v1 d1 ∧ Rp N0 H v2 d2 ∧ Sml d1 ∧ Sml d2 ∧ ∀ H', Same H H' →
  (isLot AZ d1 = false → E (.ref C1) none H') ∧ (∀ l, d1 = .str (S l) → isLot AZ d1 = true → (isWord l d2 = false → E (.ref C2) none H') ∧ (isWord l d2 = true → Q .non H'))
def spCut : Sp := fun vs H Q _ => ∃ (L w : List Nat), vs = [.str (S L), .str (S w)] ∧ L.Nodup ∧ 1 ≤ L.length ∧ L.length ≤ 1000 ∧ (∀ c ∈ w, c ∈ L) ∧ w.length ≤ 1000 ∧
  ∀ (p t : Addr) H', H t = none → H' p = some (.tup [.ref t, .str (S (cutL L w).2)]) → H' t = some (.lst (rvs (cutL L w).1)) → Same H H' → Q (.ref p) H'
theorem i_dput {td ty tv : TE} {D : Ends} {σ : L2.St} {H : Hp} (q : tv σ H fun v H1 => td σ H1 fun x H2 => ty σ H2 fun y H3 => ∃ a H4, x = .ref a ∧ DPut H3 a y v H4 ∧ D.nx σ H4) : sDPut td ty tv D σ H := q
theorem len_flat : ∀ {ps : List (List Nat)}, (∀ p ∈ ps, p ≠ []) → ps.length ≤ ps.flatten.length
  | [], _ => Nat.zero_le _
  | p :: ps, h => by
    have ih := len_flat (ps := ps) fun q hq => h q (List.mem_cons_of_mem _ hq)
    have h1 := h p List.mem_cons_self
    have h2 : 1 ≤ p.length := by
      cases p with
      | nil => exact absurd rfl h1
      | cons a l => simp
    rw [List.flatten_cons, List.length_append, List.length_cons]; omega
theorem mem_flat : ∀ {ps : List (List Nat)} {r : List Nat}, r ∈ ps → r.length ≤ ps.flatten.length
  | p :: ps, r, h => by
    rw [List.flatten_cons, List.length_append]
    rcases List.mem_cons.mp h with rfl | h
    · omega
    · have := mem_flat h; omega
theorem Cut.few {L w : List Nat} {s : List (List Nat) × List Nat} (hL : 1 ≤ L.length) (h : Cut L s w) : s.1.length ≤ w.length := by
  have h1 := len_flat (ps := s.1) fun p hp e => by
    have := (h.one p hp).1
    rw [e, full_nil hL] at this; cases this
  have h2 := congrArg List.length h.all
  rw [List.length_append] at h2; omega
theorem cut_slice {w f : List Nat} {cur : List Nat} {i c : Nat} (h : f ++ cur = w.take i) (hc : w[i]? = some c) : (w.drop f.length).take (i + 1 - f.length) = cur ++ [c] := by
  have e : w.take (i + 1) = f ++ (cur ++ [c]) := by
    rw [List.take_add_one, hc, ← h]; simp
  rw [← List.drop_take, e, List.drop_left]
theorem cut_tail {w f cur : List Nat} (h : f ++ cur = w) : w.drop f.length = cur := by rw [← h, List.drop_left]
section
variable {P : Program} {w : World} {K : PySem.W.Frag} {mg : Str → Option Value} {base : Heap}
theorem c__check {C1 C2 : Addr} (d : DF K mg "_check" s__check) (B : Bi mg) (T : Alph mg) (T_NoLot : OwnX K mg "NoLot" C1) (T_NoWord : OwnX K mg "NoWord" C2) (c_is_lot : Cal P w K mg base 3 "is_lot" spIsLot []) (c_is_word : Cal P w K mg base 1 "is_word" spIsWord []) : CalX P w K mg base 4 "_check" (spCheck C1 C2) := by
  refine calX d (N := n__check) sc__check (fun _ _ _ _ _ _ us hl => match us, hl with | [_, _], _ => rfl) (fun vs H Q E h => ?_) (fun f cdv A outer s H vs Q E hr h => ?_)
  · obtain ⟨v1, v2, d1, d2, rfl, _⟩ := h
    rfl
  · obtain ⟨v1, v2, d1, d2, rfl, r1, r2, sm1, sm2, k⟩ := h
    refine ⟨_, (pss_cons (ps_if (pt_not (pt_val (pe_c c_is_lot hr (by first | decide | omega) rfl (pa_cons (pe_gc rfl T.ALPHABET) (pa_cons (pv 0) pa_nil))))) (pss_one (ps_raise0 rfl T_NoLot (takes_of rfl rfl rfl rfl) rfl)) pss_nil)
  (pss_one (ps_if (pt_not (pt_val (pe_c c_is_word hr (by first | decide | omega) rfl (pa_cons (pv 0) (pa_cons (pv 1) pa_nil))))) (pss_one (ps_raise0 rfl T_NoWord (takes_of rfl rfl rfl rfl) rfl)) pss_nil))), ?_⟩
    refine zstart [some (v1), some (v2)] rfl ?_; try dsimp only [zK, zK2]
    walk_at "zz"
    refine ⟨AZ, v1, d1, rfl, r1, sm1, fun H1 s1 => ?_⟩
    walk_at "zz"
    refine brnb (fun hb => ?_) fun hb => ?_
    · walk_at "zz"
      exact (k _ s1).1 hb
    · walk_at "zz"
      have hs : isTy d1 "str" = true := by
        unfold isLot isChoice at hb
        exact isWord_str (Bool.and_eq_true_iff.mp (Bool.and_eq_true_iff.mp hb).1).1
      obtain ⟨l, rfl, rfl⟩ := r1.isStr hs
      refine ⟨l, v2, d2, rfl, r2.same s1, sm2, fun H2 s2 => ?_⟩
      walk_at "zz"
      refine brnb (fun hb2 => ?_) fun hb2 => ?_
      · walk_at "zz"
        exact ((k _ (s1.trans s2)).2 l rfl hb).1 hb2
      · walk_at "zz"
        exact ((k _ (s1.trans s2)).2 l rfl hb).2 hb2
theorem c__cut (d : DF K mg "_cut" s__cut) (B : Bi mg) : Cal P w K mg base 1 "_cut" spCut [] := by
  refine d.cal (N := n__cut) sc__cut (fun _ _ _ _ _ _ us hl => match us, hl with | [_, _], _ => rfl) (fun vs H Q E h => ?_) (fun f cdv A outer s H vs Q E hr h => ?_)
  · obtain ⟨L, w, rfl, _⟩ := h
    rfl
  · obtain ⟨L, w, rfl, hnd, hL1, hL, hin, hw, k⟩ := h
    refine ⟨_, (pss_cons (ps_set (i := 2) sc__cut.nd rfl (by first | exact Or.inl rfl | exact Or.inr rfl) (pe_lst pa_nil))
  (pss_cons (ps_set (i := 3) sc__cut.nd rfl (by first | exact Or.inl rfl | exact Or.inr rfl) pe_int)
  (pss_cons (ps_set (i := 4) sc__cut.nd rfl (by first | exact Or.inl rfl | exact Or.inr rfl) pe_dnewK)
  (pss_cons (ps_for PassesOwn.never rfl (pi_enumS (by rfl) B.enumerate (pa_cons (pv 1) pa_nil)) (pg_tup rfl (pgs_cons (pg_name (i := 5) sc__cut.nd rfl (by first | exact Or.inl rfl | exact Or.inr rfl)) (pgs_cons (pg_name (i := 6) sc__cut.nd rfl (by first | exact Or.inl rfl | exact Or.inr rfl)) pgs_nil))) (pss_cons (ps_dput (hu_of hr) (pv 4) (pv 6) pe_bl rfl)
  (pss_one (ps_if (pt_cmpR op_eq (pe_callB call_lenD (by rfl) B.len (by decide +kernel) (pa_cons (pv 4) pa_nil)) (pe_callB zc_lens (by rfl) B.len (by decide +kernel) (pa_cons (pv 0) pa_nil)) (nomark _)) (pss_cons (ps_expr (pe_bmZ (K := K) rfl PySem.F.plainAttrs_list PySem.F.slot_list_append PySem.F.type_list_append zm_append (pv 2) (pa_cons (pe_slice sl_str (pv 1) (po_some (pv 3)) (po_some (pe_op z_add (pv 5) pe_int))) pa_nil)))
  (pss_cons (ps_set (i := 3) sc__cut.nd rfl (by first | exact Or.inl rfl | exact Or.inr rfl) (pe_op z_add (pv 5) pe_int))
  (pss_one (ps_set (i := 4) sc__cut.nd rfl (by first | exact Or.inl rfl | exact Or.inr rfl) pe_dnewK)))) pss_nil))))
  (pss_one (ps_ret (pe_tup (pa_cons (pv 2) (pa_cons (pe_slice sl_str (pv 1) (po_some (pv 3)) po_none) pa_nil))))))))), ?_⟩
    refine zstart [some (.str (S L)), some (.str (S w)), none, none, none, none, none] rfl ?_; try dsimp only [zK, zK2]
    walk_at "zz"
    refine ⟨by show 0 ≤ sizeLine; exact Nat.zero_le _, fun t ht => ?_⟩
    walk_at "zz"
    refine fun dh hdh => ?_
    walk_at "zz"
    have ndt : dh ≠ t := fun e => by subst e; rw [upd_same] at hdh; cases hdh
    have hd0 : H dh = none := by rw [upd_ne ndt] at hdh; exact hdh
    refine i_enumS ?_
    walk_at "zz"
    refine i_KN ?_
    refine l_for walk_enumS (fun i σ H' => ∃ (dh : Addr) (ks : List Nat) (v5 v6 : Option V), Same H H' ∧ H' t = some (.lst (rvs (cutL L (w.take i)).1)) ∧ H' dh = some (.dK (kvsOf ks)) ∧ H dh = none ∧ dh ≠ t ∧ ks.Nodup ∧ (∀ c, c ∈ ks ↔ c ∈ (cutL L (w.take i)).2) ∧
      σ = [some (.str (S L)), some (.str (S w)), some (.ref t), some (.int ((cutL L (w.take i)).1.flatten.length : Int)), some (.ref dh), v5, v6]) ?_ (fun _ _ _ _ _ => trivial) ?_ ?_
    · exact ⟨dh, [], none, none, ((Same.refl H).newz ht).newz hdh, by rw [upd_ne ndt.symm, upd_same]; rfl, upd_same, hd0, ndt, List.nodup_nil, fun c => Iff.rfl, rfl⟩
    · rintro i v σ H4 H5 hi ⟨dh, ks, v5, v6, sm, et, ed, hd0, ndt, hnk, hks, rfl⟩ ⟨T, x, y, rfl, hTn, rfl, hx, hy⟩
      have hx : some (V.int (i : Int)) = some x := hx
      cases hx
      have hy : (w.map fun c => V.str (S [c]))[i]? = some y := hy
      rw [List.getElem?_map] at hy
      obtain ⟨c, hc, rfl⟩ := Option.map_eq_some_iff.mp hy
      have ok := cut_ok hL1 (w.take i)
      have ok2 := cut_ok hL1 (w.take (i + 1))
      have hst := cut_take (L := L) hc
      have hcL := hin c (List.mem_of_getElem? hc)
      have hcur : ∀ d ∈ (cutL L (w.take i)).2 ++ [c], d ∈ L := fun d hd => by
        rcases List.mem_append.mp hd with q | q
        · refine hin d (List.mem_of_mem_take (i := i) ?_)
          rw [← ok.all]; exact List.mem_append_right _ q
        · rw [List.mem_singleton.mp q]; exact hcL
      have hlen : (cutL L (w.take i)).1.flatten.length ≤ i := by
        have := congrArg List.length ok.all
        rw [List.length_append, List.length_take] at this; omega
      refine i_gtup (SqT.of upd_same) rfl ?_
      refine i_gcons (i_gname (i_gcons (i_gname (i_gnil ?_))))
      have et1 := nw (o := .tup [V.int (i : Int), V.str (S [c])]) hTn et
      have ed1 := nw (o := .tup [V.int (i : Int), V.str (S [c])]) hTn ed
      have sm1 := sm.newz (o := .tup [V.int (i : Int), V.str (S [c])]) hTn
      generalize upd H4 T (.tup [V.int (i : Int), V.str (S [c])]) = H6 at et1 ed1 sm1 ⊢
      show tSeq _ _ _ [some (.str (S L)), some (.str (S w)), some (.ref t), some (.int ((cutL L (w.take i)).1.flatten.length : Int)), some (.ref dh), some (.int (i : Int)), some (.str (S [c]))] H6
      walk_at "zz"
      have hkl : ks.length ≤ L.length := nodup_len hnk fun d hd => hcur d (List.mem_append_left _ ((hks d).mp hd))
      obtain ⟨ks2, hput, hnk2, hks2⟩ : ∃ ks2, putK (kvsOf ks) (.inr (S [c])) (.bl true) = kvsOf ks2 ∧ ks2.Nodup ∧ ∀ d, d ∈ ks2 ↔ d ∈ (cutL L (w.take i)).2 ++ [c] := by
        by_cases q : c ∈ ks
        · refine ⟨ks, put_old q, hnk, fun d => ?_⟩
          rw [hks, List.mem_append, List.mem_singleton]
          exact ⟨.inl, fun z => z.elim id fun z => by rw [z]; exact (hks c).mp q⟩
        · refine ⟨ks ++ [c], put_new q, ?_, fun d => ?_⟩
          · rw [List.nodup_append]
            exact ⟨hnk, List.nodup_cons.mpr ⟨by simp, List.nodup_nil⟩, fun a ha b hb => by rw [List.mem_singleton.mp hb]; exact fun z => q (z ▸ ha)⟩
          · rw [List.mem_append, List.mem_append, hks]
      refine i_dput ?_
      walk_at "zz"
      refine ⟨dh, _, rfl, DPut.k (k := .inr (S [c])) ed1 (lt_line (by unfold kvsOf; rw [List.length_map]; omega)), ?_⟩
      rw [hput]
      have et2 : (upd H6 dh (.dK (kvsOf ks2))) t = some (.lst (rvs (cutL L (w.take i)).1)) := by rw [upd_ne ndt.symm]; exact et1
      have ed2 : (upd H6 dh (.dK (kvsOf ks2))) dh = some (.dK (kvsOf ks2)) := upd_same
      have sm2 := sm1.mutz (o := .dK (kvsOf ks2)) hd0
      generalize upd H6 dh (.dK (kvsOf ks2)) = H7 at et2 ed2 sm2 ⊢
      walk_at "zz"
      refine ⟨dh, _, rfl, ed2, ?_⟩
      walk_at "zz"
      have hkf := keys_full hnd hnk2 hks2 hcur
      have e1 : decide (((kvsOf ks2).length : Int) = (L.length : Int)) = full L ((cutL L (w.take i)).2 ++ [c]) := by
        rw [Bool.eq_iff_iff, decide_eq_true_iff, ← hkf]
        unfold kvsOf
        rw [List.length_map]; omega
      rw [e1]
      refine brb (fun hf => ?_) fun hf => ?_
      · have hst2 : cutL L (w.take (i + 1)) = ((cutL L (w.take i)).1 ++ [(cutL L (w.take i)).2 ++ [c]], []) := by rw [hst]; unfold stepC; rw [if_pos hf]
        walk_at "zz"
        refine i_tyL (SqL.of et2) ?_
        walk_at "zz"
        refine i_slBoth (n := (cutL L (w.take i)).1.flatten.length) (m := i + 1) (by omega) ?_
        rw [cut_slice ok.all hc]
        walk_at "zz"
        have hpl : (cutL L (w.take i)).1.length ≤ 1000 := by
          have := ok.few hL1
          rw [List.length_take] at this; omega
        refine i_append et2 (by unfold rvs; rw [List.length_map]; omega) ?_
        walk_at "zz"
        refine fun dh2 hdh2 => ?_
        have ndt2 : dh2 ≠ t := fun e => by subst e; rw [upd_same] at hdh2; cases hdh2
        have sm3 := sm2.mutz (o := .lst (rvs (cutL L (w.take i)).1 ++ [V.str (S ((cutL L (w.take i)).2 ++ [c]))])) ht
        have hd20 : H dh2 = none := by
          cases e : H dh2 with
          | none => rfl
          | some o => rw [sm3 _ _ e] at hdh2; cases hdh2
        walk_at "zz"
        refine ⟨dh2, [], some (.int (i : Int)), some (.str (S [c])), sm3.newz hdh2, ?_, upd_same, hd20, ndt2, List.nodup_nil, ?_, ?_⟩
        · rw [upd_ne ndt2.symm, upd_same, hst2]
          unfold rvs
          rw [List.map_append]; rfl
        · rw [hst2]; exact fun c => Iff.rfl
        · rw [hst2]
          have e2 : ((cutL L (w.take i)).1 ++ [(cutL L (w.take i)).2 ++ [c]]).flatten.length = i + 1 := by
            have := congrArg List.length ok2.all
            rw [hst2, List.length_append, List.length_take] at this
            simp only [List.length_nil] at this
            omega
          show _ = [some (V.str (S L)), some (.str (S w)), some (.ref t), some (.int ((((cutL L (w.take i)).1 ++ [(cutL L (w.take i)).2 ++ [c]]).flatten.length : Nat) : Int)), some (.ref dh2), some (.int (i : Int)), some (.str (S [c]))]
          rw [e2]; rfl
      · have hst2 : cutL L (w.take (i + 1)) = ((cutL L (w.take i)).1, (cutL L (w.take i)).2 ++ [c]) := by rw [hst]; unfold stepC; rw [if_neg (by rw [hf]; simp)]
        walk_at "zz"
        refine ⟨dh, ks2, some (.int (i : Int)), some (.str (S [c])), sm2, ?_, ed2, hd0, ndt, hnk2, ?_, ?_⟩
        · rw [hst2]; exact et2
        · rw [hst2]; exact hks2
        · rw [hst2]
    · rintro σ H4 ⟨dh, ks, v5, v6, sm, et, ed, hd0, ndt, hnk, hks, rfl⟩
      rw [List.take_length] at et hks ⊢
      have ok := cut_ok hL1 w
      have hlen : (cutL L w).1.flatten.length ≤ w.length := by
        have := congrArg List.length ok.all
        rw [List.length_append] at this; omega
      walk_at "zz"
      refine i_slFrom (n := (cutL L w).1.flatten.length) (by omega) ?_
      rw [cut_tail ok.all]
      walk_at "zz"
      refine ⟨by show 2 ≤ sizeLine; decide, fun p hp => ?_⟩
      exact k p t _ ht upd_same (nw hp et) (sm.newz hp)
def revV : V → V
  | .str w => .str (S (codes w).reverse)
  | _ => .non
theorem rvs_rev (ps : List (List Nat)) : (rvs ps).reverse.map revV = rvs (ps.reverse.map List.reverse) := by
  unfold rvs
  rw [← List.map_reverse, List.map_map, List.map_map]; rfl
theorem i_rev {K : PySem.W.Frag} {ta : TA} {σ : L2.St} {H : Hp} {R : It → Hp → Prop} (q : ta σ H fun vs H1 => ∃ (a : Addr) (xs : List V), vs = [.ref a] ∧ SqL K H1 a xs ∧ R (Itv K a xs.length) H1) : iRev K ta σ H R := q
theorem i_revL {K : PySem.W.Frag} {te : TE} {σ : L2.St} {H : Hp} {Q : VK} (q : te σ H fun x H1 => ∃ a xs, x = .ref a ∧ SqL K H1 a xs ∧ ∀ p, H1 p = none → Q (.ref p) (upd H1 p (.lst xs.reverse))) : tRevL K te σ H Q := q
/-- what pieces and pieces_back do with any two values -/
def spTwo (C1 C2 : Addr) (G : List Nat → List Nat → Hp → Hp → VK → Prop) : Sp := fun vs H Q E => ∃ (v1 v2 : V) (d1 d2 : PyData), vs = [v1, v2] ∧ Rp N0 H v1 d1 ∧ Rp N0 H v2 d2 ∧ (∀ l, d1 = .str (S l) → l.length ≤ 1000) ∧ (∀ l, d2 = .str (S l) → l.length ≤ 1000) ∧ Sml d1 ∧ Sml d2 ∧
  (isLot AZ d1 = false → ∀ H', Same H H' → E (.ref C1) none H') ∧ (∀ l, d1 = .str (S l) → isLot AZ d1 = true → (isWord l d2 = false → ∀ H', Same H H' → E (.ref C2) none H') ∧
    (∀ u, d2 = .str (S u) → isWord l d2 = true → G l u H H Q))
def gPieces : List Nat → List Nat → Hp → Hp → VK → Prop := fun l u H _ Q => ∀ (p t : Addr) H', H t = none → H' p = some (.tup [.ref t, .str (S (cutL l u).2)]) → H' t = some (.lst (rvs (cutL l u).1)) → Same H H' → Q (.ref p) H'
def gBack : List Nat → List Nat → Hp → Hp → VK → Prop := fun l u H _ Q => ∀ (p t : Addr) H', H t = none → H' p = some (.tup [.str (S (cutL l u.reverse).2.reverse), .ref t]) → H' t = some (.lst (rvs ((cutL l u.reverse).1.reverse.map List.reverse))) → Same H H' → Q (.ref p) H'
theorem lot_of {l : List Nat} (h : isLot AZ (.str (S l)) = true) : Lot l := by
  unfold isLot isChoice at h
  obtain ⟨h1, h2⟩ := Bool.and_eq_true_iff.mp h
  obtain ⟨h3, h4⟩ := Bool.and_eq_true_iff.mp h1
  have hin : ∀ c ∈ l, c ∈ AZ := fun c hc => of_decide_eq_true (List.all_eq_true.mp h3 c hc)
  have hasc : l.Pairwise (· < ·) := of_decide_eq_true h4
  have hnd : l.Nodup := hasc.imp fun h => Nat.ne_of_lt h
  exact ⟨hnd, hasc, hin, of_decide_eq_true h2, nodup_len hnd hin⟩
theorem word_of {l u : List Nat} (h : isWord l (.str (S u)) = true) : ∀ c ∈ u, c ∈ l := fun c hc => of_decide_eq_true (List.all_eq_true.mp h c hc)
theorem none_of {H H' : Hp} {t : Addr} (s : Same H H') (h : H' t = none) : H t = none := by
  cases e : H t with
  | none => rfl
  | some o => rw [s _ _ e] at h; cases h
theorem c_pieces {C1 C2 : Addr} (d : DF K mg "pieces" s_pieces) (B : Bi mg) (c__check : CalX P w K mg base 4 "_check" (spCheck C1 C2)) (c__cut : Cal P w K mg base 1 "_cut" spCut []) : CalX P w K mg base 5 "pieces" (spTwo C1 C2 gPieces) := by
  refine calX d (N := n_pieces) sc_pieces (fun _ _ _ _ _ _ us hl => match us, hl with | [_, _], _ => rfl) (fun vs H Q E h => ?_) (fun f cdv A outer s H vs Q E hr h => ?_)
  · obtain ⟨v1, v2, d1, d2, rfl, _⟩ := h
    rfl
  · obtain ⟨v1, v2, d1, d2, rfl, r1, r2, l1, l2, sm1, sm2, k1, k2⟩ := h
    refine ⟨_, (pss_cons (ps_expr (pe_cX c__check hr (by first | decide | omega) rfl (takes_of rfl rfl rfl rfl) (pa_cons (pv 0) (pa_cons (pv 1) pa_nil))))
  (PSs.nox (pss_one (ps_ret (pe_c c__cut hr (by first | decide | omega) rfl (pa_cons (pv 0) (pa_cons (pv 1) pa_nil))))))), ?_⟩
    refine zstart [some (v1), some (v2)] rfl ?_; try dsimp only [zK, zK2]
    walk_at "zz"
    refine i_callS ?_
    walk_at "zz"
    refine ⟨v1, v2, d1, d2, rfl, r1, r2, sm1, sm2, fun H1 s1 => ⟨fun hb => k1 hb _ s1, fun l hl hb => ⟨fun hw => (k2 l hl hb).1 hw _ s1, fun hw => ?_⟩⟩⟩
    have hs := r2.isStr (isWord_str hw)
    obtain ⟨u, rfl, hu⟩ := hs
    subst hl hu
    rw [r1.strS]
    have hL := lot_of hb
    walk_at "zz"
    refine ⟨l, u, rfl, hL.nd, hL.lo, by have := hL.hi; omega, word_of hw, l2 u rfl, fun p t H2 ht e1 e2 s2 => ?_⟩
    exact (k2 l rfl hb).2 u rfl hw p t _ (none_of s1 ht) e1 e2 (s1.trans s2)
theorem c_pieces_back {C1 C2 : Addr} (d : DF K mg "pieces_back" s_pieces_back) (B : Bi mg) (c__check : CalX P w K mg base 4 "_check" (spCheck C1 C2)) (c__cut : Cal P w K mg base 1 "_cut" spCut []) : CalX P w K mg base 5 "pieces_back" (spTwo C1 C2 gBack) := by
  refine calX d (N := n_pieces_back) sc_pieces_back (fun _ _ _ _ _ _ us hl => match us, hl with | [_, _], _ => rfl) (fun vs H Q E h => ?_) (fun f cdv A outer s H vs Q E hr h => ?_)
  · obtain ⟨v1, v2, d1, d2, rfl, _⟩ := h
    rfl
  · obtain ⟨v1, v2, d1, d2, rfl, r1, r2, l1, l2, sm1, sm2, k1, k2⟩ := h
    refine ⟨_, (pss_cons (ps_expr (pe_cX c__check hr (by first | decide | omega) rfl (takes_of rfl rfl rfl rfl) (pa_cons (pv 0) (pa_cons (pv 1) pa_nil))))
  (PSs.nox (pss_cons (ps_asg (pe_c c__cut hr (by first | decide | omega) rfl (pa_cons (pv 0) (pa_cons (pe_revS (pv 1)) pa_nil))) (pg_tup rfl (pgs_cons (pg_name (i := 2) sc_pieces_back.nd rfl (by first | exact Or.inl rfl | exact Or.inr rfl)) (pgs_cons (pg_name (i := 3) sc_pieces_back.nd rfl (by first | exact Or.inl rfl | exact Or.inr rfl)) pgs_nil))))
  (pss_one (ps_ret (pe_tup (pa_cons (pe_revS (pv 3)) (pa_cons (pe_lc (own := [("piece", 4)]) (g := gName 4) (tt := tYes) (by rfl) sc_pieces_back.nd (pi_reversed (by rfl) B.reversed (pa_cons (pv 2) pa_nil)) (blkOk_by (N := n_pieces_back) (sc := defScope s_pieces_back) (by decide +kernel)) (fun _ _ _ _ _ => (pg_name (i := 4) sc_pieces_back.nd rfl (by first | exact Or.inl rfl | exact Or.inr rfl))) (fun _ _ _ _ _ => pts_nil) (fun _ _ _ _ _ => (pe_revS (pv 4)))) pa_nil)))))))), ?_⟩
    refine zstart [some (v1), some (v2), none, none, none] rfl ?_; try dsimp only [zK, zK2]
    walk_at "zz"
    refine i_callS ?_
    walk_at "zz"
    refine ⟨v1, v2, d1, d2, rfl, r1, r2, sm1, sm2, fun H1 s1 => ⟨fun hb => k1 hb _ s1, fun l hl hb => ⟨fun hw => (k2 l hl hb).1 hw _ s1, fun hw => ?_⟩⟩⟩
    have hs := r2.isStr (isWord_str hw)
    obtain ⟨u, rfl, hu⟩ := hs
    subst hl hu
    rw [r1.strS]
    have hL := lot_of hb
    have hul := l2 u rfl
    walk_at "zz"
    refine i_revS ?_
    walk_at "zz"
    refine ⟨u, rfl, by omega, ?_⟩
    refine ⟨l, u.reverse, rfl, hL.nd, hL.lo, by have := hL.hi; omega, fun c hc => word_of hw c (List.mem_reverse.mp hc), by rw [List.length_reverse]; exact hul, fun p t H2 ht e1 e2 s2 => ?_⟩
    walk_at "zz"
    have ok := cut_ok hL.lo u.reverse
    have hr1 : (cutL l u.reverse).2.length ≤ u.length := by
      have := congrArg List.length ok.all
      rw [List.length_append, List.length_reverse] at this; omega
    have hr2 := ok.few hL.lo
    rw [List.length_reverse] at hr2
    refine i_revS ?_
    walk_at "zz"
    refine ⟨_, rfl, by omega, ?_⟩
    walk_at "zz"
    refine i_rev ?_
    walk_at "zz"
    refine ⟨t, _, rfl, SqL.of e2, ?_⟩
    refine fun Cl hC => ?_
    have hvl : (rvs (cutL l u.reverse).1).length ≤ 1000 := by unfold rvs; rw [List.length_map]; omega
    refine l_map (walk_rev (xs := rvs (cutL l u.reverse).1)) hC [some (.str (S l)), some (.str (S u)), some (.ref t), some (.str (S (cutL l u.reverse).2)), none] rfl (fun _ => rfl) (rvs (cutL l u.reverse).1).reverse (by rw [List.length_reverse]) (by rw [List.length_reverse]; omega) (fun i H3 x H4 hi _ y => ⟨y.1, by rw [List.getElem?_reverse hi]; exact y.2⟩) (fun H3 s3 => SqL.of (s3 _ _ e2)) revV (fun x H3 P hx s3 hP => ?_) fun H3 s3 e => ?_
    · obtain ⟨r, hr, rfl⟩ := List.mem_map.mp (List.mem_reverse.mp hx)
      refine zte [some (.str (S l)), some (.str (S u)), some (.ref t), some (.str (S (cutL l u.reverse).2)), some (.str (S r))] rfl ?_
      refine i_revS ?_
      walk_at "zz"
      have hrl : r.length ≤ u.length := by
        have h1 := mem_flat hr
        have := congrArg List.length ok.all
        rw [List.length_append, List.length_reverse] at this; omega
      exact ⟨r, rfl, by omega, hP _ (Same.refl _)⟩
    · walk_at "zz"
      refine ⟨by show 2 ≤ sizeLine; decide, fun q hq => ?_⟩
      rw [rvs_rev] at e
      exact (k2 l rfl hb).2 u rfl hw q Cl _ (none_of ((s1.trans s2)) hC) upd_same (nw hq e) (((s1.trans s2).trans s3).newz hq)
end
end Y

namespace Y
open PySem PySem.Spec PyProof.Rows L2 Z Builtin Builtin.Str
open C8 (tCut pss_cut Cal pe_c Met pe_mt pe_mt0 Mak pe_mk pe_gc)
abbrev s__law_letters : Stmt := topS 18
abbrev n__law_letters : List Str := ["_law_hand_here", "_law_signs", "_law_many", "_law_rest", "_law_found", "_law_turn", "_law_at"]
theorem sc__law_letters : FnScope n__law_letters ["_law_hand_here", "_law_signs", "_law_many"] (defScope s__law_letters) := ⟨rfl, rfl, rfl, by decide +kernel, rfl, by decide +kernel, by decide +kernel⟩

abbrev s__law_cut : Stmt := topS 19
abbrev n__law_cut : List Str := ["_law_lot", "_law_word", "_law_found", "_law_start", "_law_end", "_law_letter"]
theorem sc__law_cut : FnScope n__law_cut ["_law_lot", "_law_word"] (defScope s__law_cut) := ⟨rfl, rfl, rfl, by decide +kernel, rfl, by decide +kernel, by decide +kernel⟩

abbrev s__law_drawn : Stmt := topS 20
abbrev n__law_drawn : List Str := ["_law_hand_here", "_law_lot", "_law_way", "_law_many", "_law_word", "_law_place", "_law_letter"]
theorem sc__law_drawn : FnScope n__law_drawn ["_law_hand_here", "_law_lot"] (defScope s__law_drawn) := ⟨rfl, rfl, rfl, by decide +kernel, rfl, by decide +kernel, by decide +kernel⟩

abbrev s__law_is_full : Stmt := topS 21
abbrev n__law_is_full : List Str := ["_law_lot", "_law_word", "_law_letter"]
theorem sc__law_is_full : FnScope n__law_is_full ["_law_lot", "_law_word"] (defScope s__law_is_full) := ⟨rfl, rfl, rfl, by decide +kernel, rfl, by decide +kernel, by decide +kernel⟩

def spLetters : Sp := fun vs H Q _ => ∃ (h : Addr) (l : List Nat) (m : Nat), vs = [.ref h, .str (S l), .int (m : Int)] ∧ HandOk H h ∧ m ≤ l.length ∧ l.length ≤ 1000 ∧
  ∀ (found rest : List Nat) H', found.length = m → (found ++ rest).Perm l → Gd h H H' → Q (.str (S found)) H'
def rds (rs : List (List Nat)) : List PyData := rs.map fun r => PyData.str (S r)
theorem rds_rp {H : Hp} : ∀ rs : List (List Nat), RpAll N0 H (rvs rs) (rds rs)
  | [] => .nil
  | _ :: rs => .cons (.str _) (rds_rp rs)
theorem rds_no : ∀ rs, noDs (rds rs) = true
  | [] => rfl
  | r :: rs => by
    show (noD (.str (S r)) && noDs (rds rs)) = true
    rw [rds_no rs]; rfl
theorem rds_lay : ∀ rs : List (List Nat), (∀ r ∈ rs, ∀ c ∈ r, c < 1000) → PyData.canLayAll0 (rds rs) = true
  | [], _ => rfl
  | r :: rs, h => by
    show (PyData.canLay0 (.str (S r)) && PyData.canLayAll0 (rds rs)) = true
    have h1 := h r List.mem_cons_self
    rw [rds_lay rs fun q hq => h q (List.mem_cons_of_mem _ hq), Bool.and_true]
    simp only [PyData.canLay0, PyData.strOk]
    rw [← Array.all_toList, List.all_eq_true]
    intro c hc
    have := h1 c hc
    exact decide_eq_true (by omega)
theorem rds_depth : ∀ rs, PyData.depthAll (rds rs) ≤ 3
  | [] => by show _ ≤ _; decide
  | r :: rs => by
    have := rds_depth rs
    show max (PyData.depth (.str (S r))) (PyData.depthAll (rds rs)) ≤ 3
    have h : PyData.depth (.str (S r)) ≤ 3 := by simp [PyData.depth]
    omega
def zFind4 : V → List V → Hp → VK → Prop := fun x xs H Q => ∃ (a b : Str) (i j : Int), x = .str a ∧ xs = [.str b, .int i, .int j] ∧ Q (.int (Txt.findIn a b i j)) H
theorem zm_find4 {X : Cx} : MtR X "str.find" zFind4 := mt_find4
theorem findIn_S {a : List Nat} {c i j : Nat} (hij : i ≤ j) (hj : j ≤ a.length) : decide ((0 : Int) ≤ Txt.findIn (S a) (S [c]) (i : Int) (j : Int)) = decide (c ∈ (a.drop i).take (j - i)) := by
  have e1 : fromIndex (S a).length (i : Int) = i := by
    unfold fromIndex
    rw [if_neg (by omega)]; omega
  have e2 : toIndexW (S a).length (j : Int) = j := by
    unfold toIndexW
    rw [if_neg (by omega), S_len]; omega
  have key : occurrences (S a) (S [c]) i j 1 = [] ↔ ¬ c ∈ (a.drop i).take (j - i) := by
    rw [StrLaws.occ_eq]
    have h0 := StrLaws.occ_none (S a) (S [c]) j (List.range' i (j + 1 - i)) i (fun k hk => (List.mem_range'_1.mp hk).1)
    rw [show ∀ (x : Array Nat), x.toList = [] ↔ x = #[] from fun x => by simp, h0]
    constructor
    · intro h q
      obtain ⟨k, hk, e⟩ := List.getElem_of_mem q
      rw [List.length_take, List.length_drop] at hk
      refine h (i + k) (List.mem_range'_1.mpr ⟨by omega, by omega⟩) ⟨by show i + k + 1 ≤ j; omega, ?_⟩
      rw [sub_iff, show [c].length = 1 from rfl, take1]
      rw [List.getElem_take, List.getElem_drop] at e
      rw [List.getElem?_eq_getElem (by omega), e]
    · intro h k hk ⟨q1, q2⟩
      have q1 : k + 1 ≤ j := q1
      have hk := List.mem_range'_1.mp hk
      rw [sub_iff, show [c].length = 1 from rfl, take1] at q2
      refine h ?_
      have e : ((a.drop i).take (j - i))[k - i]? = some c := by
        rw [List.getElem?_take_of_lt (by omega), List.getElem?_drop, show i + (k - i) = k by omega]; exact q2
      exact List.mem_of_getElem? e
  unfold Txt.findIn
  rw [e1, e2]
  cases h : occurrences (S a) (S [c]) i j 1 with
  | nil =>
    have := key.mp h
    rw [decide_eq_false this]
    rfl
  | cons k r =>
    have : c ∈ (a.drop i).take (j - i) := by
      by_cases q : c ∈ (a.drop i).take (j - i)
      · exact q
      · have := key.mpr q; rw [h] at this; cases this
    rw [decide_eq_true this]
    exact decide_eq_true (by show (0 : Int) ≤ (k : Int); omega)
theorem i_find4 {a : List Nat} {c : Nat} {i j : Int} {H : Hp} {Q : VK} (q : Q (.int (Txt.findIn (S a) (S [c]) i j)) H) : zFind4 (.str (S a)) [.str (S [c]), .int i, .int j] H Q := ⟨_, _, _, _, rfl, rfl, q⟩
theorem i_r2 {σ : L2.St} {H : Hp} {ta : TA} {R : It → Hp → Prop} (q : ta σ H fun vs H1 => ∃ i j : Int, vs = [.int i, .int j] ∧ (-(2 ^ 62) ≤ i ∧ i < 2 ^ 62 ∧ -(2 ^ 62) ≤ j ∧ j < 2 ^ 62) ∧ R (Itr i (j - i).toNat) H1) : iRng2 ta σ H R := q
def spIsFull : Sp := fun vs H Q _ => ∃ (L w : List Nat), vs = [.str (S L), .str (S w)] ∧ L.length ≤ 1000 ∧ ∀ H', Same H H' → Q (.bl (full L w)) H'
def spDrawn : Sp := fun vs H Q _ => ∃ (h : Addr) (L : List Nat), vs = [.ref h, .str (S L)] ∧ HandOk H h ∧ 1 ≤ L.length ∧ L.length ≤ 26 ∧ ∀ (w : List Nat) H', w.length ≤ 60 → (∀ c ∈ w, c ∈ L) → Gd h H H' → Q (.str (S w)) H'
section
variable {P : Program} {w : World} {K : PySem.W.Frag} {mg : Str → Option Value} {base : Heap}
theorem c__law_letters (d : DF K mg "_law_letters" s__law_letters) (B : Bi mg) (c__law_draw : Cal P w K mg base 1 "_law_draw" spDraw []) : Cal P w K mg base 2 "_law_letters" spLetters [] := by
  refine d.cal (N := n__law_letters) sc__law_letters (fun _ _ _ _ _ _ us hl => match us, hl with | [_, _, _], _ => rfl) (fun vs H Q E h => ?_) (fun f cdv A outer s H vs Q E hr h => ?_)
  · obtain ⟨h, l, m, rfl, _⟩ := h
    rfl
  · obtain ⟨h, l, m, rfl, hh, hm, hl, k⟩ := h
    refine ⟨_, (pss_cons (ps_set (i := 3) sc__law_letters.nd rfl (by first | exact Or.inl rfl | exact Or.inr rfl) (pv 1))
  (pss_cons (ps_set (i := 4) sc__law_letters.nd rfl (by first | exact Or.inl rfl | exact Or.inr rfl) pe_str)
  (pss_cons (ps_for PassesOwn.never rfl (pi_range1 rfl B.range (pa_cons (pv 2) pa_nil)) (pg_name (i := 5) sc__law_letters.nd rfl (by first | exact Or.inl rfl | exact Or.inr rfl)) (pss_cons (ps_set (i := 6) sc__law_letters.nd rfl (by first | exact Or.inl rfl | exact Or.inr rfl) (pe_c c__law_draw hr (by first | decide | omega) rfl (pa_cons (pv 0) (pa_cons (pe_callB zc_lens (by rfl) B.len (by decide +kernel) (pa_cons (pv 3) pa_nil)) pa_nil))))
  (pss_cons (ps_set (i := 4) sc__law_letters.nd rfl (by first | exact Or.inl rfl | exact Or.inr rfl) (pe_op z_adds (pv 4) (pe_ix ix_str (pv 3) (pv 6) (fun _ _ => rfl))))
  (pss_one (ps_set (i := 3) sc__law_letters.nd rfl (by first | exact Or.inl rfl | exact Or.inr rfl) (pe_op z_adds (pe_slice sl_str (pv 3) po_none (po_some (pv 6))) (pe_slice sl_str (pv 3) (po_some (pe_op z_add (pv 6) pe_int)) po_none)))))))
  (pss_one (ps_ret (pv 4)))))), ?_⟩
    refine zstart [some (.ref h), some (.str (S l)), some (.int m), none, none, none, none] rfl ?_; try dsimp only [zK, zK2]
    walk_at "zz"
    refine i_KR1 (by omega) ?_
    refine l_range (fun i σ H1 => ∃ (found rest : List Nat) (v5 v6 : Option V), σ = [some (.ref h), some (.str (S l)), some (.int m), some (.str (S rest)), some (.str (S found)), v5, v6] ∧ found.length = i ∧ (found ++ rest).Perm l ∧ Gd h H H1) ?_ ?_ ?_
    · exact ⟨[], l, none, none, rfl, rfl, by simp, Gd.refl hh⟩
    · rintro i σ H1 hi ⟨found, rest, v5, v6, rfl, hf, hp, g⟩
      have hlen := hp.length_eq
      rw [List.length_append] at hlen
      have hi' : i < m := by omega
      walk_at "zz"
      refine use_draw g.ok (by omega) (by omega) fun r H2 hr2 g2 => ?_
      walk_at "zz"
      have hrl : r < rest.length := by omega
      refine i_ixS (by omega) (atI_nat (List.getElem?_eq_getElem hrl)) ?_
      walk_at "zz"
      refine i_slTo (by omega) ?_
      walk_at "zz"
      refine i_slFrom (by omega) ?_
      walk_at "zz"
      refine i_adds (by rw [List.length_take, List.length_drop]; omega) ?_
      walk_at "zz"
      exact ⟨_, _, _, _, rfl, by rw [List.length_append, hf]; rfl, perm_pick hrl hp, g.trans g2⟩
    · rintro σ H1 ⟨found, rest, v5, v6, rfl, hf, hp, g⟩
      walk_at "zz"
      exact k found rest _ (by omega) hp g
theorem c__law_is_full (d : DF K mg "_law_is_full" s__law_is_full) (B : Bi mg) : Cal P w K mg base 1 "_law_is_full" spIsFull [] := by
  refine d.cal (N := n__law_is_full) sc__law_is_full (fun _ _ _ _ _ _ us hl => match us, hl with | [_, _], _ => rfl) (fun vs H Q E h => ?_) (fun f cdv A outer s H vs Q E hr h => ?_)
  · obtain ⟨L, u, rfl, _⟩ := h
    rfl
  · obtain ⟨L, u, rfl, hl, k⟩ := h
    refine ⟨_, (pss_one (ps_ret (pe_callB (r := zAll K) (zc_all rfl) (by rfl) B.all (by decide +kernel) (pa_cons (pe_lc (own := [("_law_letter", 2)]) (g := gName 2) (tt := tYes) (by rfl) sc__law_is_full.nd (pi_str (pv 0)) (blkOk_by (N := n__law_is_full) (sc := defScope s__law_is_full) (by decide +kernel)) (fun _ _ _ _ _ => (pg_name (i := 2) sc__law_is_full.nd rfl (by first | exact Or.inl rfl | exact Or.inr rfl))) (fun _ _ _ _ _ => pts_nil) (fun _ _ _ _ _ => (pe_cmpR z_ins (pv 2) (pv 1) (by rfl)))) pa_nil)))), ?_⟩
    refine zstart [some (.str (S L)), some (.str (S u)), none] rfl ?_; try dsimp only [zK, zK2]
    walk_at "zz"
    refine fun Dl hD => ?_
    refine l_mapS hD [some (.str (S L)), some (.str (S u)), none] rfl (fun _ => rfl) (by omega) (fun c => .bl (decide (c ∈ u))) (fun c H1 P hc s1 hP => ?_) fun H1 s1 e => ?_
    · refine zte [some (.str (S L)), some (.str (S u)), some (.str (S [c]))] rfl ?_
      walk_at "zz"
      exact hP _ (Same.refl _)
    · walk_at "zz"
      refine i_all (bs := L.map fun c => decide (c ∈ u)) (SqL.of (by rw [List.map_map]; exact e)) ?_
      rw [List.all_map]
      exact k _ s1
theorem c__law_drawn (d : DF K mg "_law_drawn" s__law_drawn) (B : Bi mg) (c__law_draw : Cal P w K mg base 1 "_law_draw" spDraw []) : Cal P w K mg base 2 "_law_drawn" spDrawn [] := by
  refine d.cal (N := n__law_drawn) sc__law_drawn (fun _ _ _ _ _ _ us hl => match us, hl with | [_, _], _ => rfl) (fun vs H Q E h => ?_) (fun f cdv A outer s H vs Q E hr h => ?_)
  · obtain ⟨h, L, rfl, _⟩ := h
    rfl
  · obtain ⟨h, L, rfl, hh, hL1, hL, k⟩ := h
    refine ⟨_, (pss_cons (ps_set (i := 2) sc__law_drawn.nd rfl (by first | exact Or.inl rfl | exact Or.inr rfl) (pe_c c__law_draw hr (by first | decide | omega) rfl (pa_cons (pv 0) (pa_cons pe_int pa_nil))))
  (pss_cons (ps_set (i := 3) sc__law_drawn.nd rfl (by first | exact Or.inl rfl | exact Or.inr rfl) (pe_c c__law_draw hr (by first | decide | omega) rfl (pa_cons (pv 0) (pa_cons pe_int pa_nil))))
  (pss_cons (ps_set (i := 4) sc__law_drawn.nd rfl (by first | exact Or.inl rfl | exact Or.inr rfl) pe_str)
  (pss_cons (ps_for PassesOwn.never rfl (pi_range1 rfl B.range (pa_cons (pv 3) pa_nil)) (pg_name (i := 5) sc__law_drawn.nd rfl (by first | exact Or.inl rfl | exact Or.inr rfl)) (pss_cons (ps_set (i := 6) sc__law_drawn.nd rfl (by first | exact Or.inl rfl | exact Or.inr rfl) (pe_ix ix_str (pv 1) (pe_c c__law_draw hr (by first | decide | omega) rfl (pa_cons (pv 0) (pa_cons (pe_callB zc_lens (by rfl) B.len (by decide +kernel) (pa_cons (pv 1) pa_nil)) pa_nil))) (fun _ _ => rfl)))
  (pss_cut (ps_if (PW.pt (pw_and (pt_cmpR op_eq (pv 2) pe_int (nomark _)) (pw_and1 (pt_cmpR z_gt (pe_c c__law_draw hr (by first | decide | omega) rfl (pa_cons (pv 0) (pa_cons pe_int pa_nil))) pe_int (nomark _))))) (pss_one (ps_set (i := 6) sc__law_drawn.nd rfl (by first | exact Or.inl rfl | exact Or.inr rfl) (pe_ix ix_str (pv 1) pe_int (fun _ _ => rfl)))) pss_nil)
  (pss_cut (ps_if (pt_cmpR op_eq (pv 2) pe_int (nomark _)) (pss_one (ps_set (i := 6) sc__law_drawn.nd rfl (by first | exact Or.inl rfl | exact Or.inr rfl) (pe_ix ix_str (pv 1) (pe_op z_mod (pv 5) (pe_callB zc_lens (by rfl) B.len (by decide +kernel) (pa_cons (pv 1) pa_nil))) (fun _ _ => rfl)))) pss_nil)
  (pss_cut (ps_if (pt_cmpR op_eq (pv 2) pe_int (nomark _)) (pss_one (ps_set (i := 6) sc__law_drawn.nd rfl (by first | exact Or.inl rfl | exact Or.inr rfl) (pe_ix ix_str (pv 1) (pe_un un_neg pe_int) (fun _ _ => rfl)))) pss_nil)
  (pss_one (ps_set (i := 4) sc__law_drawn.nd rfl (by first | exact Or.inl rfl | exact Or.inr rfl) (pe_op z_adds (pv 4) (pv 6)))))))))
  (pss_one (ps_ret (pv 4))))))), ?_⟩
    refine zstart [some (.ref h), some (.str (S L)), none, none, none, none, none] rfl ?_; try dsimp only [zK, zK2]
    walk_at "zz"
    refine use_draw hh (by decide) (by decide) fun r1 H1 hr1 g1 => ?_
    walk_at "zz"
    refine use_draw g1.ok (by decide) (by decide) fun r2 H2 hr2 g2 => ?_
    walk_at "zz"
    rw [empty_codes]
    refine i_KR1 (by omega) ?_
    have pick : ∀ {r : Nat} (hr : r < L.length), L[r] ∈ L := fun hr => List.getElem_mem hr
    refine l_range (fun i σ H3 => Gd h H H3 ∧ ∃ (u : List Nat) (v5 v6 : Option V), u.length = i ∧ (∀ c ∈ u, c ∈ L) ∧ σ = [some (.ref h), some (.str (S L)), some (.int (r1 : Int)), some (.int (r2 : Int)), some (.str (S u)), v5, v6]) ⟨g1.trans g2, [], none, none, rfl, by simp, rfl⟩ ?_ ?_
    · rintro i σ H3 hi ⟨g3, u, v5, v6, hu, hin, rfl⟩
      have hi2 : i < 60 := by omega
      walk_at "zz"
      refine use_draw g3.ok (by omega) (by omega) fun r H4 hr4 g4 => ?_
      have hrl : r < L.length := by omega
      refine i_ixS (by omega) (atI_nat (List.getElem?_eq_getElem hrl)) ?_
      walk_at "zz"
      have g34 := g3.trans g4
      refine i_cut (fun σ' H' => Gd h H H' ∧ ∃ (c : Nat), c ∈ L ∧ σ' = [some (.ref h), some (.str (S L)), some (.int (r1 : Int)), some (.int (r2 : Int)), some (.str (S u)), some (.int (i : Int)), some (.str (S [c]))]) ?_ ?_
      · walk_at "zz"
        refine brd (fun q => ?_) fun q => ?_
        · walk_at "zz"
          refine use_draw g34.ok (by decide) (by decide) fun r5 H5 hr5 g5 => ?_
          walk_at "zz"
          refine brd (fun q => ?_) fun q => ?_
          · walk_at "zz"
            refine i_ixS (c := L[0]) (by omega) (at_nat (by decide) (List.getElem?_eq_getElem (by omega))) ?_
            walk_at "zz"
            exact ⟨g34.trans g5, _, pick (by omega), rfl⟩
          · walk_at "zz"
            exact ⟨g34.trans g5, _, pick hrl, rfl⟩
        · walk_at "zz"
          exact ⟨g34, _, pick hrl, rfl⟩
      · rintro σ' H5 ⟨g5, c, hc, rfl⟩
        walk_at "zz"
        refine i_cut (fun σ' H' => Gd h H H' ∧ ∃ (c : Nat), c ∈ L ∧ σ' = [some (.ref h), some (.str (S L)), some (.int (r1 : Int)), some (.int (r2 : Int)), some (.str (S u)), some (.int (i : Int)), some (.str (S [c]))]) ?_ ?_
        · walk_at "zz"
          refine brd (fun q => ?_) fun q => ?_
          · walk_at "zz"
            have hm : i % L.length < L.length := Nat.mod_lt _ (by omega)
            have em : ((i : Int) % (L.length : Int)) = ((i % L.length : Nat) : Int) := (Int.natCast_emod i L.length).symm
            rw [em]
            refine i_ixS (c := L[i % L.length]) (by omega) (atI_nat (List.getElem?_eq_getElem hm)) ?_
            walk_at "zz"
            exact ⟨g5, _, pick hm, rfl⟩
          · walk_at "zz"
            exact ⟨g5, c, hc, rfl⟩
        · rintro σ' H6 ⟨g6, c, hc, rfl⟩
          walk_at "zz"
          refine i_cut (fun σ' H' => Gd h H H' ∧ ∃ (c : Nat), c ∈ L ∧ σ' = [some (.ref h), some (.str (S L)), some (.int (r1 : Int)), some (.int (r2 : Int)), some (.str (S u)), some (.int (i : Int)), some (.str (S [c]))]) ?_ ?_
          · walk_at "zz"
            refine brd (fun q => ?_) fun q => ?_
            · walk_at "zz"
              have hm : L.length - 1 < L.length := by omega
              refine i_ixS (c := L[L.length - 1]) (by omega) ?_ ?_
              · unfold atI ixN
                rw [if_neg (by decide), if_pos (by omega)]
                show L[(-1 + (L.length : Int)).toNat]? = _
                rw [show (-1 + (L.length : Int)).toNat = L.length - 1 by omega]
                exact List.getElem?_eq_getElem hm
              walk_at "zz"
              exact ⟨g6, _, pick hm, rfl⟩
            · walk_at "zz"
              exact ⟨g6, c, hc, rfl⟩
          · rintro σ' H7 ⟨g7, c, hc, rfl⟩
            walk_at "zz"
            refine ⟨g7, u ++ [c], _, _, by rw [List.length_append, hu]; rfl, fun e he => ?_, rfl⟩
            rcases List.mem_append.mp he with q | q
            · exact hin e q
            · rw [List.mem_singleton.mp q]; exact hc
    · rintro σ H3 ⟨g3, u, v5, v6, hu, hin, rfl⟩
      walk_at "zz"
      exact k u _ (by omega) hin g3
theorem c__law_cut (d : DF K mg "_law_cut" s__law_cut) (B : Bi mg) : Cal P w K mg base 1 "_law_cut" spCut [] := by
  refine d.cal (N := n__law_cut) sc__law_cut (fun _ _ _ _ _ _ us hl => match us, hl with | [_, _], _ => rfl) (fun vs H Q E h => ?_) (fun f cdv A outer s H vs Q E hr h => ?_)
  · obtain ⟨L, u, rfl, _⟩ := h
    rfl
  · obtain ⟨L, u, rfl, hnd, hL1, hL, hin, hu, k⟩ := h
    refine ⟨_, (pss_cons (ps_set (i := 2) sc__law_cut.nd rfl (by first | exact Or.inl rfl | exact Or.inr rfl) (pe_lst pa_nil))
  (pss_cons (ps_set (i := 3) sc__law_cut.nd rfl (by first | exact Or.inl rfl | exact Or.inr rfl) pe_int)
  (pss_cons (ps_for PassesOwn.never rfl (pi_range2 rfl B.range (pa_cons pe_int (pa_cons (pe_op z_add (pe_callB zc_lens (by rfl) B.len (by decide +kernel) (pa_cons (pv 1) pa_nil)) pe_int) pa_nil))) (pg_name (i := 4) sc__law_cut.nd rfl (by first | exact Or.inl rfl | exact Or.inr rfl)) (pss_one (ps_if (pt_val (pe_callB (r := zAll K) (zc_all rfl) (by rfl) B.all (by decide +kernel) (pa_cons (pe_lc (own := [("_law_letter", 5)]) (g := gName 5) (tt := tYes) (by rfl) sc__law_cut.nd (pi_str (pv 0)) (blkOk_by (N := n__law_cut) (sc := defScope s__law_cut) (by decide +kernel)) (fun _ _ _ _ _ => (pg_name (i := 5) sc__law_cut.nd rfl (by first | exact Or.inl rfl | exact Or.inr rfl))) (fun _ _ _ _ _ => pts_nil) (fun _ _ _ _ _ => (pe_cmpR z_ge (pe_bmZ (K := K) rfl PySem.F.plainAttrs_str PySem.F.slot_str_find PySem.F.type_str_find zm_find4 (pv 1) (pa_cons (pv 5) (pa_cons (pv 3) (pa_cons (pv 4) pa_nil)))) pe_int (nomark _)))) pa_nil))) (pss_cons (ps_expr (pe_bmZ (K := K) rfl PySem.F.plainAttrs_list PySem.F.slot_list_append PySem.F.type_list_append zm_append (pv 2) (pa_cons (pe_slice sl_str (pv 1) (po_some (pv 3)) (po_some (pv 4))) pa_nil)))
  (pss_one (ps_set (i := 3) sc__law_cut.nd rfl (by first | exact Or.inl rfl | exact Or.inr rfl) (pv 4)))) pss_nil)))
  (pss_one (ps_ret (pe_tup (pa_cons (pv 2) (pa_cons (pe_slice sl_str (pv 1) (po_some (pv 3)) po_none) pa_nil)))))))), ?_⟩
    refine zstart [some (.str (S L)), some (.str (S u)), none, none, none, none] rfl ?_; try dsimp only [zK, zK2]
    walk_at "zz"
    refine ⟨by show 0 ≤ sizeLine; exact Nat.zero_le _, fun t ht => ?_⟩
    walk_at "zz"
    refine i_r2 ?_
    walk_at "zz"
    refine ⟨_, _, rfl, ⟨by decide, by decide, by omega, by omega⟩, ?_⟩
    rw [show ((u.length : Int) + 1 - 1).toNat = u.length by omega]
    refine for_range (lo := 1) (n := u.length) (fun i σ H' => ∃ (v4 v5 : Option V), Same H H' ∧ H' t = some (.lst (rvs (cutL L (u.take i)).1)) ∧
      σ = [some (.str (S L)), some (.str (S u)), some (.ref t), some (.int ((cutL L (u.take i)).1.flatten.length : Int)), v4, v5]) ⟨none, none, (Same.refl H).newz ht, upd_same, rfl⟩ ?_ ?_
    · rintro i σ H4 hi ⟨v4, v5, sm, et, rfl⟩
      have hc : u[i]? = some u[i] := List.getElem?_eq_getElem hi
      generalize u[i] = c at hc
      have ok := cut_ok hL1 (u.take i)
      have ok2 := cut_ok hL1 (u.take (i + 1))
      have hst := cut_take (L := L) hc
      have hlen : (cutL L (u.take i)).1.flatten.length ≤ i := by
        have := congrArg List.length ok.all
        rw [List.length_append, List.length_take] at this; omega
      rw [show (1 : Int) + (i : Int) = ((i + 1 : Nat) : Int) by omega]
      walk_at "zz"
      refine fun Cl hC => ?_
      refine l_mapS hC [some (.str (S L)), some (.str (S u)), some (.ref t), some (.int ((cutL L (u.take i)).1.flatten.length : Int)), some (.int ((i + 1 : Nat) : Int)), none] rfl (fun _ => rfl) (by omega) (fun d => .bl (decide (d ∈ (cutL L (u.take i)).2 ++ [c]))) (fun d H5 P hd s5 hP => ?_) fun H5 s5 e => ?_
      · refine zte [some (.str (S L)), some (.str (S u)), some (.ref t), some (.int ((cutL L (u.take i)).1.flatten.length : Int)), some (.int ((i + 1 : Nat) : Int)), some (.str (S [d]))] rfl ?_
        walk_at "zz"
        refine i_find4 ?_
        walk_at "zz"
        rw [findIn_S (by omega) (by omega), cut_slice ok.all hc]
        exact hP _ (Same.refl _)
      · walk_at "zz"
        refine i_all (bs := L.map fun d => decide (d ∈ (cutL L (u.take i)).2 ++ [c])) (SqL.of (by rw [List.map_map]; exact e)) ?_
        rw [List.all_map]
        have et5 := s5 _ _ et
        show KB (.bl (full L ((cutL L (u.take i)).2 ++ [c]))) _
        walk_at "zz"
        refine brb (fun hf => ?_) fun hf => ?_
        · have hst2 : cutL L (u.take (i + 1)) = ((cutL L (u.take i)).1 ++ [(cutL L (u.take i)).2 ++ [c]], []) := by rw [hst]; unfold stepC; rw [if_pos hf]
          walk_at "zz"
          refine i_tyL (SqL.of et5) ?_
          walk_at "zz"
          refine i_slBoth (n := (cutL L (u.take i)).1.flatten.length) (m := i + 1) (by omega) ?_
          rw [cut_slice ok.all hc]
          walk_at "zz"
          have hpl : (cutL L (u.take i)).1.length ≤ 1000 := by
            have := ok.few hL1
            rw [List.length_take] at this; omega
          refine i_append et5 (by unfold rvs; rw [List.length_map]; omega) ?_
          walk_at "zz"
          refine ⟨some (.int ((i + 1 : Nat) : Int)), v5, (sm.trans s5).mutz ht, ?_, ?_⟩
          · rw [upd_same, hst2]
            unfold rvs
            rw [List.map_append]; rfl
          · rw [hst2]
            have e2 : ((cutL L (u.take i)).1 ++ [(cutL L (u.take i)).2 ++ [c]]).flatten.length = i + 1 := by
              have := congrArg List.length ok2.all
              rw [hst2, List.length_append, List.length_take] at this
              simp only [List.length_nil] at this
              omega
            show _ = [some (V.str (S L)), some (.str (S u)), some (.ref t), some (.int ((((cutL L (u.take i)).1 ++ [(cutL L (u.take i)).2 ++ [c]]).flatten.length : Nat) : Int)), some (.int ((i + 1 : Nat) : Int)), v5]
            rw [e2]
        · have hst2 : cutL L (u.take (i + 1)) = ((cutL L (u.take i)).1, (cutL L (u.take i)).2 ++ [c]) := by rw [hst]; unfold stepC; rw [if_neg (by rw [hf]; simp)]
          walk_at "zz"
          refine ⟨some (.int ((i + 1 : Nat) : Int)), v5, sm.trans s5, ?_, ?_⟩
          · rw [hst2]; exact et5
          · rw [hst2]
    · rintro σ H4 ⟨v4, v5, sm, et, rfl⟩
      rw [List.take_length] at et ⊢
      have ok := cut_ok hL1 u
      have hlen : (cutL L u).1.flatten.length ≤ u.length := by
        have := congrArg List.length ok.all
        rw [List.length_append] at this; omega
      walk_at "zz"
      refine i_slFrom (n := (cutL L u).1.flatten.length) (by omega) ?_
      rw [cut_tail ok.all]
      walk_at "zz"
      refine ⟨by show 2 ≤ sizeLine; decide, fun p hp => ?_⟩
      exact k p t _ ht upd_same (nw hp et) (sm.newz hp)
end
end Y

namespace Y
open PySem PySem.Spec PyProof.Rows L2 Z
open C8 (tCut pss_cut Cal pe_c Met pe_mt pe_mt0 Mak pe_mk pe_gc)
abbrev s__law_refused : Stmt := topS 23
abbrev n__law_refused : List Str := ["_law_which", "_law_lot", "_law_word", "_law_told"]
theorem sc__law_refused : FnScope n__law_refused ["_law_which", "_law_lot", "_law_word"] (defScope s__law_refused) := ⟨rfl, rfl, rfl, by decide +kernel, rfl, by decide +kernel, by decide +kernel⟩

abbrev s__law_first : Stmt := topS 24
abbrev n__law_first : List Str := ["_law_lot", "_law_word", "_law_letter", "_law_k"]
theorem sc__law_first : FnScope n__law_first ["_law_lot", "_law_word"] (defScope s__law_first) := ⟨rfl, rfl, rfl, by decide +kernel, rfl, by decide +kernel, by decide +kernel⟩

abbrev s__law_right : Stmt := topS 22
abbrev n__law_right : List Str := ["_law_lot", "_law_word", "_law_due", "_law_rest", "_law_found", "_law_back", "_law_turned", "_law_left", "_law_piece"]
theorem sc__law_right : FnScope n__law_right ["_law_lot", "_law_word"] (defScope s__law_right) := ⟨rfl, rfl, rfl, by decide +kernel, rfl, by decide +kernel, by decide +kernel⟩

/-- what is told of two values -/
def verdict (d1 d2 : PyData) : List Nat := if isLot AZ d1 = true then (match d1 with | .str l => if isWord (codes l) d2 = true then codes (PySem.Str.ofString "none") else codes (PySem.Str.ofString "word") | _ => codes (PySem.Str.ofString "none")) else codes (PySem.Str.ofString "lot")
def spVerdict2 : Sp := fun vs H Q _ => ∃ (v1 v2 : V) (d1 d2 : PyData), vs = [v1, v2] ∧ Rp N0 H v1 d1 ∧ Rp N0 H v2 d2 ∧ (∀ l, d1 = .str (S l) → l.length ≤ 1000) ∧ (∀ l, d2 = .str (S l) → l.length ≤ 1000) ∧ Sml d1 ∧ Sml d2 ∧ ∀ H', Same H H' → Q (.str (S (verdict d1 d2))) H'
def spVerdict3 : Sp := fun vs H Q _ => ∃ (k : Int) (v1 v2 : V) (d1 d2 : PyData), vs = [.int k, v1, v2] ∧ Rp N0 H v1 d1 ∧ Rp N0 H v2 d2 ∧ (∀ l, d1 = .str (S l) → l.length ≤ 1000) ∧ (∀ l, d2 = .str (S l) → l.length ≤ 1000) ∧ Sml d1 ∧ Sml d2 ∧ ∀ H', Same H H' → Q (.str (S (verdict d1 d2))) H'
theorem verdict_lot {d1 d2 : PyData} (h : isLot AZ d1 = false) : verdict d1 d2 = codes (PySem.Str.ofString "lot") := by
  unfold verdict
  rw [if_neg (by rw [h]; simp)]
theorem verdict_word {l : List Nat} {d2 : PyData} (h : isLot AZ (.str (S l)) = true) (h2 : isWord l d2 = false) : verdict (.str (S l)) d2 = codes (PySem.Str.ofString "word") := by
  unfold verdict
  rw [if_pos h]
  show (if isWord l d2 = true then _ else _) = _
  rw [if_neg (by rw [h2]; simp)]
theorem verdict_none {l : List Nat} {d2 : PyData} (h : isLot AZ (.str (S l)) = true) (h2 : isWord l d2 = true) : verdict (.str (S l)) d2 = codes (PySem.Str.ofString "none") := by
  unfold verdict
  rw [if_pos h]
  show (if isWord l d2 = true then _ else _) = _
  rw [if_pos h2]
def zGeS : R2 := fun x y H Q => ∃ i j, x = V.str i ∧ y = V.str j ∧ Q (V.bl (!decide (i.cps.toList < j.cps.toList))) H
theorem z_ges {X : Cx} : OpR X (compareOp .GtE) zGeS := op_ge_str
theorem i_ges {a b : List Nat} {H : Hp} {Q : VK} (q : Q (.bl (!decide (a < b))) H) : zGeS (.str (S a)) (.str (S b)) H Q := ⟨_, _, rfl, rfl, q⟩
theorem adj_iff {α : Type} {lt : α → α → Bool} : ∀ {l : List α}, adj lt l = true ↔ ∀ (k : Nat) (a b : α), l[k]? = some a → l[k + 1]? = some b → lt a b = true
  | [] => by simp [adj]
  | [x] => by simp [adj]
  | x :: y :: r => by
    have ih := adj_iff (lt := lt) (l := y :: r)
    show (lt x y && adj lt (y :: r)) = true ↔ _
    rw [Bool.and_eq_true_iff, ih]
    constructor
    · rintro ⟨h1, h2⟩ k a b ha hb
      cases k with
      | zero => cases ha; cases hb; exact h1
      | succ k => exact h2 k a b (by simpa using ha) (by simpa using hb)
    · intro h
      exact ⟨h 0 x y rfl rfl, fun k a b ha hb => h (k + 1) a b (by simpa using ha) (by simpa using hb)⟩
theorem any_desc (l : List Nat) : ((List.range (l.length - 1)).map fun k => !decide (l.getD k 0 < l.getD (k + 1) 0)).any id = !decide (l.Pairwise (· < ·)) := by
  rw [← adj_asc, Bool.eq_iff_iff, List.any_eq_true, Bool.not_eq_true', ← Bool.not_eq_true, adj_iff]
  constructor
  · rintro ⟨b, hb, hbt⟩ h
    obtain ⟨k, hk, rfl⟩ := List.mem_map.mp hb
    have hk := List.mem_range.mp hk
    have h1 : k < l.length := by omega
    have h2 : k + 1 < l.length := by omega
    have := h k _ _ (List.getElem?_eq_getElem h1) (List.getElem?_eq_getElem h2)
    have hbt : (!decide (l.getD k 0 < l.getD (k + 1) 0)) = true := hbt
    rw [List.getD_eq_getElem?_getD, List.getD_eq_getElem?_getD, List.getElem?_eq_getElem h1, List.getElem?_eq_getElem h2] at hbt
    have hbt : (!decide (l[k] < l[k + 1])) = true := hbt
    rw [this] at hbt; cases hbt
  · intro h
    by_cases q : ∃ k, k < l.length - 1 ∧ ¬ l.getD k 0 < l.getD (k + 1) 0
    · obtain ⟨k, hk, q⟩ := q
      exact ⟨_, List.mem_map.mpr ⟨k, List.mem_range.mpr hk, rfl⟩, by rw [decide_eq_false q]; rfl⟩
    · refine absurd (fun k a b ha hb => ?_) h
      have h2 := (List.getElem?_eq_some_iff.mp hb).1
      by_cases r : l.getD k 0 < l.getD (k + 1) 0
      · rw [List.getD_eq_getElem?_getD, List.getD_eq_getElem?_getD, ha, hb] at r
        exact decide_eq_true r
      · exact absurd ⟨k, by omega, r⟩ q
theorem all_az (l : List Nat) : (l.all fun c => decide (97 ≤ c) && decide (c ≤ 122)) = isWord AZ (.str (S l)) := by
  show _ = l.all fun c => decide (c ∈ AZ)
  congr 1
  funext c
  rw [Bool.eq_iff_iff, Bool.and_eq_true_iff, decide_eq_true_iff, decide_eq_true_iff, decide_eq_true_iff, List.mem_range'_1]
  omega
theorem isLot_str (l : List Nat) : isLot AZ (.str (S l)) = ((isWord AZ (.str (S l)) && decide (l.Pairwise (· < ·))) && decide (0 < l.length)) := rfl
section
variable {P : Program} {w : World} {K : PySem.W.Frag} {mg : Str → Option Value} {base : Heap}
theorem c__law_refused {C1 C2 : Addr} (d : DF K mg "_law_refused" s__law_refused) (B : Bi mg) (T_NoLot : OwnX K mg "NoLot" C1) (T_NoWord : OwnX K mg "NoWord" C2) (x11 : PySem.W.exmOne K (.ref C1) (.ref C1) = some true) (x21 : PySem.W.exmOne K (.ref C2) (.ref C1) = some false) (x22 : PySem.W.exmOne K (.ref C2) (.ref C2) = some true)
    (c_pieces : CalX P w K mg base 5 "pieces" (spTwo C1 C2 gPieces)) (c_pieces_back : CalX P w K mg base 5 "pieces_back" (spTwo C1 C2 gBack)) : Cal P w K mg base 6 "_law_refused" spVerdict3 [] := by
  refine d.cal (N := n__law_refused) sc__law_refused (fun _ _ _ _ _ _ us hl => match us, hl with | [_, _, _], _ => rfl) (fun vs H Q E h => ?_) (fun f cdv A outer s H vs Q E hr h => ?_)
  · obtain ⟨k, v1, v2, d1, d2, rfl, _⟩ := h
    rfl
  · obtain ⟨kk, v1, v2, d1, d2, rfl, r1, r2, l1, l2, sm1, sm2, k⟩ := h
    refine ⟨_, (pss_cons (ps_set (i := 3) sc__law_refused.nd rfl (by first | exact Or.inl rfl | exact Or.inr rfl) pe_str)
  (pss_cons (ps_try_many rfl rfl takes0 (fun W pn xe tk _ => (pss_one (ps_if (pt_cmpR op_eq (pv 0) pe_int (nomark _)) (pss_one (ps_expr (pe_cX c_pieces hr (by first | decide | omega) rfl tk (pa_cons (pv 1) (pa_cons (pv 2) pa_nil))))) (pss_one (ps_expr (pe_cX c_pieces_back hr (by first | decide | omega) rfl tk (pa_cons (pv 1) (pa_cons (pv 2) pa_nil)))))))) (HdsOk.cons ⟨rfl, by decide, .inl T_NoLot.g⟩ (fun a oe cls d pn _ _ => (pss_one (ps_set (i := 3) sc__law_refused.nd rfl (by first | exact Or.inl rfl | exact Or.inr rfl) pe_str))) (HdsOk.cons ⟨rfl, by decide, .inl T_NoWord.g⟩ (fun a oe cls d pn _ _ => (pss_one (ps_set (i := 3) sc__law_refused.nd rfl (by first | exact Or.inl rfl | exact Or.inr rfl) pe_str))) HdsOk.nil)))
  (pss_one (ps_ret (pv 3))))), ?_⟩
    refine zstart [some (.int kk), some (v1), some (v2), none] rfl ?_; try dsimp only [zK, zK2]
    walk_at "zz"
    refine brd (fun hk => ?_) fun hk => ?_
    · walk_at "zz"
      refine i_callS ?_
      walk_at "zz"
      refine ⟨v1, v2, d1, d2, rfl, r1, r2, l1, l2, sm1, sm2, fun hb H1 s1 => ⟨true, x11, fun _ a ha => ?_, fun q => nomatch q⟩, fun l hl hb => ⟨fun hw H1 s1 => ⟨false, x21, (fun q => nomatch q), fun _ => ⟨true, x22, fun _ a ha => ?_, fun q => nomatch q⟩⟩, fun u hu hw p t H1 ht e1 e2 s1 => ?_⟩⟩
      · show tAsg _ _ _ _ _
        walk_at "zz"
        rw [← verdict_lot (d2 := d2) hb]
        exact k _ s1
      · show tAsg _ _ _ _ _
        walk_at "zz"
        subst hl
        rw [← verdict_word hb hw]
        exact k _ s1
      · walk_at "zz"
        subst hl
        rw [← verdict_none hb hw]
        exact k _ s1
    · walk_at "zz"
      refine i_callS ?_
      walk_at "zz"
      refine ⟨v1, v2, d1, d2, rfl, r1, r2, l1, l2, sm1, sm2, fun hb H1 s1 => ⟨true, x11, fun _ a ha => ?_, fun q => nomatch q⟩, fun l hl hb => ⟨fun hw H1 s1 => ⟨false, x21, (fun q => nomatch q), fun _ => ⟨true, x22, fun _ a ha => ?_, fun q => nomatch q⟩⟩, fun u hu hw p t H1 ht e1 e2 s1 => ?_⟩⟩
      · show tAsg _ _ _ _ _
        walk_at "zz"
        rw [← verdict_lot (d2 := d2) hb]
        exact k _ s1
      · show tAsg _ _ _ _ _
        walk_at "zz"
        subst hl
        rw [← verdict_word hb hw]
        exact k _ s1
      · walk_at "zz"
        subst hl
        rw [← verdict_none hb hw]
        exact k _ s1
theorem c__law_first (d : DF K mg "_law_first" s__law_first) (B : Bi mg) : Cal P w K mg base 1 "_law_first" spVerdict2 [] := by
  refine d.cal (N := n__law_first) sc__law_first (fun _ _ _ _ _ _ us hl => match us, hl with | [_, _], _ => rfl) (fun vs H Q E h => ?_) (fun f cdv A outer s H vs Q E hr h => ?_)
  · obtain ⟨v1, v2, d1, d2, rfl, _⟩ := h
    rfl
  · obtain ⟨v1, v2, d1, d2, rfl, r1, r2, l1, l2, sm1, sm2, k⟩ := h
    refine ⟨_, (pss_cons (ps_if (PW.pt (pw_or (pt_not (pt_val (pe_callB (r := zIsi K) zc_isi (by rfl) B.isinstance (by decide +kernel) (pa_cons (pv 0) (pa_cons (pe_bltn (by rfl) B.str (by decide +kernel) (rel_ty "str")) pa_nil))))) (pw_or1 (pt_cmpR op_eq (pv 0) pe_str (nomark _))))) (pss_one (ps_ret pe_str)) pss_nil)
  (pss_cons (ps_if (pt_not (pt_val (pe_callB (r := zAll K) (zc_all rfl) (by rfl) B.all (by decide +kernel) (pa_cons (pe_lc (own := [("_law_letter", 2)]) (g := gName 2) (tt := tYes) (by rfl) sc__law_first.nd (pi_str (pv 0)) (blkOk_by (N := n__law_first) (sc := defScope s__law_first) (by decide +kernel)) (fun _ _ _ _ _ => (pg_name (i := 2) sc__law_first.nd rfl (by first | exact Or.inl rfl | exact Or.inr rfl))) (fun _ _ _ _ _ => pts_nil) (fun _ _ _ _ _ => (pe_chain z_les z_les pe_str (pv 2) pe_str))) pa_nil)))) (pss_one (ps_ret pe_str)) pss_nil)
  (pss_cons (ps_if (pt_val (pe_callB (r := zAny K) (zc_any rfl) (by rfl) B.any (by decide +kernel) (pa_cons (pe_lc (own := [("_law_k", 3)]) (g := gName 3) (tt := tYes) (by rfl) sc__law_first.nd (pi_range1 rfl B.range (pa_cons (pe_op z_sub (pe_callB zc_lens (by rfl) B.len (by decide +kernel) (pa_cons (pv 0) pa_nil)) pe_int) pa_nil)) (blkOk_by (N := n__law_first) (sc := defScope s__law_first) (by decide +kernel)) (fun _ _ _ _ _ => (pg_name (i := 3) sc__law_first.nd rfl (by first | exact Or.inl rfl | exact Or.inr rfl))) (fun _ _ _ _ _ => pts_nil) (fun _ _ _ _ _ => (pe_cmpR z_ges (pe_ix ix_str (pv 0) (pv 3) (fun _ _ => rfl)) (pe_ix ix_str (pv 0) (pe_op z_add (pv 3) pe_int) (fun _ _ => rfl)) (nomark _)))) pa_nil))) (pss_one (ps_ret pe_str)) pss_nil)
  (pss_cons (ps_if (PW.pt (pw_or (pt_not (pt_val (pe_callB (r := zIsi K) zc_isi (by rfl) B.isinstance (by decide +kernel) (pa_cons (pv 1) (pa_cons (pe_bltn (by rfl) B.str (by decide +kernel) (rel_ty "str")) pa_nil))))) (pw_or1 (pt_not (pt_val (pe_callB (r := zAll K) (zc_all rfl) (by rfl) B.all (by decide +kernel) (pa_cons (pe_lc (own := [("_law_letter", 2)]) (g := gName 2) (tt := tYes) (by rfl) sc__law_first.nd (pi_str (pv 1)) (blkOk_by (N := n__law_first) (sc := defScope s__law_first) (by decide +kernel)) (fun _ _ _ _ _ => (pg_name (i := 2) sc__law_first.nd rfl (by first | exact Or.inl rfl | exact Or.inr rfl))) (fun _ _ _ _ _ => pts_nil) (fun _ _ _ _ _ => (pe_cmpR z_ins (pv 2) (pv 0) (by rfl)))) pa_nil))))))) (pss_one (ps_ret pe_str)) pss_nil)
  (pss_one (ps_ret pe_str)))))), ?_⟩
    refine zstart [some (v1), some (v2), none, none] rfl ?_; try dsimp only [zK, zK2]
    walk_at "zz"
    refine i_isi r1 (by decide) ?_
    walk_at "zz"
    refine brnb (fun hb => ?_) fun hb => ?_
    · have hl : isLot AZ d1 = false := by cases r1 <;> first | rfl | (simp [isTy, tyN] at hb)
      walk_at "zz"
      rw [← verdict_lot (d2 := d2) hl]
      exact k _ (Same.refl _)
    obtain ⟨l, rfl, rfl⟩ := r1.isStr hb
    have hl := l1 l rfl
    walk_at "zz"
    rw [empty_codes]
    refine brd (fun h0 => ?_) fun h0 => ?_
    · walk_at "zz"
      subst h0
      rw [← verdict_lot (d1 := .str (S [])) (d2 := d2) (by decide +kernel)]
      exact k _ (Same.refl _)
    have h0' : decide (0 < l.length) = true := decide_eq_true (by cases l with | nil => exact absurd rfl h0 | cons a r => simp)
    walk_at "zz"
    refine fun Dl hD => ?_
    refine l_mapS hD [some (.str (S l)), some v2, none, none] rfl (fun _ => rfl) (by omega) (fun c => .bl (decide (97 ≤ c) && decide (c ≤ 122))) (fun c H1 P hc s1 hP => ?_) fun H1 s1 e => ?_
    · refine zte [some (.str (S l)), some v2, some (.str (S [c])), none] rfl ?_
      walk_at "zz"
      rw [show codes (PySem.Str.ofString "a") = [97] from by decide +kernel, one_lt']
      refine brd (fun h3 => ?_) fun h3 => ?_
      · walk_at "zz"
        rw [show codes (PySem.Str.ofString "z") = [122] from by decide +kernel, one_lt']
        have e : decide (c ≤ 122) = (decide (97 ≤ c) && decide (c ≤ 122)) := by rw [decide_eq_true h3, Bool.true_and]
        rw [e]
        exact hP _ (Same.refl _)
      · walk_at "zz"
        have e : false = (decide (97 ≤ c) && decide (c ≤ 122)) := by rw [decide_eq_false h3, Bool.false_and]
        rw [e]
        exact hP _ (Same.refl _)
    walk_at "zz"
    refine i_all (bs := l.map fun c => decide (97 ≤ c) && decide (c ≤ 122)) (SqL.of (by rw [List.map_map]; exact e)) ?_
    rw [List.all_map]
    show KB (.bl (l.all fun c => decide (97 ≤ c) && decide (c ≤ 122))) _
    rw [all_az]
    walk_at "zz"
    refine brnb (fun h4 => ?_) fun h4 => ?_
    · walk_at "zz"
      rw [← verdict_lot (d1 := .str (S l)) (d2 := d2) (by rw [isLot_str, h4]; rfl)]
      exact k _ s1
    walk_at "zz"
    refine i_KR1 (by omega) ?_
    rw [show ((l.length : Int) - 1).toNat = l.length - 1 by omega]
    refine fun Cl hC => ?_
    refine l_mapR hC [some (.str (S l)), some v2, none, none] rfl (fun _ => rfl) (by omega) (fun j => .bl (!decide (l.getD j 0 < l.getD (j + 1) 0))) (fun j H2 P hj s2 hP => ?_) fun H2 s2 e2 => ?_
    · refine zte [some (.str (S l)), some v2, none, some (.int (j : Int))] rfl ?_
      have hj1 : j < l.length := by omega
      have hj2 : j + 1 < l.length := by omega
      walk_at "zz"
      refine i_ixS (c := l[j]) (by omega) (atI_nat (List.getElem?_eq_getElem hj1)) ?_
      walk_at "zz"
      refine i_ixS (c := l[j + 1]) (by omega) (show atI l ((j + 1 : Nat) : Int) = _ from atI_nat (List.getElem?_eq_getElem hj2)) ?_
      refine i_ges ?_
      rw [one_lt]
      have e1 : l.getD j 0 = l[j] := by rw [List.getD_eq_getElem?_getD, List.getElem?_eq_getElem hj1]; rfl
      have e2 : l.getD (j + 1) 0 = l[j + 1] := by rw [List.getD_eq_getElem?_getD, List.getElem?_eq_getElem hj2]; rfl
      rw [← e1, ← e2]
      exact hP _ (Same.refl _)
    walk_at "zz"
    refine i_any (bs := (List.range (l.length - 1)).map fun j => !decide (l.getD j 0 < l.getD (j + 1) 0)) (SqL.of (by rw [e2, List.map_map]; rfl)) ?_
    rw [any_desc]
    walk_at "zz"
    refine brn (fun h5 => ?_) fun h5 => ?_
    · walk_at "zz"
      rw [← verdict_lot (d1 := .str (S l)) (d2 := d2) (by rw [isLot_str, decide_eq_false h5, Bool.and_false, Bool.false_and])]
      exact k _ (s1.trans s2)
    have hlot : isLot AZ (.str (S l)) = true := by rw [isLot_str, h4, decide_eq_true h5, h0']; rfl
    walk_at "zz"
    refine i_isi (r2.same (s1.trans s2)) (by decide) ?_
    walk_at "zz"
    refine brnb (fun hb2 => ?_) fun hb2 => ?_
    · have hw : isWord l d2 = false := by cases r2 <;> first | rfl | (simp [isTy, tyN] at hb2)
      walk_at "zz"
      rw [← verdict_word hlot hw]
      exact k _ (s1.trans s2)
    obtain ⟨u, rfl, rfl⟩ := r2.isStr hb2
    have hu := l2 u rfl
    walk_at "zz"
    refine fun El hE => ?_
    refine l_mapS hE [some (.str (S l)), some (.str (S u)), none, none] rfl (fun _ => rfl) (by omega) (fun c => .bl (decide (c ∈ l))) (fun c H3 P hc s3 hP => ?_) fun H3 s3 e3 => ?_
    · refine zte [some (.str (S l)), some (.str (S u)), some (.str (S [c])), none] rfl ?_
      walk_at "zz"
      exact hP _ (Same.refl _)
    walk_at "zz"
    refine i_all (bs := u.map fun c => decide (c ∈ l)) (SqL.of (by rw [List.map_map]; exact e3)) ?_
    rw [List.all_map]
    show KB (.bl (isWord l (.str (S u)))) _
    walk_at "zz"
    refine brnb (fun h6 => ?_) fun h6 => ?_
    · walk_at "zz"
      rw [← verdict_word hlot h6]
      exact k _ ((s1.trans s2).trans s3)
    · walk_at "zz"
      rw [← verdict_none hlot h6]
      exact k _ ((s1.trans s2).trans s3)
end
end Y

namespace Y
open PySem PySem.Spec PyProof.Rows L2 Z
open C8 (tCut pss_cut Cal pe_c Met pe_mt pe_mt0 Mak pe_mk pe_gc)
/-- pieces and what is left, as data -/
def cutD (s : List (List Nat) × List Nat) : PyData := .tuple [.list (rds s.1), .str (S s.2)]
def backD (s : List (List Nat) × List Nat) : PyData := .tuple [.str (S s.2.reverse), .list (rds (s.1.reverse.map List.reverse))]
theorem str_lay {l : List Nat} (h : ∀ c ∈ l, c < 1000) : PyData.canLay0 (.str (S l)) = true := by
  simp only [PyData.canLay0, PyData.strOk]
  rw [← Array.all_toList, List.all_eq_true]
  intro c hc
  have := h c hc
  exact decide_eq_true (by omega)
theorem cutD_shaped {s : List (List Nat) × List Nat} (h1 : ∀ r ∈ s.1, ∀ c ∈ r, c < 1000) (h2 : ∀ c ∈ s.2, c < 1000) : SeqAt.shaped (cutD s) = true := by
  have hl := rds_lay s.1 h1
  have hd := rds_depth s.1
  unfold SeqAt.shaped cutD
  have e1 : PyData.canLay0 (.tuple [.list (rds s.1), .str (S s.2)]) = true := by
    simp only [PyData.canLay0, PyData.canLayAll0, Bool.and_true]
    rw [hl, Bool.true_and]
    exact str_lay h2
  rw [e1, Bool.true_and]
  refine decide_eq_true ?_
  simp only [PyData.depth, PyData.depthAll]
  omega
theorem backD_shaped {s : List (List Nat) × List Nat} (h1 : ∀ r ∈ s.1, ∀ c ∈ r, c < 1000) (h2 : ∀ c ∈ s.2, c < 1000) : SeqAt.shaped (backD s) = true := by
  have hl := rds_lay (s.1.reverse.map List.reverse) fun r hr c hc => by
    obtain ⟨q, hq, rfl⟩ := List.mem_map.mp hr
    exact h1 q (List.mem_reverse.mp hq) c (List.mem_reverse.mp hc)
  have hd := rds_depth (s.1.reverse.map List.reverse)
  unfold SeqAt.shaped backD
  have e1 : PyData.canLay0 (.tuple [.str (S s.2.reverse), .list (rds (s.1.reverse.map List.reverse))]) = true := by
    simp only [PyData.canLay0, PyData.canLayAll0, Bool.and_true]
    rw [hl, Bool.and_true]
    exact str_lay fun c hc => h2 c (List.mem_reverse.mp hc)
  rw [e1, Bool.true_and]
  refine decide_eq_true ?_
  simp only [PyData.depth, PyData.depthAll]
  omega
theorem cutD_no (s) : noD (cutD s) = true := by
  show (noD (.list (rds s.1)) && (noD (.str (S s.2)) && true)) = true
  rw [show noD (.list (rds s.1)) = true from rds_no _]; rfl
theorem backD_no (s) : noD (backD s) = true := by
  show (noD (.str (S s.2.reverse)) && (noD (.list (rds (s.1.reverse.map List.reverse))) && true)) = true
  rw [show noD (.list (rds (s.1.reverse.map List.reverse))) = true from rds_no _]; rfl
theorem cut_rp {H : Hp} {p t : Addr} {s : List (List Nat) × List Nat} (h1 : H p = some (.tup [.ref t, .str (S s.2)])) (h2 : H t = some (.lst (rvs s.1))) : Rp N0 H (.ref p) (cutD s) :=
  .tup h1 id (.cons (.lst h2 id (rds_rp _)) (.cons (.str _) .nil))
theorem back_rp {H : Hp} {p t : Addr} {s : List (List Nat) × List Nat} (h1 : H p = some (.tup [.str (S s.2.reverse), .ref t])) (h2 : H t = some (.lst (rvs (s.1.reverse.map List.reverse)))) : Rp N0 H (.ref p) (backD s) :=
  .tup h1 id (.cons (.str _) (.cons (.lst h2 id (rds_rp _)) .nil))
theorem rvs_map (ps : List (List Nat)) : (rvs ps).map revV = rvs (ps.map List.reverse) := by
  unfold rvs
  rw [List.map_map, List.map_map]; rfl
theorem isLot_true {L : List Nat} (h : Lot L) : isLot AZ (.str (S L)) = true := by
  rw [isLot_str, decide_eq_true h.asc, decide_eq_true (by have := h.lo; omega : 0 < L.length)]
  rw [show isWord AZ (.str (S L)) = true from List.all_eq_true.mpr fun c hc => decide_eq_true (h.az c hc)]; rfl
theorem isWord_true {L u : List Nat} (h : ∀ c ∈ u, c ∈ L) : isWord L (.str (S u)) = true := List.all_eq_true.mpr fun c hc => decide_eq_true (h c hc)
theorem drop_last_sl (p : List Nat) : (p.drop (HT.sIx p.length 0 none)).take (HT.sIx p.length p.length (some (-1)) - HT.sIx p.length 0 none) = p.dropLast := by
  have e1 : HT.sIx p.length 0 none = 0 := rfl
  have e2 : HT.sIx p.length p.length (some (-1)) = p.length - 1 := by
    show (if (-1 : Int) < 0 then (-1 + (p.length : Int)).toNat else min (-1 : Int).toNat p.length) = _
    rw [if_pos (by decide)]; omega
  rw [e1, e2, List.drop_zero, Nat.sub_zero, List.dropLast_eq_take]
def spRight : Sp := fun vs H Q _ => ∃ (L u : List Nat), vs = [.str (S L), .str (S u)] ∧ Lot L ∧ (∀ c ∈ u, c ∈ L) ∧ u.length ≤ 1000 ∧ ∀ H', Same H H' → Q (.bl true) H'
section
variable {P : Program} {w : World} {K : PySem.W.Frag} {mg : Str → Option Value} {base : Heap}
theorem c__law_right {C1 C2 : Addr} (d : DF K mg "_law_right" s__law_right) (B : Bi mg) (c__law_cut : Cal P w K mg base 1 "_law_cut" spCut []) (c__law_is_full : Cal P w K mg base 1 "_law_is_full" spIsFull [])
    (c_pieces : CalX P w K mg base 5 "pieces" (spTwo C1 C2 gPieces)) (c_pieces_back : CalX P w K mg base 5 "pieces_back" (spTwo C1 C2 gBack)) : Cal P w K mg base 6 "_law_right" spRight [] := by
  refine d.cal (N := n__law_right) sc__law_right (fun _ _ _ _ _ _ us hl => match us, hl with | [_, _], _ => rfl) (fun vs H Q E h => ?_) (fun f cdv A outer s H vs Q E hr h => ?_)
  · obtain ⟨L, u, rfl, _⟩ := h
    rfl
  · obtain ⟨L, u, rfl, hL, hu, hul, k⟩ := h
    refine ⟨_, (pss_cons (ps_asg (pe_c c__law_cut hr (by first | decide | omega) rfl (pa_cons (pv 0) (pa_cons (pv 1) pa_nil))) (pg_tup rfl (pgs_cons (pg_name (i := 2) sc__law_right.nd rfl (by first | exact Or.inl rfl | exact Or.inr rfl)) (pgs_cons (pg_name (i := 3) sc__law_right.nd rfl (by first | exact Or.inl rfl | exact Or.inr rfl)) pgs_nil))))
  (pss_cons (ps_set (i := 4) sc__law_right.nd rfl (by first | exact Or.inl rfl | exact Or.inr rfl) (pe_cX c_pieces hr (by first | decide | omega) rfl takes0 (pa_cons (pv 0) (pa_cons (pv 1) pa_nil))))
  (pss_cons (ps_set (i := 5) sc__law_right.nd rfl (by first | exact Or.inl rfl | exact Or.inr rfl) (pe_cX c_pieces_back hr (by first | decide | omega) rfl takes0 (pa_cons (pv 0) (pa_cons (pv 1) pa_nil))))
  (pss_cons (ps_if (PW.pt (pw_or (pt_cmpR (r := rNeD K) (op_neD hr.units) (pv 4) (pe_tup (pa_cons (pv 2) (pa_cons (pv 3) pa_nil))) (nomark _)) (pw_or (pt_not (pt_val (pe_callB (r := zIsi K) zc_isi (by rfl) B.isinstance (by decide +kernel) (pa_cons (pv 4) (pa_cons (pe_bltn (by rfl) B.tuple (by decide +kernel) (rel_ty "tuple")) pa_nil))))) (pw_or1 (pt_not (pt_val (pe_callB (r := zIsi K) zc_isi (by rfl) B.isinstance (by decide +kernel) (pa_cons (pv 5) (pa_cons (pe_bltn (by rfl) B.tuple (by decide +kernel) (rel_ty "tuple")) pa_nil))))))))) (pss_one ps_never) pss_nil)
  (pss_cons (ps_asg (pe_c c__law_cut hr (by first | decide | omega) rfl (pa_cons (pv 0) (pa_cons (pe_revS (pv 1)) pa_nil))) (pg_tup rfl (pgs_cons (pg_name (i := 6) sc__law_right.nd rfl (by first | exact Or.inl rfl | exact Or.inr rfl)) (pgs_cons (pg_name (i := 7) sc__law_right.nd rfl (by first | exact Or.inl rfl | exact Or.inr rfl)) pgs_nil))))
  (pss_cons (ps_if (pt_cmpR (r := rNeD K) (op_neD hr.units) (pv 5) (pe_tup (pa_cons (pe_revS (pv 7)) (pa_cons (pe_lc (own := [("_law_piece", 8)]) (g := gName 8) (tt := tYes) (by rfl) sc__law_right.nd (pi_list (pe_revL (pv 6))) (blkOk_by (N := n__law_right) (sc := defScope s__law_right) (by decide +kernel)) (fun _ _ _ _ _ => (pg_name (i := 8) sc__law_right.nd rfl (by first | exact Or.inl rfl | exact Or.inr rfl))) (fun _ _ _ _ _ => pts_nil) (fun _ _ _ _ _ => (pe_revS (pv 8)))) pa_nil))) (nomark _)) (pss_one ps_never) pss_nil)
  (pss_cons (ps_if (PW.pt (pw_or (pt_cmpR op_ne (pe_op z_adds (pe_joinZ (K := K) rfl pe_str (pe_ix (r := rIxT K) ix_tup (pv 4) pe_int (fun _ _ => rfl))) (pe_ix (r := rIxT K) ix_tup (pv 4) pe_int (fun _ _ => rfl))) (pv 1) (nomark _)) (pw_or1 (pt_cmpR op_ne (pe_op z_adds (pe_ix (r := rIxT K) ix_tup (pv 5) pe_int (fun _ _ => rfl)) (pe_joinZ (K := K) rfl pe_str (pe_ix (r := rIxT K) ix_tup (pv 5) pe_int (fun _ _ => rfl)))) (pv 1) (nomark _))))) (pss_one ps_never) pss_nil)
  (pss_cons (ps_if (PW.pt (pw_or (pt_cmpR op_ne (pe_callB (r := zLen K) zc_len (by rfl) B.len (by decide +kernel) (pa_cons (pe_ix (r := rIxT K) ix_tup (pv 4) pe_int (fun _ _ => rfl)) pa_nil)) (pe_callB (r := zLen K) zc_len (by rfl) B.len (by decide +kernel) (pa_cons (pe_ix (r := rIxT K) ix_tup (pv 5) pe_int (fun _ _ => rfl)) pa_nil)) (nomark _)) (pw_or (pt_val (pe_c c__law_is_full hr (by first | decide | omega) rfl (pa_cons (pv 0) (pa_cons (pe_ix (r := rIxT K) ix_tup (pv 4) pe_int (fun _ _ => rfl)) pa_nil)))) (pw_or1 (pt_val (pe_c c__law_is_full hr (by first | decide | omega) rfl (pa_cons (pv 0) (pa_cons (pe_ix (r := rIxT K) ix_tup (pv 5) pe_int (fun _ _ => rfl)) pa_nil)))))))) (pss_one ps_never) pss_nil)
  (pss_cons (ps_if (pt_val (pe_callB (r := zAny K) (zc_any rfl) (by rfl) B.any (by decide +kernel) (pa_cons (pe_lc (own := [("_law_piece", 8)]) (g := gName 8) (tt := tYes) (by rfl) sc__law_right.nd (pi_list (pe_ix (r := rIxT K) ix_tup (pv 4) pe_int (fun _ _ => rfl))) (blkOk_by (N := n__law_right) (sc := defScope s__law_right) (by decide +kernel)) (fun _ _ _ _ _ => (pg_name (i := 8) sc__law_right.nd rfl (by first | exact Or.inl rfl | exact Or.inr rfl))) (fun _ _ _ _ _ => pts_nil) (fun _ _ _ _ _ => (pe_or (pe_not (pe_c c__law_is_full hr (by first | decide | omega) rfl (pa_cons (pv 0) (pa_cons (pv 8) pa_nil)))) (pe_one (pe_c c__law_is_full hr (by first | decide | omega) rfl (pa_cons (pv 0) (pa_cons (pe_slice sl_str (pv 8) po_none (po_some (pe_un un_neg pe_int))) pa_nil))))))) pa_nil))) (pss_one ps_never) pss_nil)
  (pss_cons (ps_if (pt_val (pe_callB (r := zAny K) (zc_any rfl) (by rfl) B.any (by decide +kernel) (pa_cons (pe_lc (own := [("_law_piece", 8)]) (g := gName 8) (tt := tYes) (by rfl) sc__law_right.nd (pi_list (pe_ix (r := rIxT K) ix_tup (pv 5) pe_int (fun _ _ => rfl))) (blkOk_by (N := n__law_right) (sc := defScope s__law_right) (by decide +kernel)) (fun _ _ _ _ _ => (pg_name (i := 8) sc__law_right.nd rfl (by first | exact Or.inl rfl | exact Or.inr rfl))) (fun _ _ _ _ _ => pts_nil) (fun _ _ _ _ _ => (pe_or (pe_not (pe_c c__law_is_full hr (by first | decide | omega) rfl (pa_cons (pv 0) (pa_cons (pv 8) pa_nil)))) (pe_one (pe_c c__law_is_full hr (by first | decide | omega) rfl (pa_cons (pv 0) (pa_cons (pe_slice sl_str (pv 8) (po_some pe_int) po_none) pa_nil))))))) pa_nil))) (pss_one ps_never) pss_nil)
  (pss_cons (ps_expr (pe_bmZ (K := K) rfl PySem.F.plainAttrs_list PySem.F.slot_list_append PySem.F.type_list_append zm_append (pe_ix (r := rIxT K) ix_tup (pv 4) pe_int (fun _ _ => rfl)) (pa_cons pe_str pa_nil)))
  (pss_one (ps_ret (pe_cmpR (r := rEqD K) (op_eqD hr.units) (pe_cX c_pieces hr (by first | decide | omega) rfl takes0 (pa_cons (pv 0) (pa_cons (pv 1) pa_nil))) (pe_tup (pa_cons (pv 2) (pa_cons (pv 3) pa_nil))) (nomark _))))))))))))))), ?_⟩
    refine zstart [some (.str (S L)), some (.str (S u)), none, none, none, none, none, none, none] rfl ?_; try dsimp only [zK, zK2]
    have hlot := isLot_true hL
    have hwd := isWord_true hu
    have hL26 := hL.hi
    have ok := cut_ok hL.lo u
    have okr := cut_ok hL.lo u.reverse
    have hback := cut_back hL.lo u
    have sml : ∀ c ∈ u, c < 1000 := fun c hc => by
      have := List.mem_range'_1.mp (hL.az c (hu c hc)); omega
    have shp : SeqAt.shaped (cutD (cutL L u)) = true := cutD_shaped (fun r hr c hc => sml c (by rw [← ok.all]; exact List.mem_append_left _ (List.mem_flatten.mpr ⟨r, hr, hc⟩))) fun c hc => sml c (by rw [← ok.all]; exact List.mem_append_right _ hc)
    have shr : SeqAt.shaped (backD (cutL L u.reverse)) = true := backD_shaped (fun r hr c hc => sml c (List.mem_reverse.mp (by rw [← okr.all]; exact List.mem_append_left _ (List.mem_flatten.mpr ⟨r, hr, hc⟩)))) fun c hc => sml c (List.mem_reverse.mp (by rw [← okr.all]; exact List.mem_append_right _ hc))
    have bl := congrArg List.length ok.all
    have blr := congrArg List.length okr.all
    rw [List.length_append] at bl
    rw [List.length_append, List.length_reverse] at blr
    have few := ok.few hL.lo
    have fewr := okr.few hL.lo
    rw [List.length_reverse] at fewr
    walk_at "zz"
    refine ⟨L, u, rfl, hL.nd, hL.lo, by omega, hu, hul, fun p0 t0 H1 _ ep0 et0 s1 => ?_⟩
    walk_at "zz"
    refine i_callS ?_
    walk_at "zz"
    refine ⟨_, _, .str (S L), .str (S u), rfl, .str _, .str _, (fun l e => by cases e; omega), (fun l e => by cases e; exact hul), show L.length ≤ 90000 by omega, show u.length ≤ 90000 by omega, (fun q => by rw [hlot] at q; cases q), fun l hl _ => ⟨(fun q => by cases hl; rw [hwd] at q; cases q), fun u2 hu2 _ p1 t1 H2 hn1 ep1 et1 s2 => ?_⟩⟩
    cases hl; cases hu2
    walk_at "zz"
    refine i_callS ?_
    walk_at "zz"
    refine ⟨_, _, .str (S L), .str (S u), rfl, .str _, .str _, (fun l e => by cases e; omega), (fun l e => by cases e; exact hul), show L.length ≤ 90000 by omega, show u.length ≤ 90000 by omega, (fun q => by rw [hlot] at q; cases q), fun l hl _ => ⟨(fun q => by cases hl; rw [hwd] at q; cases q), fun u2 hu2 _ p2 t2 H3 _ ep2 et2 s3 => ?_⟩⟩
    cases hl; cases hu2
    have s23 := s2.trans s3
    have n10 : ¬ t0 = t1 := ne_of_none et0 hn1
    have et0' := s23 _ _ et0
    have ep1' := s3 _ _ ep1
    have et1' := s3 _ _ et1
    walk_at "zz"
    refine ⟨by show 2 ≤ sizeLine; decide, fun p3 hp3 => ?_⟩
    have a0 := nw (o := .tup [V.ref t0, V.str (S (cutL L u).2)]) hp3 et0'
    have a1 := nw (o := .tup [V.ref t0, V.str (S (cutL L u).2)]) hp3 ep1'
    have a2 := nw (o := .tup [V.ref t0, V.str (S (cutL L u).2)]) hp3 et1'
    have a3 := nw (o := .tup [V.ref t0, V.str (S (cutL L u).2)]) hp3 ep2
    have a4 := nw (o := .tup [V.ref t0, V.str (S (cutL L u).2)]) hp3 et2
    have s4 : Same H (upd H3 p3 (.tup [V.ref t0, V.str (S (cutL L u).2)])) := ((s1.trans s2).trans s3).newz hp3
    have a5 : (upd H3 p3 (.tup [V.ref t0, V.str (S (cutL L u).2)])) p3 = some (.tup [V.ref t0, V.str (S (cutL L u).2)]) := upd_same
    generalize upd H3 p3 (.tup [V.ref t0, V.str (S (cutL L u).2)]) = H4 at a0 a1 a2 a3 a4 a5 s4 ⊢
    clear ep0 et0 et0' ep1 ep1' et1 et1' ep2 et2
    refine ⟨cutD (cutL L u), cutD (cutL L u), (cut_rp a1 a2).dp (cutD_no _), (cut_rp a5 a0).dp (cutD_no _), shp, shp, ?_⟩
    rw [SeqAt.eqv_refl _ (SeqAt.canLay_of_shaped shp)]
    walk_at "zz"
    refine i_isi (cut_rp a1 a2) (by decide) ?_
    rw [show isTy (cutD (cutL L u)) "tuple" = true from rfl]
    walk_at "zz"
    refine i_isi (back_rp a3 a4) (by decide) ?_
    rw [show isTy (backD (cutL L u.reverse)) "tuple" = true from rfl]
    walk_at "zz"
    refine i_revS ?_
    walk_at "zz"
    refine ⟨u, rfl, by omega, ?_⟩
    refine ⟨L, u.reverse, rfl, hL.nd, hL.lo, by omega, fun c hc => hu c (List.mem_reverse.mp hc), by rw [List.length_reverse]; exact hul, fun p4 t4 H5 _ b1 b2 s5 => ?_⟩
    walk_at "zz"
    refine i_revS ?_
    walk_at "zz"
    refine ⟨_, rfl, by omega, ?_⟩
    walk_at "zz"
    refine i_revL ?_
    walk_at "zz"
    refine ⟨t4, _, rfl, SqL.of b2, fun q1 hq1 => ?_⟩
    walk_at "zz"
    have s6 : Same H4 (upd H5 q1 (.lst (rvs (cutL L u.reverse).1).reverse)) := s5.newz hq1
    have b3 : (upd H5 q1 (.lst (rvs (cutL L u.reverse).1).reverse)) q1 = some (.lst (rvs (cutL L u.reverse).1).reverse) := upd_same
    generalize upd H5 q1 (.lst (rvs (cutL L u.reverse).1).reverse) = H6 at s6 b3 ⊢
    have mem_len : ∀ r ∈ (cutL L u.reverse).1, r.length ≤ 1000 := fun r hr => by have := mem_flat hr; omega
    have mem_len1 : ∀ r ∈ (cutL L u).1, r.length ≤ 1000 := fun r hr => by have := mem_flat hr; omega
    have rvl : (rvs (cutL L u.reverse).1).length = (cutL L u.reverse).1.length := by unfold rvs; rw [List.length_map]
    have rvl1 : (rvs (cutL L u).1).length = (cutL L u).1.length := by unfold rvs; rw [List.length_map]
    refine i_KL (SqL.of b3) ?_
    refine fun Cl hC => ?_
    refine l_map (walk_list (xs := (rvs (cutL L u.reverse).1).reverse)) hC [some (.str (S L)), some (.str (S u)), some (.ref t0), some (.str (S (cutL L u).2)), some (.ref p1), some (.ref p2), some (.ref t4), some (.str (S (cutL L u.reverse).2)), none] rfl (fun _ => rfl) (rvs (cutL L u.reverse).1).reverse rfl (by rw [List.length_reverse]; omega) (fun i H7 x H8 _ _ y => ⟨y.1, y.2⟩) (fun H7 s7 => SqL.of (s7 _ _ b3)) revV (fun x H7 P hx s7 hP => ?_) fun H7 s7 e7 => ?_
    · obtain ⟨r, hr, rfl⟩ := List.mem_map.mp (List.mem_reverse.mp hx)
      refine zte [some (.str (S L)), some (.str (S u)), some (.ref t0), some (.str (S (cutL L u).2)), some (.ref p1), some (.ref p2), some (.ref t4), some (.str (S (cutL L u.reverse).2)), some (.str (S r))] rfl ?_
      refine i_revS ?_
      walk_at "zz"
      exact ⟨r, rfl, by have := mem_len r hr; omega, hP _ (Same.refl _)⟩
    rw [rvs_rev] at e7
    walk_at "zz"
    refine ⟨by show 2 ≤ sizeLine; decide, fun p5 hp5 => ?_⟩
    have s8 : Same H4 (upd H7 p5 (.tup [V.str (S (cutL L u.reverse).2.reverse), V.ref Cl])) := (s6.trans s7).newz hp5
    have e8 := nw (o := .tup [V.str (S (cutL L u.reverse).2.reverse), V.ref Cl]) hp5 e7
    have f8 : (upd H7 p5 (.tup [V.str (S (cutL L u.reverse).2.reverse), V.ref Cl])) p5 = some (.tup [V.str (S (cutL L u.reverse).2.reverse), V.ref Cl]) := upd_same
    generalize upd H7 p5 (.tup [V.str (S (cutL L u.reverse).2.reverse), V.ref Cl]) = H8 at s8 e8 f8 ⊢
    refine ⟨backD (cutL L u.reverse), backD (cutL L u.reverse), (back_rp (s8 _ _ a3) (s8 _ _ a4)).dp (backD_no _), (back_rp f8 e8).dp (backD_no _), shr, shr, ?_⟩
    rw [SeqAt.eqv_refl _ (SeqAt.canLay_of_shaped shr)]
    have a18 := s8 _ _ a1
    have a28 := s8 _ _ a2
    have a38 := s8 _ _ a3
    have a48 := s8 _ _ a4
    clear e7 f8 e8 b3
    walk_at "zz"
    rw [empty_codes]
    refine i_join0 (l := (cutL L u).1) (.inl (SqL.of a28)) (by omega) ?_
    walk_at "zz"
    refine i_adds (by omega) ?_
    rw [ok.all]
    walk_at "zz"
    refine brn (fun q => absurd rfl q) fun _ => ?_
    walk_at "zz"
    refine i_join0 (l := (cutL L u.reverse).1.reverse.map List.reverse) (.inl (SqL.of a48)) (by
      rw [List.map_reverse, ← List.reverse_flatten, List.length_reverse]; omega) ?_
    have eb : (cutL L u.reverse).2.reverse ++ ((cutL L u.reverse).1.reverse.map List.reverse).flatten = u := by
      rw [List.map_reverse, ← List.reverse_flatten, ← List.reverse_append, okr.all, List.reverse_reverse]
    have ebl := congrArg List.length eb
    rw [List.length_append] at ebl
    refine i_adds (by omega) ?_
    rw [eb]
    walk_at "zz"
    refine brn (fun q => absurd rfl q) fun _ => ?_
    walk_at "zz"
    have elen : ((rvs (cutL L u).1).length : Int) = ((rvs ((cutL L u.reverse).1.reverse.map List.reverse)).length : Int) := by
      unfold rvs
      rw [List.length_map, List.length_map, List.length_map, List.length_reverse, hback]
    refine brn (fun q => absurd elen q) fun _ => ?_
    walk_at "zz"
    refine ⟨L, _, rfl, by omega, fun H9 s9 => ?_⟩
    rw [ok.rest]
    have a19 := s9 _ _ a18
    have a29 := s9 _ _ a28
    have a39 := s9 _ _ a38
    have a49 := s9 _ _ a48
    walk_at "zz"
    refine ⟨L, _, rfl, by omega, fun H10 s10 => ?_⟩
    rw [full_rev, okr.rest]
    have a110 := s10 _ _ a19
    have a210 := s10 _ _ a29
    have a310 := s10 _ _ a39
    have a410 := s10 _ _ a49
    walk_at "zz"
    refine i_KL (SqL.of a210) ?_
    refine fun Dl hD => ?_
    refine l_map (walk_list (xs := rvs (cutL L u).1)) hD [some (.str (S L)), some (.str (S u)), some (.ref t0), some (.str (S (cutL L u).2)), some (.ref p1), some (.ref p2), some (.ref t4), some (.str (S (cutL L u.reverse).2)), none] rfl (fun _ => rfl) (rvs (cutL L u).1) rfl (by omega) (fun i H11 x H12 _ _ y => ⟨y.1, y.2⟩) (fun H11 s11 => SqL.of (s11 _ _ a210)) (fun _ => .bl false) (fun x H11 P hx s11 hP => ?_) fun H11 s11 e11 => ?_
    · obtain ⟨r, hr, rfl⟩ := List.mem_map.mp hx
      obtain ⟨f1, f2⟩ := ok.one r hr
      have hrl := mem_len1 r hr
      refine zte [some (.str (S L)), some (.str (S u)), some (.ref t0), some (.str (S (cutL L u).2)), some (.ref p1), some (.ref p2), some (.ref t4), some (.str (S (cutL L u.reverse).2)), some (.str (S r))] rfl ?_
      walk_at "zz"
      refine ⟨L, r, rfl, by omega, fun H12 s12 => ?_⟩
      rw [f1]
      walk_at "zz"
      refine i_slS (by omega) ?_
      rw [drop_last_sl]
      walk_at "zz"
      refine ⟨L, r.dropLast, rfl, by omega, fun H13 s13 => ?_⟩
      rw [f2]
      exact hP _ (s12.trans s13)
    walk_at "zz"
    refine i_any (bs := (rvs (cutL L u).1).map fun _ => false) (SqL.of (by rw [e11, List.map_map]; rfl)) ?_
    rw [show ((rvs (cutL L u).1).map fun _ => false).any id = false by simp]
    have a111 := s11 _ _ a110
    have a211 := s11 _ _ a210
    have a311 := s11 _ _ a310
    have a411 := s11 _ _ a410
    clear e11
    walk_at "zz"
    refine i_KL (SqL.of a411) ?_
    refine fun El hE => ?_
    refine l_map (walk_list (xs := rvs ((cutL L u.reverse).1.reverse.map List.reverse))) hE [some (.str (S L)), some (.str (S u)), some (.ref t0), some (.str (S (cutL L u).2)), some (.ref p1), some (.ref p2), some (.ref t4), some (.str (S (cutL L u.reverse).2)), none] rfl (fun _ => rfl) (rvs ((cutL L u.reverse).1.reverse.map List.reverse)) rfl (by unfold rvs; rw [List.length_map, List.length_map, List.length_reverse]; omega) (fun i H12 x H13 _ _ y => ⟨y.1, y.2⟩) (fun H12 s12 => SqL.of (s12 _ _ a411)) (fun _ => .bl false) (fun x H12 P hx s12 hP => ?_) fun H12 s12 e12 => ?_
    · obtain ⟨r', hr', rfl⟩ := List.mem_map.mp hx
      obtain ⟨r, hr, rfl⟩ := List.mem_map.mp hr'
      have hr := List.mem_reverse.mp hr
      obtain ⟨f1, f2⟩ := okr.one r hr
      have hrl := mem_len r hr
      refine zte [some (.str (S L)), some (.str (S u)), some (.ref t0), some (.str (S (cutL L u).2)), some (.ref p1), some (.ref p2), some (.ref t4), some (.str (S (cutL L u.reverse).2)), some (.str (S r.reverse))] rfl ?_
      walk_at "zz"
      refine ⟨L, r.reverse, rfl, by omega, fun H13 s13 => ?_⟩
      rw [full_rev, f1]
      walk_at "zz"
      refine i_slFrom (n := 1) (by rw [List.length_reverse]; omega) ?_
      have ed : r.reverse.drop 1 = r.dropLast.reverse := by
        rw [List.drop_one, List.tail_reverse]
      rw [ed]
      walk_at "zz"
      refine ⟨L, r.dropLast.reverse, rfl, by omega, fun H14 s14 => ?_⟩
      rw [full_rev, f2]
      exact hP _ (s13.trans s14)
    walk_at "zz"
    refine i_any (bs := (rvs ((cutL L u.reverse).1.reverse.map List.reverse)).map fun _ => false) (SqL.of (by rw [e12, List.map_map]; rfl)) ?_
    rw [show ((rvs ((cutL L u.reverse).1.reverse.map List.reverse)).map fun _ => false).any id = false by simp]
    have a112 := s12 _ _ a111
    have a212 := s12 _ _ a211
    have s412 : Same H4 H12 := (((s8.trans s9).trans s10).trans s11).trans s12
    clear e12
    walk_at "zz"
    refine i_tyL (SqL.of a212) ?_
    walk_at "zz"
    refine i_append a212 (by omega) ?_
    walk_at "zz"
    refine i_callS ?_
    walk_at "zz"
    have hn1' : H t1 = none := none_of s1 hn1
    have s413 : Same H (upd H12 t1 (.lst (rvs (cutL L u).1 ++ [V.str (S (codes (PySem.Str.ofString "x")))]))) := (s4.trans s412).mutz hn1'
    have c0 : (upd H12 t1 (.lst (rvs (cutL L u).1 ++ [V.str (S (codes (PySem.Str.ofString "x")))]))) t0 = some (.lst (rvs (cutL L u).1)) := by rw [upd_ne n10]; exact s412 _ _ a0
    generalize upd H12 t1 (.lst (rvs (cutL L u).1 ++ [V.str (S (codes (PySem.Str.ofString "x")))])) = H13 at s413 c0 ⊢
    refine ⟨_, _, .str (S L), .str (S u), rfl, .str _, .str _, (fun l e => by cases e; omega), (fun l e => by cases e; exact hul), show L.length ≤ 90000 by omega, show u.length ≤ 90000 by omega, (fun q => by rw [hlot] at q; cases q), fun l hl _ => ⟨(fun q => by cases hl; rw [hwd] at q; cases q), fun u2 hu2 _ p6 t6 H14 _ ep6 et6 s14 => ?_⟩⟩
    cases hl; cases hu2
    walk_at "zz"
    refine ⟨by show 2 ≤ sizeLine; decide, fun p7 hp7 => ?_⟩
    have c1 := nw (o := .tup [V.ref t0, V.str (S (cutL L u).2)]) hp7 (s14 _ _ c0)
    have c2 := nw (o := .tup [V.ref t0, V.str (S (cutL L u).2)]) hp7 ep6
    have c3 := nw (o := .tup [V.ref t0, V.str (S (cutL L u).2)]) hp7 et6
    refine ⟨cutD (cutL L u), cutD (cutL L u), (cut_rp c2 c3).dp (cutD_no _), (cut_rp upd_same c1).dp (cutD_no _), shp, shp, ?_⟩
    rw [SeqAt.eqv_refl _ (SeqAt.canLay_of_shaped shp)]
    exact k _ ((s413.trans s14).newz hp7)
end
end Y

namespace Y
open PySem PySem.Spec PyProof.Rows L2 Z
open C8 (tCut pss_cut Cal pe_c Met pe_mt pe_mt0 Mak pe_mk pe_gc)
abbrev s_law : Stmt := topS 25
abbrev n_law : List Str := ["_law_script", "_law_hand_here", "_law_many", "_law_lot", "_law_turn", "_law_odd", "_law_one", "_law_other", "_law_which"]
theorem sc_law : FnScope n_law ["_law_script"] (defScope s_law) := ⟨rfl, rfl, rfl, by decide +kernel, rfl, by decide +kernel, by decide +kernel⟩

def okd : PyData → Bool
  | .str w => decide ((codes w).length ≤ 1000)
  | .list l => decide (l.length ≤ 1000)
  | .tuple l => decide (l.length ≤ 1000)
  | _ => true
theorem okd_sml {d : PyData} (h : okd d = true) : Sml d := by
  cases d with
  | str w => have : (codes w).length ≤ 1000 := of_decide_eq_true h; show (codes w).length ≤ 90000; omega
  | list l => have : l.length ≤ 1000 := of_decide_eq_true h; show l.length ≤ 90000; omega
  | tuple l => have : l.length ≤ 1000 := of_decide_eq_true h; show l.length ≤ 90000; omega
  | _ => trivial
theorem okd_len {d : PyData} (h : okd d = true) : ∀ l, d = .str (S l) → l.length ≤ 1000 := fun l e => by subst e; exact of_decide_eq_true h
theorem flat_map (ys : List Nat) : (ys.map fun c => V.str (S [c])) = (ys.map fun c => [c]).map fun x => V.str (S x) := by rw [List.map_map]; rfl
theorem i_joinC {K : PySem.W.Frag} {H : Hp} {Q : VK} {p : Addr} {ys : List Nat} (h : H p = some (.lst (ys.map fun c => V.str (S [c])))) (hl : ys.length ≤ 100000) (q : Q (.str (S ys)) H) : zJoin0 K (.str (S [])) [.ref p] H Q := by
  refine i_join0 (l := ys.map fun c => [c]) (.inl (SqL.of (by rw [h, flat_map]))) (by rw [flat_one]; exact hl) ?_
  rw [flat_one]; exact q
section
variable {P : Program} {w : World} {K : PySem.W.Frag} {mg : Str → Option Value} {base : Heap}
theorem ok_law {f : Addr} {fd : FuncData} (F : Fun K "law" "law" s_law f fd) (B : Bi mg) (c__law_hand : Cal P w K mg base 1 "_law_hand" (spHand K) []) (c__law_draw : Cal P w K mg base 1 "_law_draw" spDraw []) (c__law_letters : Cal P w K mg base 2 "_law_letters" spLetters [])
    (c__law_drawn : Cal P w K mg base 2 "_law_drawn" spDrawn []) (c__law_right : Cal P w K mg base 6 "_law_right" spRight []) (c__law_refused : Cal P w K mg base 6 "_law_refused" spVerdict3 []) (c__law_first : Cal P w K mg base 1 "_law_first" spVerdict2 []) : FnOk P w K mg base CX0 7 f fd ["_law_script"] (spLaw K) := by
  refine F.ok sc_law (fun vs H Q E h => ?_) (fun cdv A outer s H vs Q E hr h => ?_)
  · obtain ⟨a, ns, rfl, _⟩ := h
    rfl
  · obtain ⟨a, ns, rfl, hs, hl, k⟩ := h
    refine ⟨_, (pss_cons (ps_set (i := 1) sc_law.nd rfl (by first | exact Or.inl rfl | exact Or.inr rfl) (pe_c c__law_hand hr (by first | decide | omega) rfl (pa_cons (pv 0) pa_nil)))
  (pss_cons (ps_set (i := 2) sc_law.nd rfl (by first | exact Or.inl rfl | exact Or.inr rfl) (pe_op z_add pe_int (pe_c c__law_draw hr (by first | decide | omega) rfl (pa_cons (pv 1) (pa_cons pe_int pa_nil)))))
  (pss_cons (ps_set (i := 3) sc_law.nd rfl (by first | exact Or.inl rfl | exact Or.inr rfl) (pe_joinZ (K := K) rfl pe_str (pe_callB (zc_sortedC rfl) (by rfl) B.sorted (by decide +kernel) (pa_cons (pe_c c__law_letters hr (by first | decide | omega) rfl (pa_cons (pv 1) (pa_cons pe_str (pa_cons (pv 2) pa_nil)))) pa_nil))))
  (pss_cons (ps_for PassesOwn.never rfl (pi_range1 rfl B.range (pa_cons pe_int pa_nil)) (pg_name (i := 4) sc_law.nd rfl (by first | exact Or.inl rfl | exact Or.inr rfl)) (pss_one (ps_if (pt_not (pt_val (pe_c c__law_right hr (by first | decide | omega) rfl (pa_cons (pv 3) (pa_cons (pe_c c__law_drawn hr (by first | decide | omega) rfl (pa_cons (pv 1) (pa_cons (pv 3) pa_nil))) pa_nil))))) (pss_one ps_never) pss_nil)))
  (pss_cons (ps_set (i := 5) sc_law.nd rfl (by first | exact Or.inl rfl | exact Or.inr rfl) (pe_lst (pa_cons pe_non (pa_cons pe_int (pa_cons pe_bl (pa_cons pe_str (pa_cons pe_str (pa_cons pe_str (pa_cons pe_str (pa_cons pe_str (pa_cons (pe_lst (pa_cons pe_str pa_nil)) (pa_cons (pe_tup (pa_cons pe_str pa_nil)) (pa_cons pe_dnewK (pa_cons (pv 3) (pa_cons (pe_revS (pv 3)) (pa_cons (pe_op z_adds (pv 3) pe_str) (pa_cons (pe_op op_rep_str (pv 3) pe_int) (pa_cons (pe_lst (pa_cons (pv 3) pa_nil)) pa_nil))))))))))))))))))
  (pss_cons (ps_for PassesOwn.never rfl (pi_range1 rfl B.range (pa_cons pe_int pa_nil)) (pg_name (i := 4) sc_law.nd rfl (by first | exact Or.inl rfl | exact Or.inr rfl)) (pss_cons (ps_set (i := 6) sc_law.nd rfl (by first | exact Or.inl rfl | exact Or.inr rfl) (pe_ix (r := rIxL K) ix_list (pv 5) (pe_c c__law_draw hr (by first | decide | omega) rfl (pa_cons (pv 1) (pa_cons (pe_callB (r := zLen K) zc_len (by rfl) B.len (by decide +kernel) (pa_cons (pv 5) pa_nil)) pa_nil))) (fun _ _ => rfl)))
  (pss_cons (ps_set (i := 7) sc_law.nd rfl (by first | exact Or.inl rfl | exact Or.inr rfl) (pe_ix (r := rIxL K) ix_list (pv 5) (pe_c c__law_draw hr (by first | decide | omega) rfl (pa_cons (pv 1) (pa_cons (pe_callB (r := zLen K) zc_len (by rfl) B.len (by decide +kernel) (pa_cons (pv 5) pa_nil)) pa_nil))) (fun _ _ => rfl)))
  (pss_one (ps_for PassesOwn.never rfl (pi_range1 rfl B.range (pa_cons pe_int pa_nil)) (pg_name (i := 8) sc_law.nd rfl (by first | exact Or.inl rfl | exact Or.inr rfl)) (pss_cons (ps_if (pt_cmpR op_ne (pe_c c__law_refused hr (by first | decide | omega) rfl (pa_cons (pv 8) (pa_cons (pv 6) (pa_cons (pv 7) pa_nil)))) (pe_c c__law_first hr (by first | decide | omega) rfl (pa_cons (pv 6) (pa_cons (pv 7) pa_nil))) (nomark _)) (pss_one ps_never) pss_nil)
  (pss_one (ps_if (pt_cmpR op_ne (pe_c c__law_refused hr (by first | decide | omega) rfl (pa_cons (pv 8) (pa_cons (pv 3) (pa_cons (pv 7) pa_nil)))) (pe_c c__law_first hr (by first | decide | omega) rfl (pa_cons (pv 3) (pa_cons (pv 7) pa_nil))) (nomark _)) (pss_one ps_never) pss_nil))))))))
  (pss_one (ps_ret pe_bl)))))))), ?_⟩
    refine zstart [some (.ref a), none, none, none, none, none, none, none, none] rfl ?_; try dsimp only [zK, zK2]
    walk_at "zz"
    refine ⟨a, ns, rfl, hs, by omega, fun h H1 hn ok1 s1 => ?_⟩
    walk_at "zz"
    refine use_draw ok1 (by decide) (by decide) fun r1 H2 hr1 g2 => ?_
    walk_at "zz"
    rw [empty_codes, show codes (PySem.Str.ofString "abcdefghijklmnopqrstuvwxyz") = AZ from az]
    refine ⟨h, AZ, 1 + r1, rfl, g2.ok, by show 1 + r1 ≤ 26; omega, by decide, fun found rest H3 hf hp g3 => ?_⟩
    walk_at "zz"
    refine ⟨found, rfl, by omega, fun L p hpm hpw hpn => ?_⟩
    have hnd : L.Nodup := hpm.nodup_iff.mpr (perm_nodup_of hp List.nodup_range')
    have hlen := hpm.length_eq
    have LL : Lot L := ⟨hnd, asc_of hpw hnd, fun c hc => hp.mem_iff.mp (List.mem_append_left _ (hpm.mem_iff.mp hc)), by omega, by omega⟩
    refine i_joinC upd_same (by omega) ?_
    have g13 : Gd h H1 (upd H3 p (.lst (L.map fun c => V.str (S [c])))) := (g2.trans g3).new hpn
    generalize upd H3 p (.lst (L.map fun c => V.str (S [c]))) = H4 at g13 ⊢
    walk_at "zz"
    refine i_KR1 (by omega) ?_
    refine l_range (fun i σ H5 => Gd h H1 H5 ∧ ∃ (v4 : Option V), σ = [some (.ref a), some (.ref h), some (.int (1 + (r1 : Int))), some (.str (S L)), v4, none, none, none, none]) ⟨g13, none, rfl⟩ ?_ ?_
    · rintro i σ H5 hi ⟨g5, v4, rfl⟩
      walk_at "zz"
      refine ⟨h, L, rfl, g5.ok, LL.lo, LL.hi, fun u H6 hu hin g6 => ?_⟩
      walk_at "zz"
      refine ⟨L, u, rfl, LL, hin, by omega, fun H7 s7 => ?_⟩
      walk_at "zz"
      exact ⟨gd_same (g5.trans g6) s7, _, rfl⟩
    · rintro σ H5 ⟨g5, v4, rfl⟩
      walk_at "zz"
      have hLl := LL.hi
      refine ⟨by show 1 ≤ sizeLine; decide, fun p1 hp1 => ?_⟩
      have n1 := g5.ok.ne hp1
      have g6 := g5.new (o := .lst [V.str (S (codes (PySem.Str.ofString "a")))]) hp1
      have b1 : (upd H5 p1 (.lst [V.str (S (codes (PySem.Str.ofString "a")))])) p1 = some _ := upd_same
      generalize upd H5 p1 (.lst [V.str (S (codes (PySem.Str.ofString "a")))]) = H6 at g6 b1 ⊢
      walk_at "zz"
      refine ⟨by show 1 ≤ sizeLine; decide, fun p2 hp2 => ?_⟩
      have n2 := g6.ok.ne hp2
      have g7 := g6.new (o := .tup [V.str (S (codes (PySem.Str.ofString "a")))]) hp2
      have b17 := nw (o := .tup [V.str (S (codes (PySem.Str.ofString "a")))]) hp2 b1
      have b2 : (upd H6 p2 (.tup [V.str (S (codes (PySem.Str.ofString "a")))])) p2 = some _ := upd_same
      generalize upd H6 p2 (.tup [V.str (S (codes (PySem.Str.ofString "a")))]) = H7 at g7 b17 b2 ⊢
      walk_at "zz"
      refine fun p3 hp3 => ?_
      have n3 := g7.ok.ne hp3
      have g8 := g7.new (o := .dK []) hp3
      have b18 := nw (o := .dK []) hp3 b17
      have b28 := nw (o := .dK []) hp3 b2
      have b3 : (upd H7 p3 (.dK [])) p3 = some (.dK []) := upd_same
      generalize upd H7 p3 (.dK []) = H8 at g8 b18 b28 b3 ⊢
      walk_at "zz"
      refine i_revS ?_
      walk_at "zz"
      refine ⟨L, rfl, by omega, ?_⟩
      walk_at "zz"
      rw [show codes (PySem.Str.ofString "?") = [63] by decide +kernel]
      refine i_adds (by show _ + 1 ≤ _; omega) ?_
      walk_at "zz"
      refine i_repS (by decide) (by show _ * 2 ≤ _; omega) (by decide) ?_
      have erep : (List.replicate (2 : Int).toNat L).flatten = L ++ L := by simp [List.replicate]
      rw [erep]
      walk_at "zz"
      refine ⟨by show 1 ≤ sizeLine; decide, fun p4 hp4 => ?_⟩
      have n4 := g8.ok.ne hp4
      have g9 := g8.new (o := .lst [V.str (S L)]) hp4
      have b19 := nw (o := .lst [V.str (S L)]) hp4 b18
      have b29 := nw (o := .lst [V.str (S L)]) hp4 b28
      have b39 := nw (o := .lst [V.str (S L)]) hp4 b3
      have b4 : (upd H8 p4 (.lst [V.str (S L)])) p4 = some _ := upd_same
      generalize upd H8 p4 (.lst [V.str (S L)]) = H9 at g9 b19 b29 b39 b4 ⊢
      walk_at "zz"
      refine ⟨by show 16 ≤ sizeLine; decide, fun q hq => ?_⟩
      have nq := g9.ok.ne hq
      have RA : RpAll (· = h) H9 [V.non, V.int 0, V.bl true, V.str (S (codes (PySem.Str.ofString ""))), V.str (S (codes (PySem.Str.ofString "A"))), V.str (S (codes (PySem.Str.ofString "ba"))), V.str (S (codes (PySem.Str.ofString "aa"))), V.str (S (codes (PySem.Str.ofString "a b"))), V.ref p1, V.ref p2, V.ref p3, V.str (S L), V.str (S L.reverse), V.str (S (L ++ [63])), V.str (S (L ++ L)), V.ref p4]
          [.none, .int 0, .bool true, .str (S (codes (PySem.Str.ofString ""))), .str (S (codes (PySem.Str.ofString "A"))), .str (S (codes (PySem.Str.ofString "ba"))), .str (S (codes (PySem.Str.ofString "aa"))), .str (S (codes (PySem.Str.ofString "a b"))), .list [.str (S (codes (PySem.Str.ofString "a")))], .tuple [.str (S (codes (PySem.Str.ofString "a")))], .dict [], .str (S L), .str (S L.reverse), .str (S (L ++ [63])), .str (S (L ++ L)), .list [.str (S L)]] :=
        .cons .non (.cons (.int 0) (.cons (.bl true) (.cons (.str _) (.cons (.str _) (.cons (.str _) (.cons (.str _) (.cons (.str _) (.cons (.lst b19 n1 (.cons (.str _) .nil)) (.cons (.tup b29 n2 (.cons (.str _) .nil)) (.cons (.dct b39 n3) (.cons (.str _) (.cons (.str _) (.cons (.str _) (.cons (.str _) (.cons (.lst b4 n4 (.cons (.str _) .nil)) .nil)))))))))))))))
      have OK : ([.none, .int 0, .bool true, .str (S (codes (PySem.Str.ofString ""))), .str (S (codes (PySem.Str.ofString "A"))), .str (S (codes (PySem.Str.ofString "ba"))), .str (S (codes (PySem.Str.ofString "aa"))), .str (S (codes (PySem.Str.ofString "a b"))), .list [.str (S (codes (PySem.Str.ofString "a")))], .tuple [.str (S (codes (PySem.Str.ofString "a")))], .dict [], .str (S L), .str (S L.reverse), .str (S (L ++ [63])), .str (S (L ++ L)), .list [.str (S L)]] : List PyData).all okd = true := by
        have k1 : okd (.str (S L)) = true := decide_eq_true (by show L.length ≤ 1000; omega)
        have k2 : okd (.str (S L.reverse)) = true := decide_eq_true (by show L.reverse.length ≤ 1000; rw [List.length_reverse]; omega)
        have k3 : okd (.str (S (L ++ [63]))) = true := decide_eq_true (by show (L ++ [63]).length ≤ 1000; rw [List.length_append]; show _ + 1 ≤ _; omega)
        have k4 : okd (.str (S (L ++ L))) = true := decide_eq_true (by show (L ++ L).length ≤ 1000; rw [List.length_append]; omega)
        have k5 : okd (.list [.str (S L)]) = true := rfl
        simp only [List.all_cons, List.all_nil, k1, k2, k3, k4, k5]
        decide +kernel
      have hvl : [V.non, V.int 0, V.bl true, V.str (S (codes (PySem.Str.ofString ""))), V.str (S (codes (PySem.Str.ofString "A"))), V.str (S (codes (PySem.Str.ofString "ba"))), V.str (S (codes (PySem.Str.ofString "aa"))), V.str (S (codes (PySem.Str.ofString "a b"))), V.ref p1, V.ref p2, V.ref p3, V.str (S L), V.str (S L.reverse), V.str (S (L ++ [63])), V.str (S (L ++ L)), V.ref p4].length = 16 := rfl
      generalize [V.non, V.int 0, V.bl true, V.str (S (codes (PySem.Str.ofString ""))), V.str (S (codes (PySem.Str.ofString "A"))), V.str (S (codes (PySem.Str.ofString "ba"))), V.str (S (codes (PySem.Str.ofString "aa"))), V.str (S (codes (PySem.Str.ofString "a b"))), V.ref p1, V.ref p2, V.ref p3, V.str (S L), V.str (S L.reverse), V.str (S (L ++ [63])), V.str (S (L ++ L)), V.ref p4] = vs at RA hvl ⊢
      generalize ([.none, .int 0, .bool true, .str (S (codes (PySem.Str.ofString ""))), .str (S (codes (PySem.Str.ofString "A"))), .str (S (codes (PySem.Str.ofString "ba"))), .str (S (codes (PySem.Str.ofString "aa"))), .str (S (codes (PySem.Str.ofString "a b"))), .list [.str (S (codes (PySem.Str.ofString "a")))], .tuple [.str (S (codes (PySem.Str.ofString "a")))], .dict [], .str (S L), .str (S L.reverse), .str (S (L ++ [63])), .str (S (L ++ L)), .list [.str (S L)]] : List PyData) = ds at RA OK
      have g10 := g9.new (o := .lst vs) hq
      have eq10 : (upd H9 q (.lst vs)) q = some (.lst vs) := upd_same
      have RA10 := RA.mono (Kp.refl.newz (o := .lst vs) hq)
      generalize upd H9 q (.lst vs) = H10 at g10 eq10 RA10 ⊢
      walk_at "zz"
      refine i_KR1 (by omega) ?_
      have hlenL : ∀ l, PyData.str (S L) = .str (S l) → l.length ≤ 1000 := fun l e => by cases e; omega
      have hsmL : Sml (.str (S L)) := show L.length ≤ 90000 by omega
      refine l_range (fun i σ H11 => Gd h H1 H11 ∧ H11 q = some (.lst vs) ∧ RpAll (· = h) H11 vs ds ∧ ∃ (v4 v6 v7 v8 : Option V), σ = [some (.ref a), some (.ref h), some (.int (1 + (r1 : Int))), some (.str (S L)), v4, some (.ref q), v6, v7, v8]) ⟨g10, eq10, RA10, v4, none, none, none, rfl⟩ ?_ ?_
      · rintro i σ H11 hi ⟨g11, e11, R11, v4, v6, v7, v8, rfl⟩
        walk_at "zz"
        refine use_draw g11.ok (by rw [hvl]; decide) (by rw [hvl]; decide) fun r5 H12 hr5 g12 => ?_
        have hr5' : r5 < vs.length := by omega
        have e12 := g12.kp' e11 nq
        have R12 := R11.mono g12.toKp
        obtain ⟨d1, hd1, q1⟩ := R12.get' (List.getElem?_eq_getElem hr5')
        have ok1 := List.all_eq_true.mp OK d1 (List.mem_of_getElem? hd1)
        refine i_ixL (SqL.of e12) (atI_nat (List.getElem?_eq_getElem hr5')) ?_
        generalize vs[r5] = x1 at q1 ⊢
        walk_at "zz"
        refine use_draw g12.ok (by rw [hvl]; decide) (by rw [hvl]; decide) fun r6 H13 hr6 g13 => ?_
        have hr6' : r6 < vs.length := by omega
        have e13 := g13.kp' e12 nq
        have R13 := R12.mono g13.toKp
        have q1 := q1.mono g13.toKp
        obtain ⟨d2, hd2, q2⟩ := R13.get' (List.getElem?_eq_getElem hr6')
        have ok2 := List.all_eq_true.mp OK d2 (List.mem_of_getElem? hd2)
        refine i_ixL (SqL.of e13) (atI_nat (List.getElem?_eq_getElem hr6')) ?_
        generalize vs[r6] = x2 at q2 ⊢
        walk_at "zz"
        refine i_KR1 (by omega) ?_
        refine l_range (fun j σ H14 => Same H13 H14 ∧ ∃ (v8 : Option V), σ = [some (.ref a), some (.ref h), some (.int (1 + (r1 : Int))), some (.str (S L)), some (.int (i : Int)), some (.ref q), some x1, some x2, v8]) ⟨Same.refl _, v8, rfl⟩ ?_ ?_
        · rintro j σ H14 hj ⟨s14, v8, rfl⟩
          have p1' := (q1.free).same s14
          have p2' := (q2.free).same s14
          walk_at "zz"
          refine ⟨_, x1, x2, d1, d2, rfl, p1', p2', okd_len ok1, okd_len ok2, okd_sml ok1, okd_sml ok2, fun H15 s15 => ?_⟩
          walk_at "zz"
          refine ⟨x1, x2, d1, d2, rfl, p1'.same s15, p2'.same s15, okd_len ok1, okd_len ok2, okd_sml ok1, okd_sml ok2, fun H16 s16 => ?_⟩
          walk_at "zz"
          refine brn (fun q => absurd rfl q) fun _ => ?_
          walk_at "zz"
          refine ⟨_, _, x2, .str (S L), d2, rfl, .str _, (p2'.same s15).same s16, hlenL, okd_len ok2, hsmL, okd_sml ok2, fun H17 s17 => ?_⟩
          walk_at "zz"
          refine ⟨_, x2, .str (S L), d2, rfl, .str _, ((p2'.same s15).same s16).same s17, hlenL, okd_len ok2, hsmL, okd_sml ok2, fun H18 s18 => ?_⟩
          walk_at "zz"
          refine brn (fun q => absurd rfl q) fun _ => ?_
          walk_at "zz"
          exact ⟨(((s14.trans s15).trans s16).trans s17).trans s18, _, rfl⟩
        · rintro σ H14 ⟨s14, v8, rfl⟩
          walk_at "zz"
          exact ⟨gd_same ((g11.trans g12).trans g13) s14, s14 _ _ e13, R13.mono (Kp.of_same s14), _, _, _, _, rfl⟩
      · rintro σ H11 ⟨g11, e11, R11, v4, v6, v7, v8, rfl⟩
        walk_at "zz"
        exact k _
end
end Y

namespace Y
open PySem PySem.Spec PyProof.Rows L2 Z
open C8 (tCut pss_cut Cal pe_c Met pe_mt pe_mt0 Mak pe_mk)
theorem all_mk {l : PySem.W.OpenLaw} {w : World} {K : PySem.W.Frag} {h : Heap} {mg : Str → Option Value} {fa f_is_ascending f_is_word f_is_choice f_is_lot f_pieces f_pieces_back f__cut f__check f__law_hand f__law_draw f__law_letters f__law_cut f__law_drawn f__law_is_full f__law_right f__law_refused f__law_first f_law : Addr} (X : K.In h) (G : h.Ns mainGlobals mg) (hfa : mg "law" = some (.ref fa))
    {od_is_ascending an_is_ascending od_is_word an_is_word od_is_choice an_is_choice od_is_lot an_is_lot od_pieces an_pieces od_pieces_back an_pieces_back od__cut an__cut od__check an__check od__law_hand an__law_hand od__law_draw an__law_draw od__law_letters an__law_letters od__law_cut an__law_cut od__law_drawn an__law_drawn od__law_is_full an__law_is_full od__law_right an__law_right od__law_refused an__law_refused od__law_first an__law_first od_law an_law : Option Addr} {sl_is_ascending sl_is_word sl_is_choice sl_is_lot sl_pieces sl_pieces_back sl__cut sl__check sl__law_hand sl__law_draw sl__law_letters sl__law_cut sl__law_drawn sl__law_is_full sl__law_right sl__law_refused sl__law_first sl_law : Array (Option Value)} {oc_is_ascending kV_is_ascending dc_is_ascending pm_is_ascending cd_is_ascending ct_is_ascending oc_is_word kV_is_word dc_is_word pm_is_word cd_is_word ct_is_word oc_is_choice kV_is_choice dc_is_choice pm_is_choice cd_is_choice ct_is_choice oc_is_lot kV_is_lot dc_is_lot pm_is_lot cd_is_lot ct_is_lot oc_pieces kV_pieces dc_pieces pm_pieces cd_pieces ct_pieces oc_pieces_back kV_pieces_back dc_pieces_back pm_pieces_back cd_pieces_back ct_pieces_back oc__cut kV__cut dc__cut pm__cut cd__cut ct__cut oc__check kV__check dc__check pm__check cd__check ct__check oc__law_hand kV__law_hand dc__law_hand pm__law_hand cd__law_hand ct__law_hand oc__law_draw kV__law_draw dc__law_draw pm__law_draw cd__law_draw ct__law_draw oc__law_letters kV__law_letters dc__law_letters pm__law_letters cd__law_letters ct__law_letters oc__law_cut kV__law_cut dc__law_cut pm__law_cut cd__law_cut ct__law_cut oc__law_drawn kV__law_drawn dc__law_drawn pm__law_drawn cd__law_drawn ct__law_drawn oc__law_is_full kV__law_is_full dc__law_is_full pm__law_is_full cd__law_is_full ct__law_is_full oc__law_right kV__law_right dc__law_right pm__law_right cd__law_right ct__law_right oc__law_refused kV__law_refused dc__law_refused pm__law_refused cd__law_refused ct__law_refused oc__law_first kV__law_first dc__law_first pm__law_first cd__law_first ct__law_first oc_law kV_law dc_law pm_law cd_law ct_law : Value} {aS : Str} {aT : Tok} {C1 C2 : Addr}
    (a_is_ascending : PySem.W.nsIn K mainGlobals "is_ascending" = some (some (.ref f_is_ascending)))
    (l_is_ascending : K.lookup f_is_ascending = some ⟨oc_is_ascending, od_is_ascending, .func (PySem.W.fnOf "is_ascending" "is_ascending" (defArgs s_is_ascending) (defBody s_is_ascending) (defScope s_is_ascending) .none kV_is_ascending dc_is_ascending pm_is_ascending an_is_ascending cd_is_ascending ct_is_ascending), sl_is_ascending⟩)
    (c_is_ascending : PySem.W.codeIn K cd_is_ascending "is_ascending" = true) (k_is_ascending : PySem.W.keepIn K (.ref f_is_ascending) = true)
    (a_is_word : PySem.W.nsIn K mainGlobals "is_word" = some (some (.ref f_is_word)))
    (l_is_word : K.lookup f_is_word = some ⟨oc_is_word, od_is_word, .func (PySem.W.fnOf "is_word" "is_word" (defArgs s_is_word) (defBody s_is_word) (defScope s_is_word) .none kV_is_word dc_is_word pm_is_word an_is_word cd_is_word ct_is_word), sl_is_word⟩)
    (c_is_word : PySem.W.codeIn K cd_is_word "is_word" = true) (k_is_word : PySem.W.keepIn K (.ref f_is_word) = true)
    (a_is_choice : PySem.W.nsIn K mainGlobals "is_choice" = some (some (.ref f_is_choice)))
    (l_is_choice : K.lookup f_is_choice = some ⟨oc_is_choice, od_is_choice, .func (PySem.W.fnOf "is_choice" "is_choice" (defArgs s_is_choice) (defBody s_is_choice) (defScope s_is_choice) .none kV_is_choice dc_is_choice pm_is_choice an_is_choice cd_is_choice ct_is_choice), sl_is_choice⟩)
    (c_is_choice : PySem.W.codeIn K cd_is_choice "is_choice" = true) (k_is_choice : PySem.W.keepIn K (.ref f_is_choice) = true)
    (a_is_lot : PySem.W.nsIn K mainGlobals "is_lot" = some (some (.ref f_is_lot)))
    (l_is_lot : K.lookup f_is_lot = some ⟨oc_is_lot, od_is_lot, .func (PySem.W.fnOf "is_lot" "is_lot" (defArgs s_is_lot) (defBody s_is_lot) (defScope s_is_lot) .none kV_is_lot dc_is_lot pm_is_lot an_is_lot cd_is_lot ct_is_lot), sl_is_lot⟩)
    (c_is_lot : PySem.W.codeIn K cd_is_lot "is_lot" = true) (k_is_lot : PySem.W.keepIn K (.ref f_is_lot) = true)
    (a_pieces : PySem.W.nsIn K mainGlobals "pieces" = some (some (.ref f_pieces)))
    (l_pieces : K.lookup f_pieces = some ⟨oc_pieces, od_pieces, .func (PySem.W.fnOf "pieces" "pieces" (defArgs s_pieces) (defBody s_pieces) (defScope s_pieces) .none kV_pieces dc_pieces pm_pieces an_pieces cd_pieces ct_pieces), sl_pieces⟩)
    (c_pieces : PySem.W.codeIn K cd_pieces "pieces" = true) (k_pieces : PySem.W.keepIn K (.ref f_pieces) = true)
    (a_pieces_back : PySem.W.nsIn K mainGlobals "pieces_back" = some (some (.ref f_pieces_back)))
    (l_pieces_back : K.lookup f_pieces_back = some ⟨oc_pieces_back, od_pieces_back, .func (PySem.W.fnOf "pieces_back" "pieces_back" (defArgs s_pieces_back) (defBody s_pieces_back) (defScope s_pieces_back) .none kV_pieces_back dc_pieces_back pm_pieces_back an_pieces_back cd_pieces_back ct_pieces_back), sl_pieces_back⟩)
    (c_pieces_back : PySem.W.codeIn K cd_pieces_back "pieces_back" = true) (k_pieces_back : PySem.W.keepIn K (.ref f_pieces_back) = true)
    (a__cut : PySem.W.nsIn K mainGlobals "_cut" = some (some (.ref f__cut)))
    (l__cut : K.lookup f__cut = some ⟨oc__cut, od__cut, .func (PySem.W.fnOf "_cut" "_cut" (defArgs s__cut) (defBody s__cut) (defScope s__cut) .none kV__cut dc__cut pm__cut an__cut cd__cut ct__cut), sl__cut⟩)
    (c__cut : PySem.W.codeIn K cd__cut "_cut" = true) (k__cut : PySem.W.keepIn K (.ref f__cut) = true)
    (a__check : PySem.W.nsIn K mainGlobals "_check" = some (some (.ref f__check)))
    (l__check : K.lookup f__check = some ⟨oc__check, od__check, .func (PySem.W.fnOf "_check" "_check" (defArgs s__check) (defBody s__check) (defScope s__check) .none kV__check dc__check pm__check an__check cd__check ct__check), sl__check⟩)
    (c__check : PySem.W.codeIn K cd__check "_check" = true) (k__check : PySem.W.keepIn K (.ref f__check) = true)
    (a__law_hand : PySem.W.nsIn K mainGlobals "_law_hand" = some (some (.ref f__law_hand)))
    (l__law_hand : K.lookup f__law_hand = some ⟨oc__law_hand, od__law_hand, .func (PySem.W.fnOf "_law_hand" "_law_hand" (defArgs s__law_hand) (defBody s__law_hand) (defScope s__law_hand) .none kV__law_hand dc__law_hand pm__law_hand an__law_hand cd__law_hand ct__law_hand), sl__law_hand⟩)
    (c__law_hand : PySem.W.codeIn K cd__law_hand "_law_hand" = true) (k__law_hand : PySem.W.keepIn K (.ref f__law_hand) = true)
    (a__law_draw : PySem.W.nsIn K mainGlobals "_law_draw" = some (some (.ref f__law_draw)))
    (l__law_draw : K.lookup f__law_draw = some ⟨oc__law_draw, od__law_draw, .func (PySem.W.fnOf "_law_draw" "_law_draw" (defArgs s__law_draw) (defBody s__law_draw) (defScope s__law_draw) .none kV__law_draw dc__law_draw pm__law_draw an__law_draw cd__law_draw ct__law_draw), sl__law_draw⟩)
    (c__law_draw : PySem.W.codeIn K cd__law_draw "_law_draw" = true) (k__law_draw : PySem.W.keepIn K (.ref f__law_draw) = true)
    (a__law_letters : PySem.W.nsIn K mainGlobals "_law_letters" = some (some (.ref f__law_letters)))
    (l__law_letters : K.lookup f__law_letters = some ⟨oc__law_letters, od__law_letters, .func (PySem.W.fnOf "_law_letters" "_law_letters" (defArgs s__law_letters) (defBody s__law_letters) (defScope s__law_letters) .none kV__law_letters dc__law_letters pm__law_letters an__law_letters cd__law_letters ct__law_letters), sl__law_letters⟩)
    (c__law_letters : PySem.W.codeIn K cd__law_letters "_law_letters" = true) (k__law_letters : PySem.W.keepIn K (.ref f__law_letters) = true)
    (a__law_cut : PySem.W.nsIn K mainGlobals "_law_cut" = some (some (.ref f__law_cut)))
    (l__law_cut : K.lookup f__law_cut = some ⟨oc__law_cut, od__law_cut, .func (PySem.W.fnOf "_law_cut" "_law_cut" (defArgs s__law_cut) (defBody s__law_cut) (defScope s__law_cut) .none kV__law_cut dc__law_cut pm__law_cut an__law_cut cd__law_cut ct__law_cut), sl__law_cut⟩)
    (c__law_cut : PySem.W.codeIn K cd__law_cut "_law_cut" = true) (k__law_cut : PySem.W.keepIn K (.ref f__law_cut) = true)
    (a__law_drawn : PySem.W.nsIn K mainGlobals "_law_drawn" = some (some (.ref f__law_drawn)))
    (l__law_drawn : K.lookup f__law_drawn = some ⟨oc__law_drawn, od__law_drawn, .func (PySem.W.fnOf "_law_drawn" "_law_drawn" (defArgs s__law_drawn) (defBody s__law_drawn) (defScope s__law_drawn) .none kV__law_drawn dc__law_drawn pm__law_drawn an__law_drawn cd__law_drawn ct__law_drawn), sl__law_drawn⟩)
    (c__law_drawn : PySem.W.codeIn K cd__law_drawn "_law_drawn" = true) (k__law_drawn : PySem.W.keepIn K (.ref f__law_drawn) = true)
    (a__law_is_full : PySem.W.nsIn K mainGlobals "_law_is_full" = some (some (.ref f__law_is_full)))
    (l__law_is_full : K.lookup f__law_is_full = some ⟨oc__law_is_full, od__law_is_full, .func (PySem.W.fnOf "_law_is_full" "_law_is_full" (defArgs s__law_is_full) (defBody s__law_is_full) (defScope s__law_is_full) .none kV__law_is_full dc__law_is_full pm__law_is_full an__law_is_full cd__law_is_full ct__law_is_full), sl__law_is_full⟩)
    (c__law_is_full : PySem.W.codeIn K cd__law_is_full "_law_is_full" = true) (k__law_is_full : PySem.W.keepIn K (.ref f__law_is_full) = true)
    (a__law_right : PySem.W.nsIn K mainGlobals "_law_right" = some (some (.ref f__law_right)))
    (l__law_right : K.lookup f__law_right = some ⟨oc__law_right, od__law_right, .func (PySem.W.fnOf "_law_right" "_law_right" (defArgs s__law_right) (defBody s__law_right) (defScope s__law_right) .none kV__law_right dc__law_right pm__law_right an__law_right cd__law_right ct__law_right), sl__law_right⟩)
    (c__law_right : PySem.W.codeIn K cd__law_right "_law_right" = true) (k__law_right : PySem.W.keepIn K (.ref f__law_right) = true)
    (a__law_refused : PySem.W.nsIn K mainGlobals "_law_refused" = some (some (.ref f__law_refused)))
    (l__law_refused : K.lookup f__law_refused = some ⟨oc__law_refused, od__law_refused, .func (PySem.W.fnOf "_law_refused" "_law_refused" (defArgs s__law_refused) (defBody s__law_refused) (defScope s__law_refused) .none kV__law_refused dc__law_refused pm__law_refused an__law_refused cd__law_refused ct__law_refused), sl__law_refused⟩)
    (c__law_refused : PySem.W.codeIn K cd__law_refused "_law_refused" = true) (k__law_refused : PySem.W.keepIn K (.ref f__law_refused) = true)
    (a__law_first : PySem.W.nsIn K mainGlobals "_law_first" = some (some (.ref f__law_first)))
    (l__law_first : K.lookup f__law_first = some ⟨oc__law_first, od__law_first, .func (PySem.W.fnOf "_law_first" "_law_first" (defArgs s__law_first) (defBody s__law_first) (defScope s__law_first) .none kV__law_first dc__law_first pm__law_first an__law_first cd__law_first ct__law_first), sl__law_first⟩)
    (c__law_first : PySem.W.codeIn K cd__law_first "_law_first" = true) (k__law_first : PySem.W.keepIn K (.ref f__law_first) = true)
    (a_law : PySem.W.nsIn K mainGlobals "law" = some (some (.ref f_law)))
    (l_law : K.lookup f_law = some ⟨oc_law, od_law, .func (PySem.W.fnOf "law" "law" (defArgs s_law) (defBody s_law) (defScope s_law) .none kV_law dc_law pm_law an_law cd_law ct_law), sl_law⟩)
    (c_law : PySem.W.codeIn K cd_law "law" = true) (k_law : PySem.W.keepIn K (.ref f_law) = true)
    (z_range : PySem.W.nsIn K mainGlobals "range" = some none)
    (z_len : PySem.W.nsIn K mainGlobals "len" = some none)
    (z_abs : PySem.W.nsIn K mainGlobals "abs" = some none)
    (z_int : PySem.W.nsIn K mainGlobals "int" = some none)
    (z_str : PySem.W.nsIn K mainGlobals "str" = some none)
    (z_bool : PySem.W.nsIn K mainGlobals "bool" = some none)
    (z_list : PySem.W.nsIn K mainGlobals "list" = some none)
    (z_tuple : PySem.W.nsIn K mainGlobals "tuple" = some none)
    (z_dict : PySem.W.nsIn K mainGlobals "dict" = some none)
    (z_set : PySem.W.nsIn K mainGlobals "set" = some none)
    (z_isinstance : PySem.W.nsIn K mainGlobals "isinstance" = some none)
    (z_all : PySem.W.nsIn K mainGlobals "all" = some none)
    (z_any : PySem.W.nsIn K mainGlobals "any" = some none)
    (z_sum : PySem.W.nsIn K mainGlobals "sum" = some none)
    (z_max : PySem.W.nsIn K mainGlobals "max" = some none)
    (z_min : PySem.W.nsIn K mainGlobals "min" = some none)
    (z_sorted : PySem.W.nsIn K mainGlobals "sorted" = some none)
    (z_zip : PySem.W.nsIn K mainGlobals "zip" = some none)
    (z_enumerate : PySem.W.nsIn K mainGlobals "enumerate" = some none)
    (z_reversed : PySem.W.nsIn K mainGlobals "reversed" = some none)
    (a_ALPHABET : PySem.W.nsIn K mainGlobals "ALPHABET" = some (some (.str aS aT)))
    (a_NoLot : PySem.W.nsIn K mainGlobals "NoLot" = some (some (.ref C1)))
    (a_NoWord : PySem.W.nsIn K mainGlobals "NoWord" = some (some (.ref C2)))
    (g_ALPHABET : aS = PySem.Str.ofString "abcdefghijklmnopqrstuvwxyz")
    (x_NoLot : PySem.W.excIn K C1 [.type "ValueError", .type "Exception", .type "BaseException", .type "object"] "ValueError.__new__" = true)
    (x_NoWord : PySem.W.excIn K C2 [.type "ValueError", .type "Exception", .type "BaseException", .type "object"] "ValueError.__new__" = true)
    (kp_NoLot : PySem.W.keepIn K (.ref C1) = true)
    (b_NoLot : PySem.W.subIn K (.ref C1) (.type "BaseException") = some true)
    (t_NoLot : PySem.W.typeIn K (.ref C1) = some (.type "type"))
    (kp_NoWord : PySem.W.keepIn K (.ref C2) = true)
    (b_NoWord : PySem.W.subIn K (.ref C2) (.type "BaseException") = some true)
    (t_NoWord : PySem.W.typeIn K (.ref C2) = some (.type "type"))
    (i_NoLot : PySem.W.isClsIn K C1 = true)
    (i_NoWord : PySem.W.isClsIn K C2 = true)
    (s11 : PySem.W.subIn K (.ref C1) (.ref C1) = some true)
    (s21 : PySem.W.subIn K (.ref C2) (.ref C1) = some false)
    (s22 : PySem.W.subIn K (.ref C2) (.ref C2) = some true) :
    ∃ fd : FuncData, (∀ (s : Shared) (v : Value), BindsTo s fd ⟨[v], []⟩ [("_law_script", v)]) ∧ ∀ base : Heap, K.In base → base.Ns mainGlobals mg → FnOk l.prog w K mg base CX0 7 fa fd ["_law_script"] (spLaw K) := by
  have e := hfa.symm.trans (PySem.W.mg_of X G a_law)
  cases e
  have B : Bi mg := ⟨PySem.W.mg_none_of X G z_range, PySem.W.mg_none_of X G z_len, PySem.W.mg_none_of X G z_abs, PySem.W.mg_none_of X G z_int, PySem.W.mg_none_of X G z_str, PySem.W.mg_none_of X G z_bool, PySem.W.mg_none_of X G z_list, PySem.W.mg_none_of X G z_tuple, PySem.W.mg_none_of X G z_dict, PySem.W.mg_none_of X G z_set, PySem.W.mg_none_of X G z_isinstance, PySem.W.mg_none_of X G z_all, PySem.W.mg_none_of X G z_any, PySem.W.mg_none_of X G z_sum, PySem.W.mg_none_of X G z_max, PySem.W.mg_none_of X G z_min, PySem.W.mg_none_of X G z_sorted, PySem.W.mg_none_of X G z_zip, PySem.W.mg_none_of X G z_enumerate, PySem.W.mg_none_of X G z_reversed⟩
  have d_is_ascending : DF K mg "is_ascending" s_is_ascending := ⟨_, _, fun_mk (st := s_is_ascending) l_is_ascending c_is_ascending k_is_ascending, PySem.W.mg_of X G a_is_ascending⟩
  have d_is_word : DF K mg "is_word" s_is_word := ⟨_, _, fun_mk (st := s_is_word) l_is_word c_is_word k_is_word, PySem.W.mg_of X G a_is_word⟩
  have d_is_choice : DF K mg "is_choice" s_is_choice := ⟨_, _, fun_mk (st := s_is_choice) l_is_choice c_is_choice k_is_choice, PySem.W.mg_of X G a_is_choice⟩
  have d_is_lot : DF K mg "is_lot" s_is_lot := ⟨_, _, fun_mk (st := s_is_lot) l_is_lot c_is_lot k_is_lot, PySem.W.mg_of X G a_is_lot⟩
  have d_pieces : DF K mg "pieces" s_pieces := ⟨_, _, fun_mk (st := s_pieces) l_pieces c_pieces k_pieces, PySem.W.mg_of X G a_pieces⟩
  have d_pieces_back : DF K mg "pieces_back" s_pieces_back := ⟨_, _, fun_mk (st := s_pieces_back) l_pieces_back c_pieces_back k_pieces_back, PySem.W.mg_of X G a_pieces_back⟩
  have d__cut : DF K mg "_cut" s__cut := ⟨_, _, fun_mk (st := s__cut) l__cut c__cut k__cut, PySem.W.mg_of X G a__cut⟩
  have d__check : DF K mg "_check" s__check := ⟨_, _, fun_mk (st := s__check) l__check c__check k__check, PySem.W.mg_of X G a__check⟩
  have d__law_hand : DF K mg "_law_hand" s__law_hand := ⟨_, _, fun_mk (st := s__law_hand) l__law_hand c__law_hand k__law_hand, PySem.W.mg_of X G a__law_hand⟩
  have d__law_draw : DF K mg "_law_draw" s__law_draw := ⟨_, _, fun_mk (st := s__law_draw) l__law_draw c__law_draw k__law_draw, PySem.W.mg_of X G a__law_draw⟩
  have d__law_letters : DF K mg "_law_letters" s__law_letters := ⟨_, _, fun_mk (st := s__law_letters) l__law_letters c__law_letters k__law_letters, PySem.W.mg_of X G a__law_letters⟩
  have d__law_cut : DF K mg "_law_cut" s__law_cut := ⟨_, _, fun_mk (st := s__law_cut) l__law_cut c__law_cut k__law_cut, PySem.W.mg_of X G a__law_cut⟩
  have d__law_drawn : DF K mg "_law_drawn" s__law_drawn := ⟨_, _, fun_mk (st := s__law_drawn) l__law_drawn c__law_drawn k__law_drawn, PySem.W.mg_of X G a__law_drawn⟩
  have d__law_is_full : DF K mg "_law_is_full" s__law_is_full := ⟨_, _, fun_mk (st := s__law_is_full) l__law_is_full c__law_is_full k__law_is_full, PySem.W.mg_of X G a__law_is_full⟩
  have d__law_right : DF K mg "_law_right" s__law_right := ⟨_, _, fun_mk (st := s__law_right) l__law_right c__law_right k__law_right, PySem.W.mg_of X G a__law_right⟩
  have d__law_refused : DF K mg "_law_refused" s__law_refused := ⟨_, _, fun_mk (st := s__law_refused) l__law_refused c__law_refused k__law_refused, PySem.W.mg_of X G a__law_refused⟩
  have d__law_first : DF K mg "_law_first" s__law_first := ⟨_, _, fun_mk (st := s__law_first) l__law_first c__law_first k__law_first, PySem.W.mg_of X G a__law_first⟩

  refine ⟨PySem.W.fnOf "law" "law" (defArgs s_law) (defBody s_law) (defScope s_law) .none kV_law dc_law pm_law an_law cd_law ct_law, fun s v => .of_eq rfl, fun base _ _ => ?_⟩
  have TA : Alph mg := ⟨⟨.str aS aT, PySem.W.mg_of X G a_ALPHABET, aT, by rw [g_ALPHABET, show AZ = codes (PySem.Str.ofString "abcdefghijklmnopqrstuvwxyz") from az.symm]⟩⟩
  have T1 : OwnX K mg "NoLot" C1 := ⟨⟨_, _, _, PySem.F.excBase_ValueError, x_NoLot⟩, PySem.W.mg_of X G a_NoLot, kp_NoLot, b_NoLot, t_NoLot⟩
  have T2 : OwnX K mg "NoWord" C2 := ⟨⟨_, _, _, PySem.F.excBase_ValueError, x_NoWord⟩, PySem.W.mg_of X G a_NoWord, kp_NoWord, b_NoWord, t_NoWord⟩
  have t_is_word := Y.c_is_word (P := l.prog) (w := w) (base := base) d_is_word B
  have t_is_ascending := Y.c_is_ascending (P := l.prog) (w := w) (base := base) d_is_ascending B
  have t_is_choice := Y.c_is_choice (P := l.prog) (w := w) (base := base) d_is_choice B t_is_word t_is_ascending
  have t_is_lot := Y.c_is_lot (P := l.prog) (w := w) (base := base) d_is_lot B t_is_choice
  have t_check := Y.c__check (P := l.prog) (w := w) (base := base) d__check B TA T1 T2 t_is_lot t_is_word
  have t_cut := Y.c__cut (P := l.prog) (w := w) (base := base) d__cut B
  have t_pieces := Y.c_pieces (P := l.prog) (w := w) (base := base) d_pieces B t_check t_cut
  have t_back := Y.c_pieces_back (P := l.prog) (w := w) (base := base) d_pieces_back B t_check t_cut
  have t_draw := Y.c__law_draw (P := l.prog) (w := w) (base := base) d__law_draw B
  have t_hand := Y.c__law_hand (P := l.prog) (w := w) (base := base) d__law_hand B
  have t_letters := Y.c__law_letters (P := l.prog) (w := w) (base := base) d__law_letters B t_draw
  have t_lcut := Y.c__law_cut (P := l.prog) (w := w) (base := base) d__law_cut B
  have t_full := Y.c__law_is_full (P := l.prog) (w := w) (base := base) d__law_is_full B
  have t_drawn := Y.c__law_drawn (P := l.prog) (w := w) (base := base) d__law_drawn B t_draw
  have t_right := Y.c__law_right (P := l.prog) (w := w) (base := base) d__law_right B t_lcut t_full t_pieces t_back
  have t_refused := Y.c__law_refused (P := l.prog) (w := w) (base := base) d__law_refused B T1 T2 (exm_pair b_NoLot i_NoLot t_NoLot s11) (exm_pair b_NoLot i_NoLot t_NoLot s21) (exm_pair b_NoWord i_NoWord t_NoWord s22) t_pieces t_back
  have t_first := Y.c__law_first (P := l.prog) (w := w) (base := base) d__law_first B
  exact Y.ok_law (fun_mk (st := s_law) l_law c_law k_law) B t_hand t_draw t_letters t_drawn t_right t_refused t_first
theorem walk {l : PySem.W.OpenLaw} {q : Program} {loose : List Str} {XP : (Str → Option Value) → Heap → Prop} {YP : World → Heap → Prop} {d : DefRec} {K : Params → PySem.W.Frag} (hn : l.most = some 63) (hdf : d.params.defaults = [])
    (hY : ∀ (w : World) (h : Heap), YP w h → (K w.params).In h)
    (F : ∀ (w : World) (mg : Str → Option Value) (fa : Addr) (h : Heap), (K w.params).In h → h.Ns mainGlobals mg → mg d.name = some (.ref fa) →
      ∃ fd : FuncData, (∀ (s : Shared) (u : Value), BindsTo s fd ⟨[u], []⟩ [("_law_script", u)]) ∧ ∀ base : Heap, (K w.params).In base → base.Ns mainGlobals mg → FnOk l.prog w (K w.params) mg base CX0 7 fa fd ["_law_script"] (spLaw (K w.params))) :
    PySem.W.WalkO q loose XP YP l.row.toRowW d [] (fun f vs => PySem.call f vs) :=
  L2.walk_of (n := 63) (k := 7) (x := "_law_script") (CX := fun _ => CX0) (sp := fun w => spLaw (K w.params)) hn (by decide) hdf ⟨rfl, by decide, by decide⟩ hY F (fun _ _ a ns hl _ hS => ⟨a, ns, rfl, hS, hl, fun _ => rfl⟩) fun _ _ _ _ _ z => z
end Y
open PySem PySem.W PyProof.Rows
set_option maxRecDepth 100000 in
set_option maxHeartbeats 0 in
theorem PySem.Challenge.cw_saidacross_k38_whole_pieces_of_words_holds : PySem.Challenge.rw_saidacross_k38_whole_pieces_of_words.Holds := by
  w_on; o_law; k_head; (case hw => w_witness2)
  k_fill
  refine Y.walk (l := PySem.Challenge.rw_saidacross_k38_whole_pieces_of_words) rfl rfl (fun w h Y => PySem.W.kIn_of Y) ?F
  case F =>
    intro w mg fa h KX G hmg
    refine' Y.all_mk KX G hmg ?a_is_ascending ?l_is_ascending ?c_is_ascending ?k_is_ascending ?a_is_word ?l_is_word ?c_is_word ?k_is_word ?a_is_choice ?l_is_choice ?c_is_choice ?k_is_choice ?a_is_lot ?l_is_lot ?c_is_lot ?k_is_lot ?a_pieces ?l_pieces ?c_pieces ?k_pieces ?a_pieces_back ?l_pieces_back ?c_pieces_back ?k_pieces_back ?a__cut ?l__cut ?c__cut ?k__cut ?a__check ?l__check ?c__check ?k__check ?a__law_hand ?l__law_hand ?c__law_hand ?k__law_hand ?a__law_draw ?l__law_draw ?c__law_draw ?k__law_draw ?a__law_letters ?l__law_letters ?c__law_letters ?k__law_letters ?a__law_cut ?l__law_cut ?c__law_cut ?k__law_cut ?a__law_drawn ?l__law_drawn ?c__law_drawn ?k__law_drawn ?a__law_is_full ?l__law_is_full ?c__law_is_full ?k__law_is_full ?a__law_right ?l__law_right ?c__law_right ?k__law_right ?a__law_refused ?l__law_refused ?c__law_refused ?k__law_refused ?a__law_first ?l__law_first ?c__law_first ?k__law_first ?a_law ?l_law ?c_law ?k_law ?z_range ?z_len ?z_abs ?z_int ?z_str ?z_bool ?z_list ?z_tuple ?z_dict ?z_set ?z_isinstance ?z_all ?z_any ?z_sum ?z_max ?z_min ?z_sorted ?z_zip ?z_enumerate ?z_reversed ?a_ALPHABET ?a_NoLot ?a_NoWord ?g_ALPHABET ?x_NoLot ?x_NoWord ?kp_NoLot ?b_NoLot ?t_NoLot ?kp_NoWord ?b_NoWord ?t_NoWord ?i_NoLot ?i_NoWord ?s11 ?s21 ?s22
    (case a_is_ascending => k_is)
    (case l_is_ascending => k_is)
    (case c_is_ascending => k_is)
    (case k_is_ascending => k_is)
    (case a_is_word => k_is)
    (case l_is_word => k_is)
    (case c_is_word => k_is)
    (case k_is_word => k_is)
    (case a_is_choice => k_is)
    (case l_is_choice => k_is)
    (case c_is_choice => k_is)
    (case k_is_choice => k_is)
    (case a_is_lot => k_is)
    (case l_is_lot => k_is)
    (case c_is_lot => k_is)
    (case k_is_lot => k_is)
    (case a_pieces => k_is)
    (case l_pieces => k_is)
    (case c_pieces => k_is)
    (case k_pieces => k_is)
    (case a_pieces_back => k_is)
    (case l_pieces_back => k_is)
    (case c_pieces_back => k_is)
    (case k_pieces_back => k_is)
    (case a__cut => k_is)
    (case l__cut => k_is)
    (case c__cut => k_is)
    (case k__cut => k_is)
    (case a__check => k_is)
    (case l__check => k_is)
    (case c__check => k_is)
    (case k__check => k_is)
    (case a__law_hand => k_is)
    (case l__law_hand => k_is)
    (case c__law_hand => k_is)
    (case k__law_hand => k_is)
    (case a__law_draw => k_is)
    (case l__law_draw => k_is)
    (case c__law_draw => k_is)
    (case k__law_draw => k_is)
    (case a__law_letters => k_is)
    (case l__law_letters => k_is)
    (case c__law_letters => k_is)
    (case k__law_letters => k_is)
    (case a__law_cut => k_is)
    (case l__law_cut => k_is)
    (case c__law_cut => k_is)
    (case k__law_cut => k_is)
    (case a__law_drawn => k_is)
    (case l__law_drawn => k_is)
    (case c__law_drawn => k_is)
    (case k__law_drawn => k_is)
    (case a__law_is_full => k_is)
    (case l__law_is_full => k_is)
    (case c__law_is_full => k_is)
    (case k__law_is_full => k_is)
    (case a__law_right => k_is)
    (case l__law_right => k_is)
    (case c__law_right => k_is)
    (case k__law_right => k_is)
    (case a__law_refused => k_is)
    (case l__law_refused => k_is)
    (case c__law_refused => k_is)
    (case k__law_refused => k_is)
    (case a__law_first => k_is)
    (case l__law_first => k_is)
    (case c__law_first => k_is)
    (case k__law_first => k_is)
    (case a_law => k_is)
    (case l_law => k_is)
    (case c_law => k_is)
    (case k_law => k_is)
    (case z_range => k_is)
    (case z_len => k_is)
    (case z_abs => k_is)
    (case z_int => k_is)
    (case z_str => k_is)
    (case z_bool => k_is)
    (case z_list => k_is)
    (case z_tuple => k_is)
    (case z_dict => k_is)
    (case z_set => k_is)
    (case z_isinstance => k_is)
    (case z_all => k_is)
    (case z_any => k_is)
    (case z_sum => k_is)
    (case z_max => k_is)
    (case z_min => k_is)
    (case z_sorted => k_is)
    (case z_zip => k_is)
    (case z_enumerate => k_is)
    (case z_reversed => k_is)
    (case a_ALPHABET => k_is)
    (case a_NoLot => k_is)
    (case a_NoWord => k_is)
    (case g_ALPHABET => rfl)
    (case x_NoLot => k_exc)
    (case x_NoWord => k_exc)
    (case kp_NoLot => k_is)
    (case b_NoLot => k_is)
    (case t_NoLot => k_is)
    (case kp_NoWord => k_is)
    (case b_NoWord => k_is)
    (case t_NoWord => k_is)
    (case i_NoLot => k_is)
    (case i_NoWord => k_is)
    (case s11 => first | rfl | k_is)
    (case s21 => first | rfl | k_is)
    (case s22 => first | rfl | k_is)
