import PyProof.Rows.All
import Wide.All
import OpenK.AllK
import Wide.FinOn
import PySem.Challenge.RW_gapstone_k06_discs_of_middles_and_bends
import HandS.ForMost
import HandS.Wide
import HandS.IsInst
import HandS.Defaults
import HandS.Conv
import HandS.Evl
import KE.KTryMore
import HandS.Exc
import HandS.TryOnly
import HandS.WordsExc
import HandS.ExcInit
import HandS.ExcField
import HandS.FStr
import HandS.Lambda
import HandS.EndTab
import HandS.EndOwn
import HandS.ExcIs
set_option Elab.async false
set_option linter.all false
set_option maxRecDepth 100000
set_option maxHeartbeats 4000000
namespace Gap
/-- the fraction, as its two numbers -/
theorem gcd_rec (a b : Int) (hb : b ≠ 0) (ha : 0 ≤ a) (hb0 : 0 < b) : Int.gcd b (a % b) = Int.gcd a b := by
  obtain ⟨n, rfl⟩ := Int.eq_ofNat_of_zero_le ha
  obtain ⟨m, rfl⟩ := Int.eq_ofNat_of_zero_le (Int.le_of_lt hb0)
  show Nat.gcd m ((n : Int) % (m : Int)).natAbs = Nat.gcd n m
  rw [show ((n : Int) % (m : Int)).natAbs = n % m by omega, Nat.gcd_comm n m, Nat.gcd_rec m n, Nat.gcd_comm]
theorem gcd_pos {a b : Int} (h : b ≠ 0) : 0 < ((Int.gcd a b : Nat) : Int) := by
  have : Int.gcd a b ≠ 0 := fun e => h (Int.gcd_eq_zero_iff.mp e).2
  omega
def sg (b : Int) : Int := if 0 < b then 1 else -1
theorem sg_sign {b : Int} (h : b ≠ 0) : sg b = b.sign := by
  unfold sg
  by_cases h0 : 0 < b
  · rw [if_pos h0, Int.sign_eq_one_of_pos h0]
  · rw [if_neg h0, Int.sign_eq_neg_one_of_neg (by omega)]
theorem low_num {a b : Int} (h : b ≠ 0) : sg b * a / ((Int.gcd a b : Nat) : Int) = (Rat.divInt a b).num := by
  rw [Rat.num_divInt, sg_sign h, Int.gcd_comm]
theorem low_den {a b : Int} (h : b ≠ 0) : sg b * b / ((Int.gcd a b : Nat) : Int) = ((Rat.divInt a b).den : Int) := by
  rw [Rat.den_divInt, if_neg h, sg_sign h, Int.sign_mul_self, Int.gcd_comm]
  simp
/-- part's way: by the common factor with under's sign -/
theorem part_num {a b : Int} (h : b ≠ 0) : (a.fdiv (if b < 0 then -((Int.gcd a b : Nat) : Int) else ((Int.gcd a b : Nat) : Int))) = (Rat.divInt a b).num := by
  rw [← low_num h]
  have g := gcd_pos (a := a) h
  by_cases hb : b < 0
  · rw [if_pos hb]
    have e : sg b = -1 := by unfold sg; rw [if_neg (by omega)]
    rw [e]
    have e2 : a.fdiv (-((Int.gcd a b : Nat) : Int)) = (-a).fdiv ((Int.gcd a b : Nat) : Int) := by
      have := Int.neg_fdiv_neg (-a) (Int.gcd a b : Int)
      rw [Int.neg_neg] at this
      exact this
    rw [e2, Int.fdiv_eq_ediv_of_nonneg _ (by omega)]
    congr 1
    omega
  · rw [if_neg hb]
    have e : sg b = 1 := by unfold sg; rw [if_pos (by omega)]
    rw [e, Int.fdiv_eq_ediv_of_nonneg _ (by omega), Int.one_mul]
theorem part_den {a b : Int} (h : b ≠ 0) : (b.fdiv (if b < 0 then -((Int.gcd a b : Nat) : Int) else ((Int.gcd a b : Nat) : Int))) = ((Rat.divInt a b).den : Int) := by
  rw [← low_den h]
  have g := gcd_pos (a := a) h
  by_cases hb : b < 0
  · rw [if_pos hb]
    have e : sg b = -1 := by unfold sg; rw [if_neg (by omega)]
    rw [e]
    have e2 : b.fdiv (-((Int.gcd a b : Nat) : Int)) = (-b).fdiv ((Int.gcd a b : Nat) : Int) := by
      have := Int.neg_fdiv_neg (-b) (Int.gcd a b : Int)
      rw [Int.neg_neg] at this
      exact this
    rw [e2, Int.fdiv_eq_ediv_of_nonneg _ (by omega)]
    congr 1
    omega
  · rw [if_neg hb]
    have e : sg b = 1 := by unfold sg; rw [if_pos (by omega)]
    rw [e, Int.fdiv_eq_ediv_of_nonneg _ (by omega), Int.one_mul]
theorem den_ne (q : Rat) : (q.den : Int) ≠ 0 := by have := q.den_nz; omega
theorem den_pos (q : Rat) : (0 : Int) < q.den := by have := q.den_nz; omega
theorem add_divInt (q r : Rat) : Rat.divInt (q.num * r.den + r.num * q.den) (q.den * r.den) = q + r := by
  rw [← Rat.divInt_add_divInt _ _ (den_ne q) (den_ne r), Rat.num_divInt_den, Rat.num_divInt_den]
theorem sub_divInt (q r : Rat) : Rat.divInt (q.num * r.den - r.num * q.den) (q.den * r.den) = q - r := by
  rw [← Rat.divInt_sub_divInt _ _ (den_ne q) (den_ne r), Rat.num_divInt_den, Rat.num_divInt_den]
theorem mul_divInt (q r : Rat) : Rat.divInt (q.num * r.num) (q.den * r.den) = q * r := by
  rw [← Rat.divInt_mul_divInt, Rat.num_divInt_den, Rat.num_divInt_den]
theorem div_divInt (q r : Rat) : Rat.divInt (q.num * r.den) (q.den * r.num) = q / r := by
  have e1 : q = (q.num : Rat) / (q.den : Int) := by rw [← Rat.divInt_eq_div, Rat.num_divInt_den]
  have e2 : r = (r.num : Rat) / (r.den : Int) := by rw [← Rat.divInt_eq_div, Rat.num_divInt_den]
  have d1 : ((q.den : Int) : Rat) ≠ 0 := by
    intro h
    exact den_ne q (by exact_mod_cast h)
  have d2 : ((r.den : Int) : Rat) ≠ 0 := by
    intro h
    exact den_ne r (by exact_mod_cast h)
  rw [Rat.divInt_eq_div]
  by_cases hr : r.num = 0
  · have : r = 0 := Rat.num_eq_zero.mp hr
    subst this
    simp [Rat.div_def]
  · have d3 : (r.num : Rat) ≠ 0 := by
      intro h
      exact hr (by exact_mod_cast h)
    rw [Rat.intCast_mul, Rat.intCast_mul]
    generalize hA : ((q.num : Int) : Rat) = A at *
    generalize hB : ((q.den : Int) : Rat) = B at *
    generalize hC : ((r.num : Int) : Rat) = C at *
    generalize hD : ((r.den : Int) : Rat) = D at *
    rw [e1, e2]
    grind
theorem num_ne {q : Rat} (h : q ≠ 0) : q.num ≠ 0 := fun e => h (Rat.num_eq_zero.mp e)
end Gap
namespace Gap
open PySem PySem.Spec PyProof.Rows L2
/-! ### sizes -/
def Bi (n : Nat) (x : Int) : Prop := x.natAbs < 2 ^ n
theorem Bi.mono {m n : Nat} {x : Int} (h : Bi m x) (l : m ≤ n) : Bi n x := Nat.lt_of_lt_of_le h (Nat.pow_le_pow_right (by decide) l)
theorem Bi.mul {m n : Nat} {x y : Int} (a : Bi m x) (b : Bi n y) : Bi (m + n) (x * y) := wide_lt a b
theorem Bi.add {m : Nat} {x y : Int} (a : Bi m x) (b : Bi m y) : Bi (m + 1) (x + y) := by
  unfold Bi at *
  have : 2 ^ (m + 1) = 2 ^ m + 2 ^ m := by rw [Nat.pow_succ]; omega
  omega
theorem Bi.neg {m : Nat} {x : Int} (a : Bi m x) : Bi m (-x) := by
  unfold Bi at *
  omega
theorem Bi.sub {m : Nat} {x y : Int} (a : Bi m x) (b : Bi m y) : Bi (m + 1) (x - y) := by
  have := a.add b.neg
  rw [← Int.sub_eq_add_neg] at this
  exact this
theorem Bi.mulW {m n : Nat} {x y : Int} (a : Bi m x) (b : Bi n y) (h : m + n ≤ 999998) : CMulW x y := wide_mul (a.mono (Nat.le_succ m)) (b.mono (Nat.le_succ n)) (Nat.succ_pos _) (Nat.succ_pos _) (by omega)
theorem Bi.of_le {n : Nat} {x y : Int} (a : Bi n y) (h : x.natAbs ≤ y.natAbs) : Bi n x := Nat.lt_of_le_of_lt h a
theorem Bi.gcd {n : Nat} {a b : Int} (h : Bi n b) (hb : b ≠ 0) : Bi n ((Int.gcd a b : Nat) : Int) := by
  refine h.of_le ?_
  have := Nat.le_of_dvd (Int.natAbs_pos.mpr hb) (Int.gcd_dvd_natAbs_right a b)
  rw [Int.natAbs_natCast]
  exact this
/-- a fraction of two numbers of at most n bits -/
def Bq (n : Nat) (q : Rat) : Prop := Bi n q.num ∧ Bi n (q.den : Int)
theorem Bq.mono {m n : Nat} {q : Rat} (h : Bq m q) (l : m ≤ n) : Bq n q := ⟨h.1.mono l, h.2.mono l⟩
theorem Bq.of {n : Nat} {a b : Int} (ha : Bi n a) (hb : Bi n b) (h : b ≠ 0) : Bq n (Rat.divInt a b) := by
  have g := gcd_pos (a := a) h
  constructor
  · rw [← low_num h]
    refine ha.of_le ?_
    have e : (sg b * a).natAbs = a.natAbs := by
      unfold sg
      split <;> omega
    rw [Int.natAbs_ediv_of_dvd]
    · rw [e]
      exact Nat.div_le_self _ _
    · have : ((Int.gcd a b : Nat) : Int) ∣ a := Int.gcd_dvd_left a b
      exact Int.dvd_mul_of_dvd_right this
  · rw [← low_den h]
    refine hb.of_le ?_
    have e : (sg b * b).natAbs = b.natAbs := by
      unfold sg
      split <;> omega
    rw [Int.natAbs_ediv_of_dvd]
    · rw [e]
      exact Nat.div_le_self _ _
    · have : ((Int.gcd a b : Nat) : Int) ∣ b := Int.gcd_dvd_right a b
      exact Int.dvd_mul_of_dvd_right this
theorem den_mul_ne (q r : Rat) : (q.den : Int) * r.den ≠ 0 := Int.mul_ne_zero (den_ne q) (den_ne r)
theorem Bi.add2 {m n : Nat} {x y : Int} (a : Bi m x) (b : Bi n y) (h : m = n) : Bi (m + 1) (x + y) := by
  subst h
  exact a.add b
theorem Bq.add {m n : Nat} {q r : Rat} (a : Bq m q) (b : Bq n r) : Bq (m + n + 1) (q + r) := by
  rw [← add_divInt]
  exact Bq.of ((a.1.mul b.2).add2 (b.1.mul a.2) (Nat.add_comm m n)) ((a.2.mul b.2).mono (Nat.le_succ _)) (den_mul_ne q r)
theorem Bq.sub {m n : Nat} {q r : Rat} (a : Bq m q) (b : Bq n r) : Bq (m + n + 1) (q - r) := by
  rw [← sub_divInt, Int.sub_eq_add_neg]
  exact Bq.of ((a.1.mul b.2).add2 (b.1.mul a.2).neg (Nat.add_comm m n)) ((a.2.mul b.2).mono (Nat.le_succ _)) (den_mul_ne q r)
theorem Bq.mul {m n : Nat} {q r : Rat} (a : Bq m q) (b : Bq n r) : Bq (m + n) (q * r) := by
  rw [← mul_divInt]
  exact Bq.of (a.1.mul b.1) (a.2.mul b.2) (den_mul_ne q r)
theorem Bq.div {m n : Nat} {q r : Rat} (a : Bq m q) (b : Bq n r) (h : r ≠ 0) : Bq (m + n) (q / r) := by
  rw [← div_divInt]
  exact Bq.of (a.1.mul b.2) (a.2.mul b.1) (Int.mul_ne_zero (den_ne q) (num_ne h))
theorem Bq.int {n : Nat} {i : Int} (h : Bi n i) (h1 : 1 ≤ n) : Bq n (i : Rat) := by
  refine ⟨h, ?_⟩
  show Bi n ((1 : Nat) : Int)
  unfold Bi
  have := Nat.pow_le_pow_right (show 0 < 2 by decide) h1
  show 1 < 2 ^ n
  omega
theorem bq0 : Bq 1 0 := ⟨by unfold Bi; decide, by unfold Bi; decide⟩
theorem bq1 : Bq 1 1 := ⟨by unfold Bi; decide, by unfold Bi; decide⟩
/-! ### rules that the layer lacks -/
section
variable {X : Cx}
/-- // by any divisor but nought, below 2 ^ 9000 -/
def CDivA (_ j : Int) : Prop := j ≠ 0 ∧ j.natAbs.log2 < 9000
theorem op_fdivA : OpR X (binaryOp .FloorDiv) (rI CDivA fun i j => .int (i.fdiv j)) := opI fun _ _ _ _ _ _ _ c q => floordiv_int c.1 q (.inl (PyProof.noPylong_of_log2 c.2))
theorem Bi.divA {n : Nat} {i j : Int} (h : Bi n j) (h0 : j ≠ 0) (hn : n < 9000) : CDivA i j := ⟨h0, Nat.lt_of_lt_of_le (PySem.Flt.log2_lt_of (Nat.succ_pos n) (h.mono (Nat.le_succ n))) hn⟩
/-- what is never come to -/
theorem pss_never {l : List Stmt} : PSs X l (fun _ _ _ => False) := ⟨fun _ _ _ _ _ _ h => h.elim⟩
theorem ps_never {l : Stmt} : PS X l (fun _ _ _ => False) := ⟨fun _ _ _ _ _ _ h => h.elim⟩
end
theorem same_upd {H : Hp} {p : Addr} {o : HO} (h : H p = none) : Same H (upd H p o) := fun b x e => by
  rw [upd_ne (ne_of_none e h)]
  exact e
theorem Same.seqT {K : PySem.W.Frag} {H H' : Hp} {a : Addr} {xs : List V} (e : Same H H') (h : SqT K H a xs) : SqT K H' a xs := by
  rcases h with h | h
  · refine .inl ?_
    rcases h with h | ⟨o, h⟩
    · exact .inl (e _ _ h)
    · exact .inr ⟨o, e _ _ h⟩
  · exact .inr h
/-- a fraction as a value -/
def IsQ (K : PySem.W.Frag) (H : Hp) (v : V) (q : Rat) : Prop := ∃ a, v = .ref a ∧ SqT K H a [.int q.num, .int (q.den : Int)]
theorem IsQ.same {K : PySem.W.Frag} {H H' : Hp} {v : V} {q : Rat} (h : IsQ K H v q) (e : Same H H') : IsQ K H' v q := by
  obtain ⟨a, rfl, h⟩ := h
  exact ⟨a, rfl, Same.seqT e h⟩
end Gap
namespace Gap
open PySem PySem.Spec PyProof.Rows L2
def topS (i : Nat) : Stmt := PySem.Challenge.pw_gapstone_k06_discs_of_middles_and_bends.main.body.getD i (.Pass ⟨0, 0, 0, 0⟩)
/-! ### the greatest common factor -/
section
variable {P : Program} {w : World} {K : PySem.W.Frag} {mg : Str → Option Value} {base : Heap}
/-- what the law's and the program's own loops do -/
theorem gcd_step {a b : Int} (hb : b ≠ 0) (ha : 0 ≤ a) (hb0 : 0 ≤ b) : Int.gcd b (a % b) = Int.gcd a b := gcd_rec a b hb ha (by omega)
theorem abs_if (a : Int) : (if a < 0 then -a else a) = (a.natAbs : Int) := by
  split <;> omega
theorem gcd_abs (a b : Int) : Int.gcd (a.natAbs : Int) (b.natAbs : Int) = Int.gcd a b := by
  unfold Int.gcd
  rw [Int.natAbs_natCast, Int.natAbs_natCast]
abbrev sCommon : Stmt := topS 5
theorem scCommon : FnScope ["one", "other"] ["one", "other"] (defScope sCommon) := ⟨rfl, rfl, rfl, by decide +kernel, rfl, by decide +kernel, by decide +kernel⟩
def spCommon : Sp := fun vs H Q _ => ∃ (a b : Int), vs = [.int a, .int b] ∧ Q (.int ((Int.gcd a b : Nat) : Int)) H
theorem ok_common {f : Addr} {fd : FuncData} {k : Nat} (F : Fun K "common" "common" sCommon f fd) (ma : mg "abs" = none) : FnOk P w K mg base CX0 (k + 1) f fd ["one", "other"] spCommon := by
  refine F.ok scCommon (fun vs H Q E h => ?_) (fun cdv A outer s H vs Q E hr h => ?_)
  · obtain ⟨a, b, rfl, _⟩ := h
    rfl
  · obtain ⟨a, b, rfl, q⟩ := h
    refine ⟨_, pss_cons (ps_par (i := 0) (j := 1) rfl scCommon.nd rfl rfl (by decide) rfl rfl
        (pa_cons (pe_callB call_abs (by rfl) ma (by decide +kernel) (pa_cons (pv 0) pa_nil)) (pa_cons (pe_callB call_abs (by rfl) ma (by decide +kernel) (pa_cons (pv 1) pa_nil)) pa_nil)) (by rfl))
      (pss_cons (ps_while PassesOwn.never (pt_cmpR op_ne (pv 1) pe_int (nomark _))
        (pss_one (ps_par (i := 0) (j := 1) rfl scCommon.nd rfl rfl (by decide) rfl rfl (pa_cons (pv 1) (pa_cons (pe_op op_mod (pv 0) (pv 1)) pa_nil)) (by rfl))))
      (pss_one (ps_ret (pv 0)))), ?_⟩
    refine ⟨_, rfl, a, rfl, _, rfl, b, rfl, _, _, rfl, ?_⟩
    refine while_by (fun σ H' => ∃ x y : Int, σ = [some (.int x), some (.int y)] ∧ H' = H ∧ 0 ≤ x ∧ 0 ≤ y ∧ Int.gcd x y = Int.gcd a b) (fun σ _ => match σ with | [_, some (.int y)] => y.toNat | _ => 0)
      ⟨_, _, rfl, rfl, ?_, ?_, ?_⟩ ?_ ?_
    · rw [abs_if]; omega
    · rw [abs_if]; omega
    · rw [abs_if, abs_if, gcd_abs]
    · rintro σ H' ⟨x, y, rfl, rfl, hx, hy, e⟩
      refine ⟨_, rfl, rfl, _, rfl, ite2 (fun c => ?_) (fun c => ?_)⟩
      · have hy0 : y ≠ 0 := fun z => by
          subst z
          simp at c
        refine ⟨_, rfl, _, rfl, _, rfl, _, _, rfl, rfl, (by omega), _, _, rfl, ?_⟩
        refine ⟨⟨_, _, rfl, rfl, hy, Int.emod_nonneg _ hy0, ?_⟩, ?_⟩
        · rw [gcd_step hy0 hx hy]
          exact e
        · show (x % y).toNat < y.toNat
          have := Int.emod_lt_of_pos x (show 0 < y by omega)
          have := Int.emod_nonneg x hy0
          omega
      · have hy0 : y = 0 := by
          simpa using c
        subst hy0
        refine ⟨_, rfl, ?_⟩
        have e2 : ((Int.gcd a b : Nat) : Int) = x := by
          rw [← e]
          unfold Int.gcd
          simp
          omega
        rw [e2] at q
        exact q
    · rintro σ H' Q Q' hq ⟨v, e, e2, b, e3, z⟩
      exact ⟨v, e, e2, b, e3, hq _ _ z⟩
end
end Gap
namespace Gap
open PySem PySem.Spec PyProof.Rows L2
section
variable {P : Program} {w : World} {K : PySem.W.Frag} {mg : Str → Option Value} {base : Heap}
/-- a new tuple of the fraction's two numbers is handed back -/
def RetN (H : Hp) (Q : VK) (q : Rat) : Prop := ∀ p, H p = none → Q (.ref p) (upd H p (.tup [.int q.num, .int (q.den : Int)]))
/-- some value that is the fraction -/
def RetQ (K : PySem.W.Frag) (H : Hp) (Q : VK) (q : Rat) : Prop := ∀ v H', Same H H' → IsQ K H' v q → Q v H'
theorem RetQ.new {H : Hp} {Q : VK} {q : Rat} (r : RetQ K H Q q) : RetN H Q q := fun p np => r _ _ (same_upd np) ⟨p, rfl, .inl (.inl upd_same)⟩
theorem RetQ.same {H H' : Hp} {Q : VK} {q : Rat} (r : RetQ K H Q q) (e : Same H H') : RetQ K H' Q q := fun v H2 e2 h => r v H2 (e.trans e2) h
/-! ### part(over, under): under is not nought -/
abbrev sPart : Stmt := topS 6
theorem scPart : FnScope ["over", "under", "by"] ["over", "under"] (defScope sPart) := ⟨rfl, rfl, rfl, by decide +kernel, rfl, by decide +kernel, by decide +kernel⟩
def spPart : Sp := fun vs H Q _ => ∃ (a b : Int), vs = [.int a, .int b] ∧ b ≠ 0 ∧ Bi 8999 b ∧ RetN H Q (Rat.divInt a b)
abbrev FunP (K : PySem.W.Frag) (f : Addr) (fd : FuncData) : Prop := FunD K "part" "part" (defArgs sPart) (defBody sPart) (defScope sPart) [.int 1] [] f fd
theorem ok_part {f fC : Addr} {fd fdC : FuncData} {k : Nat} (F : FunP K f fd) (C : FnOk P w K mg base CX0 (k + 1) fC fdC ["one", "other"] spCommon) (bC : Binds K fdC ["one", "other"] []) (gC : mg "common" = some (.ref fC)) (kC : PySem.W.keepIn K (.ref fC) = true) :
    FnOk P w K mg base CX0 (k + 2) f fd ["over", "under"] spPart := by
  refine F.ok scPart (fun vs H Q E h => ?_) (fun cdv A outer s H vs Q E hr h => ?_)
  · obtain ⟨a, b, rfl, _⟩ := h
    rfl
  · obtain ⟨a, b, rfl, hb, hB, q⟩ := h
    refine ⟨_, pss_cons (ps_if (pt_cmpR op_eq (pv 1) pe_int (nomark _)) pss_never pss_nil)
      (pss_cons (ps_set (i := 2) scPart.nd rfl (.inl rfl) (pe_call C hr (by rfl) gC kC bC .nil pass0 (pa_cons (pv 0) (pa_cons (pv 1) pa_nil))))
      (pss_cons (ps_if (pt_cmpR op_lt (pv 1) pe_int (nomark _)) (pss_one (ps_set (i := 2) scPart.nd rfl (.inl rfl) (pe_un un_neg (pv 2)))) pss_nil)
      (pss_one (ps_ret (pe_tup (pa_cons (pe_op op_fdivA (pv 0) (pv 2)) (pa_cons (pe_op op_fdivA (pv 1) (pv 2)) pa_nil))))))), ?_⟩
    refine ⟨_, rfl, rfl, _, rfl, ite2 (fun c => ?_) (fun c => ?_)⟩
    · have : b = 0 := by simpa using c
      exact hb this
    · refine ⟨_, rfl, _, rfl, a, b, rfl, ?_⟩
      have g0 := gcd_pos (a := a) hb
      have gB : Bi 8999 ((Int.gcd a b : Nat) : Int) := hB.gcd hb
      have fin : ∀ z : Int, z = (if b < 0 then -((Int.gcd a b : Nat) : Int) else ((Int.gcd a b : Nat) : Int)) → ∀ p, H p = none → Q (.ref p) (upd H p (.tup [.int (a.fdiv z), .int (b.fdiv z)])) := fun z hz p np => by
        rw [hz, part_num hb, part_den hb]
        exact q p np
      refine ⟨_, rfl, _, _, rfl, rfl, _, rfl, ite2 (fun c2 => ?_) (fun c2 => ?_)⟩
      · have c3 : b < 0 := by simpa using c2
        rw [if_pos c3] at fin
        refine ⟨_, rfl, _, rfl, ?_⟩
        refine ⟨_, rfl, _, rfl, _, _, rfl, rfl, gB.neg.divA (by omega) (by decide), _, rfl, _, rfl, _, _, rfl, rfl, gB.neg.divA (by omega) (by decide), (by show 2 ≤ sizeLine; decide), fun p np => ?_⟩
        exact fin _ rfl p np
      · have c3 : ¬ b < 0 := by simpa using c2
        rw [if_neg c3] at fin
        refine ⟨_, rfl, _, rfl, _, _, rfl, rfl, gB.divA (by omega) (by decide), _, rfl, _, rfl, _, _, rfl, rfl, gB.divA (by omega) (by decide), (by show 2 ≤ sizeLine; decide), fun p np => ?_⟩
        exact fin _ rfl p np
/-! ### the law's own -/
abbrev sLow : Stmt := topS 22
theorem scLow : FnScope ["_law_above", "_law_beneath", "_law_one", "_law_other", "_law_side"] ["_law_above", "_law_beneath"] (defScope sLow) := ⟨rfl, rfl, rfl, by decide +kernel, rfl, by decide +kernel, by decide +kernel⟩
theorem ok_low {f : Addr} {fd : FuncData} {k : Nat} (F : Fun K "_law_low" "_law_low" sLow f fd) (ma : mg "abs" = none) : FnOk P w K mg base CX0 (k + 1) f fd ["_law_above", "_law_beneath"] spPart := by
  refine F.ok scLow (fun vs H Q E h => ?_) (fun cdv A outer s H vs Q E hr h => ?_)
  · obtain ⟨a, b, rfl, _⟩ := h
    rfl
  · obtain ⟨a, b, rfl, hb, hB, q⟩ := h
    refine ⟨_, pss_cons (ps_par (i := 2) (j := 3) rfl scLow.nd rfl rfl (by decide) rfl rfl
        (pa_cons (pe_callB call_abs (by rfl) ma (by decide +kernel) (pa_cons (pv 0) pa_nil)) (pa_cons (pe_callB call_abs (by rfl) ma (by decide +kernel) (pa_cons (pv 1) pa_nil)) pa_nil)) (by rfl))
      (pss_cons (ps_while PassesOwn.never (pt_cmpR op_ne (pv 3) pe_int (nomark _))
        (pss_one (ps_par (i := 2) (j := 3) rfl scLow.nd rfl rfl (by decide) rfl rfl (pa_cons (pv 3) (pa_cons (pe_op op_mod (pv 2) (pv 3)) pa_nil)) (by rfl))))
      (pss_cons (ps_set (i := 4) scLow.nd rfl (.inl rfl) (pe_ifExp (pt_cmpR op_gt (pv 1) pe_int (nomark _)) pe_int (pe_un un_neg pe_int)))
      (pss_one (ps_ret (pe_tup (pa_cons (pe_op op_fdivW (pe_op op_mul (pv 4) (pv 0)) (pv 2)) (pa_cons (pe_op op_fdivW (pe_op op_mul (pv 4) (pv 1)) (pv 2)) pa_nil))))))), ?_⟩
    refine ⟨_, rfl, a, rfl, _, rfl, b, rfl, _, _, rfl, ?_⟩
    refine while_by (fun σ H' => ∃ x y : Int, σ = [some (.int a), some (.int b), some (.int x), some (.int y), none] ∧ H' = H ∧ 0 ≤ x ∧ 0 ≤ y ∧ Int.gcd x y = Int.gcd a b) (fun σ _ => match σ with | [_, _, _, some (.int y), _] => y.toNat | _ => 0)
      ⟨_, _, rfl, rfl, ?_, ?_, ?_⟩ ?_ ?_
    · rw [abs_if]; omega
    · rw [abs_if]; omega
    · rw [abs_if, abs_if, gcd_abs]
    · rintro σ H' ⟨x, y, rfl, rfl, hx, hy, e⟩
      refine ⟨_, rfl, rfl, _, rfl, ite2 (fun c => ?_) (fun c => ?_)⟩
      · have hy0 : y ≠ 0 := fun z => by
          subst z
          simp at c
        refine ⟨_, rfl, _, rfl, _, rfl, _, _, rfl, rfl, (by omega), _, _, rfl, ?_⟩
        refine ⟨⟨_, _, rfl, rfl, hy, Int.emod_nonneg _ hy0, ?_⟩, ?_⟩
        · rw [gcd_step hy0 hx hy]
          exact e
        · show (x % y).toNat < y.toNat
          have := Int.emod_lt_of_pos x (show 0 < y by omega)
          have := Int.emod_nonneg x hy0
          omega
      · have hy0 : y = 0 := by
          simpa using c
        subst hy0
        have e2 : x = ((Int.gcd a b : Nat) : Int) := by
          rw [← e]
          unfold Int.gcd
          simp
          omega
        subst e2
        have g0 := gcd_pos (a := a) hb
        have gB : Bi 8999 ((Int.gcd a b : Nat) : Int) := hB.gcd hb
        have fin : ∀ z : Int, z = sg b → ∀ p, H' p = none → Q (.ref p) (upd H' p (.tup [.int (z * a / ((Int.gcd a b : Nat) : Int)), .int (z * b / ((Int.gcd a b : Nat) : Int))])) := fun z hz p np => by
          rw [hz, low_num hb, low_den hb]
          exact q p np
        have wd : ∀ i, CDivW i ((Int.gcd a b : Nat) : Int) := fun i => wide_div g0 gB (by decide) (by decide)
        refine ⟨_, rfl, _, _, rfl, rfl, _, rfl, ite2 (fun c2 => ?_) (fun c2 => ?_)⟩
        · have c3 : 0 < b := by simpa using c2
          refine ⟨_, rfl, _, rfl, _, _, rfl, rfl, .inl ⟨by decide, by decide⟩, _, rfl, _, _, rfl, rfl, wd _, _, rfl, _, rfl, _, _, rfl, rfl, .inl ⟨by decide, by decide⟩, _, rfl, _, _, rfl, rfl, wd _, (by show 2 ≤ sizeLine; decide), fun p np => ?_⟩
          exact fin 1 (by unfold sg; rw [if_pos c3]) p np
        · have c3 : ¬ 0 < b := by simpa using c2
          refine ⟨_, rfl, _, rfl, _, rfl, _, _, rfl, rfl, .inl ⟨by decide, by decide⟩, _, rfl, _, _, rfl, rfl, wd _, _, rfl, _, rfl, _, _, rfl, rfl, .inl ⟨by decide, by decide⟩, _, rfl, _, _, rfl, rfl, wd _, (by show 2 ≤ sizeLine; decide), fun p np => ?_⟩
          exact fin (-1) (by unfold sg; rw [if_neg c3]) p np
    · rintro σ H' Q Q' hq ⟨v, e, e2, b, e3, z⟩
      exact ⟨v, e, e2, b, e3, hq _ _ z⟩
end
end Gap
namespace Gap
open PySem PySem.Spec PyProof.Rows L2
/-! ### own exceptions: three rules that the layer lacks -/
section
variable {X : Cx} {CX : CXT} {k : Nat} {f S C fI : Addr} {fd : FuncData} {ps : List Str} {sp : Sp} {E : XK} {x m : Str} {p p1 p2 pos : Pos} {e : Expr} {es : List Expr} {ta : TA} {ds : List Value} {dvs : List V}
/-- what the written part says of a class whose def m is called off the class -/
structure Off (K : PySem.W.Frag) (S : Addr) (m : Str) (f : Addr) : Prop where
  ga : PySem.W.specialIn K (.ref S) "__getattribute__" = some (some (.builtin "type.__getattribute__"))
  ty : PySem.W.typeIn K (.ref S) = some (.type "type")
  rd : PySem.W.readsIn K S (.type "type") = true
  at_ : PySem.W.findCls K (.ref S) (.type "type") m = some (.val (.ref f))
/-- S.m(e, ..), S a class of one's own -/
theorem pe_off {pl : Sem Bool} (O : Off X.K S m f) (F : FnOk X.prog X.w X.K X.mg X.base CX k f fd ps sp) (room : Room k X.A) (glob : Gl X x) (here : X.mg x = some (.ref S)) (kp : PySem.W.keepIn X.K (.ref f) = true) (bd : Binds X.K fd ps ds) (vd : Vals dvs ds) (px : Passes CX X E) (args : PA X (e :: es) ta)
    (way : eval (.Call (.Attribute (.Name x p1) m p2) (e :: es) [] pos) X.env = (do
      let cls ← eval (.Name x p1) X.env
      standAt p2.atName
      let (fn, fst) ← holding [cls] (getMethod cls m pl)
      callWith pos fn fst (backTo pos (starEach (e :: es) X.env)) (backToKw pos (keywordEach [] X.env))) := by rfl)
    (nodebug : (x == ("__debug__" : Str)) = false := by decide) (first : starEach (e :: es) X.env = (false, eval e X.env) :: starEach es X.env := by rfl) (plain : (backTo pos (starEach es X.env)).any (·.1) = false := by rfl) :
    PE X (.Call (.Attribute (.Name x p1) m p2) (e :: es) [] pos) (tCall sp dvs E ta) := by
  refine ⟨fun pins st σ H Q I h => PySem.W.methodCall_KW (ld_glob I glob here ?_ nodebug) way⟩
  obtain ⟨loc, fr⟩ := I.fr
  refine PySem.W.method_of_cls fr I.ok.mod.kin O.ga (PySem.W.cls_val fr I.ok.mod.kin O.ty O.rd O.at_ rfl ?_)
  refine PySem.W.callWith_K (h₀ := X.base) I.ok.mod.kin kp (thn (args.run pos pins _ σ H _ (I.tok _) h) fun us st1 z => ?_) first plain
  obtain ⟨vs, H1, J, rel, q⟩ := z
  exact ⟨J.kIn, run_fn F room bd vd px J rel q⟩
/-- C(), C an own exception with an own __init__ that keeps sp -/
theorem pmk_oex0 (T : OexC X.K C) (iC : PySem.W.findIn X.K (.ref C) "__init__" = some (some (.ref fI))) (tI : PySem.W.typeIn X.K (.ref fI) = some (.type "function")) (F : FnOk X.prog X.w X.K X.mg X.base CX k fI fd ps sp) (room : Room (k + 1) X.A)
    (bd : Binds X.K fd ps ds) (vd : Vals dvs ds) (px : Passes CX X (fun _ _ _ => False)) (glob : Gl X x) (here : X.mg x = some (.ref C)) (nodebug : (x == ("__debug__" : Str)) = false := by decide) :
    PMk X (.Call (.Name x p) [] [] pos) (tMkO C sp dvs tNil) := by
  intro pins st σ H Q I told
  obtain ⟨nm, qn, N, bs, bm, sn, sub, ab, col, dd, k0, k1, k2, k3, k5, isC, onlyVE⟩ := T.cls
  refine wpAny_Call_Name_kw (ld_glob I glob here ?_ nodebug)
  refine PySem.W.callWith_K0 I.kIn T.kC ?_
  show wpAny _ _ (call (.ref C) []) _ _ _
  obtain ⟨few, want⟩ := told
  obtain ⟨hp, gens, dr, toks, os⟩ := st
  have up1 : hp.objs.size ≤ hp.objs.size + 1 := Nat.le_succ _
  have free1 : H (hp.objs.size + 1) = none := I.hok.fresh up1
  have asked := want (hp.objs.size + 1) free1
  have stay : ∀ b o, hp.get? b = some o → ((hp.push (PySem.W.kdv_tup [])).push (PySem.HandSPX.excO C hp.objs.size)).get? b = some o := fun b o z => Heap.get?_push_of_some _ (Heap.get?_push_of_some _ z)
  have made : ((hp.push (PySem.W.kdv_tup [])).push (PySem.HandSPX.excO C hp.objs.size)).get? (hp.objs.size + 1) = some (PySem.HandSPX.excO C hp.objs.size) := by heap_get
  have J : Inv X pins σ (upd H (hp.objs.size + 1) (exo (hp.objs.size + 1) C none)) ⟨(hp.push (PySem.W.kdv_tup [])).push (PySem.HandSPX.excO C hp.objs.size), gens, dr, toks, os⟩ := I.laid (t' := toks) (a := hp.objs.size + 1) (o := exo (hp.objs.size + 1) C none) stay up1 (exo_ok made)
  have rel : Vals (V.ref (hp.objs.size + 1) :: ([] ++ dvs)) ([Value.ref (hp.objs.size + 1)] ++ ds) := by
    rw [List.nil_append, List.singleton_append]
    exact .cons rfl vd
  have len : ([Value.ref (hp.objs.size + 1)] ++ ds).length = ps.length := by
    have z := rel.length
    rw [F.len _ _ _ _ asked] at z
    exact z.symm
  refine wpAny_call (PySem.HandSPX.call_own PySem.F.excBase_ValueError (fun Y => PySem.HandSPX.refsVE_contains Y bm onlyVE) (I.kIn _ _ isC) (PySem.W.looks_findIn I.kIn iC) (fun self => PySem.W.bind_fn I.kIn self tI) (Nat.zero_le _)
    (codeAny_mono (F.run _ X.stack _ _ ⟨[Value.ref (hp.objs.size + 1)], []⟩ ([Value.ref (hp.objs.size + 1)] ++ ds) _ _ (fun _ _ _ => False) (room.make C [] []) (J.env0.make C [] []) (bd _ [Value.ref (hp.objs.size + 1)] J.kIn len) rel asked) fun res st2 out => ?_))
  match res, out with
  | .error er, out => exact px pins σ _ _ er st2 J out
  | .ok (.ret u), out =>
    obtain ⟨v, H2, os2, bare2, un2, hok2, rv, ev, d, fs, ea, ed, free, q2⟩ := out
    subst ev
    obtain ⟨h2, g2, d2, t2, o2⟩ := st2
    exact ⟨rv, mk_end (raises_own T.exC T.tyC) I up1 stay un2 hok2 os2 bare2 ea ed free q2⟩
end
theorem flying_on {B : Heap} {l : List Env} {a : Addr} {Z : Obj → Prop} {h h' : Heap} (z : PySem.HandSPX.FlyingZ B l a Z h) (k : ∀ b o, h.get? b = some o → h'.get? b = some o) : PySem.HandSPX.FlyingZ B l a Z h' := by
  obtain ⟨z1, z2, z3, o, vs, T, oT, ts, y1, y2, y3, y4, y5, y6, y7, y8, y9⟩ := z
  exact ⟨fun b o q => k b o (z1 b o q), z2, z3.of_keeps fun b o q _ => ⟨o, k b o q, rfl⟩, o, vs, T, oT, ts, k _ _ y1, y2, y3, y4, y5, y6, k _ _ y7, y8, y9⟩
/-- what the clause «except (x, y) as n» wants of an exception; one of the two it must be -/
def wAs2 (K : PySem.W.Frag) (c1 c2 : Value) (i : Nat) (ts : Addr → Value → Option Addr → TS) (D : Ends) : WX := fun cls d σ H =>
  PySem.W.exmAny K cls [c1, c2] = some true ∧ ∀ a, H a = none → ts a cls d { nx := fun τ G => D.nx (τ.set i none) G, rt := D.rt, bk := fun τ G => D.bk (τ.set i none) G, ct := fun τ G => D.ct (τ.set i none) G } (σ.set i (some (.ref a))) H
section
variable {X : Cx} {x y n : Str} {c1 c2 : Value} {i : Nat} {body suite : List Stmt} {b₀ : Stmt} {px py tp pos pos2 : Pos} {kt : Nat} {tb : WX → TS} {ts : Addr → Value → Option Addr → TS}
theorem ps_try_as2 (top : X.stack = X.env :: X.outer) (frame : X.env.frame = some X.env.locals) (nd : X.N.Nodup) (at_ : X.N[i]? = some n) (loc : X.env.kindOf n = some .local) (g1 : Gl X x) (m1 : X.mg x = some c1) (g2 : Gl X y) (m2 : X.mg y = some c2)
    (tries : ∀ (W : WX) (pn : List (Addr × Obj)) (xe : Value → Shared → Prop), Takes (X.tr pn xe) W → PassesOwn (model X.prog X.w) X.A X.env xe → PSs (X.tr pn xe) body (tb W))
    (mends : ∀ (a : Addr) (oe : Obj) (cls : Value) (d : Option Addr) (pn : List (Addr × Obj)), Zc cls d oe → (∃ vs, oe.data = .fields vs) → PSs (X.suite a ((a, oe) :: pn)) (b₀ :: suite) (ts a cls d))
    (nx : (x == ("__debug__" : Str)) = false := by decide) (ny : (y == ("__debug__" : Str)) = false := by decide) (twoNames : ∀ env, starEach [.Name x px, .Name y py] env = [(false, eval (.Name x px) env), (false, eval (.Name y py) env)] := by intro _; rfl) :
    PS X (.Try body [.ExceptHandler (some (.Tuple [.Name x px, .Name y py] kt tp)) (some n) (b₀ :: suite) pos2] [] [] pos) (fun D σ H => tb (wAs2 X.K c1 c2 i ts D) D σ H) := by
  refine ⟨fun pins st σ H D I told => ?_⟩
  have okX := I.ok
  have frames : X.A.frames = some (X.env :: X.outer) := by rw [okX.frames, top]
  refine wpAny_Try_except ?_
  refine wpAny_mono ((tries (wAs2 X.K c1 c2 i ts D) (X.pn ++ pins) (fun er r1 => wpAny (model X.prog X.w) X.A (noteFrame er X.env) (fun _ r2 => wpAny (model X.prog X.w) X.A (setFlight er none) (fun _ r3 =>
    wpAny (model X.prog X.w) X.A (handleBy er X.env [.ExceptHandler (some (.Tuple [.Name x px, .Name y py] kt tp)) (some n) (b₀ :: suite) pos2]) (SP X pins D) X.xe r3) X.xe r2) X.xe r1) (fun u st2 air => ?_) PassesOwn.looking).run [] st σ H D (I.toTry _) told) (fun fl st2 out => ?_) (fun _ _ z => z)
  · obtain ⟨a, B, sI, pins2, τ, G, cls, d, rfl, Jt, nb, up, sky, na, os, ag, yes, hyes⟩ := air
    have J : Inv X pins τ G sI := Jt.ofTry okX
    have sky2 : Sky B (X.env :: X.outer) a (Zc cls d) X.env.locals st2.heap := by rw [← top]; exact sky
    show wpAny (model X.prog X.w) X.A (noteFrame (.ref a) X.env) _ _ _
    refine Sky.land Zc.steady frames frame sky2 fun h3 fly up3 => ?_
    have J3 : Inv X pins τ G { st2 with heap := h3 } := J.landed nb fly.1 (up.trans up3) os ag
    obtain ⟨o3, vs3, he3, hz3, hd3⟩ := fly.there
    have away : a ∉ frs (X.env :: X.outer) := fun mem => by
      obtain ⟨_, o', e', nof⟩ := fly.2.2.1.mem mem
      rw [he3] at e'
      cases e'
      exact nof _ hd3
    have notL : a ≠ X.env.locals := fun z => away (List.mem_filterMap.mpr ⟨X.env, List.mem_cons_self, by rw [frame, z]⟩)
    have notF : a ∉ X.fs := fun mem => by
      obtain ⟨en, inn, q⟩ := List.mem_filterMap.mp mem
      exact away (List.mem_filterMap.mpr ⟨en, List.mem_cons_of_mem _ inn, q⟩)
    have S3 := J3.suite he3 hd3 na notL notF
    refine wpAny_handleBy_cons (codeAny_handlers_test ?_) (by intro q; cases q)
    -- the pair of classes is laid, then looked through
    refine wpAny_Tuple_spliced ?_
    rw [twoNames]
    show wpAny _ (X.A.mark (some (.ref a))) (spliced ((false, eval (.Name x px) X.env) :: [(false, eval (.Name y py) X.env)])) _ _ _
    refine Calls.spliced_cons (ld_glob (X := X.suite a ((a, o3) :: (X.pn ++ pins))) S3 g1 m1 (Calls.spliced_cons (ld_glob (X := X.suite a ((a, o3) :: (X.pn ++ pins))) S3 g2 m2 (Calls.spliced_nil ⟨by show 2 ≤ sizeLine; decide, ?_⟩) ny)) nx)
    have kept : ∀ b o, h3.get? b = some o → (h3.push { cls := .type "tuple", data := .seq [c1, c2].toArray }).get? b = some o := fun b o z => Heap.get?_push_of_some _ z
    have laid : (h3.push { cls := .type "tuple", data := .seq [c1, c2].toArray }).get? h3.objs.size = some { cls := .type "tuple", data := .seq [c1, c2].toArray } := Heap.get?_push_size _ rfl
    have itsType : PySem.W.Looks (model X.prog X.w) (h3.push { cls := .type "tuple", data := .seq [c1, c2].toArray }) (typeOf (.ref a)) cls := fun A Q E s kk q => wpAny_typeOf_ref (kk _ _ (kept _ _ he3)) (by rw [hz3.1]; exact q)
    have match2 := PySem.W.exm_tup2 (M := model X.prog X.w) (J3.kIn.keeps kept) itsType laid yes
    refine match2.here ?_
    refine codeAny_handlers_suite_as ?_
    refine HandSPX.lands_againZ (flying_on fly kept) fun h4 fly4 up4 => ?_
    have J4 : Inv X pins τ G { st2 with heap := h4 } := J.landed nb fly4.1 (((up.trans up3).trans (Heap.UpToSlots.of_keeps kept)).trans up4) os ag
    obtain ⟨o4, vs4, he4, hz4, hd4⟩ := fly4.there
    have S4 := J4.suite he4 hd4 na notL notF
    refine store_ok (X := X.suite a ((a, o4) :: (X.pn ++ pins))) (v := .ref a) S4 nd at_ (.inl loc) rfl (fun st5 S5 => ?_) (.inr loc)
    refine wpAny_mono ((mends a o4 cls d (X.pn ++ pins) hz4 ⟨_, hd4⟩).run [] st5 _ G _ S5 (hyes a na)) (fun fl st6 out => ?_) (fun _ _ z => False.elim z)
    have gone : ∀ {τ6 : L2.St} {G6 : Hp} {Q : Shared → Prop}, Inv (X.suite a ((a, o4) :: (X.pn ++ pins))) [] τ6 G6 st6 → (∀ st7, Inv X pins (τ6.set i none) G6 st7 → Q st7) →
        wpAny (model X.prog X.w) X.A (do bindName X.env n .none; unbindBehindTheSuite X.env n pos2) (fun _ st7 => Q st7) X.xe st6 := fun {τ6 G6 Q} S6 q => gone_ok (S6.unsuite okX) nd at_ loc q
    match fl, out with
    | .next, ⟨_, _, S6, q6⟩ => exact gone S6 fun _ J7 => ⟨_, _, J7, q6⟩
    | .brk, ⟨_, _, S6, q6⟩ => exact gone S6 fun _ J7 => ⟨_, _, J7, q6⟩
    | .cont, ⟨_, _, S6, q6⟩ => exact gone S6 fun _ J7 => ⟨_, _, J7, q6⟩
    | .ret _, ⟨_, _, _, S6, r6, q6⟩ => exact gone S6 fun _ J7 => ⟨_, _, _, J7, r6, q6⟩
  · match fl, out with
    | .next, ⟨_, _, Jt, q⟩ => exact wpAny_execs_nil ⟨_, _, Jt.ofTry okX, q⟩
    | .brk, ⟨_, _, Jt, q⟩ => exact ⟨_, _, Jt.ofTry okX, q⟩
    | .cont, ⟨_, _, Jt, q⟩ => exact ⟨_, _, Jt.ofTry okX, q⟩
    | .ret _, ⟨_, _, _, Jt, r, q⟩ => exact ⟨_, _, _, Jt.ofTry okX, r, q⟩
end
end Gap
namespace Gap
open PySem PySem.Spec PyProof.Rows L2
section
variable {P : Program} {w : World} {K : PySem.W.Frag} {mg : Str → Option Value} {base : Heap}
/-! ### how the errors are made -/
abbrev sStone : Stmt := inClass (topS 1) 0
theorem scStone : FnScope ["self", "called", "why"] ["self", "called", "why"] (defScope sStone) := ⟨rfl, rfl, rfl, by decide +kernel, rfl, by decide +kernel, by decide +kernel⟩
/-- the new exception at a is called c -/
def Named (K : PySem.W.Frag) (C a : Addr) (c : Str) (H : Hp) (Q : VK) : Prop := OexC K C ∧ PySem.W.findIn K (.ref C) "called" = some none ∧ H a = some (exo a C none) ∧ ∀ dx, H dx = none → dx ≠ a → Q .non (upd (upd H dx (exd dx [("called", .str c)])) a (exo a C (some dx)))
def spStone (K : PySem.W.Frag) : Sp := fun vs H Q _ => ∃ (a C : Addr) (c y : Str), vs = [.ref a, .str c, .str y] ∧ c.length ≤ 1000 ∧ y.length ≤ 1000 ∧ Named K C a c H Q
theorem ok_stone {dvs : List V} {f : Addr} {fd : FuncData} {k : Nat} (F : FunD K "__init__" "StoneError.__init__" (defArgs sStone) (defBody sStone) (defScope sStone) dvs [] f fd) (mv : mg "ValueError" = none)
    (vV : PySem.W.findCls K (.type "ValueError") (.type "type") "__init__" = some (.val (.builtin "ValueError.__init__"))) : FnOk P w K mg base CX0 (k + 1) f fd ["self", "called", "why"] (spStone K) := by
  refine F.ok scStone (fun vs H Q E h => ?_) (fun cdv A outer s H vs Q E hr h => ?_)
  · obtain ⟨a, C, c, y, rfl, _⟩ := h
    rfl
  · obtain ⟨a, C, c, y, rfl, lc, ly, T, nc, ha, ret⟩ := h
    refine ⟨_, PSs.nox (pss_cons (ps_expr (pe_veinit (by rfl) mv vV (pa_cons (pv 0) (pa_cons (pe_joined (.cons (pe_fmt (pv 1)) (.cons pe_str (.cons (pe_fmt (pv 2)) .nil)))) pa_nil))))
      (pss_one (ps_ost (pv 0) (pv 1)))), ?_⟩
    have z1 : c.length ≤ sizeLine := Nat.le_of_lt (small1000 lc)
    have z2 : y.length ≤ sizeLine := Nat.le_of_lt (small1000 ly)
    have z9 : 9000 ≤ sizeLine := by decide
    have e1 : (Str.empty ++ c).length = 0 + c.length := PySem.Str.length_append _ _
    have e2 : (": " : Str).length = 2 := by decide
    refine ⟨_, rfl, _, rfl, .inl ⟨c, rfl, z1, c, rfl, ?_, (": " : Str), rfl, ?_, _, rfl, .inl ⟨y, rfl, z2, y, rfl, ?_, a, C, _, rfl, (by show 1 ≤ 1000; decide), T, ha, _, rfl, _, rfl, a, C, rfl, T, nc, .inl ⟨ha, fun dx n1 n2 => ret dx n1 n2⟩⟩⟩⟩
    · rw [e1]
      omega
    · rw [PySem.Str.length_append, e1, e2]
      omega
    · rw [PySem.Str.length_append, PySem.Str.length_append, e1, e2]
      omega
abbrev sBadPart : Stmt := inClass (topS 2) 0
theorem scBadPart : FnScope ["self"] ["self"] (defScope sBadPart) := ⟨rfl, rfl, rfl, by decide +kernel, rfl, by decide +kernel, by decide +kernel⟩
def spInit (K : PySem.W.Frag) (C : Addr) (c : Str) : Sp := fun vs H Q _ => ∃ a : Addr, vs = [.ref a] ∧ Named K C a c H Q
theorem ok_badpart {f fS S C : Addr} {fd fdS : FuncData} {k : Nat} (F : Fun K "__init__" "BadPart.__init__" sBadPart f fd) (FS : FnOk P w K mg base CX0 k fS fdS ["self", "called", "why"] (spStone K)) (bS : ∃ ds, Vals [] ds ∧ Binds K fdS ["self", "called", "why"] ds)
    (O : Off K S "__init__" fS) (gS : mg "StoneError" = some (.ref S)) (kS : PySem.W.keepIn K (.ref fS) = true) : FnOk P w K mg base CX0 (k + 1) f fd ["self"] (spInit K C "BadPart") := by
  obtain ⟨ds, vd, bS⟩ := bS
  cases vd
  refine F.ok scBadPart (fun vs H Q E h => ?_) (fun cdv A outer s H vs Q E hr h => ?_)
  · obtain ⟨a, rfl, _⟩ := h
    rfl
  · obtain ⟨a, rfl, T, nc, ha, ret⟩ := h
    refine ⟨_, pss_one (ps_expr (pe_off O FS hr (by rfl) gS kS bS .nil pass0 (pa_cons (pv 0) (pa_cons pe_str (pa_cons pe_str pa_nil))))), ?_⟩
    exact ⟨_, rfl, a, C, _, _, rfl, by decide, by decide, T, nc, ha, fun dx n1 n2 => ret dx n1 n2⟩
/-! ### part, with its refusal -/
/-- an error of the class at C, called c, leaves -/
def Leaves (C : Addr) (c : Str) (H : Hp) (E : XK) : Prop := ∀ d, H d = none → E (.ref C) (some d) (upd H d (.xd [("called", .str c)]))
def spPartX (C : Addr) : Sp := fun vs H Q E => ∃ (a b : Int), vs = [.int a, .int b] ∧ (b ≠ 0 → Bi 8999 b ∧ RetN H Q (Rat.divInt a b)) ∧ (b = 0 → Leaves C "BadPart" H E)
theorem unmade {H : Hp} {a C d : Addr} {fs gs : List (Str × V)} (na : H a = none) (nd : d ≠ a) : upd (del (upd (upd (upd H a (exo a C none)) d (exd d gs)) a (exo a C (some d))) a) d (.xd fs) = upd H d (.xd fs) := by
  funext b
  by_cases hd : b = d
  · rw [hd, upd_same, upd_same]
  · rw [upd_ne hd, upd_ne hd]
    by_cases ha : b = a
    · rw [ha, del_same, na]
    · rw [del_ne ha, upd_ne ha, upd_ne hd, upd_ne ha]
/-- what the written part says of an error that is raised without words: its class at C, its __init__ at fI -/
structure Err (P : Program) (w : World) (K : PySem.W.Frag) (mg : Str → Option Value) (base : Heap) (k : Nat) (name : Str) (C : Addr) : Prop where
  cls : OexC K C
  no : PySem.W.findIn K (.ref C) "called" = some none
  at_ : mg name = some (.ref C)
  ex : ∃ (fI : Addr) (fd : FuncData), PySem.W.findIn K (.ref C) "__init__" = some (some (.ref fI)) ∧ PySem.W.typeIn K (.ref fI) = some (.type "function") ∧ FnOk P w K mg base CX0 k fI fd ["self"] (spInit K C name) ∧ Binds K fd ["self"] []
theorem ok_partX {f fC C : Addr} {fd fdC : FuncData} {k : Nat} (F : FunP K f fd) (CM : FnOk P w K mg base CX0 (k + 1) fC fdC ["one", "other"] spCommon) (bC : Binds K fdC ["one", "other"] []) (gC : mg "common" = some (.ref fC)) (kC : PySem.W.keepIn K (.ref fC) = true)
    (Er : Err P w K mg base k "BadPart" C) : FnOk P w K mg base (L2.CX P w) (k + 2) f fd ["over", "under"] (spPartX C) := by
  obtain ⟨fI, fdI, iC, tI, FI, bI⟩ := Er.ex
  refine F.ok scPart (fun vs H Q E h => ?_) (fun cdv A outer s H vs Q E hr h => ?_)
  · obtain ⟨a, b, rfl, _⟩ := h
    rfl
  · obtain ⟨a, b, rfl, yes, no⟩ := h
    refine ⟨_, pss_cons (ps_if (pt_cmpR op_eq (pv 1) pe_int (nomark _)) (pss_one (ps_raise rfl (takes_of rfl rfl rfl rfl) (pmk_oex0 Er.cls iC tI FI hr bI .nil pass0 (by rfl) Er.at_))) pss_nil)
      (pss_cons (ps_set (i := 2) scPart.nd rfl (.inl rfl) (pe_call CM hr (by rfl) gC kC bC .nil pass0 (pa_cons (pv 0) (pa_cons (pv 1) pa_nil))))
      (pss_cons (ps_if (pt_cmpR op_lt (pv 1) pe_int (nomark _)) (pss_one (ps_set (i := 2) scPart.nd rfl (.inl rfl) (pe_un un_neg (pv 2)))) pss_nil)
      (pss_one (ps_ret (pe_tup (pa_cons (pe_op op_fdivA (pv 0) (pv 2)) (pa_cons (pe_op op_fdivA (pv 1) (pv 2)) pa_nil))))))), ?_⟩
    refine ⟨_, rfl, rfl, _, rfl, ite2 (fun c => ?_) (fun c => ?_)⟩
    · have b0 : b = 0 := by simpa using c
      refine ⟨Nat.zero_le _, fun x nx => ⟨x, rfl, Er.cls, Er.no, upd_same, fun dx ndx nex => ⟨rfl, dx, [("called", .str "BadPart")], upd_same, ?_, ?_, ?_⟩⟩⟩
      · rw [upd_ne nex, upd_same]
      · rw [upd_ne nex] at ndx
        exact ndx
      · have ndx' : H dx = none := by
          rw [upd_ne nex] at ndx
          exact ndx
        rw [unmade nx nex]
        exact no b0 dx ndx'
    · have hb : b ≠ 0 := by simpa using c
      obtain ⟨hB, q⟩ := yes hb
      refine ⟨_, rfl, _, rfl, a, b, rfl, ?_⟩
      have g0 := gcd_pos (a := a) hb
      have gB : Bi 8999 ((Int.gcd a b : Nat) : Int) := hB.gcd hb
      have fin : ∀ z : Int, z = (if b < 0 then -((Int.gcd a b : Nat) : Int) else ((Int.gcd a b : Nat) : Int)) → ∀ p, H p = none → Q (.ref p) (upd H p (.tup [.int (a.fdiv z), .int (b.fdiv z)])) := fun z hz p np => by
        rw [hz, part_num hb, part_den hb]
        exact q p np
      refine ⟨_, rfl, _, _, rfl, rfl, _, rfl, ite2 (fun c2 => ?_) (fun c2 => ?_)⟩
      · have c3 : b < 0 := by simpa using c2
        rw [if_pos c3] at fin
        refine ⟨_, rfl, _, rfl, ?_⟩
        refine ⟨_, rfl, _, rfl, _, _, rfl, rfl, gB.neg.divA (by omega) (by decide), _, rfl, _, rfl, _, _, rfl, rfl, gB.neg.divA (by omega) (by decide), (by show 2 ≤ sizeLine; decide), fun p np => ?_⟩
        exact fin _ rfl p np
      · have c3 : ¬ b < 0 := by simpa using c2
        rw [if_neg c3] at fin
        refine ⟨_, rfl, _, rfl, _, _, rfl, rfl, gB.divA (by omega) (by decide), _, rfl, _, rfl, _, _, rfl, rfl, gB.divA (by omega) (by decide), (by show 2 ≤ sizeLine; decide), fun p np => ?_⟩
        exact fin _ rfl p np
end
end Gap
namespace Gap
open PySem PySem.Spec PyProof.Rows L2
/-! ### what is tried: told, or the name of the refusal -/
section
variable {X : Cx} {a : Addr} {oe : Obj} {cls : Value} {d : Option Addr} {pn : List (Addr × Obj)} {i : Nat} {x : Str} {p pos : Pos}
/-- e.called in the suite, whichever own error e is -/
theorem pe_called (hz : Zc cls d oe) (hf : ∃ vs, oe.data = .fields vs) (he : PE (X.suite a ((a, oe) :: pn)) (.Name x p) (tVar i)) :
    PE (X.suite a ((a, oe) :: pn)) (.Attribute (.Name x p) "called" pos) (fun σ H Q => σ[i]? = some (some (.ref a)) ∧ ∃ (C dd : Addr) (fs : List (Str × V)) (v : V), cls = .ref C ∧ d = some dd ∧ XfC X.K C ∧ PySem.W.findIn X.K (.ref C) "called" = some none ∧ H dd = some (.xd fs) ∧ fs.lookup ("called" : Str) = some v ∧ Q v H) := by
  refine ⟨fun pins s σ H Q I h => ?_⟩
  obtain ⟨h1, C, dd, fs, v, rfl, rfl, T, no, h2, h3, q⟩ := h
  exact (pe_xf T no hz hf he).run pins s σ H Q I ⟨.ref a, h1, rfl, rfl, dd, fs, v, rfl, h2, h3, q⟩
end
section
variable {P : Program} {w : World} {K : PySem.W.Frag} {mg : Str → Option Value} {base : Heap}
/-- an error as the law's own try takes it: of one of the two families, called c, and then the pair of its name -/
def Caught (K : PySem.W.Frag) (S M : Addr) (Q : VK) : XK := fun cls d H => ∃ (C dd : Addr) (fs : List (Str × V)) (v : V), cls = .ref C ∧ d = some dd ∧ XfC K C ∧ PySem.W.findIn K (.ref C) "called" = some none ∧ PySem.W.exmAny K cls [.ref S, .ref M] = some true ∧ H dd = some (.xd fs) ∧ fs.lookup ("called" : Str) = some v ∧ ∀ p, H p = none → Q (.ref p) (upd H p (.tup [v]))
/-- the act is done; what it tells stands in a pair behind the word -/
def TTried (K : PySem.W.Frag) (S M : Addr) : (XK → Hp → VK → Prop) → Hp → VK → Prop := fun tl H Q => tl (Caught K S M Q) H fun v H1 => [V.str "told", v].length ≤ sizeLine ∧ ∀ p, H1 p = none → Q (.ref p) (upd H1 p (.tup [.str "told", v]))
abbrev sTried : Stmt := topS 21
theorem scTried : FnScope ["_law_act", "e"] ["_law_act"] (defScope sTried) := ⟨rfl, rfl, rfl, by decide +kernel, rfl, by decide +kernel, by decide +kernel⟩
theorem takes_len {X : Cx} {W : WX} {n : Nat} (e : X.N.length = n) (tk : Takes X W) : Takes X (fun cls d σ H => σ.length = n → W cls d σ H) := fun u s' z => by
  obtain ⟨a, B, sI, pins, σ, H, cls, d, e1, I, nb, up, sky, na, os, ag, h⟩ := z
  exact tk u s' ⟨a, B, sI, pins, σ, H, cls, d, e1, I, nb, up, sky, na, os, ag, h (I.len.trans e)⟩
theorem tried_gives {X : Cx} {g S M : Addr} {cdg : Value} {q : Str} (gS : X.mg "StoneError" = some (.ref S)) (gM : X.mg "Missing" = some (.ref M)) :
    LamX.GivesTo X ["_law_act", "e"] "_law_tried" (defScope sTried) g cdg (defBody sTried) "_law_act" q (TTried X.K S M) := by
  intro f c' s H Q tl act hc h
  refine ⟨_, pss_one (ps_try_as2 (X := (cxOf C8.CX0 X.prog X.w X.K X.mg X.base ["_law_act", "e"] "_law_tried" (defScope sTried) g cdg X.A X.stack s H C8.E0).nox) (i := 1) (c1 := .ref S) (c2 := .ref M)
      (tb := fun W D σ H => ∃ Ech : XK, (∀ cls d σ' H', Ech cls d H' → σ'.length = 2 → W cls d σ' H') ∧ σ[0]? = some (some (.ref f)) ∧ H c' = some (LamX.CodeO c' q) ∧ tl Ech H (fun v H1 => [V.str "told", v].length ≤ sizeLine ∧ ∀ p, H1 p = none → D.rt (.ref p) (upd H1 p (.tup [.str "told", v]))))
      rfl rfl scTried.nd rfl rfl (by rfl) gS (by rfl) gM (fun W pn xe tk _ => ?_) (fun a oe cls d pn hz hf => pss_one (ps_ret (pe_tup (pa_cons (pe_called hz hf (pv 1)) pa_nil))))), ?_⟩
  · refine ⟨fun pins s' σ H' D I z => ?_⟩
    obtain ⟨Ech, hW, h1, h2, h3⟩ := z
    exact (pss_one (ps_ret (pe_tup (pa_cons pe_str (pa_cons (act (fun cls d σ H => σ.length = 2 → W cls d σ H) pn xe Ech _ _ (takes_len rfl tk) hW) pa_nil))))).run pins s' σ H' D I ⟨h1, h2, h3⟩
  · refine ⟨Caught X.K S M Q, fun cls d σ' H' z l2 => ?_, rfl, hc, ?_⟩
    · obtain ⟨C, dd, fs, v, rfl, rfl, T, no, yes, h2, h3, q⟩ := z
      exact ⟨yes, fun a na => ⟨List.getElem?_set_self (by omega), C, dd, fs, v, rfl, rfl, T, no, h2, h3, (by show 1 ≤ sizeLine; decide), fun p np => q p np⟩⟩
    · exact h
end
end Gap
namespace Gap
open PySem PySem.Spec PyProof.Rows L2
section
variable {P : Program} {w : World} {K : PySem.W.Frag} {mg : Str → Option Value} {base : Heap}
theorem bi_of {n : Nat} {x : Int} (h0 : -(2 ^ n : Nat) < x) (h1 : x < (2 ^ n : Nat)) : Bi n x := by
  unfold Bi
  omega
theorem isQ_at {H : Hp} {p : Addr} {q : Rat} (h : H p = some (.tup [.int q.num, .int (q.den : Int)])) : IsQ K H (.ref p) q := ⟨p, rfl, .inl (.inl h)⟩
/-! ### the bag -/
structure Bag (H : Hp) (b l : Addr) : Prop where
  at_ : ∃ (xs : List Int) (i n s : Int), H b = some (.lst [.ref l, .int i, .int n, .int s]) ∧ H l = some (.lst (xs.map V.int)) ∧ l ≠ b ∧ 0 ≤ i ∧ 0 ≤ n ∧ 0 ≤ s ∧ s < 2147483647
/-- all but what stands at b is kept -/
def SameB (b : Addr) (H H' : Hp) : Prop := ∀ a o, a ≠ b → H a = some o → H' a = some o
theorem SameB.refl (b : Addr) (H : Hp) : SameB b H H := fun _ _ _ h => h
theorem SameB.trans {b : Addr} {H H1 H2 : Hp} (a : SameB b H H1) (c : SameB b H1 H2) : SameB b H H2 := fun x o n h => c x o n (a x o n h)
theorem SameB.of {b : Addr} {H H' : Hp} (e : Same H H') : SameB b H H' := fun a o _ h => e a o h
theorem SameB.upd {b : Addr} {H : Hp} {o : HO} : SameB b H (upd H b o) := fun a u n h => by
  rw [upd_ne n]
  exact h
theorem Bag.same {H H' : Hp} {b bl : Addr} (h : Bag H b bl) (e : Same H H') : Bag H' b bl := by
  obtain ⟨xs, i, n, s, h1, h2, r⟩ := h
  exact ⟨xs, i, n, s, e _ _ h1, e _ _ h2, r⟩
theorem Bag.tupT {H H' : Hp} {b bl : Addr} (h : Bag H b bl) (e : SameB b H H') {a : Addr} {xs : List V} (t : SqT K H a xs) : SqT K H' a xs := by
  obtain ⟨ys, i, n, s, h1, _⟩ := h
  rcases t with t | t
  · refine .inl ?_
    rcases t with t | ⟨o, t⟩
    · exact .inl (e _ _ (ne_of t h1 (by intro z; cases z)) t)
    · exact .inr ⟨o, e _ _ (ne_of t h1 (by intro z; cases z)) t⟩
  · exact .inr t
theorem Bag.isQ {H H' : Hp} {b bl : Addr} (h : Bag H b bl) (e : SameB b H H') {v : V} {q : Rat} (t : IsQ K H v q) : IsQ K H' v q := by
  obtain ⟨a, rfl, t⟩ := t
  exact ⟨a, rfl, h.tupT e t⟩
theorem Bag.ne {H : Hp} {b p bl : Addr} (h : Bag H b bl) (np : H p = none) : p ≠ b := fun z => by
  obtain ⟨ys, i, n, s, h1, _⟩ := h
  rw [z, h1] at np
  cases np
theorem Bag.nel {H : Hp} {b bl p : Addr} (h : Bag H b bl) (np : H p = none) : p ≠ bl := fun z => by
  obtain ⟨ys, i, n, s, _, h2, _⟩ := h
  rw [z, h2] at np
  cases np
/-- another thing is written -/
theorem Bag.put {H : Hp} {b bl p : Addr} {o : HO} (h : Bag H b bl) (n1 : p ≠ b) (n2 : p ≠ bl) : Bag (upd H p o) b bl := by
  obtain ⟨xs, i, n, s, h1, h2, r⟩ := h
  exact ⟨xs, i, n, s, by rw [upd_ne n1.symm]; exact h1, by rw [upd_ne n2.symm]; exact h2, r⟩
/-- fractions stay where a list is written -/
theorem SqT.putL {H : Hp} {p : Addr} {xs ys : List V} (hp : H p = some (.lst xs)) {c : Addr} {zs : List V} (z : SqT K H c zs) : SqT K (upd H p (.lst ys)) c zs := by
  rcases z with z | z
  · refine .inl ?_
    rcases z with z | ⟨o, z⟩
    · exact .inl (by rw [upd_ne (ne_of z hp (by intro y; cases y))]; exact z)
    · exact .inr ⟨o, by rw [upd_ne (ne_of z hp (by intro y; cases y))]; exact z⟩
  · exact .inr z
theorem IsQ.putL {H : Hp} {p : Addr} {xs ys : List V} (hp : H p = some (.lst xs)) {v : V} {q : Rat} (z : IsQ K H v q) : IsQ K (upd H p (.lst ys)) v q := by
  obtain ⟨c, e, z⟩ := z
  exact ⟨c, e, SqT.putL hp z⟩
abbrev sBag : Stmt := topS 18
theorem scBag : FnScope ["_law_script", "_law_salt", "_law_cell"] ["_law_script"] (defScope sBag) := ⟨rfl, rfl, rfl, by decide +kernel, rfl, by decide +kernel, by decide +kernel⟩
def spBag (K : PySem.W.Frag) : Sp := fun vs H Q _ => ∃ (a : Addr) (ns : List Int), vs = [.ref a] ∧ SqL K H a (ns.map V.int) ∧ ns.length ≤ 63 ∧ ∀ b bl H', Same H H' → H b = none → Bag H' b bl → Q (.ref b) H'
theorem cut_ints (ns : List Int) (lo hi : Option Int) : ∃ ms : List Int, cutV (ns.map V.int) lo hi = ms.map V.int := by
  unfold cutV
  rw [← List.map_drop, ← List.map_take]
  exact ⟨_, rfl⟩
theorem ok_bag {f : Addr} {fd : FuncData} {k : Nat} (F : Fun K "_law_bag" "_law_bag" sBag f fd) (ml : mg "list" = none) : FnOk P w K mg base CX0 (k + 1) f fd ["_law_script"] (spBag K) := by
  refine F.ok scBag (fun vs H Q E h => ?_) (fun cdv A outer s H vs Q E hr h => ?_)
  · obtain ⟨a, ns, rfl, _⟩ := h
    rfl
  · obtain ⟨a, ns, rfl, hS, hl, q⟩ := h
    refine ⟨_, pss_cons (ps_set (i := 1) scBag.nd rfl (.inl rfl) pe_int)
      (pss_cons (ps_for PassesOwn.never rfl (pi_list (pe_slice sl_list (pv 0) po_none (po_some pe_int))) (pg_name (i := 2) scBag.nd rfl (.inl rfl))
        (pss_one (ps_set (i := 1) scBag.nd rfl (.inl rfl) (pe_op op_mod (pe_op op_add (pe_op op_add (pe_op op_mul (pv 1) pe_int) (pe_op op_mod (pv 2) pe_int)) pe_int) pe_int))))
      (pss_one (ps_ret (pe_lst (pa_cons (pe_callTy call_list_of (by rfl) ml boot_list (pa_cons (pe_slice sl_list (pv 0) po_none (po_some pe_int)) pa_nil)) (pa_cons pe_int (pa_cons pe_int (pa_cons (pv 1) pa_nil)))))))), ?_⟩
    obtain ⟨ms, em⟩ := cut_ints ns none (some 63)
    have lm : ms.length ≤ 63 := by
      have := cutV_length (ns.map V.int) none (some 63)
      rw [em, List.length_map, List.length_map] at this
      omega
    refine ⟨_, rfl, _, rfl, a, _, rfl, hS, fun p np => ⟨p, rfl, ⟨_, .inl (.inl upd_same)⟩, ?_⟩⟩
    rw [em]
    refine for_list (K := K) (a := p) (xs := ms.map V.int) (fun i σ H' => ∃ (z : Int) (v : Option V), σ = [some (.ref a), some (.int z), v] ∧ H' = upd H p (.lst (ms.map V.int)) ∧ 0 ≤ z ∧ z < 2147483647) ⟨9146, none, rfl, rfl, by decide, by decide⟩ ?_ ?_ ?_
    · rintro i σ H' hi ⟨z, v, rfl, rfl, _⟩
      exact .inl (.inl upd_same)
    · rintro i x σ H' hi ⟨z, v, rfl, rfl, z0, z1⟩
      obtain ⟨y, hy, rfl⟩ : ∃ y, ms[i]? = some y ∧ x = V.int y := by
        rw [List.getElem?_map] at hi
        cases e : ms[i]? with
        | none =>
          rw [e] at hi
          cases hi
        | some y =>
          rw [e] at hi
          exact ⟨y, rfl, (Option.some.inj hi).symm⟩
      refine ⟨_, rfl, _, _, rfl, rfl, .inr ⟨by decide, by decide⟩, _, rfl, _, _, rfl, rfl, (by show (0 : Int) < 2147483629; decide), _, _, rfl, rfl, _, _, rfl, rfl, _, _, rfl, rfl, (by show (0 : Int) < 2147483647; decide), ?_⟩
      exact ⟨_, _, rfl, rfl, Int.emod_nonneg _ (by decide), Int.emod_lt_of_pos _ (by decide)⟩
    · rintro σ H' ⟨z, v, rfl, rfl, z0, z1⟩
      have s1 : Same H (upd H p (.lst (ms.map V.int))) := same_upd np
      refine ⟨_, rfl, _, rfl, a, _, rfl, s1.seq hS, fun p2 np2 => ?_⟩
      rw [em]
      have s2 := same_upd (o := .lst (ms.map V.int)) np2
      refine ⟨p2, _, rfl, .inl (.inl (.inl upd_same)), fun l nl => ⟨_, rfl, (by show 4 ≤ sizeLine; decide), fun b nb => ?_⟩⟩
      have s3 := same_upd (o := .lst (ms.map V.int)) nl
      have s4 := same_upd (o := .lst [.ref l, .int 0, .int 0, .int z]) nb
      have hl : (L2.upd (L2.upd (L2.upd H p (.lst (ms.map V.int))) p2 (.lst (ms.map V.int))) l (.lst (ms.map V.int))) l = some (.lst (ms.map V.int)) := upd_same
      refine q b l _ (((s1.trans s2).trans s3).trans s4) ((s1.trans (s2.trans s3)).free nb) ⟨ms, 0, 0, z, upd_same, s4 _ _ hl, ne_of_none hl nb, by decide, by decide, z0, z1⟩
/-! ### one draw -/
abbrev sPull : Stmt := topS 19
theorem scPull : FnScope ["_law_bag_here", "_law_many", "_law_cell", "_law_got", "_law_seed"] ["_law_bag_here", "_law_many"] (defScope sPull) := ⟨rfl, rfl, rfl, by decide +kernel, rfl, by decide +kernel, by decide +kernel⟩
def spPull : Sp := fun vs H Q _ => ∃ (b bl : Addr) (m : Int), vs = [.ref b, .int m] ∧ 0 < m ∧ m.natAbs.log2 < 9000 ∧ Bag H b bl ∧ ∀ r H', SameB b H H' → Bag H' b bl → 0 ≤ r → r < m → Q (.int r) H'
theorem ok_pull {f : Addr} {fd : FuncData} {k : Nat} (F : Fun K "_law_pull" "_law_pull" sPull f fd) (mn : mg "len" = none) : FnOk P w K mg base CX0 (k + 1) f fd ["_law_bag_here", "_law_many"] spPull := by
  refine F.ok scPull (fun vs H Q E h => ?_) (fun cdv A outer s H vs Q E hr h => ?_)
  · obtain ⟨b, l, m, rfl, _⟩ := h
    rfl
  · obtain ⟨b, l, m, rfl, m0, m9, hB, q⟩ := h
    refine ⟨_, Evl.pss_cut (ps_if (pw_and (pt_cmpR op_eq (pe_ix ix_list (pv 0) pe_int (fun _ _ => rfl)) pe_int (nomark _)) (pw_and1 (pt_cmpR op_lt (pe_ix ix_list (pv 0) pe_int (fun _ _ => rfl)) (pe_callB call_len_seq (by rfl) mn PySem.boot_len (pa_cons (pe_ix ix_list (pv 0) pe_int (fun _ _ => rfl)) pa_nil)) (nomark _)))).pt
        (pss_cons (ps_set (i := 2) scPull.nd rfl (.inl rfl) (pe_ix ix_list (pe_ix ix_list (pv 0) pe_int (fun _ _ => rfl)) (pe_ix ix_list (pv 0) pe_int (fun _ _ => rfl)) (fun _ _ => rfl)))
        (pss_cons (ps_asg (pe_op op_add (pe_ix ix_list (pv 0) pe_int (fun _ _ => rfl)) pe_int) (pg_sub (pv 0) pe_int set_list))
        (pss_one (ps_if (pt_cmpR op_ge (pv 2) (pe_op op_pow pe_int pe_int) (nomark _)) (pss_one (ps_asg (pv 2) (pg_sub (pv 0) pe_int set_list)))
          (pss_one (ps_asg (pe_op op_mod (pe_op op_add (pe_op op_add (pe_op op_mul (pe_ix ix_list (pv 0) pe_int (fun _ _ => rfl)) pe_int) (pe_op op_mul (pe_op op_mod (pv 2) pe_int) pe_int)) pe_int) pe_int) (pg_sub (pv 0) pe_int set_list)))))))
        pss_nil)
      (pss_cons (ps_if (pt_cmpR op_gt (pe_ix ix_list (pv 0) pe_int (fun _ _ => rfl)) pe_int (nomark _))
        (pss_cons (ps_set (i := 3) scPull.nd rfl (.inl rfl) (pe_op op_mod (pe_ix ix_list (pv 0) pe_int (fun _ _ => rfl)) (pv 1)))
        (pss_cons (ps_asg (pe_op op_fdivW (pe_ix ix_list (pv 0) pe_int (fun _ _ => rfl)) (pv 1)) (pg_sub (pv 0) pe_int set_list))
        (pss_one (ps_ret (pv 3)))))
        pss_nil)
      (pss_cons (ps_set (i := 4) scPull.nd rfl (.inl rfl) (pe_ix ix_list (pv 0) pe_int (fun _ _ => rfl)))
      (pss_cons (ps_set (i := 4) scPull.nd rfl (.inl rfl) (pe_op op_mod (pe_op op_add (pe_op op_add (pe_op op_mul (pe_op op_mod (pe_op op_mul (pv 4) (pv 4)) pe_int) pe_int) (pe_op op_mul (pv 4) pe_int)) pe_int) pe_int))
      (pss_cons (ps_asg (pv 4) (pg_sub (pv 0) pe_int set_list))
      (pss_one (ps_ret (pe_op op_mod (pe_op op_add (pe_op op_fdiv (pv 4) pe_int) (pe_op op_mul (pe_op op_mod (pv 4) pe_int) pe_int)) (pv 1)))))))), ?_⟩
    obtain ⟨xs, i, n, sd, hb, hl, lb, i0, n0, s0, s1⟩ := hB.at_
    have SB : SqL K H b [.ref l, .int i, .int n, .int sd] := .inl (.inl hb)
    refine ⟨fun σ' H' => ∃ v, σ' = [some (.ref b), some (.int m), v, none, none] ∧ SameB b H H' ∧ Bag H' b l, ?_, ?_⟩
    · have stay : ∀ v : Option V, ∃ v' : Option V, ([some (V.ref b), some (V.int m), v, none, none] : L2.St) = [some (V.ref b), some (V.int m), v', none, none] ∧ SameB b H H ∧ Bag H b l := fun v => ⟨v, rfl, SameB.refl b H, hB⟩
      refine ⟨_, rfl, b, _, 2, _, rfl, rfl, SB, atI_nat (j := 2) rfl, rfl, _, rfl, ite2 (fun c => ?_) (fun c => ?_)⟩
      · refine ⟨_, rfl, b, _, 1, _, rfl, rfl, SB, atI_nat (j := 1) rfl, _, rfl, b, _, 0, _, rfl, rfl, SB, atI_nat (j := 0) rfl, l, _, rfl, .inl (.inl (.inl hl)), _, _, rfl, rfl, _, rfl, ite2 (fun c2 => ?_) (fun c2 => ?_)⟩
        · have ci : i < (xs.length : Int) := by simpa using c2
          have hix : xs[i.toNat]? = some (xs[i.toNat]'(by omega)) := List.getElem?_eq_getElem (by omega)
          generalize xs[i.toNat]'(by omega) = cell at hix
          have hat : atI (xs.map V.int) i = some (V.int cell) := at_of (j := i.toNat) (by omega) (by rw [List.getElem?_map, hix]; rfl)
          refine ⟨_, rfl, b, _, 0, _, rfl, rfl, SB, atI_nat (j := 0) rfl, _, rfl, b, _, 1, _, rfl, rfl, SB, atI_nat (j := 1) rfl, l, _, i, _, rfl, rfl, .inl (.inl hl), hat, ?_⟩
          refine ⟨_, rfl, b, _, 1, _, rfl, rfl, SB, atI_nat (j := 1) rfl, _, _, rfl, rfl, _, rfl, b, _, 1, 1, rfl, rfl, hb, rfl, ?_⟩
          have hb1 : (upd H b (.lst [.ref l, .int (i + 1), .int n, .int sd])) b = some (.lst [.ref l, .int (i + 1), .int n, .int sd]) := upd_same
          have SB1 : SqL K (upd H b (.lst [.ref l, .int (i + 1), .int n, .int sd])) b [.ref l, .int (i + 1), .int n, .int sd] := .inl (.inl hb1)
          refine ⟨_, rfl, _, _, rfl, rfl, ⟨by decide, by decide, by decide⟩, _, _, rfl, rfl, _, rfl, ite2 (fun c3 => ?_) (fun c3 => ?_)⟩
          · have c4 : (10 : Int) ^ 18 ≤ cell := of_decide_eq_true c3
            refine ⟨_, rfl, _, rfl, b, _, 2, 2, rfl, rfl, hb1, rfl, ?_⟩
            rw [upd_upd]
            refine ⟨_, rfl, SameB.upd, ⟨xs, i + 1, cell, sd, upd_same, ?_, lb, by omega, by omega, s0, s1⟩⟩
            rw [upd_ne lb]
            exact hl
          · refine ⟨_, rfl, b, _, 3, _, rfl, rfl, SB1, atI_nat (j := 3) rfl, _, _, rfl, rfl, .inr ⟨by decide, by decide⟩, _, rfl, _, _, rfl, rfl, (by show (0 : Int) < 2147483629; decide), _, _, rfl, rfl, .inr ⟨by decide, by decide⟩, _, _, rfl, rfl, _, _, rfl, rfl, _, _, rfl, rfl, (by show (0 : Int) < 2147483647; decide), _, rfl, b, _, 3, 3, rfl, rfl, hb1, rfl, ?_⟩
            rw [upd_upd]
            refine ⟨_, rfl, SameB.upd, ⟨xs, i + 1, n, _, upd_same, ?_, lb, by omega, n0, Int.emod_nonneg _ (by decide), Int.emod_lt_of_pos _ (by decide)⟩⟩
            rw [upd_ne lb]
            exact hl
        · exact stay _
      · exact stay _
    · rintro σ' H' ⟨v, rfl, sb, hB'⟩
      clear hb hl SB
      obtain ⟨xs, i, n, sd, hb, hl, lb, i0, n0, s0, s1⟩ := hB'.at_
      have SB : SqL K H' b [.ref l, .int i, .int n, .int sd] := .inl (.inl hb)
      refine ⟨_, rfl, b, _, 2, _, rfl, rfl, SB, atI_nat (j := 2) rfl, _, _, rfl, rfl, _, rfl, ite2 (fun c => ?_) (fun c => ?_)⟩
      · refine ⟨_, rfl, b, _, 2, _, rfl, rfl, SB, atI_nat (j := 2) rfl, _, rfl, _, _, rfl, rfl, m0, ?_⟩
        refine ⟨_, rfl, b, _, 2, _, rfl, rfl, SB, atI_nat (j := 2) rfl, _, rfl, _, _, rfl, rfl, ⟨m0, m9⟩, _, rfl, b, _, 2, 2, rfl, rfl, hb, rfl, ?_⟩
        refine ⟨_, rfl, q _ _ (sb.trans SameB.upd) ⟨xs, i, n / m, sd, upd_same, ?_, lb, i0, Int.ediv_nonneg n0 (by omega), s0, s1⟩ (Int.emod_nonneg _ (by omega)) (Int.emod_lt_of_pos _ m0)⟩
        rw [upd_ne lb]
        exact hl
      · refine ⟨_, rfl, b, _, 3, _, rfl, rfl, SB, atI_nat (j := 3) rfl, ?_⟩
        refine ⟨_, rfl, _, rfl, _, _, rfl, rfl, .inl ⟨by omega, by omega⟩, _, _, rfl, rfl, (by show (0 : Int) < 2147483587; decide), _, _, rfl, rfl, .inr ⟨by decide, by decide⟩, _, rfl, _, _, rfl, rfl, .inr ⟨by decide, by decide⟩, _, _, rfl, rfl, _, _, rfl, rfl, _, _, rfl, rfl, (by show (0 : Int) < 2147483647; decide), ?_⟩
        refine ⟨_, rfl, _, rfl, b, _, 3, 3, rfl, rfl, hb, rfl, ?_⟩
        refine ⟨_, rfl, _, _, rfl, rfl, ⟨by decide, by decide⟩, _, rfl, _, _, rfl, rfl, (by show (0 : Int) < 8191; decide), _, _, rfl, rfl, .inr ⟨by decide, by decide⟩, _, _, rfl, rfl, _, rfl, _, _, rfl, rfl, m0, ?_⟩
        refine q _ _ (sb.trans SameB.upd) ⟨xs, i, n, _, upd_same, ?_, lb, i0, n0, Int.emod_nonneg _ (by decide), Int.emod_lt_of_pos _ (by decide)⟩ (Int.emod_nonneg _ (by omega)) (Int.emod_lt_of_pos _ m0)
        rw [upd_ne lb]
        exact hl
end
end Gap
namespace Gap
open PySem PySem.Spec PyProof.Rows L2
section
variable {P : Program} {w : World} {K : PySem.W.Frag} {mg : Str → Option Value} {base : Heap}
/-! ### two values that are the same throughout -/
def Flat (u : V) : Prop := u = .non ∨ (∃ b, u = .bl b) ∨ (∃ i, u = .int i) ∨ ∃ s, u = .str s
def Eqv (K : PySem.W.Frag) (H : Hp) : Nat → V → V → Prop
  | 0, u, v => u = v ∧ Flat u
  | d + 1, u, v => (u = v ∧ Flat u) ∨ ∃ (a b : Addr) (xs ys : List V), u = .ref a ∧ v = .ref b ∧ ((SqL K H a xs ∧ SqL K H b ys) ∨ (SqT K H a xs ∧ SqT K H b ys)) ∧ xs.length = ys.length ∧ xs.length ≤ 1000 ∧ ∀ (i : Nat) (x y : V), xs[i]? = some x → ys[i]? = some y → Eqv K H d x y
theorem Eqv.same {H H' : Hp} (e : Same H H') : ∀ {d : Nat} {u v : V}, Eqv K H d u v → Eqv K H' d u v
  | 0, _, _, h => h
  | d + 1, _, _, h => by
    rcases h with h | ⟨a, b, xs, ys, rfl, rfl, h, l, l2, k⟩
    · exact .inl h
    · refine .inr ⟨a, b, xs, ys, rfl, rfl, ?_, l, l2, fun i x y h1 h2 => Eqv.same e (k i x y h1 h2)⟩
      rcases h with ⟨h1, h2⟩ | ⟨h1, h2⟩
      · exact .inl ⟨e.seq h1, e.seq h2⟩
      · exact .inr ⟨Same.seqT e h1, Same.seqT e h2⟩
theorem Eqv.up {H : Hp} : ∀ {d : Nat} {u v : V}, Eqv K H d u v → Eqv K H (d + 1) u v
  | 0, _, _, h => .inl h
  | d + 1, _, _, h => by
    rcases h with h | ⟨a, b, xs, ys, rfl, rfl, h, l, l2, k⟩
    · exact .inl h
    · exact .inr ⟨a, b, xs, ys, rfl, rfl, h, l, l2, fun i x y h1 h2 => Eqv.up (k i x y h1 h2)⟩
theorem Eqv.flat {H : Hp} {d : Nat} {u : V} (h : Flat u) : Eqv K H d u u := by
  cases d with
  | zero => exact ⟨rfl, h⟩
  | succ d => exact .inl ⟨rfl, h⟩
theorem Eqv.int {H : Hp} {d : Nat} {i : Int} : Eqv K H d (.int i) (.int i) := Eqv.flat (.inr (.inr (.inl ⟨i, rfl⟩)))
theorem Eqv.isQ {H : Hp} {d : Nat} {u v : V} {q : Rat} (hu : IsQ K H u q) (hv : IsQ K H v q) : Eqv K H (d + 1) u v := by
  obtain ⟨a, rfl, ha⟩ := hu
  obtain ⟨b, rfl, hb⟩ := hv
  refine .inr ⟨a, b, _, _, rfl, rfl, .inr ⟨ha, hb⟩, rfl, (by show 2 ≤ 1000; decide), fun i x y h1 h2 => ?_⟩
  rw [h1] at h2
  cases h2
  match i, h1 with
  | 0, h1 => cases h1; exact Eqv.int
  | 1, h1 => cases h1; exact Eqv.int
/-- two sequences of the same kind, item by item -/
inductive All2 (R : V → V → Prop) : List V → List V → Prop where
  | nil : All2 R [] []
  | cons {x y : V} {xs ys : List V} (h : R x y) (t : All2 R xs ys) : All2 R (x :: xs) (y :: ys)
theorem All2.len {R : V → V → Prop} {xs ys : List V} (h : All2 R xs ys) : xs.length = ys.length := by
  induction h with
  | nil => rfl
  | cons _ _ ih => exact congrArg Nat.succ ih
theorem All2.get {R : V → V → Prop} {xs ys : List V} (h : All2 R xs ys) : ∀ (i : Nat) (x y : V), xs[i]? = some x → ys[i]? = some y → R x y := by
  induction h with
  | nil => intro i x y h1; simp at h1
  | cons r _ ih =>
    intro i x y h1 h2
    cases i with
    | zero => cases h1; cases h2; exact r
    | succ i => exact ih i x y h1 h2
theorem Eqv.lists {H : Hp} {d : Nat} {a b : Addr} {xs ys : List V} (ha : SqL K H a xs) (hb : SqL K H b ys) (h : All2 (Eqv K H d) xs ys) (hl : xs.length ≤ 1000) : Eqv K H (d + 1) (.ref a) (.ref b) :=
  .inr ⟨a, b, xs, ys, rfl, rfl, .inl ⟨ha, hb⟩, h.len, hl, h.get⟩
theorem Eqv.tups {H : Hp} {d : Nat} {a b : Addr} {xs ys : List V} (ha : SqT K H a xs) (hb : SqT K H b ys) (h : All2 (Eqv K H d) xs ys) (hl : xs.length ≤ 1000) : Eqv K H (d + 1) (.ref a) (.ref b) :=
  .inr ⟨a, b, xs, ys, rfl, rfl, .inr ⟨ha, hb⟩, h.len, hl, h.get⟩
theorem ty_list {H : Hp} {a : Addr} {xs : List V} (h : SqL K H a xs) : TyX K H (.ref a) (.type "list") := by
  rcases h with (h | ⟨o, h⟩) | ⟨o, its, n, h, c, _⟩
  · exact .base (.lst h)
  · exact .base (.frz h)
  · exact .kList h c
theorem ty_tup {H : Hp} {a : Addr} {xs : List V} (h : SqT K H a xs) : TyX K H (.ref a) (.type "tuple") := by
  rcases h with (h | ⟨o, h⟩) | ⟨o, its, n, h, c, _⟩
  · exact .base (.tup h)
  · exact .fTuple h
  · exact .kTuple h c
/-- the type of a flat value -/
def flatTy : V → String
  | .non => "NoneType" | .bl _ => "bool" | .int _ => "int" | .str _ => "str" | _ => "object"
theorem ty_flat {H : Hp} {u : V} (h : Flat u) : TyX K H u (.type (flatTy u)) := by
  rcases h with rfl | ⟨b, rfl⟩ | ⟨i, rfl⟩ | ⟨s, rfl⟩
  · exact .base .non
  · exact .base (.bl b)
  · exact .base (.int i)
  · exact .base (.str s)
def rIxB (K : PySem.W.Frag) : R2 := fun x y H Q => rIxL K x y H Q ∨ rIxT K x y H Q
theorem ix_seq {X : Cx} : IxR X (rIxB X.K) := by
  intro value slice pins s σ H x y v u Q I rx ry h hs
  rcases h with h | h
  · exact ix_list value slice pins s σ H x y v u Q I rx ry h hs
  · exact ix_tup value slice pins s σ H x y v u Q I rx ry h hs
theorem ix_seqK {X : Cx} {K : PySem.W.Frag} (h : X.K = K) : IxR X (rIxB K) := h ▸ ix_seq
theorem at_seq {H : Hp} {a : Addr} {xs : List V} {i : Nat} {x : V} {Q : VK} (h : SqL K H a xs ∨ SqT K H a xs) (e : xs[i]? = some x) {z : Int} (hz : z = (i : Int)) (q : Q x H) : rIxL K (.ref a) (.int z) H Q ∨ rIxT K (.ref a) (.int z) H Q := by
  rcases h with h | h
  · exact .inl ⟨a, xs, z, x, rfl, rfl, h, at_of hz e, q⟩
  · exact .inr ⟨a, xs, z, x, rfl, rfl, h, at_of hz e, q⟩
abbrev sSame : Stmt := topS 20
theorem scSame : FnScope ["_law_told", "_law_due", "_law_k"] ["_law_told", "_law_due"] (defScope sSame) := ⟨rfl, rfl, rfl, by decide +kernel, rfl, by decide +kernel, by decide +kernel⟩
def spSame (K : PySem.W.Frag) (d : Nat) : Sp := fun vs H Q _ => ∃ (u v : V), vs = [u, v] ∧ Eqv K H d u v ∧ ∀ H', Same H H' → Q (.bl true) H'
/-- what the def reads of the built-ins -/
structure Blt (mg : Str → Option Value) : Prop where
  isi : mg "isinstance" = none
  lst : mg "list" = none
  tup : mg "tuple" = none
  bol : mg "bool" = none
  int : mg "int" = none
  str : mg "str" = none
  len : mg "len" = none
  all : mg "all" = none
  rng : mg "range" = none
theorem kit_seq {u : V} (h : Flat u) : PySem.W.kitAny K (.type (flatTy u)) [.type "list", .type "tuple"] = some false := by
  have h1 : kitB (flatTy u) "list" = some false := by
    rcases h with rfl | ⟨b, rfl⟩ | ⟨i, rfl⟩ | ⟨s, rfl⟩
    · exact (by decide +kernel : kitB "NoneType" "list" = some false)
    · exact (by decide +kernel : kitB "bool" "list" = some false)
    · exact (by decide +kernel : kitB "int" "list" = some false)
    · exact (by decide +kernel : kitB "str" "list" = some false)
  have h2 : kitB (flatTy u) "tuple" = some false := by
    rcases h with rfl | ⟨b, rfl⟩ | ⟨i, rfl⟩ | ⟨s, rfl⟩
    · exact (by decide +kernel : kitB "NoneType" "tuple" = some false)
    · exact (by decide +kernel : kitB "bool" "tuple" = some false)
    · exact (by decide +kernel : kitB "int" "tuple" = some false)
    · exact (by decide +kernel : kitB "str" "tuple" = some false)
  exact kitAny_cons (kit_ty h1) (fun _ => kitAny_cons (kit_ty h2) (fun _ => kitAny_nil) (fun z => nomatch z)) (fun z => nomatch z)
theorem kit_some {u : V} (h : Flat u) (n : String) (hn : n = "bool" ∨ n = "int" ∨ n = "str") : ∃ b, PySem.W.kitOne K (.type (flatTy u)) (.type n) = some b := by
  have h1 : ∃ b, kitB (flatTy u) n = some b := by
    rcases hn with rfl | rfl | rfl <;> rcases h with rfl | ⟨b, rfl⟩ | ⟨i, rfl⟩ | ⟨s, rfl⟩
    · exact ⟨false, (by decide +kernel : kitB "NoneType" "bool" = some false)⟩
    · exact ⟨true, (by decide +kernel : kitB "bool" "bool" = some true)⟩
    · exact ⟨false, (by decide +kernel : kitB "int" "bool" = some false)⟩
    · exact ⟨false, (by decide +kernel : kitB "str" "bool" = some false)⟩
    · exact ⟨false, (by decide +kernel : kitB "NoneType" "int" = some false)⟩
    · exact ⟨true, (by decide +kernel : kitB "bool" "int" = some true)⟩
    · exact ⟨true, (by decide +kernel : kitB "int" "int" = some true)⟩
    · exact ⟨false, (by decide +kernel : kitB "str" "int" = some false)⟩
    · exact ⟨false, (by decide +kernel : kitB "NoneType" "str" = some false)⟩
    · exact ⟨false, (by decide +kernel : kitB "bool" "str" = some false)⟩
    · exact ⟨false, (by decide +kernel : kitB "int" "str" = some false)⟩
    · exact ⟨true, (by decide +kernel : kitB "str" "str" = some true)⟩
  obtain ⟨b, e⟩ := h1
  exact ⟨b, kit_ty e⟩
theorem kit_l : PySem.W.kitAny K (.type "list") [.type "list", .type "tuple"] = some true := kitAny_cons (b := true) (kit_ty (by decide +kernel)) (fun z => nomatch z) (fun _ => rfl)
theorem kit_t : PySem.W.kitAny K (.type "tuple") [.type "list", .type "tuple"] = some true := kitAny_cons (b := false) (kit_ty (by decide +kernel)) (fun _ => kitAny_cons (b := true) (kit_ty (by decide +kernel)) (fun z => nomatch z) (fun _ => rfl)) (fun z => nomatch z)
theorem two_tys {H : Hp} : Paired ClsV [V.ty "list", V.ty "tuple"] [.type "list", .type "tuple"] := .cons (.ty _) (.cons (.ty _) .nil)
theorem ok_same0 {f : Addr} {fd : FuncData} (F : Fun K "_law_same" "_law_same" sSame f fd) (T : Blt mg) : FnOk P w K mg base CX0 1 f fd ["_law_told", "_law_due"] (spSame K 0) := by
    refine F.ok scSame (fun vs H Q E h => ?_) (fun cdv A outer s H vs Q E hr h => ?_)
    · obtain ⟨u, v, rfl, _⟩ := h
      rfl
    · obtain ⟨u, v, rfl, ⟨rfl, hF⟩, q⟩ := h
      refine ⟨_, pss_cons (ps_if (pt_val (pe_callB call_isiT (by rfl) T.isi (by decide +kernel) (pa_cons (pv 1) (pa_cons (pe_tup (pa_cons (pe_bltn (v := .ty "list") (by rfl) T.lst (by decide +kernel) rfl) (pa_cons (pe_bltn (v := .ty "tuple") (by rfl) T.tup (by decide +kernel) rfl) pa_nil))) pa_nil))))
          pss_never
          pss_nil)
        (pss_cons (ps_if (pw_or (pt_cmp (pc_isN (pv 1))) (pw_or1 (pt_cmp (pc_isN (pv 0))))).pt (pss_one (ps_ret (pe_and (pe_cmp (pc_isN (pv 1))) (pe_one (pe_cmp (pc_isN (pv 0))))))) pss_nil)
        (pss_cons (ps_if (pw_or (pt_cmpR op_ne (pe_callB call_isi (by rfl) T.isi (by decide +kernel) (pa_cons (pv 0) (pa_cons (pe_bltn (v := .ty "bool") (by rfl) T.bol (by decide +kernel) rfl) pa_nil))) (pe_callB call_isi (by rfl) T.isi (by decide +kernel) (pa_cons (pv 1) (pa_cons (pe_bltn (v := .ty "bool") (by rfl) T.bol (by decide +kernel) rfl) pa_nil))) (nomark _))
              (pw_or1 (pt_cmpR op_ne (pe_callB call_isi (by rfl) T.isi (by decide +kernel) (pa_cons (pv 0) (pa_cons (pe_bltn (v := .ty "int") (by rfl) T.int (by decide +kernel) rfl) pa_nil))) (pe_callB call_isi (by rfl) T.isi (by decide +kernel) (pa_cons (pv 1) (pa_cons (pe_bltn (v := .ty "int") (by rfl) T.int (by decide +kernel) rfl) pa_nil))) (nomark _)))).pt pss_never pss_nil)
        (pss_one (ps_ret (pe_and (pe_cmpR op_eq (pe_callB call_isi (by rfl) T.isi (by decide +kernel) (pa_cons (pv 0) (pa_cons (pe_bltn (v := .ty "str") (by rfl) T.str (by decide +kernel) rfl) pa_nil))) (pe_callB call_isi (by rfl) T.isi (by decide +kernel) (pa_cons (pv 1) (pa_cons (pe_bltn (v := .ty "str") (by rfl) T.str (by decide +kernel) rfl) pa_nil))) (nomark _))
          (pe_one (pe_cmpR op_eq (pv 0) (pv 1) (nomark _)))))))), ?_⟩
      have hT : ∀ H', TyX K H' u (.type (flatTy u)) := fun H' => ty_flat hF
      obtain ⟨b1, e1⟩ := kit_some (K := K) hF "bool" (.inl rfl)
      obtain ⟨b2, e2⟩ := kit_some (K := K) hF "int" (.inr (.inl rfl))
      obtain ⟨b3, e3⟩ := kit_some (K := K) hF "str" (.inr (.inr rfl))
      refine ⟨_, rfl, (by show 2 ≤ sizeLine; decide), fun p np => ⟨u, p, _, _, _, _, rfl, upd_same, two_tys (H := H), hT _, kit_seq hF, _, rfl, iteF ?_⟩⟩
      have sm := same_upd (o := .tup [.ty "list", .ty "tuple"]) np
      by_cases hn : u = .non
      · subst hn
        refine ⟨_, rfl, _, rfl, iteT ?_⟩
        refine ⟨_, rfl, _, rfl, iteT ⟨_, rfl, q _ sm⟩⟩
      · have dn : decide (u = .non) = false := decide_eq_false hn
        refine ⟨_, rfl, _, rfl, ?_⟩
        rw [dn]
        refine iteF ⟨_, rfl, _, rfl, ?_⟩
        rw [dn]
        refine iteF ⟨_, rfl, _, _, _, _, _, rfl, .ty _, hT _, e1, _, rfl, _, _, _, _, _, rfl, .ty _, hT _, e1, rfl, _, rfl, iteNS rfl ?_⟩
        refine ⟨_, rfl, _, _, _, _, _, rfl, .ty _, hT _, e2, _, rfl, _, _, _, _, _, rfl, .ty _, hT _, e2, rfl, _, rfl, iteNS rfl ?_⟩
        refine ⟨_, rfl, _, _, _, _, _, rfl, .ty _, hT _, e3, _, rfl, _, _, _, _, _, rfl, .ty _, hT _, e3, rfl, _, rfl, ite2 (fun _ => ?_) (fun c => absurd (decide_eq_true rfl) c)⟩
        refine ⟨_, rfl, _, rfl, ?_, ?_⟩
        · rcases hF with rfl | ⟨b, rfl⟩ | ⟨i, rfl⟩ | ⟨s, rfl⟩
          · exact absurd rfl hn
          · rfl
          · rfl
          · rfl
        · rw [decide_eq_true (rfl : u = u)]
          exact q _ sm
theorem ok_same {f : Addr} {fd : FuncData} (F : Fun K "_law_same" "_law_same" sSame f fd) (T : Blt mg) (bS : Binds K fd ["_law_told", "_law_due"] []) (gS : mg "_law_same" = some (.ref f)) :
    ∀ d : Nat, FnOk P w K mg base CX0 (d + 1) f fd ["_law_told", "_law_due"] (spSame K d) := by
  intro d
  induction d with
  | zero => exact ok_same0 F T
  | succ d ih =>
    refine F.ok scSame (fun vs H Q E h => ?_) (fun cdv A outer s H vs Q E hr h => ?_)
    · obtain ⟨u, v, rfl, _⟩ := h
      rfl
    · obtain ⟨u, v, rfl, hE, q⟩ := h
      refine ⟨_, pss_cons (ps_if (pt_val (pe_callB call_isiT (by rfl) T.isi (by decide +kernel) (pa_cons (pv 1) (pa_cons (pe_tup (pa_cons (pe_bltn (v := .ty "list") (by rfl) T.lst (by decide +kernel) rfl) (pa_cons (pe_bltn (v := .ty "tuple") (by rfl) T.tup (by decide +kernel) rfl) pa_nil))) pa_nil))))
          (pss_cons (ps_if (pw_or (pt_cmpR op_ne (pe_callB call_isi (by rfl) T.isi (by decide +kernel) (pa_cons (pv 0) (pa_cons (pe_bltn (v := .ty "list") (by rfl) T.lst (by decide +kernel) rfl) pa_nil))) (pe_callB call_isi (by rfl) T.isi (by decide +kernel) (pa_cons (pv 1) (pa_cons (pe_bltn (v := .ty "list") (by rfl) T.lst (by decide +kernel) rfl) pa_nil))) (nomark _))
              (pw_or1 (pt_cmpR op_ne (pe_callB call_isi (by rfl) T.isi (by decide +kernel) (pa_cons (pv 0) (pa_cons (pe_bltn (v := .ty "tuple") (by rfl) T.tup (by decide +kernel) rfl) pa_nil))) (pe_callB call_isi (by rfl) T.isi (by decide +kernel) (pa_cons (pv 1) (pa_cons (pe_bltn (v := .ty "tuple") (by rfl) T.tup (by decide +kernel) rfl) pa_nil))) (nomark _)))).pt pss_never pss_nil)
          (pss_one (ps_ret (pe_and (pe_cmpR op_eq (pe_callB call_len_seq (by rfl) T.len PySem.boot_len (pa_cons (pv 0) pa_nil)) (pe_callB call_len_seq (by rfl) T.len PySem.boot_len (pa_cons (pv 1) pa_nil)) (nomark _))
            (pe_one (pe_callB (cr_all rfl) (by rfl) T.all (by decide +kernel) (pa_cons (pe_lc (own := [("_law_k", 2)]) (g := gName 2) (tt := tYes) rfl scSame.nd (pi_range1 rfl T.rng (pa_cons (pe_callB call_len_seq (by rfl) T.len PySem.boot_len (pa_cons (pv 1) pa_nil)) pa_nil))
                (blkOk_by (own := [("_law_k", 2)]) (N := ["_law_told", "_law_due", "_law_k"]) (sc := defScope sSame) (by decide +kernel)) (fun _ _ _ _ _ => pg_name (i := 2) scSame.nd rfl (.inl rfl)) (fun _ _ _ _ _ => pts_nil)
                (fun _ _ _ _ _ => pe_call ih hr (by rfl) gS F.kp bS .nil pass0 (pa_cons (pe_ix (ix_seqK (K := K) rfl) (pv 0) (pv 2) (fun _ _ => rfl)) (pa_cons (pe_ix (ix_seqK (K := K) rfl) (pv 1) (pv 2) (fun _ _ => rfl)) pa_nil)))) pa_nil)))))))
          pss_nil)
        (pss_cons (ps_if (pw_or (pt_cmp (pc_isN (pv 1))) (pw_or1 (pt_cmp (pc_isN (pv 0))))).pt (pss_one (ps_ret (pe_and (pe_cmp (pc_isN (pv 1))) (pe_one (pe_cmp (pc_isN (pv 0))))))) pss_nil)
        (pss_cons (ps_if (pw_or (pt_cmpR op_ne (pe_callB call_isi (by rfl) T.isi (by decide +kernel) (pa_cons (pv 0) (pa_cons (pe_bltn (v := .ty "bool") (by rfl) T.bol (by decide +kernel) rfl) pa_nil))) (pe_callB call_isi (by rfl) T.isi (by decide +kernel) (pa_cons (pv 1) (pa_cons (pe_bltn (v := .ty "bool") (by rfl) T.bol (by decide +kernel) rfl) pa_nil))) (nomark _))
              (pw_or1 (pt_cmpR op_ne (pe_callB call_isi (by rfl) T.isi (by decide +kernel) (pa_cons (pv 0) (pa_cons (pe_bltn (v := .ty "int") (by rfl) T.int (by decide +kernel) rfl) pa_nil))) (pe_callB call_isi (by rfl) T.isi (by decide +kernel) (pa_cons (pv 1) (pa_cons (pe_bltn (v := .ty "int") (by rfl) T.int (by decide +kernel) rfl) pa_nil))) (nomark _)))).pt pss_never pss_nil)
        (pss_one (ps_ret (pe_and (pe_cmpR op_eq (pe_callB call_isi (by rfl) T.isi (by decide +kernel) (pa_cons (pv 0) (pa_cons (pe_bltn (v := .ty "str") (by rfl) T.str (by decide +kernel) rfl) pa_nil))) (pe_callB call_isi (by rfl) T.isi (by decide +kernel) (pa_cons (pv 1) (pa_cons (pe_bltn (v := .ty "str") (by rfl) T.str (by decide +kernel) rfl) pa_nil))) (nomark _))
          (pe_one (pe_cmpR op_eq (pv 0) (pv 1) (nomark _)))))))), ?_⟩
      rcases hE with ⟨rfl, hF⟩ | ⟨a, b, xs, ys, rfl, rfl, hs, hl, h1000, hk⟩
      · have hT : ∀ H', TyX K H' u (.type (flatTy u)) := fun H' => ty_flat hF
        obtain ⟨b1, e1⟩ := kit_some (K := K) hF "bool" (.inl rfl)
        obtain ⟨b2, e2⟩ := kit_some (K := K) hF "int" (.inr (.inl rfl))
        obtain ⟨b3, e3⟩ := kit_some (K := K) hF "str" (.inr (.inr rfl))
        refine ⟨_, rfl, (by show 2 ≤ sizeLine; decide), fun p np => ⟨u, p, _, _, _, _, rfl, upd_same, two_tys (H := H), hT _, kit_seq hF, _, rfl, iteF ?_⟩⟩
        have sm := same_upd (o := .tup [.ty "list", .ty "tuple"]) np
        by_cases hn : u = .non
        · subst hn
          refine ⟨_, rfl, _, rfl, iteT ?_⟩
          refine ⟨_, rfl, _, rfl, iteT ⟨_, rfl, q _ sm⟩⟩
        · have dn : decide (u = .non) = false := decide_eq_false hn
          refine ⟨_, rfl, _, rfl, ?_⟩
          rw [dn]
          refine iteF ⟨_, rfl, _, rfl, ?_⟩
          rw [dn]
          refine iteF ⟨_, rfl, _, _, _, _, _, rfl, .ty _, hT _, e1, _, rfl, _, _, _, _, _, rfl, .ty _, hT _, e1, rfl, _, rfl, iteNS rfl ?_⟩
          refine ⟨_, rfl, _, _, _, _, _, rfl, .ty _, hT _, e2, _, rfl, _, _, _, _, _, rfl, .ty _, hT _, e2, rfl, _, rfl, iteNS rfl ?_⟩
          refine ⟨_, rfl, _, _, _, _, _, rfl, .ty _, hT _, e3, _, rfl, _, _, _, _, _, rfl, .ty _, hT _, e3, rfl, _, rfl, ite2 (fun _ => ?_) (fun c => absurd (decide_eq_true rfl) c)⟩
          refine ⟨_, rfl, _, rfl, ?_, ?_⟩
          · rcases hF with rfl | ⟨b, rfl⟩ | ⟨i, rfl⟩ | ⟨s, rfl⟩
            · exact absurd rfl hn
            · rfl
            · rfl
            · rfl
          · rw [decide_eq_true (rfl : u = u)]
            exact q _ sm
      · have la : SqL K H a xs ∨ SqT K H a xs := hs.elim (fun z => .inl z.1) (fun z => .inr z.1)
        have lb : SqL K H b ys ∨ SqT K H b ys := hs.elim (fun z => .inl z.2) (fun z => .inr z.2)
        obtain ⟨t, ht, tyA, tyB, ⟨bl, el⟩, ⟨bt, et⟩⟩ : ∃ t : String, PySem.W.kitAny K (.type t) [.type "list", .type "tuple"] = some true ∧ (∀ H', Same H H' → TyX K H' (.ref a) (.type t)) ∧ (∀ H', Same H H' → TyX K H' (.ref b) (.type t)) ∧ (∃ z, PySem.W.kitOne K (.type t) (.type "list") = some z) ∧ (∃ z, PySem.W.kitOne K (.type t) (.type "tuple") = some z) := by
          rcases hs with ⟨h1, h2⟩ | ⟨h1, h2⟩
          · exact ⟨"list", kit_l, fun H' e => ty_list (e.seq h1), fun H' e => ty_list (e.seq h2), ⟨true, kit_ty (by decide +kernel)⟩, ⟨false, kit_ty (by decide +kernel)⟩⟩
          · exact ⟨"tuple", kit_t, fun H' e => ty_tup (Same.seqT e h1), fun H' e => ty_tup (Same.seqT e h2), ⟨false, kit_ty (by decide +kernel)⟩, ⟨true, kit_ty (by decide +kernel)⟩⟩
        have up : ∀ {H' : Hp} {c : Addr} {zs : List V}, Same H H' → (SqL K H c zs ∨ SqT K H c zs) → (SqL K H' c zs ∨ SqT K H' c zs) := fun e z => z.elim (fun z => .inl (e.seq z)) (fun z => .inr (Same.seqT e z))
        refine ⟨_, rfl, (by show 2 ≤ sizeLine; decide), fun p np => ⟨.ref b, p, _, _, _, _, rfl, upd_same, two_tys (H := H), tyB _ (same_upd np), ht, _, rfl, iteT ?_⟩⟩
        have sm := same_upd (o := .tup [.ty "list", .ty "tuple"]) np
        generalize upd H p (.tup [.ty "list", .ty "tuple"]) = H1 at sm
        refine ⟨_, rfl, _, _, _, _, _, rfl, .ty _, tyA _ sm, el, _, rfl, _, _, _, _, _, rfl, .ty _, tyB _ sm, el, rfl, _, rfl, iteNS rfl ?_⟩
        refine ⟨_, rfl, _, _, _, _, _, rfl, .ty _, tyA _ sm, et, _, rfl, _, _, _, _, _, rfl, .ty _, tyB _ sm, et, rfl, _, rfl, iteNS rfl ?_⟩
        refine ⟨_, rfl, a, xs, rfl, up sm la, _, rfl, b, ys, rfl, up sm lb, rfl, _, rfl, ite2 (fun _ => ?_) (fun c => absurd (decide_eq_true (by rw [hl])) c)⟩
        refine ⟨_, rfl, b, ys, rfl, up sm lb, (ys.length : Int), rfl, by omega, by omega, fun D nD => ?_⟩
        refine lc_range (lo := 0) (n := (ys.length : Int).toNat) (fun i H' => Same H1 H' ∧ H' D = some (.lst ((List.replicate i true).map V.bl))) ⟨same_upd nD, upd_same⟩ ?_ ?_
        · rintro i H' hi ⟨s2, hD⟩
          have hi : i < ys.length := by omega
          have gy : ys[i]? = some ys[i] := List.getElem?_eq_getElem hi
          have gx : xs[i]? = some (xs[i]'(by omega)) := List.getElem?_eq_getElem (by omega)
          refine ⟨rfl, ?_⟩
          unfold tYes
          refine iteT ?_
          refine ⟨_, rfl, _, rfl, at_seq (i := i) (up (sm.trans s2) la) gx (by omega) ⟨_, rfl, _, rfl, at_seq (i := i) (up (sm.trans s2) lb) gy (by omega) ?_⟩⟩
          refine ⟨_, _, rfl, Eqv.same (sm.trans s2) (hk i _ _ gx gy), fun H3 s3 => ?_⟩
          refine ⟨_, s3 _ _ hD, ?_, fun c o e => ?_, ?_⟩
          · rw [List.length_map, List.length_replicate]
            exact small1000 (by omega)
          · rw [upd_ne (ne_of_none e nD)]
            exact s3 _ _ (s2 _ _ e)
          · rw [upd_same, List.replicate_succ', List.map_append]
            rfl
        · rintro H' ⟨s2, hD⟩
          refine ⟨D, _, rfl, .inl (.inl hD), ?_⟩
          have ea : (List.replicate (ys.length : Int).toNat true).all id = true := List.all_eq_true.mpr (fun z hz => List.eq_of_mem_replicate hz)
          show Q (V.bl ((List.replicate (ys.length : Int).toNat true).all id)) H'
          rw [ea]
          exact q _ (sm.trans s2)
end
end Gap
namespace Gap
open PySem PySem.Spec PyProof.Rows L2
/-! ### a def that may be called: where it stands, what it keeps -/
structure Cal (P : Program) (w : World) (K : PySem.W.Frag) (mg : Str → Option Value) (base : Heap) (k : Nat) (name : Str) (ps : List Str) (sp : Sp) : Prop where
  ex : ∃ (f : Addr) (fd : FuncData), FnOk P w K mg base CX0 k f fd ps sp ∧ Binds K fd ps [] ∧ mg name = some (.ref f) ∧ PySem.W.keepIn K (.ref f) = true
section
variable {P : Program} {w : World} {K : PySem.W.Frag} {mg : Str → Option Value} {base : Heap}
theorem Cal.mono {j k : Nat} {name : Str} {ps : List Str} {sp : Sp} (C : Cal P w K mg base j name ps sp) (h : j ≤ k) : Cal P w K mg base k name ps sp := by
  obtain ⟨f, fd, F, r⟩ := C.ex
  exact ⟨f, fd, F.mono h, r⟩
end
section
variable {X : Cx} {CX : CXT} {k : Nat} {f : Addr} {fd : FuncData} {ps ks : List Str} {sp : Sp} {E : XK} {x : Str} {p pos : Pos} {kws : List Keyword} {tk : TA} {g : List Value → List Value → List Value} {gV : List V → List V → List V}
/-- f(k = v, ..), nothing by place -/
theorem pe_callK0 (F : FnOk X.prog X.w X.K X.mg X.base CX k f fd ps sp) (hr : Room k X.A) (hg : Gl X x) (hm : X.mg x = some (.ref f)) (hk : PySem.W.keepIn X.K (.ref f) = true) (hb : KBinds X.K fd ps ks g gV) (hx : Passes CX X E)
    (hkw : PK X kws tk) (all : (backToKw pos (keywordEach kws X.env)).all (·.1.isSome) = true := by rfl) (names : (backToKw pos (keywordEach kws X.env)).filterMap (·.1) = ks := by rfl)
    (nodebug : (x == ("__debug__" : Str)) = false := by decide) (plain : ((backTo pos (starEach [] X.env)).any (·.1) || (backToKw pos (keywordEach kws X.env)).any (·.1.isNone)) = false := by rfl) :
    PE X (.Call (.Name x p) [] kws pos) (tCallK sp gV E tNil tk) := by
  refine ⟨fun pins s σ H Q I h => wpAny_Call_Name_kw (ld_glob I hg hm ?_ nodebug)⟩
  refine PySem.W.callWith_KW0 (h₀ := X.base) I.ok.mod.kin hk all (thn (hkw.run pos pins s σ H _ I h) fun ws s2 z => ?_) plain
  obtain ⟨zs, H2, J, rz, q2⟩ := z
  refine ⟨J.kIn, ?_⟩
  rw [names]
  exact run_fnk F hr hb hx J .nil rz q2
end
end Gap
namespace Gap
open PySem PySem.Spec PyProof.Rows L2
section
variable {P : Program} {w : World} {K : PySem.W.Frag} {mg : Str → Option Value} {base : Heap}
/-! ### a def whose code object is known (it makes lambdas) -/
structure FunC (K : PySem.W.Frag) (name : Str) (st : Stmt) (f c : Addr) (fd : FuncData) : Prop where
  ex : ∃ (oc : Value) (od : Option Addr) (kV doc pm : Value) (an : Option Addr) (ct : Value) (osl : Array (Option Value)), fd = PySem.W.fnOf name name (defArgs st) (defBody st) (defScope st) .none kV doc pm an (.ref c) ct ∧ K.lookup f = some ⟨oc, od, .func fd, osl⟩ ∧ PySem.W.codeIn K (.ref c) name = true
theorem FunC.ok {name : Str} {st : Stmt} {f c : Addr} {fd : FuncData} {N ps : List Str} {k : Nat} {sp : Sp} (F : FunC K name st f c fd) (S : FnScope N ps (defScope st)) (len : ∀ vs H Q E, sp vs H Q E → vs.length = ps.length)
    (walk : ∀ (A : Around) (outer : List Env) (s : Shared) (H : Hp) (vs : List V) (Q : VK) (E : XK), Room k (A.deeper (envOfC name (defScope st) s.heap.objs.size f (.ref c))) → sp vs H Q E →
      ∃ t, PSs (cxOf CX0 P w K mg base N name (defScope st) f (.ref c) A outer s H E).nox (defBody st) t ∧ t { nx := fun _ H' => Q .non H', rt := Q } (L2.start N vs) H) : FnOk P w K mg base CX0 (k + 1) f fd ps sp := by
  obtain ⟨oc, od, kV, doc, pm, an, ct, osl, rfl, lk, cd⟩ := F.ex
  refine fn_of lk cd S len fun A outer s H vs Q E hr told => ?_
  obtain ⟨t, h, q⟩ := walk A outer s H vs Q E hr told
  exact ⟨t, h.nox, q⟩
/-- tables stay where only lists are written -/
theorem Bag.tabs {T : List (Addr × Str)} {H H' : Hp} {b bl : Addr} (h : Bag H b bl) (e : SameB b H H') (t : LamX.Tabs T H) : LamX.Tabs T H' := fun p hp => by
  obtain ⟨ps, h1, h2, h3⟩ := t p hp
  obtain ⟨xs, i, n, s, hb, _⟩ := h
  refine ⟨ps, e _ _ (ne_of h1 hb (by intro z; cases z)) h1, h2, fun pos cv hc => ?_⟩
  obtain ⟨c, e1, e2⟩ := h3 pos cv hc
  exact ⟨c, e1, e _ _ (ne_of e2 hb (by intro z; unfold LamX.CodeO at z; cases z)) e2⟩
theorem Bag.extN {H H' : Hp} {b bl : Addr} (h : Bag H b bl) (e : LamX.ExtN H H') : Bag H' b bl := by
  obtain ⟨xs, i, n, s, h1, h2, r⟩ := h
  exact ⟨xs, i, n, s, e _ _ h1 (by intro ps z; cases z), e _ _ h2 (by intro ps z; cases z), r⟩
theorem SqT.extN {H H' : Hp} (e : LamX.ExtN H H') {c : Addr} {zs : List V} (z : SqT K H c zs) : SqT K H' c zs := by
  rcases z with z | z
  · refine .inl ?_
    rcases z with z | ⟨o, z⟩
    · exact .inl (e _ _ z (by intro ps y; cases y))
    · exact .inr ⟨o, e _ _ z (by intro ps y; cases y)⟩
  · exact .inr z
theorem IsQ.extN {H H' : Hp} (e : LamX.ExtN H H') {v : V} {q : Rat} (z : IsQ K H v q) : IsQ K H' v q := by
  obtain ⟨c, e1, z⟩ := z
  exact ⟨c, e1, SqT.extN e z⟩
/-- the law's own try, called with a lambda -/
structure TriedAt (K : PySem.W.Frag) (mg : Str → Option Value) (S M : Addr) : Prop where
  ex : ∃ (g : Addr) (fd : FuncData), Fun K "_law_tried" "_law_tried" sTried g fd ∧ mg "_law_tried" = some (.ref g)
  gS : mg "StoneError" = some (.ref S)
  gM : mg "Missing" = some (.ref M)
theorem pe_tried {X : Cx} {S M c Pt : Addr} {k : Nat} {params : Arguments} {body : Expr} {scope : Scope} {t : XK → TE} {p lpos pos : Pos} (T : TriedAt X.K X.mg S M) (glob : Gl X "_law_tried") (TB : LamX.TabB X.base X.mg c Pt) (code : X.env.code = .ref c) (room : Room (k + 2) X.A) (L : LamX.LamS X.env.scope scope)
    (dflt : defaultsOf params X.env = ([], [])) (bind : ∀ (q : Str) (cl : List (Str × Addr)) (pm cv ctv : Value), bindArgs (PySem.W.kla_fn "<lambda>" q params body scope cl pm cv ctv) ⟨[], []⟩ = pure [])
    (act : ∀ (A : Around) (outer : List Env) (s : Shared) (H : Hp) (E : XK) (f c' : Addr), Room k (A.deeper (LamX.lamEnv X scope s.heap.objs.size f c')) → PE (LamX.lamCx X A outer s H E scope f c') body (t E)) :
    PE X (.Call (.Name "_law_tried" p) [.Lambda params body scope lpos] [] pos) (LamX.tLam [(Pt, X.env.qual ++ "<lambda>")] (TTried X.K S M) t) := by
  obtain ⟨g, fd, F, gg⟩ := T.ex
  have bd : Binds X.K fd ["_law_act"] [] := F.binds fun _ _ _ _ _ _ us hl => match us, hl with | [_], _ => rfl
  obtain ⟨oc, od, kV, doc, pm, an, cdv, ct, osl, rfl, lk, cd⟩ := F.ex
  exact LamX.pe_lamcall glob gg F.kp lk cd bd scTried rfl (.inl rfl) (tried_gives T.gS T.gM) TB code (List.mem_singleton.mpr rfl) (fun q hq _ => by rw [List.mem_singleton.mp hq]) room L dflt bind act
/-- part, as it is called here -/
structure PartAt (P : Program) (w : World) (K : PySem.W.Frag) (mg : Str → Option Value) (base : Heap) (k : Nat) (C : Addr) : Prop where
  ex : ∃ (f : Addr) (fd : FuncData), FnOk P w K mg base CX0 k f fd ["over", "under"] spPart ∧ FnOk P w K mg base (L2.CX P w) k f fd ["over", "under"] (spPartX C) ∧ mg "part" = some (.ref f) ∧ PySem.W.keepIn K (.ref f) = true ∧ Binds K fd ["over", "under"] [] ∧
    (∃ ds, Vals [.int 1] ds ∧ Binds K fd ["over", "under"] ds) ∧ KBinds K fd ["over", "under"] ["under"] (fun us ws => match us, ws with | [r], [s] => [r, s] | _, _ => []) (fun us ws => match us, ws with | [r], [s] => [r, s] | _, _ => [])
/-- an error's class as the law's try knows it -/
structure ErrK (K : PySem.W.Frag) (S M C : Addr) : Prop where
  xf : XfC K C
  no : PySem.W.findIn K (.ref C) "called" = some none
  yes : PySem.W.exmAny K (.ref C) [.ref S, .ref M] = some true
theorem divInt_one (i : Int) : Rat.divInt i 1 = (i : Rat) := Rat.num_divInt_den (i : Rat)
end
end Gap
namespace Gap
open PySem PySem.Spec PyProof.Rows L2
section
variable {P : Program} {w : World} {K : PySem.W.Frag} {mg : Str → Option Value} {base : Heap}
/-! ### a drawn fraction -/
abbrev sDrawn : Stmt := topS 27
theorem scDrawn : FnScope ["_law_bag_here", "_law_some"] ["_law_bag_here"] (defScope sDrawn) := ⟨rfl, rfl, rfl, by decide +kernel, rfl, by decide +kernel, by decide +kernel⟩
/-- what a draw hands back: some fraction, not too great; the bag has gone on -/
def RetD (K : PySem.W.Frag) (n : Nat) (b bl : Addr) (H : Hp) (Q : VK) : Prop := ∀ v q H', SameB b H H' → Bag H' b bl → IsQ K H' v q → Bq n q → Q v H'
def spDrawn (K : PySem.W.Frag) : Sp := fun vs H Q _ => ∃ (b bl : Addr), vs = [.ref b] ∧ Bag H b bl ∧ RetD K 70 b bl H Q

theorem ok_drawn {f fp fl : Addr} {fd fdp fdl : FuncData} {k : Nat} (F : Fun K "_law_part" "_law_part" sDrawn f fd) (PL : FnOk P w K mg base CX0 k fp fdp ["_law_bag_here", "_law_many"] spPull) (bp : Binds K fdp ["_law_bag_here", "_law_many"] []) (gp : mg "_law_pull" = some (.ref fp)) (kp : PySem.W.keepIn K (.ref fp) = true)
    (LW : FnOk P w K mg base CX0 k fl fdl ["_law_above", "_law_beneath"] spPart) (bl : Binds K fdl ["_law_above", "_law_beneath"] []) (gl : mg "_law_low" = some (.ref fl)) (kl : PySem.W.keepIn K (.ref fl) = true) :
    FnOk P w K mg base CX0 (k + 1) f fd ["_law_bag_here"] (spDrawn K) := by
  refine F.ok scDrawn (fun vs H Q E h => ?_) (fun cdv A outer s H vs Q E hr h => ?_)
  · obtain ⟨b, bl', rfl, _⟩ := h
    rfl
  · obtain ⟨b, bl', rfl, hB, q⟩ := h
    refine ⟨_, pss_cons (ps_set (i := 1) scDrawn.nd rfl (.inl rfl) (pe_call LW hr (by rfl) gl kl bl .nil pass0 (pa_cons (pe_op op_sub (pe_call PL hr (by rfl) gp kp bp .nil pass0 (pa_cons (pv 0) (pa_cons pe_int pa_nil))) pe_int)
        (pa_cons (pe_op op_add pe_int (pe_call PL hr (by rfl) gp kp bp .nil pass0 (pa_cons (pv 0) (pa_cons pe_int pa_nil)))) pa_nil))))
      (pss_cons (ps_if (pt_cmpR op_eq (pe_call PL hr (by rfl) gp kp bp .nil pass0 (pa_cons (pv 0) (pa_cons pe_int pa_nil))) pe_int (nomark _))
        (pss_one (ps_ret (pe_call LW hr (by rfl) gl kl bl .nil pass0 (pa_cons (pe_op op_sub (pe_call PL hr (by rfl) gp kp bp .nil pass0 (pa_cons (pv 0) (pa_cons (pe_op op_pow pe_int pe_int) pa_nil))) (pe_op op_mul pe_int (pe_op op_pow pe_int pe_int)))
          (pa_cons (pe_op op_add pe_int (pe_call PL hr (by rfl) gp kp bp .nil pass0 (pa_cons (pv 0) (pa_cons (pe_op op_pow pe_int pe_int) pa_nil)))) pa_nil)))))
        pss_nil)
      (pss_one (ps_ret (pe_ix ix_list (pe_lst (pa_cons (pv 1) (pa_cons (pv 1) (pa_cons (pe_tup (pa_cons pe_int (pa_cons pe_int pa_nil))) (pa_cons (pe_tup (pa_cons pe_int (pa_cons pe_int pa_nil))) pa_nil)))))
        (pe_call PL hr (by rfl) gp kp bp .nil pass0 (pa_cons (pv 0) (pa_cons pe_int pa_nil))) (fun _ _ => rfl))))), ?_⟩
    refine ⟨_, rfl, b, bl', 61, rfl, by decide, by decide +kernel, hB, fun r1 H1 s1 B1 l1 u1 => ⟨_, _, rfl, rfl, ?_⟩⟩
    refine ⟨_, rfl, b, bl', 12, rfl, by decide, by decide +kernel, B1, fun r2 H2 s2 B2 l2 u2 => ⟨_, _, rfl, rfl, ?_⟩⟩
    have n1 : (1 + r2 : Int) ≠ 0 := by omega
    have z1 : Bi 5 (r1 - 30) := bi_of (by simp; omega) (by simp; omega)
    have z2 : Bi 5 (1 + r2) := bi_of (by simp; omega) (by simp; omega)
    refine ⟨_, _, rfl, n1, z2.mono (by decide), fun p np => ?_⟩
    have bq := (Bq.of z1 z2 n1).mono (show 5 ≤ 70 by decide)
    generalize Rat.divInt (r1 - 30) (1 + r2) = qs at bq
    have s3 := SameB.of (b := b) (same_upd (o := .tup [.int qs.num, .int (qs.den : Int)]) np)
    have B3 := B2.same (same_upd (o := .tup [.int qs.num, .int (qs.den : Int)]) np)
    have hp : (upd H2 p (.tup [.int qs.num, .int (qs.den : Int)])) p = some (.tup [.int qs.num, .int (qs.den : Int)]) := upd_same
    generalize upd H2 p (.tup [.int qs.num, .int (qs.den : Int)]) = H3 at s3 B3 hp
    have pb : p ≠ b := B2.ne np
    have s03 := (s1.trans s2).trans s3
    refine ⟨_, rfl, b, bl', 4, rfl, by decide, by decide +kernel, B3, fun r4 H4 s4 B4 l4 u4 => ⟨rfl, _, rfl, ite2 (fun _ => ?_) (fun _ => ?_)⟩⟩
    · refine ⟨_, rfl, _, _, rfl, rfl, ⟨by decide, by decide, by decide⟩, b, bl', _, rfl, by decide, by decide +kernel, B4, fun r5 H5 s5 B5 l5 u5 => ⟨_, _, rfl, rfl, ⟨by decide, by decide, by decide⟩, _, _, rfl, rfl, .inl ⟨by decide, by decide⟩, _, _, rfl, rfl, ?_⟩⟩
      refine ⟨_, rfl, _, _, rfl, rfl, ⟨by decide, by decide, by decide⟩, b, bl', _, rfl, by decide, by decide +kernel, B5, fun r6 H6 s6 B6 l6 u6 => ⟨_, _, rfl, rfl, ?_⟩⟩
      have e20 : ((10 : Int) ^ (20 : Int).toNat) = 100000000000000000000 := by decide
      have e19 : ((10 : Int) ^ (19 : Int).toNat) = 10000000000000000000 := by decide
      rw [e20] at u5 u6
      have n2 : (1 + r6 : Int) ≠ 0 := by omega
      have z3 : Bi 70 (r5 - 5 * 10 ^ (19 : Int).toNat) := by
        rw [e19]
        exact bi_of (by simp; omega) (by simp; omega)
      have z4 : Bi 70 (1 + r6) := bi_of (by simp; omega) (by simp; omega)
      refine ⟨_, _, rfl, n2, z4.mono (by decide), fun p2 np2 => ?_⟩
      refine q _ _ _ (((s03.trans s4).trans (s5.trans s6)).trans (SameB.of (same_upd np2))) (B6.same (same_upd np2)) (isQ_at upd_same) (Bq.of z3 z4 n2)
    · refine ⟨_, rfl, _, rfl, (by show 2 ≤ sizeLine; decide), fun pa na => ⟨(by show 2 ≤ sizeLine; decide), fun pc nc => ⟨(by show 4 ≤ sizeLine; decide), fun pd nd => ?_⟩⟩⟩
      have hp4 := s4 _ _ pb hp
      have sa := same_upd (o := .tup [.int 0, .int 1]) na
      have sc := same_upd (o := .tup [.int 1, .int 1]) nc
      have sd := same_upd (o := .lst [.ref p, .ref p, .ref pa, .ref pc]) nd
      have hd : (upd (upd (upd H4 pa (.tup [.int 0, .int 1])) pc (.tup [.int 1, .int 1])) pd (.lst [.ref p, .ref p, .ref pa, .ref pc])) pd = some (.lst [.ref p, .ref p, .ref pa, .ref pc]) := upd_same
      have ha := sd _ _ (sc _ _ (upd_same (H := H4) (a := pa) (o := .tup [.int 0, .int 1])))
      have hc := sd _ _ (upd_same (H := upd H4 pa (.tup [.int 0, .int 1])) (a := pc) (o := .tup [.int 1, .int 1]))
      have hpp := sd _ _ (sc _ _ (sa _ _ hp4))
      have B5 := B4.same ((sa.trans sc).trans sd)
      have s5 := SameB.of (b := b) ((sa.trans sc).trans sd)
      generalize upd (upd (upd H4 pa (.tup [.int 0, .int 1])) pc (.tup [.int 1, .int 1])) pd (.lst [.ref p, .ref p, .ref pa, .ref pc]) = H5 at hd ha hc hpp B5 s5
      refine ⟨_, rfl, b, bl', 4, rfl, by decide, by decide +kernel, B5, fun r6 H6 s6 B6 l6 u6 => ?_⟩
      have ndb : pd ≠ b := fun z => by
        obtain ⟨xs, i, n, s, h1, _⟩ := B5
        rw [z, h1] at hd
        injection hd with hd
        injection hd with hd
        simp at hd
      have tp : ∀ {x : Addr} {q : Rat}, H5 x = some (.tup [.int q.num, .int (q.den : Int)]) → IsQ K H6 (.ref x) q := fun {x q} h => B5.isQ s6 (isQ_at h)
      have go := (s03.trans s4).trans (s5.trans s6)
      have hd6 : SqL K H6 pd [.ref p, .ref p, .ref pa, .ref pc] := .inl (.inl (s6 _ _ ndb hd))
      rcases (show r6 = 0 ∨ r6 = 1 ∨ r6 = 2 ∨ r6 = 3 by omega) with rfl | rfl | rfl | rfl
      · exact ⟨pd, _, _, _, rfl, rfl, hd6, atI_nat (j := 0) rfl, q _ _ _ go B6 (tp hpp) bq⟩
      · exact ⟨pd, _, _, _, rfl, rfl, hd6, atI_nat (j := 1) rfl, q _ _ _ go B6 (tp hpp) bq⟩
      · exact ⟨pd, _, _, _, rfl, rfl, hd6, atI_nat (j := 2) rfl, q _ _ _ go B6 (tp (q := 0) ha) (bq0.mono (by decide))⟩
      · exact ⟨pd, _, _, _, rfl, rfl, hd6, atI_nat (j := 3) rfl, q _ _ _ go B6 (tp (q := 1) hc) (bq1.mono (by decide))⟩
end
end Gap
namespace Gap
open PySem PySem.Spec PyProof.Rows L2
section
variable {P : Program} {w : World} {K : PySem.W.Frag} {mg : Str → Option Value} {base : Heap}
/-- of two fractions (pre of both) the fraction op -/
def sp2 (K : PySem.W.Frag) (op : Rat → Rat → Rat) (pre : Rat → Rat → Prop) : Sp := fun vs H Q _ => ∃ (u v : V) (q r : Rat), vs = [u, v] ∧ IsQ K H u q ∧ IsQ K H v r ∧ Bq 4000 q ∧ Bq 4000 r ∧ pre q r ∧ RetQ K H Q (op q r)
abbrev sPlusP : Stmt := topS 7
theorem scPlusP : FnScope ["one", "other"] ["one", "other"] (defScope sPlusP) := ⟨rfl, rfl, rfl, by decide +kernel, rfl, by decide +kernel, by decide +kernel⟩
theorem ok_PlusP {f fC : Addr} {fd fdC : FuncData} {k : Nat} (F : Fun K "plus" "plus" sPlusP f fd) (C : FnOk P w K mg base CX0 k fC fdC ["over", "under"] spPart) (bC : Binds K fdC ["over", "under"] []) (gC : mg "part" = some (.ref fC)) (kC : PySem.W.keepIn K (.ref fC) = true) :
    FnOk P w K mg base CX0 (k + 1) f fd ["one", "other"] (sp2 K (fun q r => q + r) (fun _ _ => True)) := by
  refine F.ok scPlusP (fun vs H Q E h => ?_) (fun cdv A outer s H vs Q E hr h => ?_)
  · obtain ⟨u, v, q, r, rfl, _⟩ := h
    rfl
  · obtain ⟨u, v, q, r, rfl, hq, hr', bq, br, pre, ret⟩ := h
    obtain ⟨x, rfl, hq⟩ := hq
    obtain ⟨y, rfl, hr'⟩ := hr'
    refine ⟨_, pss_one (ps_ret (pe_call C hr (by rfl) gC kC bC .nil pass0 (pa_cons (pe_op op_add (pe_op op_mulW (pe_ix ix_tup (pv 0) pe_int (fun _ _ => rfl)) (pe_ix ix_tup (pv 1) pe_int (fun _ _ => rfl))) (pe_op op_mulW (pe_ix ix_tup (pv 1) pe_int (fun _ _ => rfl)) (pe_ix ix_tup (pv 0) pe_int (fun _ _ => rfl)))) (pa_cons (pe_op op_mulW (pe_ix ix_tup (pv 0) pe_int (fun _ _ => rfl)) (pe_ix ix_tup (pv 1) pe_int (fun _ _ => rfl))) pa_nil)))), ?_⟩
    refine ⟨_, rfl, _, _, _, _, rfl, rfl, hq, atI_nat (j := 0) rfl, _, rfl, _, _, _, _, rfl, rfl, hr', atI_nat (j := 1) rfl, _, _, rfl, rfl, (bq.1.mulW br.2 (by decide)), _, rfl, _, _, _, _, rfl, rfl, hr', atI_nat (j := 0) rfl, _, rfl, _, _, _, _, rfl, rfl, hq, atI_nat (j := 1) rfl, _, _, rfl, rfl, (br.1.mulW bq.2 (by decide)), _, _, rfl, rfl, _, rfl, _, _, _, _, rfl, rfl, hq, atI_nat (j := 1) rfl, _, rfl, _, _, _, _, rfl, rfl, hr', atI_nat (j := 1) rfl, _, _, rfl, rfl, (bq.2.mulW br.2 (by decide)), _, _, rfl, den_mul_ne q r, (bq.2.mul br.2).mono (by decide), ?_⟩
    rw [add_divInt]
    exact RetQ.new ret
abbrev sLessP : Stmt := topS 8
theorem scLessP : FnScope ["one", "other"] ["one", "other"] (defScope sLessP) := ⟨rfl, rfl, rfl, by decide +kernel, rfl, by decide +kernel, by decide +kernel⟩
theorem ok_LessP {f fC : Addr} {fd fdC : FuncData} {k : Nat} (F : Fun K "less" "less" sLessP f fd) (C : FnOk P w K mg base CX0 k fC fdC ["over", "under"] spPart) (bC : Binds K fdC ["over", "under"] []) (gC : mg "part" = some (.ref fC)) (kC : PySem.W.keepIn K (.ref fC) = true) :
    FnOk P w K mg base CX0 (k + 1) f fd ["one", "other"] (sp2 K (fun q r => q - r) (fun _ _ => True)) := by
  refine F.ok scLessP (fun vs H Q E h => ?_) (fun cdv A outer s H vs Q E hr h => ?_)
  · obtain ⟨u, v, q, r, rfl, _⟩ := h
    rfl
  · obtain ⟨u, v, q, r, rfl, hq, hr', bq, br, pre, ret⟩ := h
    obtain ⟨x, rfl, hq⟩ := hq
    obtain ⟨y, rfl, hr'⟩ := hr'
    refine ⟨_, pss_one (ps_ret (pe_call C hr (by rfl) gC kC bC .nil pass0 (pa_cons (pe_op op_sub (pe_op op_mulW (pe_ix ix_tup (pv 0) pe_int (fun _ _ => rfl)) (pe_ix ix_tup (pv 1) pe_int (fun _ _ => rfl))) (pe_op op_mulW (pe_ix ix_tup (pv 1) pe_int (fun _ _ => rfl)) (pe_ix ix_tup (pv 0) pe_int (fun _ _ => rfl)))) (pa_cons (pe_op op_mulW (pe_ix ix_tup (pv 0) pe_int (fun _ _ => rfl)) (pe_ix ix_tup (pv 1) pe_int (fun _ _ => rfl))) pa_nil)))), ?_⟩
    refine ⟨_, rfl, _, _, _, _, rfl, rfl, hq, atI_nat (j := 0) rfl, _, rfl, _, _, _, _, rfl, rfl, hr', atI_nat (j := 1) rfl, _, _, rfl, rfl, (bq.1.mulW br.2 (by decide)), _, rfl, _, _, _, _, rfl, rfl, hr', atI_nat (j := 0) rfl, _, rfl, _, _, _, _, rfl, rfl, hq, atI_nat (j := 1) rfl, _, _, rfl, rfl, (br.1.mulW bq.2 (by decide)), _, _, rfl, rfl, _, rfl, _, _, _, _, rfl, rfl, hq, atI_nat (j := 1) rfl, _, rfl, _, _, _, _, rfl, rfl, hr', atI_nat (j := 1) rfl, _, _, rfl, rfl, (bq.2.mulW br.2 (by decide)), _, _, rfl, den_mul_ne q r, (bq.2.mul br.2).mono (by decide), ?_⟩
    rw [sub_divInt]
    exact RetQ.new ret
abbrev sTimesP : Stmt := topS 9
theorem scTimesP : FnScope ["one", "other"] ["one", "other"] (defScope sTimesP) := ⟨rfl, rfl, rfl, by decide +kernel, rfl, by decide +kernel, by decide +kernel⟩
theorem ok_TimesP {f fC : Addr} {fd fdC : FuncData} {k : Nat} (F : Fun K "times" "times" sTimesP f fd) (C : FnOk P w K mg base CX0 k fC fdC ["over", "under"] spPart) (bC : Binds K fdC ["over", "under"] []) (gC : mg "part" = some (.ref fC)) (kC : PySem.W.keepIn K (.ref fC) = true) :
    FnOk P w K mg base CX0 (k + 1) f fd ["one", "other"] (sp2 K (fun q r => q * r) (fun _ _ => True)) := by
  refine F.ok scTimesP (fun vs H Q E h => ?_) (fun cdv A outer s H vs Q E hr h => ?_)
  · obtain ⟨u, v, q, r, rfl, _⟩ := h
    rfl
  · obtain ⟨u, v, q, r, rfl, hq, hr', bq, br, pre, ret⟩ := h
    obtain ⟨x, rfl, hq⟩ := hq
    obtain ⟨y, rfl, hr'⟩ := hr'
    refine ⟨_, pss_one (ps_ret (pe_call C hr (by rfl) gC kC bC .nil pass0 (pa_cons (pe_op op_mulW (pe_ix ix_tup (pv 0) pe_int (fun _ _ => rfl)) (pe_ix ix_tup (pv 1) pe_int (fun _ _ => rfl))) (pa_cons (pe_op op_mulW (pe_ix ix_tup (pv 0) pe_int (fun _ _ => rfl)) (pe_ix ix_tup (pv 1) pe_int (fun _ _ => rfl))) pa_nil)))), ?_⟩
    refine ⟨_, rfl, _, _, _, _, rfl, rfl, hq, atI_nat (j := 0) rfl, _, rfl, _, _, _, _, rfl, rfl, hr', atI_nat (j := 0) rfl, _, _, rfl, rfl, (bq.1.mulW br.1 (by decide)), _, rfl, _, _, _, _, rfl, rfl, hq, atI_nat (j := 1) rfl, _, rfl, _, _, _, _, rfl, rfl, hr', atI_nat (j := 1) rfl, _, _, rfl, rfl, (bq.2.mulW br.2 (by decide)), _, _, rfl, den_mul_ne q r, (bq.2.mul br.2).mono (by decide), ?_⟩
    rw [mul_divInt]
    exact RetQ.new ret
abbrev sOverP : Stmt := topS 10
theorem scOverP : FnScope ["one", "other"] ["one", "other"] (defScope sOverP) := ⟨rfl, rfl, rfl, by decide +kernel, rfl, by decide +kernel, by decide +kernel⟩
theorem ok_OverP {f fC : Addr} {fd fdC : FuncData} {k : Nat} (F : Fun K "over" "over" sOverP f fd) (C : FnOk P w K mg base CX0 k fC fdC ["over", "under"] spPart) (bC : Binds K fdC ["over", "under"] []) (gC : mg "part" = some (.ref fC)) (kC : PySem.W.keepIn K (.ref fC) = true) :
    FnOk P w K mg base CX0 (k + 1) f fd ["one", "other"] (sp2 K (fun q r => q / r) (fun _ r => r ≠ 0)) := by
  refine F.ok scOverP (fun vs H Q E h => ?_) (fun cdv A outer s H vs Q E hr h => ?_)
  · obtain ⟨u, v, q, r, rfl, _⟩ := h
    rfl
  · obtain ⟨u, v, q, r, rfl, hq, hr', bq, br, pre, ret⟩ := h
    obtain ⟨x, rfl, hq⟩ := hq
    obtain ⟨y, rfl, hr'⟩ := hr'
    refine ⟨_, pss_one (ps_ret (pe_call C hr (by rfl) gC kC bC .nil pass0 (pa_cons (pe_op op_mulW (pe_ix ix_tup (pv 0) pe_int (fun _ _ => rfl)) (pe_ix ix_tup (pv 1) pe_int (fun _ _ => rfl))) (pa_cons (pe_op op_mulW (pe_ix ix_tup (pv 0) pe_int (fun _ _ => rfl)) (pe_ix ix_tup (pv 1) pe_int (fun _ _ => rfl))) pa_nil)))), ?_⟩
    refine ⟨_, rfl, _, _, _, _, rfl, rfl, hq, atI_nat (j := 0) rfl, _, rfl, _, _, _, _, rfl, rfl, hr', atI_nat (j := 1) rfl, _, _, rfl, rfl, (bq.1.mulW br.2 (by decide)), _, rfl, _, _, _, _, rfl, rfl, hq, atI_nat (j := 1) rfl, _, rfl, _, _, _, _, rfl, rfl, hr', atI_nat (j := 0) rfl, _, _, rfl, rfl, (bq.2.mulW br.1 (by decide)), _, _, rfl, Int.mul_ne_zero (den_ne q) (num_ne pre), (bq.2.mul br.1).mono (by decide), ?_⟩
    rw [div_divInt]
    exact RetQ.new ret
abbrev sPlusL : Stmt := topS 23
theorem scPlusL : FnScope ["_law_one", "_law_other"] ["_law_one", "_law_other"] (defScope sPlusL) := ⟨rfl, rfl, rfl, by decide +kernel, rfl, by decide +kernel, by decide +kernel⟩
theorem ok_PlusL {f fC : Addr} {fd fdC : FuncData} {k : Nat} (F : Fun K "_law_plus" "_law_plus" sPlusL f fd) (C : FnOk P w K mg base CX0 k fC fdC ["_law_above", "_law_beneath"] spPart) (bC : Binds K fdC ["_law_above", "_law_beneath"] []) (gC : mg "_law_low" = some (.ref fC)) (kC : PySem.W.keepIn K (.ref fC) = true) :
    FnOk P w K mg base CX0 (k + 1) f fd ["_law_one", "_law_other"] (sp2 K (fun q r => q + r) (fun _ _ => True)) := by
  refine F.ok scPlusL (fun vs H Q E h => ?_) (fun cdv A outer s H vs Q E hr h => ?_)
  · obtain ⟨u, v, q, r, rfl, _⟩ := h
    rfl
  · obtain ⟨u, v, q, r, rfl, hq, hr', bq, br, pre, ret⟩ := h
    obtain ⟨x, rfl, hq⟩ := hq
    obtain ⟨y, rfl, hr'⟩ := hr'
    refine ⟨_, pss_one (ps_ret (pe_call C hr (by rfl) gC kC bC .nil pass0 (pa_cons (pe_op op_add (pe_op op_mulW (pe_ix ix_tup (pv 0) pe_int (fun _ _ => rfl)) (pe_ix ix_tup (pv 1) pe_int (fun _ _ => rfl))) (pe_op op_mulW (pe_ix ix_tup (pv 1) pe_int (fun _ _ => rfl)) (pe_ix ix_tup (pv 0) pe_int (fun _ _ => rfl)))) (pa_cons (pe_op op_mulW (pe_ix ix_tup (pv 0) pe_int (fun _ _ => rfl)) (pe_ix ix_tup (pv 1) pe_int (fun _ _ => rfl))) pa_nil)))), ?_⟩
    refine ⟨_, rfl, _, _, _, _, rfl, rfl, hq, atI_nat (j := 0) rfl, _, rfl, _, _, _, _, rfl, rfl, hr', atI_nat (j := 1) rfl, _, _, rfl, rfl, (bq.1.mulW br.2 (by decide)), _, rfl, _, _, _, _, rfl, rfl, hr', atI_nat (j := 0) rfl, _, rfl, _, _, _, _, rfl, rfl, hq, atI_nat (j := 1) rfl, _, _, rfl, rfl, (br.1.mulW bq.2 (by decide)), _, _, rfl, rfl, _, rfl, _, _, _, _, rfl, rfl, hq, atI_nat (j := 1) rfl, _, rfl, _, _, _, _, rfl, rfl, hr', atI_nat (j := 1) rfl, _, _, rfl, rfl, (bq.2.mulW br.2 (by decide)), _, _, rfl, den_mul_ne q r, (bq.2.mul br.2).mono (by decide), ?_⟩
    rw [add_divInt]
    exact RetQ.new ret
abbrev sMinusL : Stmt := topS 24
theorem scMinusL : FnScope ["_law_one", "_law_other"] ["_law_one", "_law_other"] (defScope sMinusL) := ⟨rfl, rfl, rfl, by decide +kernel, rfl, by decide +kernel, by decide +kernel⟩
theorem ok_MinusL {f fC : Addr} {fd fdC : FuncData} {k : Nat} (F : Fun K "_law_minus" "_law_minus" sMinusL f fd) (C : FnOk P w K mg base CX0 k fC fdC ["_law_above", "_law_beneath"] spPart) (bC : Binds K fdC ["_law_above", "_law_beneath"] []) (gC : mg "_law_low" = some (.ref fC)) (kC : PySem.W.keepIn K (.ref fC) = true) :
    FnOk P w K mg base CX0 (k + 1) f fd ["_law_one", "_law_other"] (sp2 K (fun q r => q - r) (fun _ _ => True)) := by
  refine F.ok scMinusL (fun vs H Q E h => ?_) (fun cdv A outer s H vs Q E hr h => ?_)
  · obtain ⟨u, v, q, r, rfl, _⟩ := h
    rfl
  · obtain ⟨u, v, q, r, rfl, hq, hr', bq, br, pre, ret⟩ := h
    obtain ⟨x, rfl, hq⟩ := hq
    obtain ⟨y, rfl, hr'⟩ := hr'
    refine ⟨_, pss_one (ps_ret (pe_call C hr (by rfl) gC kC bC .nil pass0 (pa_cons (pe_op op_sub (pe_op op_mulW (pe_ix ix_tup (pv 0) pe_int (fun _ _ => rfl)) (pe_ix ix_tup (pv 1) pe_int (fun _ _ => rfl))) (pe_op op_mulW (pe_ix ix_tup (pv 1) pe_int (fun _ _ => rfl)) (pe_ix ix_tup (pv 0) pe_int (fun _ _ => rfl)))) (pa_cons (pe_op op_mulW (pe_ix ix_tup (pv 0) pe_int (fun _ _ => rfl)) (pe_ix ix_tup (pv 1) pe_int (fun _ _ => rfl))) pa_nil)))), ?_⟩
    refine ⟨_, rfl, _, _, _, _, rfl, rfl, hq, atI_nat (j := 0) rfl, _, rfl, _, _, _, _, rfl, rfl, hr', atI_nat (j := 1) rfl, _, _, rfl, rfl, (bq.1.mulW br.2 (by decide)), _, rfl, _, _, _, _, rfl, rfl, hr', atI_nat (j := 0) rfl, _, rfl, _, _, _, _, rfl, rfl, hq, atI_nat (j := 1) rfl, _, _, rfl, rfl, (br.1.mulW bq.2 (by decide)), _, _, rfl, rfl, _, rfl, _, _, _, _, rfl, rfl, hq, atI_nat (j := 1) rfl, _, rfl, _, _, _, _, rfl, rfl, hr', atI_nat (j := 1) rfl, _, _, rfl, rfl, (bq.2.mulW br.2 (by decide)), _, _, rfl, den_mul_ne q r, (bq.2.mul br.2).mono (by decide), ?_⟩
    rw [sub_divInt]
    exact RetQ.new ret
abbrev sByL : Stmt := topS 25
theorem scByL : FnScope ["_law_one", "_law_other"] ["_law_one", "_law_other"] (defScope sByL) := ⟨rfl, rfl, rfl, by decide +kernel, rfl, by decide +kernel, by decide +kernel⟩
theorem ok_ByL {f fC : Addr} {fd fdC : FuncData} {k : Nat} (F : Fun K "_law_by" "_law_by" sByL f fd) (C : FnOk P w K mg base CX0 k fC fdC ["_law_above", "_law_beneath"] spPart) (bC : Binds K fdC ["_law_above", "_law_beneath"] []) (gC : mg "_law_low" = some (.ref fC)) (kC : PySem.W.keepIn K (.ref fC) = true) :
    FnOk P w K mg base CX0 (k + 1) f fd ["_law_one", "_law_other"] (sp2 K (fun q r => q * r) (fun _ _ => True)) := by
  refine F.ok scByL (fun vs H Q E h => ?_) (fun cdv A outer s H vs Q E hr h => ?_)
  · obtain ⟨u, v, q, r, rfl, _⟩ := h
    rfl
  · obtain ⟨u, v, q, r, rfl, hq, hr', bq, br, pre, ret⟩ := h
    obtain ⟨x, rfl, hq⟩ := hq
    obtain ⟨y, rfl, hr'⟩ := hr'
    refine ⟨_, pss_one (ps_ret (pe_call C hr (by rfl) gC kC bC .nil pass0 (pa_cons (pe_op op_mulW (pe_ix ix_tup (pv 0) pe_int (fun _ _ => rfl)) (pe_ix ix_tup (pv 1) pe_int (fun _ _ => rfl))) (pa_cons (pe_op op_mulW (pe_ix ix_tup (pv 0) pe_int (fun _ _ => rfl)) (pe_ix ix_tup (pv 1) pe_int (fun _ _ => rfl))) pa_nil)))), ?_⟩
    refine ⟨_, rfl, _, _, _, _, rfl, rfl, hq, atI_nat (j := 0) rfl, _, rfl, _, _, _, _, rfl, rfl, hr', atI_nat (j := 0) rfl, _, _, rfl, rfl, (bq.1.mulW br.1 (by decide)), _, rfl, _, _, _, _, rfl, rfl, hq, atI_nat (j := 1) rfl, _, rfl, _, _, _, _, rfl, rfl, hr', atI_nat (j := 1) rfl, _, _, rfl, rfl, (bq.2.mulW br.2 (by decide)), _, _, rfl, den_mul_ne q r, (bq.2.mul br.2).mono (by decide), ?_⟩
    rw [mul_divInt]
    exact RetQ.new ret
abbrev sPerL : Stmt := topS 26
theorem scPerL : FnScope ["_law_one", "_law_other"] ["_law_one", "_law_other"] (defScope sPerL) := ⟨rfl, rfl, rfl, by decide +kernel, rfl, by decide +kernel, by decide +kernel⟩
theorem ok_PerL {f fC : Addr} {fd fdC : FuncData} {k : Nat} (F : Fun K "_law_per" "_law_per" sPerL f fd) (C : FnOk P w K mg base CX0 k fC fdC ["_law_above", "_law_beneath"] spPart) (bC : Binds K fdC ["_law_above", "_law_beneath"] []) (gC : mg "_law_low" = some (.ref fC)) (kC : PySem.W.keepIn K (.ref fC) = true) :
    FnOk P w K mg base CX0 (k + 1) f fd ["_law_one", "_law_other"] (sp2 K (fun q r => q / r) (fun _ r => r ≠ 0)) := by
  refine F.ok scPerL (fun vs H Q E h => ?_) (fun cdv A outer s H vs Q E hr h => ?_)
  · obtain ⟨u, v, q, r, rfl, _⟩ := h
    rfl
  · obtain ⟨u, v, q, r, rfl, hq, hr', bq, br, pre, ret⟩ := h
    obtain ⟨x, rfl, hq⟩ := hq
    obtain ⟨y, rfl, hr'⟩ := hr'
    refine ⟨_, pss_one (ps_ret (pe_call C hr (by rfl) gC kC bC .nil pass0 (pa_cons (pe_op op_mulW (pe_ix ix_tup (pv 0) pe_int (fun _ _ => rfl)) (pe_ix ix_tup (pv 1) pe_int (fun _ _ => rfl))) (pa_cons (pe_op op_mulW (pe_ix ix_tup (pv 0) pe_int (fun _ _ => rfl)) (pe_ix ix_tup (pv 1) pe_int (fun _ _ => rfl))) pa_nil)))), ?_⟩
    refine ⟨_, rfl, _, _, _, _, rfl, rfl, hq, atI_nat (j := 0) rfl, _, rfl, _, _, _, _, rfl, rfl, hr', atI_nat (j := 1) rfl, _, _, rfl, rfl, (bq.1.mulW br.2 (by decide)), _, rfl, _, _, _, _, rfl, rfl, hq, atI_nat (j := 1) rfl, _, rfl, _, _, _, _, rfl, rfl, hr', atI_nat (j := 0) rfl, _, _, rfl, rfl, (bq.2.mulW br.1 (by decide)), _, _, rfl, Int.mul_ne_zero (den_ne q) (num_ne pre), (bq.2.mul br.1).mono (by decide), ?_⟩
    rw [div_divInt]
    exact RetQ.new ret
end
end Gap
namespace Gap
open PySem PySem.Spec PyProof.Rows L2
section
variable {P : Program} {w : World} {K : PySem.W.Frag} {mg : Str → Option Value} {base : Heap}
/-! ### places and discs -/
def IsPl (K : PySem.W.Frag) (H : Hp) (v : V) (p q : Rat) : Prop := ∃ (a : Addr) (x y : V), v = .ref a ∧ SqT K H a [x, y] ∧ IsQ K H x p ∧ IsQ K H y q
structure Dq where
  back : Rat
  bend : Rat
  x : Rat
  y : Rat
def IsD (K : PySem.W.Frag) (H : Hp) (v : V) (D : Dq) : Prop := ∃ (a : Addr) (v0 v1 v2 v3 : V), v = .ref a ∧ SqT K H a [v0, v1, v2, v3] ∧ IsQ K H v0 D.back ∧ IsQ K H v1 D.bend ∧ IsQ K H v2 D.x ∧ IsQ K H v3 D.y
structure Dq.Ok (D : Dq) (n : Nat) : Prop where
  ne : D.bend ≠ 0
  one : D.x * D.x + D.y * D.y - D.bend * D.back = 1
  b0 : Bq n D.back
  b1 : Bq n D.bend
  b2 : Bq n D.x
  b3 : Bq n D.y
theorem Dq.Ok.mono {D : Dq} {m n : Nat} (h : D.Ok m) (l : m ≤ n) : D.Ok n := ⟨h.ne, h.one, h.b0.mono l, h.b1.mono l, h.b2.mono l, h.b3.mono l⟩
theorem IsPl.same {H H' : Hp} {v : V} {p q : Rat} (h : IsPl K H v p q) (e : Same H H') : IsPl K H' v p q := by
  obtain ⟨a, x, y, rfl, h1, h2, h3⟩ := h
  exact ⟨a, x, y, rfl, Same.seqT e h1, h2.same e, h3.same e⟩
theorem IsD.same {H H' : Hp} {v : V} {D : Dq} (h : IsD K H v D) (e : Same H H') : IsD K H' v D := by
  obtain ⟨a, v0, v1, v2, v3, rfl, h, h0, h1, h2, h3⟩ := h
  exact ⟨a, v0, v1, v2, v3, rfl, Same.seqT e h, h0.same e, h1.same e, h2.same e, h3.same e⟩
theorem Bag.isPl {H H' : Hp} {b bl : Addr} (hB : Bag H b bl) (e : SameB b H H') {v : V} {p q : Rat} (h : IsPl K H v p q) : IsPl K H' v p q := by
  obtain ⟨a, x, y, rfl, h1, h2, h3⟩ := h
  exact ⟨a, x, y, rfl, hB.tupT e h1, hB.isQ e h2, hB.isQ e h3⟩
theorem Bag.isD {H H' : Hp} {b bl : Addr} (hB : Bag H b bl) (e : SameB b H H') {v : V} {D : Dq} (h : IsD K H v D) : IsD K H' v D := by
  obtain ⟨a, v0, v1, v2, v3, rfl, h, h0, h1, h2, h3⟩ := h
  exact ⟨a, v0, v1, v2, v3, rfl, hB.tupT e h, hB.isQ e h0, hB.isQ e h1, hB.isQ e h2, hB.isQ e h3⟩
theorem isPl_at {H : Hp} {a : Addr} {x y : V} {p q : Rat} (h : H a = some (.tup [x, y])) (hx : IsQ K H x p) (hy : IsQ K H y q) : IsPl K H (.ref a) p q := ⟨a, x, y, rfl, .inl (.inl h), hx, hy⟩
theorem isD_at {H : Hp} {a : Addr} {v0 v1 v2 v3 : V} {D : Dq} (h : H a = some (.tup [v0, v1, v2, v3])) (h0 : IsQ K H v0 D.back) (h1 : IsQ K H v1 D.bend) (h2 : IsQ K H v2 D.x) (h3 : IsQ K H v3 D.y) : IsD K H (.ref a) D := ⟨a, v0, v1, v2, v3, rfl, .inl (.inl h), h0, h1, h2, h3⟩
theorem Eqv.isPl {H : Hp} {d : Nat} {u v : V} {p q : Rat} (hu : IsPl K H u p q) (hv : IsPl K H v p q) : Eqv K H (d + 2) u v := by
  obtain ⟨a, x, y, rfl, h1, h2, h3⟩ := hu
  obtain ⟨a', x', y', rfl, g1, g2, g3⟩ := hv
  exact Eqv.tups h1 g1 (.cons (Eqv.isQ h2 g2) (.cons (Eqv.isQ h3 g3) .nil)) (by show 2 ≤ 1000; decide)
theorem Eqv.isD {H : Hp} {d : Nat} {u v : V} {D : Dq} (hu : IsD K H u D) (hv : IsD K H v D) : Eqv K H (d + 2) u v := by
  obtain ⟨a, v0, v1, v2, v3, rfl, h, h0, h1, h2, h3⟩ := hu
  obtain ⟨a', w0, w1, w2, w3, rfl, g, g0, g1, g2, g3⟩ := hv
  exact Eqv.tups h g (.cons (Eqv.isQ h0 g0) (.cons (Eqv.isQ h1 g1) (.cons (Eqv.isQ h2 g2) (.cons (Eqv.isQ h3 g3) .nil)))) (by show 4 ≤ 1000; decide)
/-! ### a drawn place -/
abbrev sSpot : Stmt := topS 28
theorem scSpot : FnScope ["_law_bag_here", "_law_most", "_law_reach", "_law_found", "_law_k", "_law_beneath"] ["_law_bag_here", "_law_most", "_law_reach"] (defScope sSpot) := ⟨rfl, rfl, rfl, by decide +kernel, rfl, by decide +kernel, by decide +kernel⟩
def spSpot (K : PySem.W.Frag) : Sp := fun vs H Q _ => ∃ (b bl : Addr) (m r : Int), vs = [.ref b, .int m, .int r] ∧ Bag H b bl ∧ 1 ≤ m ∧ m ≤ 10 ∧ 1 ≤ r ∧ r ≤ 10 ∧ ∀ v p q H', SameB b H H' → Bag H' b bl → IsPl K H' v p q → Bq 9 p → Bq 9 q → Q v H'
theorem log_small2 {m : Int} (h0 : 0 < m) (h : m ≤ 1000) : m.natAbs.log2 < 9000 := by
  refine Nat.lt_of_lt_of_le (PySem.Flt.log2_lt_of (show 0 < 20 by decide) ?_) (by decide)
  have : (2 : Nat) ^ 20 = 1048576 := by decide
  omega
theorem ok_spot {f fp fl : Addr} {fd fdp fdl : FuncData} {k : Nat} (F : Fun K "_law_spot" "_law_spot" sSpot f fd) (PL : FnOk P w K mg base CX0 k fp fdp ["_law_bag_here", "_law_many"] spPull) (bp : Binds K fdp ["_law_bag_here", "_law_many"] []) (gp : mg "_law_pull" = some (.ref fp)) (kp : PySem.W.keepIn K (.ref fp) = true)
    (LW : FnOk P w K mg base CX0 k fl fdl ["_law_above", "_law_beneath"] spPart) (bl : Binds K fdl ["_law_above", "_law_beneath"] []) (gl : mg "_law_low" = some (.ref fl)) (kl : PySem.W.keepIn K (.ref fl) = true) (mr : mg "range" = none) :
    FnOk P w K mg base CX0 (k + 1) f fd ["_law_bag_here", "_law_most", "_law_reach"] (spSpot K) := by
  refine F.ok scSpot (fun vs H Q E h => ?_) (fun cdv A outer s H vs Q E hr h => ?_)
  · obtain ⟨b, bl, m, r, rfl, _⟩ := h
    rfl
  · obtain ⟨b, bl', m, r, rfl, hB, m1, m2, r1, r2, ret⟩ := h
    refine ⟨_, pss_cons (ps_set (i := 3) scSpot.nd rfl (.inl rfl) (pe_lst pa_nil))
      (pss_cons (ps_for PassesOwn.never rfl (pi_range1 rfl mr (pa_cons pe_int pa_nil)) (pg_name (i := 4) scSpot.nd rfl (.inl rfl))
        (pss_cons (ps_set (i := 5) scSpot.nd rfl (.inl rfl) (pe_op op_add pe_int (pe_call PL hr (by rfl) gp kp bp .nil pass0 (pa_cons (pv 0) (pa_cons (pv 1) pa_nil)))))
        (pss_one (ps_expr (pe_bm PySem.F.plainAttrs_list PySem.F.slot_list_append PySem.F.type_list_append mt_append (pv 3) (pa_cons (pe_call LW hr (by rfl) gl kl bl .nil pass0
          (pa_cons (pe_op op_sub (pe_call PL hr (by rfl) gp kp bp .nil pass0 (pa_cons (pv 0) (pa_cons (pe_op op_add (pe_op op_mul (pe_op op_mul pe_int (pv 2)) (pv 5)) pe_int) pa_nil))) (pe_op op_mul (pv 2) (pv 5))) (pa_cons (pv 5) pa_nil))) pa_nil))))))
      (pss_one (ps_ret (pe_tup (pa_cons (pe_ix ix_list (pv 3) pe_int (fun _ _ => rfl)) (pa_cons (pe_ix ix_list (pv 3) pe_int (fun _ _ => rfl)) pa_nil)))))), ?_⟩
    refine ⟨Nat.zero_le _, fun l nl => ?_⟩
    have lb : l ≠ b := hB.ne nl
    have lbl : l ≠ bl' := hB.nel nl
    refine ⟨2, rfl, by decide, by decide, for_range (lo := 0) (n := 2) (fun i σ H' => ∃ (x4 x5 : Option V) (us : List V) (qs : List Rat), σ = [some (.ref b), some (.int m), some (.int r), some (.ref l), x4, x5] ∧ SameB b H H' ∧ Bag H' b bl' ∧ H' l = some (.lst us) ∧ Paired (fun v q => IsQ K H' v q ∧ Bq 9 q) us qs ∧ us.length = i)
      ⟨none, none, [], [], rfl, SameB.of (same_upd nl), hB.same (same_upd nl), upd_same, .nil, rfl⟩ ?_ ?_⟩
    · rintro i σ H1 hi ⟨x4, x5, us, qs, rfl, s1, B1, hl, hq, hu⟩
      refine ⟨_, rfl, _, rfl, b, bl', m, rfl, by omega, log_small2 (by omega) (by omega), B1, fun u H2 s2 B2 u0 u1 => ⟨_, _, rfl, rfl, ?_⟩⟩
      have e1 : 0 ≤ r * (1 + u) := Int.mul_nonneg (by omega) (by omega)
      have e2 : r * (1 + u) ≤ 100 := by
        have a1 : r * (1 + u) ≤ r * 10 := Int.mul_le_mul_of_nonneg_left (by omega) (by omega)
        omega
      have e3 : 2 * r * (1 + u) = 2 * (r * (1 + u)) := Int.mul_assoc _ _ _
      have hl2 := s2 _ _ lb hl
      refine ⟨_, rfl, .inl ⟨rfl, _, .inl (.inl hl2)⟩, _, rfl, _, rfl, _, _, rfl, rfl, .inl ⟨by decide, by decide⟩, _, rfl, _, _, rfl, rfl, .inl ⟨by omega, by omega⟩, _, _, rfl, rfl, b, bl', _, rfl, by omega, log_small2 (by omega) (by omega), B2, fun t H3 s3 B3 t0 t1 => ?_⟩
      refine ⟨_, rfl, _, rfl, _, _, rfl, rfl, .inl ⟨by omega, by omega⟩, _, _, rfl, rfl, _, rfl, _, _, rfl, by omega, (bi_of (n := 9) (by simp; omega) (by simp; omega)).mono (by decide), fun p np => ?_⟩
      have z1 : Bi 9 (t - r * (1 + u)) := bi_of (by simp; omega) (by simp; omega)
      have z2 : Bi 9 (1 + u) := bi_of (by simp; omega) (by simp; omega)
      have bq := Bq.of z1 z2 (show (1 + u : Int) ≠ 0 by omega)
      generalize Rat.divInt (t - r * (1 + u)) (1 + u) = q at bq
      have s4 := same_upd (o := .tup [.int q.num, .int (q.den : Int)]) np
      have hp : (upd H3 p (.tup [.int q.num, .int (q.den : Int)])) p = some (.tup [.int q.num, .int (q.den : Int)]) := upd_same
      have B4 := B3.same s4
      have hl4 := s4 _ _ (s3 _ _ lb hl2)
      generalize upd H3 p (.tup [.int q.num, .int (q.den : Int)]) = H4 at s4 hp B4 hl4
      refine ⟨l, us, _, rfl, rfl, hl4, small1000 (by omega), ?_⟩
      have up : ∀ v q, IsQ K H1 v q → IsQ K (upd H4 l (.lst (us ++ [.ref p]))) v q := fun v q z => (((B2.isQ s3 (B1.isQ s2 z)).same s4).putL hl4)
      refine ⟨_, _, us ++ [.ref p], qs ++ [q], rfl, fun c o n e => ?_, B4.put lb lbl, upd_same, ?_, ?_⟩
      · rw [upd_ne (ne_of_none e nl)]
        exact s4 _ _ (s3 _ _ n (s2 _ _ n (s1 _ _ n e)))
      · have snoc : ∀ {us : List V} {qs : List Rat}, Paired (fun v q => IsQ K H1 v q ∧ Bq 9 q) us qs → Paired (fun v q => IsQ K (upd H4 l (.lst (us ++ [.ref p]))) v q ∧ Bq 9 q) us qs → True := fun _ _ => trivial
        have conv : ∀ {vs : List V} {rs : List Rat}, Paired (fun v q => IsQ K H1 v q ∧ Bq 9 q) vs rs → Paired (fun v q => IsQ K (upd H4 l (.lst (us ++ [.ref p]))) v q ∧ Bq 9 q) (vs ++ [.ref p]) (rs ++ [q]) := fun {vs rs} h => by
          induction h with
          | nil => exact .cons ⟨(isQ_at hp).putL hl4, bq⟩ .nil
          | cons h _ ih => exact .cons ⟨up _ _ h.1, h.2⟩ ih
        exact conv hq
      · rw [List.length_append, hu]
        rfl
    · rintro σ H1 ⟨x4, x5, us, qs, rfl, s1, B1, hl, hq, hu⟩
      match us, qs, hq, hu with
      | [v1, v2], [q1, q2], .cons h1 (.cons h2 .nil), _ =>
        refine ⟨_, rfl, l, _, 0, _, rfl, rfl, .inl (.inl hl), atI_nat (j := 0) rfl, _, rfl, l, _, 1, _, rfl, rfl, .inl (.inl hl), atI_nat (j := 1) rfl, (by show 2 ≤ sizeLine; decide), fun t nt => ?_⟩
        have st := same_upd (o := .tup [v1, v2]) nt
        exact ret _ q1 q2 _ (s1.trans (SameB.of st)) (B1.same st) (isPl_at upd_same (h1.1.same st) (h2.1.same st)) h1.2 h2.2
end
end Gap
namespace Gap
open PySem PySem.Spec PyProof.Rows L2
section
variable {P : Program} {w : World} {K : PySem.W.Frag} {mg : Str → Option Value} {base : Heap}
/-- the law's own reckoning -/
structure Own (P : Program) (w : World) (K : PySem.W.Frag) (mg : Str → Option Value) (base : Heap) (k : Nat) : Prop where
  plus : Cal P w K mg base k "_law_plus" ["_law_one", "_law_other"] (sp2 K (fun q r => q + r) (fun _ _ => True))
  minus : Cal P w K mg base k "_law_minus" ["_law_one", "_law_other"] (sp2 K (fun q r => q - r) (fun _ _ => True))
  by_ : Cal P w K mg base k "_law_by" ["_law_one", "_law_other"] (sp2 K (fun q r => q * r) (fun _ _ => True))
  per : Cal P w K mg base k "_law_per" ["_law_one", "_law_other"] (sp2 K (fun q r => q / r) (fun _ r => r ≠ 0))
def RetDq (K : PySem.W.Frag) (H : Hp) (Q : VK) (D : Dq) : Prop := ∀ v H', Same H H' → IsD K H' v D → Q v H'
def RetPl (K : PySem.W.Frag) (H : Hp) (Q : VK) (p q : Rat) : Prop := ∀ v H', Same H H' → IsPl K H' v p q → Q v H'
/-! ### made -/
abbrev sMade : Stmt := topS 29
theorem scMade : FnScope ["_law_center_here", "_law_my_bend", "_law_x", "_law_y", "_law_both"] ["_law_center_here", "_law_my_bend"] (defScope sMade) := ⟨rfl, rfl, rfl, by decide +kernel, rfl, by decide +kernel, by decide +kernel⟩
def madeOf (p q r : Rat) : Dq := ⟨((p * r) * (p * r) + (q * r) * (q * r) - 1) / r, r, p * r, q * r⟩
theorem madeOf_ok {p q r : Rat} {m n : Nat} (hr : r ≠ 0) (bp : Bq m p) (bq : Bq m q) (br : Bq n r) : (madeOf p q r).Ok (4 * (m + n) + n + 4) := by
  refine ⟨hr, ?_, ?_, br.mono (by omega), (bp.mul br).mono (by omega), (bq.mul br).mono (by omega)⟩
  · show (p * r) * (p * r) + (q * r) * (q * r) - r * (((p * r) * (p * r) + (q * r) * (q * r) - 1) / r) = 1
    grind
  · exact (((((bp.mul br).mul (bp.mul br)).add ((bq.mul br).mul (bq.mul br))).sub bq1).div br hr).mono (by omega)
def spMade (K : PySem.W.Frag) : Sp := fun vs H Q _ => ∃ (c b : V) (p q r : Rat), vs = [c, b] ∧ IsPl K H c p q ∧ IsQ K H b r ∧ r ≠ 0 ∧ Bq 300 p ∧ Bq 300 q ∧ Bq 300 r ∧ RetDq K H Q (madeOf p q r)
theorem ok_made {f : Addr} {fd : FuncData} {k : Nat} (F : Fun K "_law_made" "_law_made" sMade f fd) (O : Own P w K mg base k) : FnOk P w K mg base CX0 (k + 1) f fd ["_law_center_here", "_law_my_bend"] (spMade K) := by
  obtain ⟨f1, fd1, F1, b1, g1, k1⟩ := O.plus.ex
  obtain ⟨f2, fd2, F2, b2, g2, k2⟩ := O.minus.ex
  obtain ⟨f3, fd3, F3, b3, g3, k3⟩ := O.by_.ex
  obtain ⟨f4, fd4, F4, b4, g4, k4⟩ := O.per.ex
  refine F.ok scMade (fun vs H Q E h => ?_) (fun cdv A outer s H vs Q E hr h => ?_)
  · obtain ⟨c, b, p, q, r, rfl, _⟩ := h
    rfl
  · obtain ⟨c, b, p, q, r, rfl, ⟨ca, x, y, rfl, hc, hp, hq⟩, hb, r0, bp, bq, br, ret⟩ := h
    refine ⟨_, pss_cons (ps_par (i := 2) (j := 3) rfl scMade.nd rfl rfl (by decide) rfl rfl (pa_cons (pe_call F3 hr (by rfl) g3 k3 b3 .nil pass0 (pa_cons (pe_ix ix_tup (pv 0) pe_int (fun _ _ => rfl)) (pa_cons (pv 1) pa_nil))) (pa_cons (pe_call F3 hr (by rfl) g3 k3 b3 .nil pass0 (pa_cons (pe_ix ix_tup (pv 0) pe_int (fun _ _ => rfl)) (pa_cons (pv 1) pa_nil))) pa_nil)) (by rfl))
      (pss_cons (ps_set (i := 4) scMade.nd rfl (.inl rfl) (pe_call F2 hr (by rfl) g2 k2 b2 .nil pass0 (pa_cons (pe_call F1 hr (by rfl) g1 k1 b1 .nil pass0 (pa_cons (pe_call F3 hr (by rfl) g3 k3 b3 .nil pass0 (pa_cons (pv 2) (pa_cons (pv 2) pa_nil))) (pa_cons (pe_call F3 hr (by rfl) g3 k3 b3 .nil pass0 (pa_cons (pv 3) (pa_cons (pv 3) pa_nil))) pa_nil))) (pa_cons (pe_tup (pa_cons pe_int (pa_cons pe_int pa_nil))) pa_nil))))
      (pss_one (ps_ret (pe_tup (pa_cons (pe_call F4 hr (by rfl) g4 k4 b4 .nil pass0 (pa_cons (pv 4) (pa_cons (pv 1) pa_nil))) (pa_cons (pv 1) (pa_cons (pv 2) (pa_cons (pv 3) pa_nil)))))))), ?_⟩
    refine ⟨_, rfl, ca, _, 0, _, rfl, rfl, hc, atI_nat (j := 0) rfl, _, rfl, _, _, p, r, rfl, hp, hb, bp.mono (by decide), br.mono (by decide), trivial, fun vx H1 s1 ix => ?_⟩
    refine ⟨_, rfl, ca, _, 1, _, rfl, rfl, Same.seqT s1 hc, atI_nat (j := 1) rfl, _, rfl, _, _, q, r, rfl, hq.same s1, hb.same s1, bq.mono (by decide), br.mono (by decide), trivial, fun vy H2 s2 iy => ⟨_, _, rfl, ?_⟩⟩
    have ix2 : IsQ K H2 vx (p * r) := ix.same s2
    have iy : IsQ K H2 vy (q * r) := iy
    have bx := bp.mul br
    have by' := bq.mul br
    refine ⟨_, rfl, _, rfl, _, _, _, _, rfl, ix2, ix2, bx.mono (by decide), bx.mono (by decide), trivial, fun v1 H3 s3 i1 => ?_⟩
    refine ⟨_, rfl, _, rfl, _, _, _, _, rfl, iy.same s3, iy.same s3, by'.mono (by decide), by'.mono (by decide), trivial, fun v2 H4 s4 i2 => ?_⟩
    have bxx := bx.mul bx
    have byy := by'.mul by'
    refine ⟨_, _, _, _, rfl, i1.same s4, i2, bxx.mono (by decide), byy.mono (by decide), trivial, fun v3 H5 s5 i3 => ⟨(by show 2 ≤ sizeLine; decide), fun t nt => ?_⟩⟩
    have s6 := same_upd (o := .tup [.int 1, .int 1]) nt
    have bs := bxx.add byy
    refine ⟨_, _, _, _, rfl, i3.same s6, isQ_at (q := 1) upd_same, bs.mono (by decide), bq1.mono (by decide), trivial, fun v4 H7 s7 i4 => ?_⟩
    have s27 := (((s3.trans s4).trans s5).trans s6).trans s7
    have hb7 := (hb.same s1).same (s2.trans s27)
    refine ⟨_, rfl, _, rfl, _, _, _, _, rfl, i4, hb7, (bs.sub bq1).mono (by decide), br.mono (by decide), r0, fun v5 H8 s8 i5 => ⟨_, rfl, _, rfl, _, rfl, (by show 4 ≤ sizeLine; decide), fun d nd => ?_⟩⟩
    have s9 := same_upd (o := .tup [v5, b, vx, vy]) nd
    exact ret _ _ (((s1.trans s2).trans s27).trans (s8.trans s9)) (isD_at (D := madeOf p q r) upd_same (i5.same s9) ((hb7.same s8).same s9) (((ix2.same s27).same s8).same s9) (((iy.same s27).same s8).same s9))
/-! ### a drawn disc -/
abbrev sFree : Stmt := topS 31
theorem scFree : FnScope ["_law_bag_here", "_law_my_bend"] ["_law_bag_here"] (defScope sFree) := ⟨rfl, rfl, rfl, by decide +kernel, rfl, by decide +kernel, by decide +kernel⟩
def spFree (K : PySem.W.Frag) : Sp := fun vs H Q _ => ∃ (b bl : Addr), vs = [.ref b] ∧ Bag H b bl ∧ ∀ v D H', SameB b H H' → Bag H' b bl → IsD K H' v D → D.Ok 70 → Q v H'
theorem ok_free {f fp fl fs fm : Addr} {fd fdp fdl fds fdm : FuncData} {k : Nat} (F : Fun K "_law_free_disc" "_law_free_disc" sFree f fd) (PL : FnOk P w K mg base CX0 k fp fdp ["_law_bag_here", "_law_many"] spPull) (bp : Binds K fdp ["_law_bag_here", "_law_many"] []) (gp : mg "_law_pull" = some (.ref fp)) (kp : PySem.W.keepIn K (.ref fp) = true)
    (LW : FnOk P w K mg base CX0 k fl fdl ["_law_above", "_law_beneath"] spPart) (bl : Binds K fdl ["_law_above", "_law_beneath"] []) (gl : mg "_law_low" = some (.ref fl)) (kl : PySem.W.keepIn K (.ref fl) = true) (SP : FnOk P w K mg base CX0 k fs fds ["_law_bag_here", "_law_most", "_law_reach"] (spSpot K)) (bs : Binds K fds ["_law_bag_here", "_law_most", "_law_reach"] []) (gs : mg "_law_spot" = some (.ref fs)) (ks : PySem.W.keepIn K (.ref fs) = true)
    (MD : FnOk P w K mg base CX0 k fm fdm ["_law_center_here", "_law_my_bend"] (spMade K)) (bm : Binds K fdm ["_law_center_here", "_law_my_bend"] []) (gm : mg "_law_made" = some (.ref fm)) (km : PySem.W.keepIn K (.ref fm) = true) : FnOk P w K mg base CX0 (k + 1) f fd ["_law_bag_here"] (spFree K) := by
  refine F.ok scFree (fun vs H Q E h => ?_) (fun cdv A outer s H vs Q E hr h => ?_)
  · obtain ⟨b, bl, rfl, _⟩ := h
    rfl
  · obtain ⟨b, bl', rfl, hB, ret⟩ := h
    refine ⟨_, pss_cons (ps_set (i := 1) scFree.nd rfl (.inl rfl) (pe_call LW hr (by rfl) gl kl bl .nil pass0 (pa_cons (pe_op op_sub (pe_call PL hr (by rfl) gp kp bp .nil pass0 (pa_cons (pv 0) (pa_cons pe_int pa_nil))) pe_int)
        (pa_cons (pe_op op_add pe_int (pe_call PL hr (by rfl) gp kp bp .nil pass0 (pa_cons (pv 0) (pa_cons pe_int pa_nil)))) pa_nil))))
      (pss_one (ps_ret (pe_call MD hr (by rfl) gm km bm .nil pass0 (pa_cons (pe_call SP hr (by rfl) gs ks bs .nil pass0 (pa_cons (pv 0) (pa_cons pe_int (pa_cons pe_int pa_nil))))
        (pa_cons (pe_ifExp (pt_cmpR op_eq (pe_ix ix_tup (pv 1) pe_int (fun _ _ => rfl)) pe_int (nomark _)) (pe_tup (pa_cons pe_int (pa_cons pe_int pa_nil))) (pv 1)) pa_nil))))), ?_⟩
    refine ⟨_, rfl, b, bl', 25, rfl, by decide, by decide +kernel, hB, fun r1 H1 s1 B1 l1 u1 => ⟨_, _, rfl, rfl, ?_⟩⟩
    refine ⟨_, rfl, b, bl', 6, rfl, by decide, by decide +kernel, B1, fun r2 H2 s2 B2 l2 u2 => ⟨_, _, rfl, rfl, ?_⟩⟩
    have n1 : (1 + r2 : Int) ≠ 0 := by omega
    have z1 : Bi 4 (r1 - 12) := bi_of (by simp; omega) (by simp; omega)
    have z2 : Bi 4 (1 + r2) := bi_of (by simp; omega) (by simp; omega)
    refine ⟨_, _, rfl, n1, z2.mono (by decide), fun p np => ?_⟩
    have bq := Bq.of z1 z2 n1
    generalize Rat.divInt (r1 - 12) (1 + r2) = r at bq
    have s3 := same_upd (o := .tup [.int r.num, .int (r.den : Int)]) np
    have B3 := B2.same s3
    have hp : (upd H2 p (.tup [.int r.num, .int (r.den : Int)])) p = some (.tup [.int r.num, .int (r.den : Int)]) := upd_same
    generalize upd H2 p (.tup [.int r.num, .int (r.den : Int)]) = H3 at s3 B3 hp
    have s03 := (s1.trans s2).trans (SameB.of (b := b) s3)
    refine ⟨_, rfl, b, bl', 6, 3, rfl, B3, by decide, by decide, by decide, by decide, fun v px py H4 s4 B4 ip bx by' => ?_⟩
    have hp4 : SqT K H4 p [.int r.num, .int (r.den : Int)] := B3.tupT s4 (.inl (.inl hp))
    refine ⟨_, rfl, p, _, 0, _, rfl, rfl, hp4, atI_nat (j := 0) rfl, rfl, _, rfl, ite2 (fun e => ?_) (fun e => ?_)⟩
    · refine ⟨(by show 2 ≤ sizeLine; decide), fun t nt => ?_⟩
      have s5 := same_upd (o := .tup [.int 1, .int 1]) nt
      refine ⟨_, _, px, py, 1, rfl, ip.same s5, isQ_at (q := 1) upd_same, by decide, bx.mono (by decide), by'.mono (by decide), bq1.mono (by decide), fun d H6 s6 id => ?_⟩
      exact ret _ _ _ ((s03.trans s4).trans (SameB.of (s5.trans s6))) (B4.same (s5.trans s6)) id (by
        have z := madeOf_ok (by decide) bx by' bq1
        exact ⟨z.ne, z.one, z.b0.mono (by decide), z.b1.mono (by decide), z.b2.mono (by decide), z.b3.mono (by decide)⟩)
    · have r0 : r ≠ 0 := fun z => by
        subst z
        simp at e
      refine ⟨_, rfl, _, _, px, py, r, rfl, ip, ⟨p, rfl, hp4⟩, r0, bx.mono (by decide), by'.mono (by decide), bq.mono (by decide), fun d H6 s6 id => ?_⟩
      exact ret _ _ _ ((s03.trans s4).trans (SameB.of s6)) (B4.same s6) id (by
        have z := madeOf_ok r0 bx by' bq
        exact ⟨z.ne, z.one, z.b0.mono (by decide), z.b1.mono (by decide), z.b2.mono (by decide), z.b3.mono (by decide)⟩)
end
end Gap
namespace Gap
open PySem PySem.Spec PyProof.Rows L2
section
variable {P : Program} {w : World} {K : PySem.W.Frag} {mg : Str → Option Value} {base : Heap}
/-! ### the middle -/
abbrev sCenter : Stmt := topS 30
theorem scCenter : FnScope ["_law_one"] ["_law_one"] (defScope sCenter) := ⟨rfl, rfl, rfl, by decide +kernel, rfl, by decide +kernel, by decide +kernel⟩
def spCenter (K : PySem.W.Frag) : Sp := fun vs H Q _ => ∃ (v : V) (D : Dq), vs = [v] ∧ IsD K H v D ∧ D.Ok 1000 ∧ RetPl K H Q (D.x / D.bend) (D.y / D.bend)
theorem ok_center {f : Addr} {fd : FuncData} {k : Nat} (F : Fun K "_law_center" "_law_center" sCenter f fd) (O : Own P w K mg base k) : FnOk P w K mg base CX0 (k + 1) f fd ["_law_one"] (spCenter K) := by
  obtain ⟨f4, fd4, F4, b4, g4, k4⟩ := O.per.ex
  refine F.ok scCenter (fun vs H Q E h => ?_) (fun cdv A outer s H vs Q E hr h => ?_)
  · obtain ⟨v, D, rfl, _⟩ := h
    rfl
  · obtain ⟨v, D, rfl, ⟨a, v0, v1, v2, v3, rfl, hd, h0, h1, h2, h3⟩, ok, ret⟩ := h
    refine ⟨_, pss_one (ps_ret (pe_tup (pa_cons (pe_call F4 hr (by rfl) g4 k4 b4 .nil pass0 (pa_cons (pe_ix ix_tup (pv 0) pe_int (fun _ _ => rfl)) (pa_cons (pe_ix ix_tup (pv 0) pe_int (fun _ _ => rfl)) pa_nil)))
      (pa_cons (pe_call F4 hr (by rfl) g4 k4 b4 .nil pass0 (pa_cons (pe_ix ix_tup (pv 0) pe_int (fun _ _ => rfl)) (pa_cons (pe_ix ix_tup (pv 0) pe_int (fun _ _ => rfl)) pa_nil))) pa_nil)))), ?_⟩
    refine ⟨_, rfl, a, _, 2, _, rfl, rfl, hd, atI_nat (j := 2) rfl, _, rfl, a, _, 1, _, rfl, rfl, hd, atI_nat (j := 1) rfl, _, _, _, _, rfl, h2, h1, ok.b2.mono (by decide), ok.b1.mono (by decide), ok.ne, fun u1 H1 s1 i1 => ?_⟩
    refine ⟨_, rfl, a, _, 3, _, rfl, rfl, Same.seqT s1 hd, atI_nat (j := 3) rfl, _, rfl, a, _, 1, _, rfl, rfl, Same.seqT s1 hd, atI_nat (j := 1) rfl, _, _, _, _, rfl, h3.same s1, h1.same s1, ok.b3.mono (by decide), ok.b1.mono (by decide), ok.ne, fun u2 H2 s2 i2 => ⟨(by show 2 ≤ sizeLine; decide), fun t nt => ?_⟩⟩
    have s3 := same_upd (o := .tup [u1, u2]) nt
    exact ret _ _ ((s1.trans s2).trans s3) (isPl_at upd_same ((i1.same s2).same s3) (i2.same s3))
end
end Gap
namespace Gap
open PySem PySem.Spec PyProof.Rows L2
section
variable {P : Program} {w : World} {K : PySem.W.Frag} {mg : Str → Option Value} {base : Heap}
/-- the program's own reckoning -/
structure Prg (P : Program) (w : World) (K : PySem.W.Frag) (mg : Str → Option Value) (base : Heap) (k : Nat) : Prop where
  plus : Cal P w K mg base k "plus" ["one", "other"] (sp2 K (fun q r => q + r) (fun _ _ => True))
  less : Cal P w K mg base k "less" ["one", "other"] (sp2 K (fun q r => q - r) (fun _ _ => True))
  times : Cal P w K mg base k "times" ["one", "other"] (sp2 K (fun q r => q * r) (fun _ _ => True))
abbrev sInner : Stmt := topS 14
theorem scInner : FnScope ["one", "other"] ["one", "other"] (defScope sInner) := ⟨rfl, rfl, rfl, by decide +kernel, rfl, by decide +kernel, by decide +kernel⟩
def spInner (K : PySem.W.Frag) : Sp := fun vs H Q _ => ∃ (u v : V) (p q p' q' : Rat), vs = [u, v] ∧ IsPl K H u p q ∧ IsPl K H v p' q' ∧ Bq 1900 p ∧ Bq 1900 q ∧ Bq 1900 p' ∧ Bq 1900 q' ∧ RetQ K H Q (p * p' + q * q')
theorem ok_inner {f : Addr} {fd : FuncData} {k : Nat} (F : Fun K "inner" "inner" sInner f fd) (O : Prg P w K mg base k) : FnOk P w K mg base CX0 (k + 1) f fd ["one", "other"] (spInner K) := by
  obtain ⟨f1, fd1, F1, b1, g1, k1⟩ := O.plus.ex
  obtain ⟨f3, fd3, F3, b3, g3, k3⟩ := O.times.ex
  refine F.ok scInner (fun vs H Q E h => ?_) (fun cdv A outer s H vs Q E hr h => ?_)
  · obtain ⟨u, v, p, q, p', q', rfl, _⟩ := h
    rfl
  · obtain ⟨u, v, p, q, p', q', rfl, ⟨a, x, y, rfl, ha, hx, hy⟩, ⟨c, x', y', rfl, hc, hx', hy'⟩, bp, bq, bp', bq', ret⟩ := h
    refine ⟨_, pss_one (ps_ret (pe_call F1 hr (by rfl) g1 k1 b1 .nil pass0 (pa_cons (pe_call F3 hr (by rfl) g3 k3 b3 .nil pass0 (pa_cons (pe_ix ix_tup (pv 0) pe_int (fun _ _ => rfl)) (pa_cons (pe_ix ix_tup (pv 1) pe_int (fun _ _ => rfl)) pa_nil)))
      (pa_cons (pe_call F3 hr (by rfl) g3 k3 b3 .nil pass0 (pa_cons (pe_ix ix_tup (pv 0) pe_int (fun _ _ => rfl)) (pa_cons (pe_ix ix_tup (pv 1) pe_int (fun _ _ => rfl)) pa_nil))) pa_nil)))), ?_⟩
    refine ⟨_, rfl, a, _, 0, _, rfl, rfl, ha, atI_nat (j := 0) rfl, _, rfl, c, _, 0, _, rfl, rfl, hc, atI_nat (j := 0) rfl, _, _, _, _, rfl, hx, hx', bp.mono (by decide), bp'.mono (by decide), trivial, fun u1 H1 s1 i1 => ?_⟩
    refine ⟨_, rfl, a, _, 1, _, rfl, rfl, Same.seqT s1 ha, atI_nat (j := 1) rfl, _, rfl, c, _, 1, _, rfl, rfl, Same.seqT s1 hc, atI_nat (j := 1) rfl, _, _, _, _, rfl, hy.same s1, hy'.same s1, bq.mono (by decide), bq'.mono (by decide), trivial, fun u2 H2 s2 i2 => ?_⟩
    refine ⟨_, _, _, _, rfl, i1.same s2, i2, (bp.mul bp').mono (by decide), (bq.mul bq').mono (by decide), trivial, fun u3 H3 s3 i3 => ?_⟩
    exact ret _ _ ((s1.trans s2).trans s3) i3
end
end Gap
namespace Gap
open PySem PySem.Spec PyProof.Rows L2
section
variable {P : Program} {w : World} {K : PySem.W.Frag} {mg : Str → Option Value} {base : Heap}
/-! ### middle -/
abbrev sMiddle : Stmt := topS 16
theorem scMiddle : FnScope ["disc", "back", "bend", "x", "y"] ["disc"] (defScope sMiddle) := ⟨rfl, rfl, rfl, by decide +kernel, rfl, by decide +kernel, by decide +kernel⟩
theorem ok_middle {f : Addr} {fd : FuncData} {k : Nat} (F : Fun K "middle" "middle" sMiddle f fd) (Ov : Cal P w K mg base k "over" ["one", "other"] (sp2 K (fun q r => q / r) (fun _ r => r ≠ 0))) : FnOk P w K mg base CX0 (k + 1) f fd ["disc"] (spCenter K) := by
  obtain ⟨f4, fd4, F4, b4, g4, k4⟩ := Ov.ex
  refine F.ok scMiddle (fun vs H Q E h => ?_) (fun cdv A outer s H vs Q E hr h => ?_)
  · obtain ⟨v, D, rfl, _⟩ := h
    rfl
  · obtain ⟨v, D, rfl, ⟨a, v0, v1, v2, v3, rfl, hd, h0, h1, h2, h3⟩, ok, ret⟩ := h
    refine ⟨_, pss_cons (ps_asg (pv 0) (pg_tup rfl (pgs_cons (pg_name (i := 1) scMiddle.nd rfl (.inl rfl)) (pgs_cons (pg_name (i := 2) scMiddle.nd rfl (.inl rfl)) (pgs_cons (pg_name (i := 3) scMiddle.nd rfl (.inl rfl)) (pgs_cons (pg_name (i := 4) scMiddle.nd rfl (.inl rfl)) pgs_nil))))))
      (pss_one (ps_ret (pe_tup (pa_cons (pe_call F4 hr (by rfl) g4 k4 b4 .nil pass0 (pa_cons (pv 3) (pa_cons (pv 2) pa_nil))) (pa_cons (pe_call F4 hr (by rfl) g4 k4 b4 .nil pass0 (pa_cons (pv 4) (pa_cons (pv 2) pa_nil))) pa_nil))))), ?_⟩
    refine ⟨_, rfl, a, _, rfl, hd, rfl, _, _, rfl, _, _, rfl, _, _, rfl, _, _, rfl, rfl, ?_⟩
    refine ⟨_, rfl, _, rfl, _, _, _, _, rfl, h2, h1, ok.b2.mono (by decide), ok.b1.mono (by decide), ok.ne, fun u1 H1 s1 i1 => ?_⟩
    refine ⟨_, rfl, _, rfl, _, _, _, _, rfl, h3.same s1, h1.same s1, ok.b3.mono (by decide), ok.b1.mono (by decide), ok.ne, fun u2 H2 s2 i2 => ⟨(by show 2 ≤ sizeLine; decide), fun t nt => ?_⟩⟩
    have s3 := same_upd (o := .tup [u1, u2]) nt
    exact ret _ _ ((s1.trans s2).trans s3) (isPl_at upd_same ((i1.same s2).same s3) (i2.same s3))
/-! ### disc -/
theorem dp_pair {H : Hp} {a : Addr} {i j : Int} (h : SqT K H a [.int i, .int j]) : Dp K H (.ref a) (.tuple [.int i, .int j]) := .tup h (.cons (.int _) (.cons (.int _) .nil))
theorem shaped_pair (i j : Int) : SeqAt.shaped (.tuple [.int i, .int j]) = true := rfl
theorem eqv_pair (i j i' j' : Int) : PyData.eqv (.tuple [.int i, .int j]) (.tuple [.int i', .int j']) = ((i == i') && ((j == j') && true)) := rfl
theorem isz {q : Rat} : ((q.num == 0) && (((q.den : Int) == 1) && true)) = decide (q = 0) := by
  by_cases h : q = 0
  · subst h
    rfl
  · have n0 : q.num ≠ 0 := num_ne h
    have e : (q.num == 0) = false := by simpa using n0
    rw [decide_eq_false h, e]
    rfl
abbrev sDisc : Stmt := topS 15
theorem scDisc : FnScope ["middle", "bend", "x", "y", "back"] ["middle", "bend"] (defScope sDisc) := ⟨rfl, rfl, rfl, by decide +kernel, rfl, by decide +kernel, by decide +kernel⟩
def spDiscX (K : PySem.W.Frag) (C : Addr) : Sp := fun vs H Q E => ∃ (c b : V) (p q r : Rat), vs = [c, b] ∧ IsPl K H c p q ∧ IsQ K H b r ∧ Bq 300 p ∧ Bq 300 q ∧ Bq 300 r ∧ (r ≠ 0 → RetDq K H Q (madeOf p q r)) ∧ (r = 0 → Leaves C "BadPart" H E)
theorem ok_discX {f fi C a0 a1 : Addr} {fd fdi : FuncData} {k : Nat} (F : Fun K "disc" "disc" sDisc f fd) (O : Prg P w K mg base (k + 1)) (Ov : Cal P w K mg base (k + 1) "over" ["one", "other"] (sp2 K (fun q r => q / r) (fun _ r => r ≠ 0)))
    (IN : FnOk P w K mg base CX0 (k + 1) fi fdi ["one", "other"] (spInner K)) (bi : Binds K fdi ["one", "other"] []) (gi : mg "inner" = some (.ref fi)) (ki : PySem.W.keepIn K (.ref fi) = true)
    (g0 : mg "NOUGHT" = some (.ref a0)) (i0 : ∀ H, SqT K H a0 [.int 0, .int 1]) (ga1 : mg "ONE" = some (.ref a1)) (i1 : ∀ H, SqT K H a1 [.int 1, .int 1]) (Er : Err P w K mg base k "BadPart" C) : FnOk P w K mg base (L2.CX P w) (k + 2) f fd ["middle", "bend"] (spDiscX K C) := by
  obtain ⟨f1, fd1, F1, b1, g1, k1⟩ := O.plus.ex
  obtain ⟨f2, fd2, F2, b2, g2, k2⟩ := O.less.ex
  obtain ⟨f3, fd3, F3, b3, g3, k3⟩ := O.times.ex
  obtain ⟨f4, fd4, F4, b4, g4, k4⟩ := Ov.ex
  obtain ⟨fI, fdI, iC, tI, FI, bI⟩ := Er.ex
  refine F.okX scDisc (fun vs H Q E h => ?_) (fun cdv A outer s H vs Q E hr h => ?_)
  · obtain ⟨c, b, p, q, r, rfl, _⟩ := h
    rfl
  · obtain ⟨c, b, p, q, r, rfl, ⟨ca, x, y, rfl, hc, hp, hq⟩, ⟨ba, rfl, hb⟩, bp, bq, br, yes, no⟩ := h
    refine ⟨_, pss_cons (ps_if (pt_cmpR (op_eqD hr.units) (pv 1) (pe_glob (v := .ref a0) rfl g0 rfl) (nomark _)) (pss_one (ps_raise rfl (takes_of rfl rfl rfl rfl) (pmk_oex0 Er.cls iC tI FI hr bI .nil pass0 (by rfl) Er.at_))) pss_nil)
      (pss_cons (ps_par (i := 2) (j := 3) rfl scDisc.nd rfl rfl (by decide) rfl rfl (pa_cons (pe_call F3 hr (by rfl) g3 k3 b3 .nil pass0 (pa_cons (pe_ix ix_tup (pv 0) pe_int (fun _ _ => rfl)) (pa_cons (pv 1) pa_nil))) (pa_cons (pe_call F3 hr (by rfl) g3 k3 b3 .nil pass0 (pa_cons (pe_ix ix_tup (pv 0) pe_int (fun _ _ => rfl)) (pa_cons (pv 1) pa_nil))) pa_nil)) (by rfl))
      (pss_cons (ps_set (i := 4) scDisc.nd rfl (.inl rfl) (pe_call F4 hr (by rfl) g4 k4 b4 .nil pass0 (pa_cons (pe_call F2 hr (by rfl) g2 k2 b2 .nil pass0 (pa_cons (pe_call IN hr (by rfl) gi ki bi .nil pass0 (pa_cons (pe_tup (pa_cons (pv 2) (pa_cons (pv 3) pa_nil))) (pa_cons (pe_tup (pa_cons (pv 2) (pa_cons (pv 3) pa_nil))) pa_nil))) (pa_cons (pe_glob (v := .ref a1) rfl ga1 rfl) pa_nil))) (pa_cons (pv 1) pa_nil))))
      (pss_one (ps_ret (pe_tup (pa_cons (pv 4) (pa_cons (pv 1) (pa_cons (pv 2) (pa_cons (pv 3) pa_nil)))))))))  , ?_⟩
    refine ⟨_, rfl, _, _, dp_pair hb, dp_pair (i0 H), shaped_pair _ _, shaped_pair _ _, _, rfl, ?_⟩
    rw [eqv_pair, isz]
    refine ite2 (fun e => ?_) (fun e => ?_)
    · have r0 : r = 0 := of_decide_eq_true e
      refine ⟨Nat.zero_le _, fun x nx => ⟨x, rfl, Er.cls, Er.no, upd_same, fun dx ndx nex => ⟨rfl, dx, [("called", .str "BadPart")], upd_same, ?_, ?_, ?_⟩⟩⟩
      · rw [upd_ne nex, upd_same]
      · rw [upd_ne nex] at ndx
        exact ndx
      · have ndx' : H dx = none := by
          rw [upd_ne nex] at ndx
          exact ndx
        rw [unmade nx nex]
        exact no r0 dx ndx'
    · have r0 : r ≠ 0 := fun z => e (decide_eq_true z)
      have hbq : IsQ K H (.ref ba) r := ⟨ba, rfl, hb⟩
      refine ⟨_, rfl, ca, _, 0, _, rfl, rfl, hc, atI_nat (j := 0) rfl, _, rfl, _, _, p, r, rfl, hp, hbq, bp.mono (by decide), br.mono (by decide), trivial, fun vx H1 s1 ix => ?_⟩
      refine ⟨_, rfl, ca, _, 1, _, rfl, rfl, Same.seqT s1 hc, atI_nat (j := 1) rfl, _, rfl, _, _, q, r, rfl, hq.same s1, hbq.same s1, bq.mono (by decide), br.mono (by decide), trivial, fun vy H2 s2 iy => ⟨_, _, rfl, ?_⟩⟩
      have ix2 : IsQ K H2 vx (p * r) := ix.same s2
      have iy : IsQ K H2 vy (q * r) := iy
      have bx := bp.mul br
      have by' := bq.mul br
      refine ⟨_, rfl, _, rfl, (by show 2 ≤ sizeLine; decide), fun t1 n1 => ⟨_, rfl, _, rfl, (by show 2 ≤ sizeLine; decide), fun t2 n2 => ?_⟩⟩
      have s3 := same_upd (o := .tup [vx, vy]) n1
      have s4 := same_upd (o := .tup [vx, vy]) n2
      have s34 := s3.trans s4
      refine ⟨_, _, _, _, _, _, rfl, isPl_at (s4 _ _ upd_same) (ix2.same s34) (iy.same s34), isPl_at upd_same (ix2.same s34) (iy.same s34), bx.mono (by decide), by'.mono (by decide), bx.mono (by decide), by'.mono (by decide), fun v3 H5 s5 i3 => ?_⟩
      have bs := (bx.mul bx).add (by'.mul by')
      have one : IsQ K H5 (.ref a1) 1 := ⟨a1, rfl, i1 H5⟩
      refine ⟨_, _, _, _, rfl, i3, one, bs.mono (by decide), bq1.mono (by decide), trivial, fun v4 H6 s6 i4 => ⟨_, rfl, ?_⟩⟩
      have s26 := (s34.trans s5).trans s6
      have hb6 := (hbq.same (s1.trans s2)).same s26
      refine ⟨_, _, _, _, rfl, i4, hb6, (bs.sub bq1).mono (by decide), br.mono (by decide), r0, fun v5 H7 s7 i5 => ?_⟩
      refine ⟨_, rfl, _, rfl, _, rfl, _, rfl, (by show 4 ≤ sizeLine; decide), fun d nd => ?_⟩
      have s9 := same_upd (o := .tup [v5, .ref ba, vx, vy]) nd
      exact yes r0 _ _ (((s1.trans s2).trans s26).trans (s7.trans s9)) (isD_at (D := madeOf p q r) upd_same (i5.same s9) ((hb6.same s7).same s9) (((ix2.same s26).same s7).same s9) (((iy.same s26).same s7).same s9))
end
end Gap
namespace Gap
open PySem PySem.Spec PyProof.Rows L2
section
variable {P : Program} {w : World} {K : PySem.W.Frag} {mg : Str → Option Value} {base : Heap}
theorem made_again {D : Dq} {n : Nat} (ok : D.Ok n) : madeOf (D.x / D.bend) (D.y / D.bend) D.bend = D := by
  have h1 := ok.ne
  have h2 := ok.one
  obtain ⟨k, b, x, y⟩ := D
  dsimp only at h1 h2 ⊢
  have e1 : x / b * b = x := by grind
  have e2 : y / b * b = y := by grind
  have e3 : (x * x + y * y - 1) / b = k := by grind
  unfold madeOf
  rw [e1, e2, e3]
abbrev sLaw : Stmt := topS 32
abbrev nLaw : List Str := ["_law_script", "_law_bag_here", "_law_turn", "_law_due", "_law_one", "_law_size", "_law_spot_here"]
theorem scLaw : FnScope nLaw ["_law_script"] (defScope sLaw) := ⟨rfl, rfl, rfl, by decide +kernel, rfl, by decide +kernel, by decide +kernel⟩
def spLaw (K : PySem.W.Frag) (Pt : Addr) : Sp := fun vs H Q _ => ∃ (a : Addr) (ns : List Int), vs = [.ref a] ∧ SqL K H a (ns.map V.int) ∧ ns.length ≤ 63 ∧ H Pt = some (.tbl #[]) ∧ ∀ H', Q (.bl true) H'
/-- disc, as it is called here -/
structure DiscAt (P : Program) (w : World) (K : PySem.W.Frag) (mg : Str → Option Value) (base : Heap) (k : Nat) (C : Addr) : Prop where
  ex : ∃ (f : Addr) (fd : FuncData), FnOk P w K mg base (L2.CX P w) k f fd ["middle", "bend"] (spDiscX K C) ∧ mg "disc" = some (.ref f) ∧ PySem.W.keepIn K (.ref f) = true ∧ Binds K fd ["middle", "bend"] [] ∧
    KBinds K fd ["middle", "bend"] ["bend", "middle"] (fun us ws => match us, ws with | [], [s, r] => [r, s] | _, _ => []) (fun us ws => match us, ws with | [], [s, r] => [r, s] | _, _ => [])
theorem ok_law {f c Pt S M C : Addr} {fd : FuncData} {k : Nat} (F : FunC K "law" sLaw f c fd) (TB : LamX.TabB base mg c Pt) (T : Blt mg) (B : Cal P w K mg base (k + 3) "_law_bag" ["_law_script"] (spBag K)) (D0 : Cal P w K mg base (k + 3) "_law_part" ["_law_bag_here"] (spDrawn K)) (Sp : Cal P w K mg base (k + 3) "_law_spot" ["_law_bag_here", "_law_most", "_law_reach"] (spSpot K))
    (Ma : Cal P w K mg base (k + 3) "_law_made" ["_law_center_here", "_law_my_bend"] (spMade K)) (Ce : Cal P w K mg base (k + 3) "_law_center" ["_law_one"] (spCenter K)) (Fr : Cal P w K mg base (k + 3) "_law_free_disc" ["_law_bag_here"] (spFree K)) (Mi : Cal P w K mg base (k + 3) "middle" ["disc"] (spCenter K))
    (Sm : Cal P w K mg base (k + 3) "_law_same" ["_law_told", "_law_due"] (spSame K 3)) (Tr : TriedAt K mg S M) (ek : ErrK K S M C) (Di : DiscAt P w K mg base (k + 1) C) :
    FnOk P w K mg base CX0 (k + 4) f fd ["_law_script"] (spLaw K Pt) := by
  obtain ⟨fB, fdB, FB, bB, gB, kB⟩ := B.ex
  obtain ⟨fD, fdD, FD, bD, gD, kD⟩ := D0.ex
  obtain ⟨fS, fdS, FS, bS, gS, kS⟩ := Sp.ex
  obtain ⟨fA, fdA, FA, bA, gA, kA⟩ := Ma.ex
  obtain ⟨fC, fdC, FC, bC, gC, kC⟩ := Ce.ex
  obtain ⟨fF, fdF, FF, bF, gF, kF⟩ := Fr.ex
  obtain ⟨fI, fdI, FI, bI, gI, kI⟩ := Mi.ex
  obtain ⟨fM, fdM, FM, bM, gM, kM⟩ := Sm.ex
  obtain ⟨fX, fdX, FX, gX, kX, bX, kbX⟩ := Di.ex
  refine F.ok scLaw (fun vs H Q E h => ?_) (fun A outer s H vs Q E hr h => ?_)
  · obtain ⟨a, ns, rfl, _⟩ := h
    rfl
  · obtain ⟨a, ns, rfl, hS, hlen, hPt, ret⟩ := h
    have hr1 : Room (k + 1) _ := hr.mono (by omega)
    refine ⟨_, pss_cons (ps_set (i := 1) scLaw.nd rfl (.inl rfl) (pe_call FB hr (by rfl) gB kB bB .nil pass0 (pa_cons (pv 0) pa_nil)))
      (pss_cons (ps_for PassesOwn.never rfl (pi_range1 rfl T.rng (pa_cons pe_int pa_nil)) (pg_name (i := 2) scLaw.nd rfl (.inl rfl))
        (pss_cons (ps_asg (pe_tup (pa_cons (pe_call FS hr (by rfl) gS kS bS .nil pass0 (pa_cons (pv 1) (pa_cons pe_int (pa_cons pe_int pa_nil)))) (pa_cons (pe_call FD hr (by rfl) gD kD bD .nil pass0 (pa_cons (pv 1) pa_nil)) pa_nil))) (pg_tup rfl (pgs_cons (pg_name (i := 6) scLaw.nd rfl (.inr rfl)) (pgs_cons (pg_name (i := 5) scLaw.nd rfl (.inr rfl)) pgs_nil))))
        (pss_cons (ps_set (i := 3) scLaw.nd rfl (.inl rfl) (pe_tup (pa_cons pe_str pa_nil)))
        (Evl.pss_cut (ps_if (pt_cmpR op_ne (pe_ix ix_tup (pv 5) pe_int (fun _ _ => rfl)) pe_int (nomark _)) (pss_one (ps_set (i := 3) scLaw.nd rfl (.inl rfl) (pe_tup (pa_cons pe_str (pa_cons (pe_call FA hr (by rfl) gA kA bA .nil pass0 (pa_cons (pv 6) (pa_cons (pv 5) pa_nil))) pa_nil))))) pss_nil)
        (Evl.pss_cut (ps_if (pt_not (pt_val (pe_call FM hr (by rfl) gM kM bM .nil pass0 (pa_cons
            (pe_tried (c := c) (Pt := Pt) (k := k + 1) (t := fun E => tCall (spDiscX K C) [] E (tCons (tVar 6) (tCons (tVar 5) tNil))) Tr (by rfl) TB rfl hr (LamX.lamS_by (sc := defScope sLaw) (by decide +kernel)) rfl (fun _ _ _ _ _ => rfl) (fun A outer s H E f c' hr2 => pe_call FX hr2 (by rfl) gX kX bX .nil (passes_call (takes_of rfl rfl rfl rfl) (fun _ _ _ _ h => h)) (pa_cons (pv 6) (pa_cons (pv 5) pa_nil))))
            (pa_cons (pv 3) pa_nil))))) pss_never pss_nil)
        (pss_cons (ps_set (i := 4) scLaw.nd rfl (.inl rfl) (pe_call FF hr (by rfl) gF kF bF .nil pass0 (pa_cons (pv 1) pa_nil)))
        (pss_one (ps_if (pt_not (pt_val (pe_call FM hr (by rfl) gM kM bM .nil pass0 (pa_cons (pe_lst (pa_cons (pe_call FI hr (by rfl) gI kI bI .nil pass0 (pa_cons (pv 4) pa_nil)) (pa_cons (pe_callK0 FX hr1 (by rfl) gX kX kbX passL (pk_cons (pe_ix ix_tup (pv 4) pe_int (fun _ _ => rfl)) (pk_cons (pe_call FI hr (by rfl) gI kI bI .nil pass0 (pa_cons (pv 4) pa_nil)) pk_nil))) pa_nil)))
            (pa_cons (pe_lst (pa_cons (pe_call FC hr (by rfl) gC kC bC .nil pass0 (pa_cons (pv 4) pa_nil)) (pa_cons (pv 4) pa_nil))) pa_nil))))) pss_never pss_nil))))))))
      (pss_one (ps_ret pe_bl))), ?_⟩
    refine ⟨_, rfl, a, ns, rfl, hS, hlen, fun b bl H1 s1 nb B1 => ?_⟩
    have t0 : LamX.Tabs [(Pt, (envOfC "law" (defScope sLaw) 0 f (.ref c)).qual ++ "<lambda>")] H1 := fun q hq => by
      rw [List.mem_singleton.mp hq]
      exact LamX.TabS.nil (s1 _ _ hPt)
    refine ⟨6, rfl, by decide, by decide, for_range (lo := 0) (n := 6) (fun i σ H' => ∃ x2 x3 x4 x5 x6 : Option V, σ = [some (.ref a), some (.ref b), x2, x3, x4, x5, x6] ∧ Bag H' b bl ∧ LamX.Tabs [(Pt, (envOfC "law" (defScope sLaw) 0 f (.ref c)).qual ++ "<lambda>")] H') ⟨_, _, _, _, _, rfl, B1, t0⟩ ?_ ?_⟩
    · rintro i σ H2 hi ⟨x2, x3, x4, x5, x6, rfl, B2, t2⟩
      refine ⟨_, rfl, b, bl, 9, 4, rfl, B2, by decide, by decide, by decide, by decide, fun vp p q H3 s3 B3 ip bp bq => ⟨_, rfl, b, bl, rfl, B3, fun vr r H4 s4 B4 ir br => ⟨(by show 2 ≤ sizeLine; decide), fun t nt => ?_⟩⟩⟩
      have t4 := B3.tabs s4 (B2.tabs s3 t2)
      have ip := B3.isPl s4 ip
      refine ⟨t, [vp, vr], rfl, .inl (.inl upd_same), rfl, vp, [vr], rfl, vr, [], rfl, rfl, ?_⟩
      have sp := same_upd (o := .tup [vp, vr]) nt
      have B5 := B4.same sp
      have t5 := t4.ext sp
      have ip := ip.same sp
      obtain ⟨ra, rfl, hra⟩ := ir.same sp
      generalize upd H4 t (.tup [vp, .ref ra]) = H5 at sp B5 t5 ip hra
      clear sp nt t
      have w0 := bp.mono (show 9 ≤ 300 by decide)
      have w1 := bq.mono (show 9 ≤ 300 by decide)
      have w2 := br.mono (show 70 ≤ 300 by decide)
      refine ⟨(by show 1 ≤ sizeLine; decide), fun da nda => ?_⟩
      have sd := same_upd (o := .tup [.str "BadPart"]) nda
      have hda : (upd H5 da (.tup [.str "BadPart"])) da = some (.tup [.str "BadPart"]) := upd_same
      have B8 := B5.same sd
      have t8 := t5.ext sd
      have ip := ip.same sd
      have hra := Same.seqT sd hra
      generalize upd H5 da (.tup [.str "BadPart"]) = M3 at sd hda B8 t8 ip hra
      refine ⟨fun σ' H' => ∃ dv : Addr, σ' = [some (.ref a), some (.ref b), some (.int (0 + (i : Int))), some (.ref dv), x4, some (.ref ra), some vp] ∧ Bag H' b bl ∧ LamX.Tabs [(Pt, (envOfC "law" (defScope sLaw) 0 f (.ref c)).qual ++ "<lambda>")] H' ∧ IsPl K H' vp p q ∧ IsQ K H' (.ref ra) r ∧
        ((r = 0 ∧ SqT K H' dv [.str "BadPart"]) ∨ (r ≠ 0 ∧ ∃ qv, SqT K H' dv [.str "told", qv] ∧ IsD K H' qv (madeOf p q r))), ?_, ?_⟩
      · refine ⟨_, rfl, ra, _, 0, _, rfl, rfl, hra, atI_nat (j := 0) rfl, rfl, _, rfl, ite2 (fun e => ?_) (fun e => ?_)⟩
        · have e2 : r ≠ 0 := fun z => by
            subst z
            simp at e
          refine ⟨_, rfl, _, rfl, vp, .ref ra, p, q, r, rfl, ip, ⟨ra, rfl, hra⟩, e2, w0, w1, w2, fun qv M4 s4 iq => ⟨(by show 2 ≤ sizeLine; decide), fun dv nv => ?_⟩⟩
          have sv := same_upd (o := .tup [.str "told", qv]) nv
          exact ⟨dv, rfl, (B8.same s4).same sv, (t8.ext s4).ext sv, (ip.same s4).same sv, ⟨ra, rfl, Same.seqT sv (Same.seqT s4 hra)⟩, .inr ⟨e2, qv, .inl (.inl upd_same), iq.same sv⟩⟩
        · have e2 : r = 0 := by
            have z : r.num = 0 := by simpa using e
            exact Rat.num_eq_zero.mp z
          exact ⟨da, rfl, B8, t8, ip, ⟨ra, rfl, hra⟩, .inl ⟨e2, .inl (.inl hda)⟩⟩
      · rintro σ' H7 ⟨dv, rfl, B9, t9, ip, ir, due⟩
        refine ⟨fun τ G => (∃ x2 x3 x4 x5 x6 : Option V, τ = [some (.ref a), some (.ref b), x2, x3, x4, x5, x6]) ∧ Bag G b bl ∧ LamX.Tabs [(Pt, (envOfC "law" (defScope sLaw) 0 f (.ref c)).qual ++ "<lambda>")] G, ?_, ?_⟩
        · refine ⟨t9, fun H8 e8 t10 => ?_⟩
          have B10 := B9.extN e8
          have ip8 : IsPl K H8 vp p q := by
            obtain ⟨pa, x, y, rfl, z1, z2, z3⟩ := ip
            exact ⟨pa, x, y, rfl, SqT.extN e8 z1, z2.extN e8, z3.extN e8⟩
          refine ⟨_, rfl, _, rfl, vp, .ref ra, p, q, r, rfl, ip8, ir.extN e8, w0, w1, w2, fun e qv G sq iq => ⟨(by show 2 ≤ sizeLine; decide), fun p2 np2 => ?_⟩, fun e d nd => ⟨C, d, _, _, rfl, rfl, ek.xf, ek.no, ek.yes, upd_same, rfl, fun p np => ?_⟩⟩
          · obtain ⟨q', du, iq'⟩ : ∃ qv, SqT K H7 dv [.str "told", qv] ∧ IsD K H7 qv (madeOf p q r) := by
              rcases due with ⟨e0, _⟩ | ⟨_, z⟩
              · exact absurd e0 e
              · exact z
            have sb := same_upd (o := .tup [.str "told", qv]) np2
            have iq8 : IsD K H8 q' (madeOf p q r) := by
              obtain ⟨qa, v0, v1, v2, v3, rfl, z, z0, z1, z2, z3⟩ := iq'
              exact ⟨qa, v0, v1, v2, v3, rfl, SqT.extN e8 z, z0.extN e8, z1.extN e8, z2.extN e8, z3.extN e8⟩
            refine ⟨_, rfl, _, _, rfl, Eqv.tups (.inl (.inl upd_same)) (Same.seqT sb (Same.seqT sq (SqT.extN e8 du))) (.cons (Eqv.flat (.inr (.inr (.inr ⟨_, rfl⟩)))) (.cons (Eqv.isD (iq.same sb) ((iq8.same sq).same sb)) .nil)) (by show 2 ≤ 1000; decide), fun H9 s9 => ⟨_, rfl, iteF ?_⟩⟩
            exact ⟨⟨_, _, _, _, _, rfl⟩, ((B10.same sq).same sb).same s9, ((t10.ext sq).ext sb).ext s9⟩
          · have du : SqT K H7 dv [.str "BadPart"] := by
              rcases due with ⟨_, du⟩ | ⟨n0, _⟩
              · exact du
              · exact absurd e n0
            have sa := same_upd (o := .xd [("called", .str "BadPart")]) nd
            have sb := same_upd (o := .tup [.str "BadPart"]) np
            refine ⟨_, rfl, _, _, rfl, Eqv.tups (.inl (.inl upd_same)) (Same.seqT sb (Same.seqT sa (SqT.extN e8 du))) (.cons (Eqv.flat (.inr (.inr (.inr ⟨_, rfl⟩)))) .nil) (by show 1 ≤ 1000; decide), fun H9 s9 => ⟨_, rfl, iteF ?_⟩⟩
            exact ⟨⟨_, _, _, _, _, rfl⟩, ((B10.same sa).same sb).same s9, ((t10.ext sa).ext sb).ext s9⟩
        · clear due ip ir
          rintro τ G ⟨⟨y2, y3, y4, y5, y6, rfl⟩, BG, tG⟩
          refine ⟨_, rfl, b, bl, rfl, BG, fun vd D G1 e1 BG1 iD ok => ?_⟩
          have tG1 := BG.tabs e1 tG
          refine ⟨_, rfl, vd, D, rfl, iD, ok.mono (by decide), fun vm G2 e2 im => ?_⟩
          obtain ⟨da, v0, v1, v2, v3, rfl, hd, h0, h1, h2, h3⟩ := iD.same e2
          refine ⟨_, rfl, da, _, 1, _, rfl, rfl, hd, atI_nat (j := 1) rfl, _, rfl, _, D, rfl, iD.same e2, ok.mono (by decide), fun vm2 G3 e3 im2 => ?_⟩
          have bm1 := ok.b2.div ok.b1 ok.ne
          have bm2 := ok.b3.div ok.b1 ok.ne
          refine ⟨vm2, v1, _, _, D.bend, rfl, im2, h1.same e3, bm1.mono (by decide), bm2.mono (by decide), ok.b1.mono (by decide), fun _ vq G4 e4 iq => ⟨(by show 2 ≤ sizeLine; decide), fun l1 n1 => ?_⟩, fun z => absurd z ok.ne⟩
          rw [made_again ok] at iq
          have e5 := same_upd (o := .lst [vm, vq]) n1
          have hl1 : (upd G4 l1 (.lst [vm, vq])) l1 = some (.lst [vm, vq]) := upd_same
          have e25 := (e3.trans e4).trans e5
          have im := im.same e25
          have iq := iq.same e5
          have iD5 := (iD.same e2).same e25
          generalize upd G4 l1 (.lst [vm, vq]) = G5 at e5 hl1 e25 im iq iD5
          refine ⟨_, rfl, _, D, rfl, iD5, ok.mono (by decide), fun vc G6 e6 ic => ⟨_, rfl, (by show 2 ≤ sizeLine; decide), fun l2 n2 => ?_⟩⟩
          have e7 := same_upd (o := .lst [vc, .ref da]) n2
          have e57 := e6.trans e7
          refine ⟨_, _, rfl, Eqv.lists (.inl (.inl (e57 _ _ hl1))) (.inl (.inl upd_same)) (.cons (Eqv.isPl (im.same e57) (ic.same e7)) (.cons (Eqv.isD (iq.same e57) (iD5.same e57)) .nil)) (by show 2 ≤ 1000; decide), fun G8 e8 => ⟨_, rfl, iteF ?_⟩⟩
          have eall := (e2.trans e25).trans (e57.trans e8)
          exact ⟨_, _, _, _, _, rfl, BG1.same eall, tG1.ext eall⟩
    · rintro σ H2 ⟨x2, x3, x4, x5, x6, rfl, B2, t2⟩
      exact ret _
end
end Gap
namespace Gap
open PySem PySem.Spec PyProof.Rows L2
/-! ### what the top has written -/
def FnAt (K : PySem.W.Frag) (name : Str) (st : Stmt) : Prop := ∃ (f : Addr) (fd : FuncData), Fun K name name st f fd ∧ PySem.W.nsIn K mainGlobals name = some (some (.ref f))
theorem fnAt {K : PySem.W.Frag} {name : Str} {st : Stmt} {f : Addr} {oc kV doc pm cdv ct : Value} {od an : Option Addr} {osl : Array (Option Value)} (a : PySem.W.nsIn K mainGlobals name = some (some (.ref f)))
    (l : K.lookup f = some ⟨oc, od, .func (PySem.W.fnOf name name (defArgs st) (defBody st) (defScope st) .none kV doc pm an cdv ct), osl⟩) (c : PySem.W.codeIn K cdv name = true) (k : PySem.W.keepIn K (.ref f) = true) : FnAt K name st := ⟨f, _, fun_mk l c k, a⟩
/-- a def with one default, an int -/
def FnAtD (K : PySem.W.Frag) (name : Str) (st : Stmt) (dvs : List V) (kws : List (Str × V)) : Prop := ∃ (f : Addr) (fd : FuncData), FunD K name name (defArgs st) (defBody st) (defScope st) dvs kws f fd ∧ PySem.W.nsIn K mainGlobals name = some (some (.ref f))
theorem fnAtD1 {K : PySem.W.Frag} {name : Str} {st : Stmt} {f T : Addr} {i : Int} {t : Tok} {n : Nat} {oc oc2 kV doc pm cdv ct : Value} {od od2 an : Option Addr} {osl osl2 : Array (Option Value)} (a : PySem.W.nsIn K mainGlobals name = some (some (.ref f)))
    (l : K.lookup f = some ⟨oc, od, .func (PySem.W.fnOf name name (defArgs st) (defBody st) (defScope st) (.ref T) kV doc pm an cdv ct), osl⟩) (c : PySem.W.codeIn K cdv name = true) (k : PySem.W.keepIn K (.ref f) = true)
    (d : K.lookup T = some ⟨oc2, od2, .seq #[.int i t] n, osl2⟩) : FnAtD K name st [.int i] [] :=
  ⟨f, _, ⟨⟨oc, od, .ref T, kV, doc, pm, an, cdv, ct, osl, rfl, l, c, .inr ⟨by simp, T, _, [.int i t], n, rfl, d, rfl, .cons ⟨t, rfl⟩ .nil⟩, .inl rfl⟩, k⟩, a⟩
/-- a def with one default behind the star, a pair of ints -/
theorem fnAtK1 {K : PySem.W.Frag} {name y : Str} {st : Stmt} {f D T : Addr} {i j : Int} {t u : Tok} {n : Nat} {oc doc pm cdv ct : Value} {od od2 an : Option Addr} {osl osl2 : Array (Option Value)} (a : PySem.W.nsIn K mainGlobals name = some (some (.ref f)))
    (l : K.lookup f = some ⟨oc, od, .func (PySem.W.fnOf name name (defArgs st) (defBody st) (defScope st) .none (.ref D) doc pm an cdv ct), osl⟩) (c : PySem.W.codeIn K cdv name = true) (k : PySem.W.keepIn K (.ref f) = true)
    (d : PySem.W.nsIn K D y = some (some (.ref T))) (e : K.lookup T = some ⟨.type "tuple", od2, .seq #[.int i t, .int j u] n, osl2⟩) : ∃ T : Addr, FnAtD K name st [] [(y, .ref T)] ∧ ∀ H, SqT K H T [.int i, .int j] :=
  ⟨T, ⟨f, _, ⟨⟨oc, od, .none, .ref D, doc, pm, an, cdv, ct, osl, rfl, l, c, .inl ⟨rfl, rfl⟩, .inr ⟨D, rfl, fun q hq => by
    have e := List.mem_singleton.mp hq
    subst e
    exact ⟨_, d, rfl⟩⟩⟩, k⟩, a⟩, fun H => .inr ⟨_, _, _, e, rfl, rfl, by show 2 ≤ sizeLine; decide, .cons ⟨t, rfl⟩ (.cons ⟨u, rfl⟩ .nil)⟩⟩
section
variable {P : Program} {w : World} {K : PySem.W.Frag} {mg : Str → Option Value} {base h : Heap}
theorem cal_of {k : Nat} {name : Str} {st : Stmt} {ps : List Str} {sp : Sp} (X : K.In h) (G : h.Ns mainGlobals mg) (F : FnAt K name st) (ok : ∀ f fd, Fun K name name st f fd → FnOk P w K mg base CX0 k f fd ps sp)
    (b : ∀ f fd, Fun K name name st f fd → Binds K fd ps []) : Cal P w K mg base k name ps sp := by
  obtain ⟨f, fd, F, a⟩ := F
  exact ⟨f, fd, ok f fd F, b f fd F, PySem.W.mg_of X G a, F.kp⟩
end
end Gap
namespace Gap
open PySem PySem.Spec PyProof.Rows L2
/-! ### what the top has written of the errors -/
/-- the class at S (its def m at f may be called off it) -/
structure StoneAt (K : PySem.W.Frag) (S : Addr) : Prop where
  at_ : PySem.W.nsIn K mainGlobals "StoneError" = some (some (.ref S))
  ex : ∃ (f : Addr) (fd : FuncData), Off K S "__init__" f ∧ FunD K "__init__" "StoneError.__init__" (defArgs sStone) (defBody sStone) (defScope sStone) [.str "StoneError", .str "refused"] [] f fd
  vV : PySem.W.findCls K (.type "ValueError") (.type "type") "__init__" = some (.val (.builtin "ValueError.__init__"))
  nV : PySem.W.nsIn K mainGlobals "ValueError" = some none
theorem stoneAt {K : PySem.W.Frag} {S f T : Addr} {t u : Tok} {n : Nat} {oc oc2 kV doc pm cdv ct : Value} {od od2 an : Option Addr} {osl osl2 : Array (Option Value)} (a : PySem.W.nsIn K mainGlobals "StoneError" = some (some (.ref S)))
    (ga : PySem.W.specialIn K (.ref S) "__getattribute__" = some (some (.builtin "type.__getattribute__"))) (ty : PySem.W.typeIn K (.ref S) = some (.type "type")) (rd : PySem.W.readsIn K S (.type "type") = true) (m : PySem.W.findCls K (.ref S) (.type "type") "__init__" = some (.val (.ref f)))
    (l : K.lookup f = some ⟨oc, od, .func (PySem.W.fnOf "__init__" "StoneError.__init__" (defArgs sStone) (defBody sStone) (defScope sStone) (.ref T) kV doc pm an cdv ct), osl⟩) (c : PySem.W.codeIn K cdv "StoneError.__init__" = true) (k : PySem.W.keepIn K (.ref f) = true)
    (d : K.lookup T = some ⟨oc2, od2, .seq #[.str "StoneError" t, .str "refused" u] n, osl2⟩) (vV : PySem.W.findCls K (.type "ValueError") (.type "type") "__init__" = some (.val (.builtin "ValueError.__init__"))) (nV : PySem.W.nsIn K mainGlobals "ValueError" = some none) : StoneAt K S :=
  ⟨a, ⟨f, _, ⟨ga, ty, rd, m⟩, ⟨⟨oc, od, .ref T, kV, doc, pm, an, cdv, ct, osl, rfl, l, c, .inr ⟨by simp, T, _, [.str "StoneError" t, .str "refused" u], n, rfl, d, rfl, .cons ⟨t, rfl⟩ (.cons ⟨u, rfl⟩ .nil)⟩, .inl rfl⟩, k⟩⟩, vV, nV⟩
/-- an error's class at C, under the one at S -/
structure ErrAt (K : PySem.W.Frag) (S M C : Addr) (name qual : Str) (st : Stmt) : Prop where
  at_ : PySem.W.nsIn K mainGlobals name = some (some (.ref C))
  cls : OexC K C
  kn : ErrK K S M C
  ex : ∃ (f : Addr) (fd : FuncData), PySem.W.findIn K (.ref C) "__init__" = some (some (.ref f)) ∧ PySem.W.typeIn K (.ref f) = some (.type "function") ∧ Fun K "__init__" qual st f fd
theorem exm_two {K : PySem.W.Frag} {S M C : Addr} (s1 : PySem.W.subIn K (.ref S) (.type "BaseException") = some true) (s2 : PySem.W.hasDictIn K S = true) (s3 : PySem.W.typeIn K (.ref S) = some (.type "type")) (s4 : PySem.W.subIn K (.ref C) (.ref S) = some true)
    (m1 : PySem.W.subIn K (.ref M) (.type "BaseException") = some true) (m2 : PySem.W.hasDictIn K M = true) (m3 : PySem.W.typeIn K (.ref M) = some (.type "type")) (m4 : PySem.W.subIn K (.ref C) (.ref M) = some false) : PySem.W.exmAny K (.ref C) [.ref S, .ref M] = some true := by
  unfold PySem.W.exmAny
  rw [PySem.W.exm_ref s1 s2 s3 s4]
  unfold PySem.W.exmAny
  rw [PySem.W.exm_ref m1 m2 m3 m4]
  rfl
theorem errAt {K : PySem.W.Frag} {S M C N f : Addr} {name qual nm q : Str} {st : Stmt} {bs : List Value} {sn : List Str} {sub : List Value} {ab : Bool} {col : Option Bool} {dd od an : Option Addr} {m0 m1 m2 m3 m5 : Option Value} {oc kV doc pm cdv ct : Value} {osl : Array (Option Value)}
    (a : PySem.W.nsIn K mainGlobals name = some (some (.ref C)))
    (x : K.lookup C = some (excClassObj nm q C N bs [.ref S, .type "ValueError", .type "Exception", .type "BaseException", .type "object"] true sn sub ab col dd m0 m1 m2 m3 m5 "ValueError.__new__"))
    (sa : PySem.W.findIn K (.ref C) "__setattr__" = some (some (.builtin "object.__setattr__"))) (ga : PySem.W.findIn K (.ref C) "__getattribute__" = some (some (.builtin "BaseException.__getattribute__"))) (gg : PySem.W.findIn K (.ref C) "__getattr__" = some none)
    (no : PySem.W.findIn K (.ref C) "called" = some none) (i : PySem.W.findIn K (.ref C) "__init__" = some (some (.ref f))) (ti : PySem.W.typeIn K (.ref f) = some (.type "function"))
    (l : K.lookup f = some ⟨oc, od, .func (PySem.W.fnOf "__init__" qual (defArgs st) (defBody st) (defScope st) .none kV doc pm an cdv ct), osl⟩) (c : PySem.W.codeIn K cdv qual = true) (k : PySem.W.keepIn K (.ref f) = true)
    (kC : PySem.W.keepIn K (.ref C) = true) (exC : PySem.W.subIn K (.ref C) (.type "BaseException") = some true) (tyC : PySem.W.typeIn K (.ref C) = some (.type "type")) (hd : PySem.W.hasDictIn K C = true) (yes : PySem.W.exmAny K (.ref C) [.ref S, .ref M] = some true) : ErrAt K S M C name qual st :=
  ⟨a, ⟨⟨nm, q, N, bs, _, sn, sub, ab, col, dd, m0, m1, m2, m3, m5, x, rfl⟩, sa, exC, tyC, kC⟩, ⟨⟨ga, gg, exC, hd⟩, no, yes⟩, ⟨f, _, i, ti, fun_mk l c k⟩⟩
/-- the law's def: its code object at c, whose table at Pt is not written -/
structure LawC (K : PySem.W.Frag) (st : Stmt) (f c Pt : Addr) : Prop where
  at_ : PySem.W.nsIn K mainGlobals "law" = some (some (.ref f))
  fn : ∃ fd : FuncData, FunC K "law" st f c fd ∧ fd.code = .ref c ∧ ∃ o : Obj, K.lookup f = some o ∧ o.data = .func fd
  free : K.lookup Pt = none
  code : ∃ (dd : Option Addr) (vs : Array Value) (sl : Array (Option Value)), K.lookup c = some ⟨.type "code", dd, .fields vs, sl⟩ ∧ vs[11]? = some (.ref Pt) ∧ (∃ file tf, vs.getD 18 .none = .str file tf) ∧ (∃ fl tg, vs.getD 7 .none = .int fl tg) ∧ (∃ b, vs.getD 9 .none = .bool b) ∧ (∃ i t, vs.getD 10 .none = .int i t) ∧ c ≠ Pt
theorem lawC {K : PySem.W.Frag} {st : Stmt} {f c Pt : Addr} {oc kV doc pm ct : Value} {od an dd : Option Addr} {osl sl : Array (Option Value)} {vs : Array Value} {file : Str} {tf tg tt : Tok} {fl i : Int} {b : Bool} (a : PySem.W.nsIn K mainGlobals "law" = some (some (.ref f)))
    (l : K.lookup f = some ⟨oc, od, .func (PySem.W.fnOf "law" "law" (defArgs st) (defBody st) (defScope st) .none kV doc pm an (.ref c) ct), osl⟩) (cd : PySem.W.codeIn K (.ref c) "law" = true)
    (lc : K.lookup c = some ⟨.type "code", dd, .fields vs, sl⟩) (v11 : vs[11]? = some (.ref Pt)) (v18 : vs.getD 18 .none = .str file tf) (v7 : vs.getD 7 .none = .int fl tg) (v9 : vs.getD 9 .none = .bool b) (v10 : vs.getD 10 .none = .int i tt) (ne : c ≠ Pt) (free : K.lookup Pt = none) : LawC K st f c Pt :=
  ⟨a, ⟨_, ⟨⟨oc, od, kV, doc, pm, an, ct, osl, rfl, l, cd⟩⟩, rfl, _, l, rfl⟩, free, ⟨dd, vs, sl, lc, v11, ⟨_, _, v18⟩, ⟨_, _, v7⟩, ⟨_, v9⟩, ⟨_, _, v10⟩, ne⟩⟩
theorem LawC.hd {K : PySem.W.Frag} {st : Stmt} {f c Pt : Addr} {h : Heap} (L : LawC K st f c Pt) (X : K.In h) : PySem.W.CodeHd h c Pt := by
  obtain ⟨dd, vs, sl, lc, v11, ⟨file, tf, v18⟩, ⟨fl, tg, v7⟩, ⟨b, v9⟩, ⟨i, tt, v10⟩, ne⟩ := L.code
  exact ⟨_, vs, file, tf, fl, tg, b, i, tt, X _ _ lc, rfl, rfl, v11, by rw [Array.getD_eq_getD_getElem?, v11] <;> rfl, v18, v7, v9, v10, ne⟩
section
variable {P : Program} {w : World} {K : PySem.W.Frag} {mg : Str → Option Value} {base h : Heap}
/-- an error without words, made by its own __init__ over StoneError's -/
theorem err_of {S M C : Addr} {name qual : Str} {st : Stmt} {k : Nat} (X : K.In h) (G : h.Ns mainGlobals mg) (A : StoneAt K S) (E : ErrAt K S M C name qual st)
    (ok : ∀ f fd fS fdS, Fun K "__init__" qual st f fd → FnOk P w K mg base CX0 (k + 1) fS fdS ["self", "called", "why"] (spStone K) → (∃ ds, Vals [] ds ∧ Binds K fdS ["self", "called", "why"] ds) → Off K S "__init__" fS → mg "StoneError" = some (.ref S) → PySem.W.keepIn K (.ref fS) = true → FnOk P w K mg base CX0 (k + 2) f fd ["self"] (spInit K C name))
    (b : ∀ f fd, Fun K "__init__" qual st f fd → Binds K fd ["self"] []) : Err P w K mg base (k + 2) name C := by
  obtain ⟨fS, fdS, O, FS⟩ := A.ex
  obtain ⟨f, fd, i, ti, F⟩ := E.ex
  have okS : FnOk P w K mg base CX0 (k + 1) fS fdS ["self", "called", "why"] (spStone K) := ok_stone FS (PySem.W.mg_none_of X G A.nV) A.vV
  have bS := FS.binds1 (ps := ["self", "called", "why"]) 3 2 (by simp) rfl fun T kV doc pm an cdv ct us its hu hi => match us, its, hu, hi with | [_, _, _], [_, _], _, _ => ⟨_, rfl, rfl⟩
  exact ⟨E.cls, E.kn.no, PySem.W.mg_of X G E.at_, f, fd, i, ti, ok f fd fS fdS F okS bS O (PySem.W.mg_of X G A.at_) FS.kp, b f fd F⟩
end
end Gap
namespace Gap
open PySem PySem.Spec PyProof.Rows L2
/-- a module's own pair of ints -/
def PairAt (K : PySem.W.Frag) (name : Str) (i j : Int) : Prop := ∃ a : Addr, PySem.W.nsIn K mainGlobals name = some (some (.ref a)) ∧ ∀ H, SqT K H a [.int i, .int j]
theorem pairAt {K : PySem.W.Frag} {name : Str} {i j : Int} {a : Addr} {t u : Tok} {n : Nat} {od : Option Addr} {osl : Array (Option Value)} (g : PySem.W.nsIn K mainGlobals name = some (some (.ref a))) (e : K.lookup a = some ⟨.type "tuple", od, .seq #[.int i t, .int j u] n, osl⟩) : PairAt K name i j :=
  ⟨a, g, fun H => .inr ⟨_, _, _, e, rfl, rfl, by show 2 ≤ sizeLine; decide, .cons ⟨t, rfl⟩ (.cons ⟨u, rfl⟩ .nil)⟩⟩
end Gap
namespace Gap
open PySem PySem.Spec PyProof.Rows L2
theorem kb_disc {K : PySem.W.Frag} {f : Addr} {fd : FuncData} (F : Fun K "disc" "disc" sDisc f fd) :
    KBinds K fd ["middle", "bend"] ["bend", "middle"] (fun us ws => match us, ws with | [], [s, r] => [r, s] | _, _ => []) (fun us ws => match us, ws with | [], [s, r] => [r, s] | _, _ => []) := by
  obtain ⟨oc, od, kV, doc, pm, an, cdv, ct, osl, rfl, lk, hcd⟩ := F.ex
  refine ⟨fun s us ws X hl => ?_, fun {vs us zs ws} r1 r2 => ?_⟩
  · match us, ws, hl with
    | [], [a, b], _ => exact .of_eq rfl
    | [], [], hl => exact absurd hl (by simp)
    | [], [_], hl => exact absurd hl (by simp)
    | [], _ :: _ :: _ :: _, hl => exact absurd hl (by simp)
    | _ :: _, _, hl => exact absurd hl (by simp)
  · cases r1 with
    | nil =>
      cases r2 with
      | nil => exact .nil
      | cons h t =>
        cases t with
        | nil => exact .nil
        | cons h2 t2 =>
          cases t2 with
          | nil => exact .cons h2 (.cons h .nil)
          | cons _ _ => exact .nil
    | cons _ _ => exact .nil
end Gap
namespace Gap
open PySem PySem.Spec PyProof.Rows L2
theorem all_mk {l : PySem.W.OpenLaw} {w : World} {K : PySem.W.Frag} {h : Heap} {mg : Str → Option Value} {fa S M C f c Pt : Addr} (X : K.In h) (G : h.Ns mainGlobals mg) (hfa : mg "law" = some (.ref fa)) (own : LamX.OwnTab K fa h)
    (aStone : StoneAt K S) (aMissing : PySem.W.nsIn K mainGlobals "Missing" = some (some (.ref M))) (aBad : ErrAt K S M C "BadPart" "BadPart.__init__" sBadPart) (aCommon : FnAt K "common" sCommon) (aPart : FnAtD K "part" sPart [.int 1] []) (p1 : FnAt K "plus" sPlusP) (p2 : FnAt K "less" sLessP) (p3 : FnAt K "times" sTimesP) (p4 : FnAt K "over" sOverP) (aInner : FnAt K "inner" sInner) (aDisc : FnAt K "disc" sDisc) (aMiddle : FnAt K "middle" sMiddle) (aNought : PairAt K "NOUGHT" 0 1) (aOne : PairAt K "ONE" 1 1) (aBag : FnAt K "_law_bag" sBag) (aPull : FnAt K "_law_pull" sPull) (aSame : FnAt K "_law_same" sSame) (aLow : FnAt K "_law_low" sLow) (aTried : FnAt K "_law_tried" sTried) (aDrawn : FnAt K "_law_part" sDrawn) (b1 : FnAt K "_law_plus" sPlusL) (b2 : FnAt K "_law_minus" sMinusL) (b3 : FnAt K "_law_by" sByL) (b4 : FnAt K "_law_per" sPerL) (aSpot : FnAt K "_law_spot" sSpot) (aMade : FnAt K "_law_made" sMade) (aCenter : FnAt K "_law_center" sCenter) (aFree : FnAt K "_law_free_disc" sFree) (aLaw : LawC K sLaw f c Pt)
    (zabs : PySem.W.nsIn K mainGlobals "abs" = some none) (zisi : PySem.W.nsIn K mainGlobals "isinstance" = some none) (zlst : PySem.W.nsIn K mainGlobals "list" = some none) (ztup : PySem.W.nsIn K mainGlobals "tuple" = some none) (zbol : PySem.W.nsIn K mainGlobals "bool" = some none) (zint : PySem.W.nsIn K mainGlobals "int" = some none) (zstr : PySem.W.nsIn K mainGlobals "str" = some none) (zlen : PySem.W.nsIn K mainGlobals "len" = some none) (zall : PySem.W.nsIn K mainGlobals "all" = some none) (zrng : PySem.W.nsIn K mainGlobals "range" = some none) :
    LamX.LawAtS l w K CX0 8 63 "_law_script" mg fa h := by
  have mA := PySem.W.mg_none_of X G zabs
  have T : Blt mg := ⟨PySem.W.mg_none_of X G zisi, PySem.W.mg_none_of X G zlst, PySem.W.mg_none_of X G ztup, PySem.W.mg_none_of X G zbol, PySem.W.mg_none_of X G zint, PySem.W.mg_none_of X G zstr, PySem.W.mg_none_of X G zlen, PySem.W.mg_none_of X G zall, PySem.W.mg_none_of X G zrng⟩
  have e := hfa.symm.trans (PySem.W.mg_of X G aLaw.at_)
  cases e
  obtain ⟨fd, F0, cd0, o0, lk0, do0⟩ := aLaw.fn
  have hd := aLaw.hd X
  obtain ⟨dd, vs, sl, lc, v11, _⟩ := aLaw.code
  have only : ∀ {q : Addr × Addr}, q ∈ [(c, Pt)] → q = (c, Pt) := fun hq => List.mem_singleton.mp hq
  refine ⟨fd, [(c, Pt)], spLaw K Pt, fun q hq => ?_, fun q hq => ?_, fun q hq => ?_, ?_, fun H a ns hl _ hH hS => ?_, fun base _ _ hTB => ?_⟩
  · rw [only hq]
    exact own c Pt o0 fd _ dd vs sl lk0 do0 cd0 lc v11
  · rw [only hq]
    exact aLaw.free
  · rw [only hq]
    exact hd
  · obtain ⟨oc, od, kV, doc, pm, an, ct, osl, rfl, _⟩ := F0.ex
    exact fun s u => .of_eq rfl
  · exact ⟨a, ns, rfl, hS, hl, hH (c, Pt) (List.mem_singleton.mpr rfl), fun _ => rfl⟩
  · have TB : LamX.TabB base mg c Pt := hTB (c, Pt) (List.mem_singleton.mpr rfl)
    have cCommon := cal_of X G aCommon (fun f fd F => ok_common (P := l.prog) (w := w) (base := base) (mg := mg) (k := 0) F mA) fun f fd F => F.binds fun _ _ _ _ _ _ us hl => match us, hl with | [_, _], _ => rfl
    have cLow := cal_of X G aLow (fun f fd F => ok_low (P := l.prog) (w := w) (base := base) (mg := mg) (k := 0) F mA) fun f fd F => F.binds fun _ _ _ _ _ _ us hl => match us, hl with | [_, _], _ => rfl
    have cPull := cal_of X G aPull (fun f fd F => ok_pull (P := l.prog) (w := w) (base := base) (mg := mg) (k := 0) F T.len) fun f fd F => F.binds fun _ _ _ _ _ _ us hl => match us, hl with | [_, _], _ => rfl
    have cBag := cal_of X G aBag (fun f fd F => ok_bag (P := l.prog) (w := w) (base := base) (mg := mg) (k := 0) F T.lst) fun f fd F => F.binds fun _ _ _ _ _ _ us hl => match us, hl with | [_], _ => rfl
    have cSame : Cal l.prog w K mg base 4 "_law_same" ["_law_told", "_law_due"] (spSame K 3) := by
      obtain ⟨f, fd, F, a⟩ := aSame
      have b : Binds K fd ["_law_told", "_law_due"] [] := F.binds fun _ _ _ _ _ _ us hl => match us, hl with | [_, _], _ => rfl
      exact ⟨f, fd, ok_same F T b (PySem.W.mg_of X G a) 3, b, PySem.W.mg_of X G a, F.kp⟩
    obtain ⟨fCo, fdCo, FCo, bCo, gCo, kCo⟩ := cCommon.ex
    obtain ⟨fPa, fdPa, FPa, aPa⟩ := aPart
    have okPa : FnOk l.prog w K mg base CX0 2 fPa fdPa ["over", "under"] spPart := ok_part FPa FCo bCo gCo kCo
    have bPa := FPa.binds1 (ps := ["over", "under"]) 2 1 (by simp) rfl fun T kV doc pm an cdv ct us its hu hi => match us, its, hu, hi with | [_, _], [_], _, _ => ⟨_, rfl, rfl⟩
    obtain ⟨dsPa, vdPa, bPa⟩ := bPa
    cases vdPa
    have gPa := PySem.W.mg_of X G aPa
    have kPa := FPa.kp
    have q1 := cal_of X G p1 (fun f fd F => ok_PlusP (P := l.prog) (w := w) (base := base) (mg := mg) F okPa bPa gPa kPa) fun f fd F => F.binds fun _ _ _ _ _ _ us hl => match us, hl with | [_, _], _ => rfl
    have q2 := cal_of X G p2 (fun f fd F => ok_LessP (P := l.prog) (w := w) (base := base) (mg := mg) F okPa bPa gPa kPa) fun f fd F => F.binds fun _ _ _ _ _ _ us hl => match us, hl with | [_, _], _ => rfl
    have q3 := cal_of X G p3 (fun f fd F => ok_TimesP (P := l.prog) (w := w) (base := base) (mg := mg) F okPa bPa gPa kPa) fun f fd F => F.binds fun _ _ _ _ _ _ us hl => match us, hl with | [_, _], _ => rfl
    have q4 := cal_of X G p4 (fun f fd F => ok_OverP (P := l.prog) (w := w) (base := base) (mg := mg) F okPa bPa gPa kPa) fun f fd F => F.binds fun _ _ _ _ _ _ us hl => match us, hl with | [_, _], _ => rfl
    have PR : Prg l.prog w K mg base 3 := ⟨q1, q2, q3⟩
    have cInner := cal_of X G aInner (fun f fd F => ok_inner F PR) fun f fd F => F.binds fun _ _ _ _ _ _ us hl => match us, hl with | [_, _], _ => rfl
    obtain ⟨fIn, fdIn, FIn, bIn, gIn, kIn⟩ := cInner.ex
    obtain ⟨n0, gn0, in0⟩ := aNought
    obtain ⟨n1, gn1, in1⟩ := aOne
    have cMiddle := cal_of X G aMiddle (fun f fd F => ok_middle F q4) fun f fd F => F.binds fun _ _ _ _ _ _ us hl => match us, hl with | [_], _ => rfl
    obtain ⟨fLo, fdLo, FLo, bLo, gLo, kLo⟩ := cLow.ex
    have cPlus := cal_of X G b1 (fun f fd F => ok_PlusL (P := l.prog) (w := w) (base := base) (mg := mg) F FLo bLo gLo kLo) fun f fd F => F.binds fun _ _ _ _ _ _ us hl => match us, hl with | [_, _], _ => rfl
    have cMinus := cal_of X G b2 (fun f fd F => ok_MinusL (P := l.prog) (w := w) (base := base) (mg := mg) F FLo bLo gLo kLo) fun f fd F => F.binds fun _ _ _ _ _ _ us hl => match us, hl with | [_, _], _ => rfl
    have cBy := cal_of X G b3 (fun f fd F => ok_ByL (P := l.prog) (w := w) (base := base) (mg := mg) F FLo bLo gLo kLo) fun f fd F => F.binds fun _ _ _ _ _ _ us hl => match us, hl with | [_, _], _ => rfl
    have cPer := cal_of X G b4 (fun f fd F => ok_PerL (P := l.prog) (w := w) (base := base) (mg := mg) F FLo bLo gLo kLo) fun f fd F => F.binds fun _ _ _ _ _ _ us hl => match us, hl with | [_, _], _ => rfl
    have O : Own l.prog w K mg base 2 := ⟨cPlus.mono (by decide), cMinus.mono (by decide), cBy.mono (by decide), cPer.mono (by decide)⟩
    obtain ⟨fpu, fdpu, Fpu, bpu, gpu, kpu⟩ := cPull.ex
    have cSpot := cal_of X G aSpot (fun f fd F => ok_spot F Fpu bpu gpu kpu FLo bLo gLo kLo T.rng) fun f fd F => F.binds fun _ _ _ _ _ _ us hl => match us, hl with | [_, _, _], _ => rfl
    have cDrawn := cal_of X G aDrawn (fun f fd F => ok_drawn F Fpu bpu gpu kpu FLo bLo gLo kLo) fun f fd F => F.binds fun _ _ _ _ _ _ us hl => match us, hl with | [_], _ => rfl
    have cMade := cal_of X G aMade (fun f fd F => ok_made F O) fun f fd F => F.binds fun _ _ _ _ _ _ us hl => match us, hl with | [_, _], _ => rfl
    have cCenter := cal_of X G aCenter (fun f fd F => ok_center F O) fun f fd F => F.binds fun _ _ _ _ _ _ us hl => match us, hl with | [_], _ => rfl
    obtain ⟨fSp, fdSp, FSp, bSp, gSp, kSp⟩ := (cSpot.mono (show 2 ≤ 3 by decide)).ex
    obtain ⟨fMa, fdMa, FMa, bMa, gMa, kMa⟩ := cMade.ex
    have cFree := cal_of X G aFree (fun f fd F => ok_free F (Fpu.mono (show 1 ≤ 3 by decide)) bpu gpu kpu (FLo.mono (show 1 ≤ 3 by decide)) bLo gLo kLo FSp bSp gSp kSp FMa bMa gMa kMa) fun f fd F => F.binds fun _ _ _ _ _ _ us hl => match us, hl with | [_], _ => rfl
    have er : Err l.prog w K mg base 2 "BadPart" C := err_of (k := 0) X G aStone aBad (fun f fd fS fdS F FS bS O gS kS => ok_badpart F FS bS O gS kS) fun f fd F => F.binds fun _ _ _ _ _ _ us hl => match us, hl with | [_], _ => rfl
    have er3 : Err l.prog w K mg base 3 "BadPart" C := by
      obtain ⟨fI, fdI, i1, i2, FI, bI⟩ := er.ex
      exact ⟨er.cls, er.no, er.at_, fI, fdI, i1, i2, FI.mono (by decide), bI⟩
    have di : DiscAt l.prog w K mg base 5 C := by
      obtain ⟨fd', fdd, FD, ad⟩ := aDisc
      refine ⟨fd', fdd, ok_discX (k := 3) FD ⟨q1.mono (by decide), q2.mono (by decide), q3.mono (by decide)⟩ (q4.mono (by decide)) FIn bIn gIn kIn (PySem.W.mg_of X G gn0) in0 (PySem.W.mg_of X G gn1) in1 er3, PySem.W.mg_of X G ad, FD.kp, FD.binds fun _ _ _ _ _ _ us hl => match us, hl with | [_, _], _ => rfl, ?_⟩
      exact kb_disc FD
    have tr : TriedAt K mg S M := by
      obtain ⟨g, fdg, FT, a⟩ := aTried
      exact ⟨⟨g, fdg, FT, PySem.W.mg_of X G a⟩, PySem.W.mg_of X G aStone.at_, PySem.W.mg_of X G aMissing⟩
    exact ok_law (k := 4) F0 TB T (cBag.mono (by decide)) (cDrawn.mono (by decide)) (cSpot.mono (by decide)) (cMade.mono (by decide)) (cCenter.mono (by decide)) (cFree.mono (by decide)) (cMiddle.mono (by decide)) (cSame.mono (by decide)) tr aBad.kn di
end Gap
open PySem PySem.W PyProof.Rows
set_option maxHeartbeats 0 in
theorem PySem.Challenge.cw_gapstone_k06_discs_of_middles_and_bends_holds : PySem.Challenge.rw_gapstone_k06_discs_of_middles_and_bends.Holds := by
  w_on; o_law; k_head; (case hw => w_witness2)
  k_fill
  refine LamX.walk_ofOwn (l := PySem.Challenge.rw_gapstone_k06_discs_of_middles_and_bends) (n := 63) (k := 8) (x := "_law_script") (CX := fun _ => L2.CX0) rfl (by decide) rfl ⟨rfl, by decide, by decide⟩ (by decide +kernel) (fun w h Y => PySem.W.km_in_of Y) ?F (fun _ _ _ _ _ h => h)
  case F =>
    intro w mg fa h Y KX G hmg own
    refine' Gap.all_mk KX G hmg own ?aStone ?aMissing ?aBad ?aCommon ?aPart ?p1 ?p2 ?p3 ?p4 ?aInner ?aDisc ?aMiddle ?aNought ?aOne ?aBag ?aPull ?aSame ?aLow ?aTried ?aDrawn ?b1 ?b2 ?b3 ?b4 ?aSpot ?aMade ?aCenter ?aFree ?aLaw ?zabs ?zisi ?zlst ?ztup ?zbol ?zint ?zstr ?zlen ?zall ?zrng
    case aStone => (refine' Gap.stoneAt ?a ?ga ?ty ?rd ?m ?l ?c ?k ?d ?vV ?nV; (case a => k_is); (case ga => k_is); (case ty => k_is); (case rd => k_is); (case m => k_is); (case l => k_is); (case c => k_is); (case k => k_is); (case d => k_is); (case vV => k_is); (case nV => k_is))
    case aMissing => k_is
    case aBad =>
      refine' Gap.errAt ?a ?x ?sa ?ga ?gg ?no ?i ?ti ?l ?c ?k ?kC ?exC ?tyC ?hd ?yes
      (case a => k_is); (case x => k_is); (case sa => k_is); (case ga => k_is); (case gg => k_is); (case no => k_is); (case i => k_is); (case ti => k_is); (case l => k_is); (case c => k_is); (case k => k_is); (case kC => k_is); (case exC => k_is); (case tyC => k_is); (case hd => k_is)
      case yes => (refine' Gap.exm_two ?s1 ?s2 ?s3 ?s4 ?m1 ?m2 ?m3 ?m4; (case s1 => k_is); (case s2 => k_is); (case s3 => k_is); (case s4 => first | rfl | k_is); (case m1 => k_is); (case m2 => k_is); (case m3 => k_is); (case m4 => first | rfl | k_is))
    case aCommon => (refine' Gap.fnAt ?a ?l ?c ?k; (case a => k_is); (case l => k_is); (case c => k_is); (case k => k_is))
    case aPart => (refine' Gap.fnAtD1 ?a ?l ?c ?k ?d; (case a => k_is); (case l => k_is); (case c => k_is); (case k => k_is); (case d => k_is))
    case p1 => (refine' Gap.fnAt ?a ?l ?c ?k; (case a => k_is); (case l => k_is); (case c => k_is); (case k => k_is))
    case p2 => (refine' Gap.fnAt ?a ?l ?c ?k; (case a => k_is); (case l => k_is); (case c => k_is); (case k => k_is))
    case p3 => (refine' Gap.fnAt ?a ?l ?c ?k; (case a => k_is); (case l => k_is); (case c => k_is); (case k => k_is))
    case p4 => (refine' Gap.fnAt ?a ?l ?c ?k; (case a => k_is); (case l => k_is); (case c => k_is); (case k => k_is))
    case aInner => (refine' Gap.fnAt ?a ?l ?c ?k; (case a => k_is); (case l => k_is); (case c => k_is); (case k => k_is))
    case aDisc => (refine' Gap.fnAt ?a ?l ?c ?k; (case a => k_is); (case l => k_is); (case c => k_is); (case k => k_is))
    case aMiddle => (refine' Gap.fnAt ?a ?l ?c ?k; (case a => k_is); (case l => k_is); (case c => k_is); (case k => k_is))
    case aNought => (refine' Gap.pairAt ?g ?e; (case g => k_is); (case e => k_is))
    case aOne => (refine' Gap.pairAt ?g ?e; (case g => k_is); (case e => k_is))
    case aBag => (refine' Gap.fnAt ?a ?l ?c ?k; (case a => k_is); (case l => k_is); (case c => k_is); (case k => k_is))
    case aPull => (refine' Gap.fnAt ?a ?l ?c ?k; (case a => k_is); (case l => k_is); (case c => k_is); (case k => k_is))
    case aSame => (refine' Gap.fnAt ?a ?l ?c ?k; (case a => k_is); (case l => k_is); (case c => k_is); (case k => k_is))
    case aLow => (refine' Gap.fnAt ?a ?l ?c ?k; (case a => k_is); (case l => k_is); (case c => k_is); (case k => k_is))
    case aTried => (refine' Gap.fnAt ?a ?l ?c ?k; (case a => k_is); (case l => k_is); (case c => k_is); (case k => k_is))
    case aDrawn => (refine' Gap.fnAt ?a ?l ?c ?k; (case a => k_is); (case l => k_is); (case c => k_is); (case k => k_is))
    case b1 => (refine' Gap.fnAt ?a ?l ?c ?k; (case a => k_is); (case l => k_is); (case c => k_is); (case k => k_is))
    case b2 => (refine' Gap.fnAt ?a ?l ?c ?k; (case a => k_is); (case l => k_is); (case c => k_is); (case k => k_is))
    case b3 => (refine' Gap.fnAt ?a ?l ?c ?k; (case a => k_is); (case l => k_is); (case c => k_is); (case k => k_is))
    case b4 => (refine' Gap.fnAt ?a ?l ?c ?k; (case a => k_is); (case l => k_is); (case c => k_is); (case k => k_is))
    case aSpot => (refine' Gap.fnAt ?a ?l ?c ?k; (case a => k_is); (case l => k_is); (case c => k_is); (case k => k_is))
    case aMade => (refine' Gap.fnAt ?a ?l ?c ?k; (case a => k_is); (case l => k_is); (case c => k_is); (case k => k_is))
    case aCenter => (refine' Gap.fnAt ?a ?l ?c ?k; (case a => k_is); (case l => k_is); (case c => k_is); (case k => k_is))
    case aFree => (refine' Gap.fnAt ?a ?l ?c ?k; (case a => k_is); (case l => k_is); (case c => k_is); (case k => k_is))
    case aLaw =>
      refine' Gap.lawC ?a ?l ?cd ?lc ?v11 ?v18 ?v7 ?v9 ?v10 ?ne ?free
      (case a => k_is); (case l => k_is); (case cd => k_is); (case lc => k_is); (case v11 => rfl); (case v18 => rfl); (case v7 => rfl); (case v9 => rfl); (case v10 => rfl); (case ne => decide); (case free => first | rfl | k_is)
    case zabs => k_is
    case zisi => k_is
    case zlst => k_is
    case ztup => k_is
    case zbol => k_is
    case zint => k_is
    case zstr => k_is
    case zlen => k_is
    case zall => k_is
    case zrng => k_is
