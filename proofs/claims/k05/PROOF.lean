import PyProof.Rows.All
import Wide.All
import OpenK.AllK
import Wide.FinOn
import PySem.Challenge.RW_gapstone_k05_which_fours_are_discs
import HandS.ForMost
import HandS.Wide
import HandS.IsInst
import HandS.Defaults
import HandS.Conv
import HandS.Evl
import HandS.TupAny
import HandS.Style
set_option Elab.async false
set_option linter.all false
set_option maxRecDepth 100000
set_option maxHeartbeats 4000000
namespace Gap
/-- the fraction, as its two numbers -/
theorem gcd_rec (a b : Int) (hb : b ≠ 0) (ha : 0 ≤ a) (hb0 : 0 < b) : Int.gcd b (a % b) = Int.gcd a b := by
  obtain ⟨n, rfl⟩ := Int.eq_ofNat_of_zero_le ha
  obtain ⟨m, rfl⟩ := Int.eq_ofNat_of_zero_le (Int.le_of_lt hb0)
  show Nat.gcd m ((n : Int) % (m : Int)).natAbs = Nat.gcd n m
  rw [show ((n : Int) % (m : Int)).natAbs = n % m by omega, Nat.gcd_comm n m, Nat.gcd_rec m n, Nat.gcd_comm]
theorem gcd_pos {a b : Int} (h : b ≠ 0) : 0 < ((Int.gcd a b : Nat) : Int) := by
  have : Int.gcd a b ≠ 0 := fun e => h (Int.gcd_eq_zero_iff.mp e).2
  omega
def sg (b : Int) : Int := if 0 < b then 1 else -1
theorem sg_sign {b : Int} (h : b ≠ 0) : sg b = b.sign := by
  unfold sg
  by_cases h0 : 0 < b
  · rw [if_pos h0, Int.sign_eq_one_of_pos h0]
  · rw [if_neg h0, Int.sign_eq_neg_one_of_neg (by omega)]
theorem low_num {a b : Int} (h : b ≠ 0) : sg b * a / ((Int.gcd a b : Nat) : Int) = (Rat.divInt a b).num := by
  rw [Rat.num_divInt, sg_sign h, Int.gcd_comm]
theorem low_den {a b : Int} (h : b ≠ 0) : sg b * b / ((Int.gcd a b : Nat) : Int) = ((Rat.divInt a b).den : Int) := by
  rw [Rat.den_divInt, if_neg h, sg_sign h, Int.sign_mul_self, Int.gcd_comm]
  simp
/-- part's way: by the common factor with under's sign -/
theorem part_num {a b : Int} (h : b ≠ 0) : (a.fdiv (if b < 0 then -((Int.gcd a b : Nat) : Int) else ((Int.gcd a b : Nat) : Int))) = (Rat.divInt a b).num := by
  rw [← low_num h]
  have g := gcd_pos (a := a) h
  by_cases hb : b < 0
  · rw [if_pos hb]
    have e : sg b = -1 := by unfold sg; rw [if_neg (by omega)]
    rw [e]
    have e2 : a.fdiv (-((Int.gcd a b : Nat) : Int)) = (-a).fdiv ((Int.gcd a b : Nat) : Int) := by
      have := Int.neg_fdiv_neg (-a) (Int.gcd a b : Int)
      rw [Int.neg_neg] at this
      exact this
    rw [e2, Int.fdiv_eq_ediv_of_nonneg _ (by omega)]
    congr 1
    omega
  · rw [if_neg hb]
    have e : sg b = 1 := by unfold sg; rw [if_pos (by omega)]
    rw [e, Int.fdiv_eq_ediv_of_nonneg _ (by omega), Int.one_mul]
theorem part_den {a b : Int} (h : b ≠ 0) : (b.fdiv (if b < 0 then -((Int.gcd a b : Nat) : Int) else ((Int.gcd a b : Nat) : Int))) = ((Rat.divInt a b).den : Int) := by
  rw [← low_den h]
  have g := gcd_pos (a := a) h
  by_cases hb : b < 0
  · rw [if_pos hb]
    have e : sg b = -1 := by unfold sg; rw [if_neg (by omega)]
    rw [e]
    have e2 : b.fdiv (-((Int.gcd a b : Nat) : Int)) = (-b).fdiv ((Int.gcd a b : Nat) : Int) := by
      have := Int.neg_fdiv_neg (-b) (Int.gcd a b : Int)
      rw [Int.neg_neg] at this
      exact this
    rw [e2, Int.fdiv_eq_ediv_of_nonneg _ (by omega)]
    congr 1
    omega
  · rw [if_neg hb]
    have e : sg b = 1 := by unfold sg; rw [if_pos (by omega)]
    rw [e, Int.fdiv_eq_ediv_of_nonneg _ (by omega), Int.one_mul]
theorem den_ne (q : Rat) : (q.den : Int) ≠ 0 := by have := q.den_nz; omega
theorem den_pos (q : Rat) : (0 : Int) < q.den := by have := q.den_nz; omega
theorem add_divInt (q r : Rat) : Rat.divInt (q.num * r.den + r.num * q.den) (q.den * r.den) = q + r := by
  rw [← Rat.divInt_add_divInt _ _ (den_ne q) (den_ne r), Rat.num_divInt_den, Rat.num_divInt_den]
theorem sub_divInt (q r : Rat) : Rat.divInt (q.num * r.den - r.num * q.den) (q.den * r.den) = q - r := by
  rw [← Rat.divInt_sub_divInt _ _ (den_ne q) (den_ne r), Rat.num_divInt_den, Rat.num_divInt_den]
theorem mul_divInt (q r : Rat) : Rat.divInt (q.num * r.num) (q.den * r.den) = q * r := by
  rw [← Rat.divInt_mul_divInt, Rat.num_divInt_den, Rat.num_divInt_den]
theorem div_divInt (q r : Rat) : Rat.divInt (q.num * r.den) (q.den * r.num) = q / r := by
  have e1 : q = (q.num : Rat) / (q.den : Int) := by rw [← Rat.divInt_eq_div, Rat.num_divInt_den]
  have e2 : r = (r.num : Rat) / (r.den : Int) := by rw [← Rat.divInt_eq_div, Rat.num_divInt_den]
  have d1 : ((q.den : Int) : Rat) ≠ 0 := by
    intro h
    exact den_ne q (by exact_mod_cast h)
  have d2 : ((r.den : Int) : Rat) ≠ 0 := by
    intro h
    exact den_ne r (by exact_mod_cast h)
  rw [Rat.divInt_eq_div]
  by_cases hr : r.num = 0
  · have : r = 0 := Rat.num_eq_zero.mp hr
    subst this
    simp [Rat.div_def]
  · have d3 : (r.num : Rat) ≠ 0 := by
      intro h
      exact hr (by exact_mod_cast h)
    rw [Rat.intCast_mul, Rat.intCast_mul]
    generalize hA : ((q.num : Int) : Rat) = A at *
    generalize hB : ((q.den : Int) : Rat) = B at *
    generalize hC : ((r.num : Int) : Rat) = C at *
    generalize hD : ((r.den : Int) : Rat) = D at *
    rw [e1, e2]
    grind
theorem num_ne {q : Rat} (h : q ≠ 0) : q.num ≠ 0 := fun e => h (Rat.num_eq_zero.mp e)
end Gap
namespace Gap
open PySem PySem.Spec PyProof.Rows L2
/-! ### sizes -/
def Bi (n : Nat) (x : Int) : Prop := x.natAbs < 2 ^ n
theorem Bi.mono {m n : Nat} {x : Int} (h : Bi m x) (l : m ≤ n) : Bi n x := Nat.lt_of_lt_of_le h (Nat.pow_le_pow_right (by decide) l)
theorem Bi.mul {m n : Nat} {x y : Int} (a : Bi m x) (b : Bi n y) : Bi (m + n) (x * y) := wide_lt a b
theorem Bi.add {m : Nat} {x y : Int} (a : Bi m x) (b : Bi m y) : Bi (m + 1) (x + y) := by
  unfold Bi at *
  have : 2 ^ (m + 1) = 2 ^ m + 2 ^ m := by rw [Nat.pow_succ]; omega
  omega
theorem Bi.neg {m : Nat} {x : Int} (a : Bi m x) : Bi m (-x) := by
  unfold Bi at *
  omega
theorem Bi.sub {m : Nat} {x y : Int} (a : Bi m x) (b : Bi m y) : Bi (m + 1) (x - y) := by
  have := a.add b.neg
  rw [← Int.sub_eq_add_neg] at this
  exact this
theorem Bi.mulW {m n : Nat} {x y : Int} (a : Bi m x) (b : Bi n y) (h : m + n ≤ 999998) : CMulW x y := wide_mul (a.mono (Nat.le_succ m)) (b.mono (Nat.le_succ n)) (Nat.succ_pos _) (Nat.succ_pos _) (by omega)
theorem Bi.of_le {n : Nat} {x y : Int} (a : Bi n y) (h : x.natAbs ≤ y.natAbs) : Bi n x := Nat.lt_of_le_of_lt h a
theorem Bi.gcd {n : Nat} {a b : Int} (h : Bi n b) (hb : b ≠ 0) : Bi n ((Int.gcd a b : Nat) : Int) := by
  refine h.of_le ?_
  have := Nat.le_of_dvd (Int.natAbs_pos.mpr hb) (Int.gcd_dvd_natAbs_right a b)
  rw [Int.natAbs_natCast]
  exact this
/-- a fraction of two numbers of at most n bits -/
def Bq (n : Nat) (q : Rat) : Prop := Bi n q.num ∧ Bi n (q.den : Int)
theorem Bq.mono {m n : Nat} {q : Rat} (h : Bq m q) (l : m ≤ n) : Bq n q := ⟨h.1.mono l, h.2.mono l⟩
theorem Bq.of {n : Nat} {a b : Int} (ha : Bi n a) (hb : Bi n b) (h : b ≠ 0) : Bq n (Rat.divInt a b) := by
  have g := gcd_pos (a := a) h
  constructor
  · rw [← low_num h]
    refine ha.of_le ?_
    have e : (sg b * a).natAbs = a.natAbs := by
      unfold sg
      split <;> omega
    rw [Int.natAbs_ediv_of_dvd]
    · rw [e]
      exact Nat.div_le_self _ _
    · have : ((Int.gcd a b : Nat) : Int) ∣ a := Int.gcd_dvd_left a b
      exact Int.dvd_mul_of_dvd_right this
  · rw [← low_den h]
    refine hb.of_le ?_
    have e : (sg b * b).natAbs = b.natAbs := by
      unfold sg
      split <;> omega
    rw [Int.natAbs_ediv_of_dvd]
    · rw [e]
      exact Nat.div_le_self _ _
    · have : ((Int.gcd a b : Nat) : Int) ∣ b := Int.gcd_dvd_right a b
      exact Int.dvd_mul_of_dvd_right this
theorem den_mul_ne (q r : Rat) : (q.den : Int) * r.den ≠ 0 := Int.mul_ne_zero (den_ne q) (den_ne r)
theorem Bi.add2 {m n : Nat} {x y : Int} (a : Bi m x) (b : Bi n y) (h : m = n) : Bi (m + 1) (x + y) := by
  subst h
  exact a.add b
theorem Bq.add {m n : Nat} {q r : Rat} (a : Bq m q) (b : Bq n r) : Bq (m + n + 1) (q + r) := by
  rw [← add_divInt]
  exact Bq.of ((a.1.mul b.2).add2 (b.1.mul a.2) (Nat.add_comm m n)) ((a.2.mul b.2).mono (Nat.le_succ _)) (den_mul_ne q r)
theorem Bq.sub {m n : Nat} {q r : Rat} (a : Bq m q) (b : Bq n r) : Bq (m + n + 1) (q - r) := by
  rw [← sub_divInt, Int.sub_eq_add_neg]
  exact Bq.of ((a.1.mul b.2).add2 (b.1.mul a.2).neg (Nat.add_comm m n)) ((a.2.mul b.2).mono (Nat.le_succ _)) (den_mul_ne q r)
theorem Bq.mul {m n : Nat} {q r : Rat} (a : Bq m q) (b : Bq n r) : Bq (m + n) (q * r) := by
  rw [← mul_divInt]
  exact Bq.of (a.1.mul b.1) (a.2.mul b.2) (den_mul_ne q r)
theorem Bq.div {m n : Nat} {q r : Rat} (a : Bq m q) (b : Bq n r) (h : r ≠ 0) : Bq (m + n) (q / r) := by
  rw [← div_divInt]
  exact Bq.of (a.1.mul b.2) (a.2.mul b.1) (Int.mul_ne_zero (den_ne q) (num_ne h))
theorem Bq.int {n : Nat} {i : Int} (h : Bi n i) (h1 : 1 ≤ n) : Bq n (i : Rat) := by
  refine ⟨h, ?_⟩
  show Bi n ((1 : Nat) : Int)
  unfold Bi
  have := Nat.pow_le_pow_right (show 0 < 2 by decide) h1
  show 1 < 2 ^ n
  omega
theorem bq0 : Bq 1 0 := ⟨by unfold Bi; decide, by unfold Bi; decide⟩
theorem bq1 : Bq 1 1 := ⟨by unfold Bi; decide, by unfold Bi; decide⟩
/-! ### rules that the layer lacks -/
section
variable {X : Cx}
/-- // by any divisor but nought, below 2 ^ 9000 -/
def CDivA (_ j : Int) : Prop := j ≠ 0 ∧ j.natAbs.log2 < 9000
theorem op_fdivA : OpR X (binaryOp .FloorDiv) (rI CDivA fun i j => .int (i.fdiv j)) := opI fun _ _ _ _ _ _ _ c q => floordiv_int c.1 q (.inl (PyProof.noPylong_of_log2 c.2))
theorem Bi.divA {n : Nat} {i j : Int} (h : Bi n j) (h0 : j ≠ 0) (hn : n < 9000) : CDivA i j := ⟨h0, Nat.lt_of_lt_of_le (PySem.Flt.log2_lt_of (Nat.succ_pos n) (h.mono (Nat.le_succ n))) hn⟩
/-- what is never come to -/
theorem pss_never {l : List Stmt} : PSs X l (fun _ _ _ => False) := ⟨fun _ _ _ _ _ _ h => h.elim⟩
theorem ps_never {l : Stmt} : PS X l (fun _ _ _ => False) := ⟨fun _ _ _ _ _ _ h => h.elim⟩
end
theorem same_upd {H : Hp} {p : Addr} {o : HO} (h : H p = none) : Same H (upd H p o) := fun b x e => by
  rw [upd_ne (ne_of_none e h)]
  exact e
theorem Same.seqT {K : PySem.W.Frag} {H H' : Hp} {a : Addr} {xs : List V} (e : Same H H') (h : SqT K H a xs) : SqT K H' a xs := by
  rcases h with h | h
  · refine .inl ?_
    rcases h with h | ⟨o, h⟩
    · exact .inl (e _ _ h)
    · exact .inr ⟨o, e _ _ h⟩
  · exact .inr h
/-- a fraction as a value -/
def IsQ (K : PySem.W.Frag) (H : Hp) (v : V) (q : Rat) : Prop := ∃ a, v = .ref a ∧ SqT K H a [.int q.num, .int (q.den : Int)]
theorem IsQ.same {K : PySem.W.Frag} {H H' : Hp} {v : V} {q : Rat} (h : IsQ K H v q) (e : Same H H') : IsQ K H' v q := by
  obtain ⟨a, rfl, h⟩ := h
  exact ⟨a, rfl, Same.seqT e h⟩
end Gap
namespace Gap
open PySem PySem.Spec PyProof.Rows L2
def topS (i : Nat) : Stmt := PySem.Challenge.pw_gapstone_k05_which_fours_are_discs.main.body.getD i (.Pass ⟨0, 0, 0, 0⟩)
/-! ### the greatest common factor -/
section
variable {P : Program} {w : World} {K : PySem.W.Frag} {mg : Str → Option Value} {base : Heap}
/-- what the law's and the program's own loops do -/
theorem gcd_step {a b : Int} (hb : b ≠ 0) (ha : 0 ≤ a) (hb0 : 0 ≤ b) : Int.gcd b (a % b) = Int.gcd a b := gcd_rec a b hb ha (by omega)
theorem abs_if (a : Int) : (if a < 0 then -a else a) = (a.natAbs : Int) := by
  split <;> omega
theorem gcd_abs (a b : Int) : Int.gcd (a.natAbs : Int) (b.natAbs : Int) = Int.gcd a b := by
  unfold Int.gcd
  rw [Int.natAbs_natCast, Int.natAbs_natCast]
abbrev sCommon : Stmt := topS 4
theorem scCommon : FnScope ["one", "other"] ["one", "other"] (defScope sCommon) := ⟨rfl, rfl, rfl, by decide +kernel, rfl, by decide +kernel, by decide +kernel⟩
def spCommon : Sp := fun vs H Q _ => ∃ (a b : Int), vs = [.int a, .int b] ∧ Q (.int ((Int.gcd a b : Nat) : Int)) H
theorem ok_common {f : Addr} {fd : FuncData} {k : Nat} (F : Fun K "common" "common" sCommon f fd) (ma : mg "abs" = none) : FnOk P w K mg base CX0 (k + 1) f fd ["one", "other"] spCommon := by
  refine F.ok scCommon (fun vs H Q E h => ?_) (fun cdv A outer s H vs Q E hr h => ?_)
  · obtain ⟨a, b, rfl, _⟩ := h
    rfl
  · obtain ⟨a, b, rfl, q⟩ := h
    refine ⟨_, pss_cons (ps_par (i := 0) (j := 1) rfl scCommon.nd rfl rfl (by decide) rfl rfl
        (pa_cons (pe_callB call_abs (by rfl) ma (by decide +kernel) (pa_cons (pv 0) pa_nil)) (pa_cons (pe_callB call_abs (by rfl) ma (by decide +kernel) (pa_cons (pv 1) pa_nil)) pa_nil)) (by rfl))
      (pss_cons (ps_while PassesOwn.never (pt_cmpR op_ne (pv 1) pe_int (nomark _))
        (pss_one (ps_par (i := 0) (j := 1) rfl scCommon.nd rfl rfl (by decide) rfl rfl (pa_cons (pv 1) (pa_cons (pe_op op_mod (pv 0) (pv 1)) pa_nil)) (by rfl))))
      (pss_one (ps_ret (pv 0)))), ?_⟩
    refine ⟨_, rfl, a, rfl, _, rfl, b, rfl, _, _, rfl, ?_⟩
    refine while_by (fun σ H' => ∃ x y : Int, σ = [some (.int x), some (.int y)] ∧ H' = H ∧ 0 ≤ x ∧ 0 ≤ y ∧ Int.gcd x y = Int.gcd a b) (fun σ _ => match σ with | [_, some (.int y)] => y.toNat | _ => 0)
      ⟨_, _, rfl, rfl, ?_, ?_, ?_⟩ ?_ ?_
    · rw [abs_if]; omega
    · rw [abs_if]; omega
    · rw [abs_if, abs_if, gcd_abs]
    · rintro σ H' ⟨x, y, rfl, rfl, hx, hy, e⟩
      refine ⟨_, rfl, rfl, _, rfl, ite2 (fun c => ?_) (fun c => ?_)⟩
      · have hy0 : y ≠ 0 := fun z => by
          subst z
          simp at c
        refine ⟨_, rfl, _, rfl, _, rfl, _, _, rfl, rfl, (by omega), _, _, rfl, ?_⟩
        refine ⟨⟨_, _, rfl, rfl, hy, Int.emod_nonneg _ hy0, ?_⟩, ?_⟩
        · rw [gcd_step hy0 hx hy]
          exact e
        · show (x % y).toNat < y.toNat
          have := Int.emod_lt_of_pos x (show 0 < y by omega)
          have := Int.emod_nonneg x hy0
          omega
      · have hy0 : y = 0 := by
          simpa using c
        subst hy0
        refine ⟨_, rfl, ?_⟩
        have e2 : ((Int.gcd a b : Nat) : Int) = x := by
          rw [← e]
          unfold Int.gcd
          simp
          omega
        rw [e2] at q
        exact q
    · rintro σ H' Q Q' hq ⟨v, e, e2, b, e3, z⟩
      exact ⟨v, e, e2, b, e3, hq _ _ z⟩
end
end Gap
namespace Gap
open PySem PySem.Spec PyProof.Rows L2
section
variable {P : Program} {w : World} {K : PySem.W.Frag} {mg : Str → Option Value} {base : Heap}
/-- a new tuple of the fraction's two numbers is handed back -/
def RetN (H : Hp) (Q : VK) (q : Rat) : Prop := ∀ p, H p = none → Q (.ref p) (upd H p (.tup [.int q.num, .int (q.den : Int)]))
/-- some value that is the fraction -/
def RetQ (K : PySem.W.Frag) (H : Hp) (Q : VK) (q : Rat) : Prop := ∀ v H', Same H H' → IsQ K H' v q → Q v H'
theorem RetQ.new {H : Hp} {Q : VK} {q : Rat} (r : RetQ K H Q q) : RetN H Q q := fun p np => r _ _ (same_upd np) ⟨p, rfl, .inl (.inl upd_same)⟩
theorem RetQ.same {H H' : Hp} {Q : VK} {q : Rat} (r : RetQ K H Q q) (e : Same H H') : RetQ K H' Q q := fun v H2 e2 h => r v H2 (e.trans e2) h
/-! ### part(over, under): under is not nought -/
abbrev sPart : Stmt := topS 5
theorem scPart : FnScope ["over", "under", "by"] ["over", "under"] (defScope sPart) := ⟨rfl, rfl, rfl, by decide +kernel, rfl, by decide +kernel, by decide +kernel⟩
def spPart : Sp := fun vs H Q _ => ∃ (a b : Int), vs = [.int a, .int b] ∧ b ≠ 0 ∧ Bi 8999 b ∧ RetN H Q (Rat.divInt a b)
abbrev FunP (K : PySem.W.Frag) (f : Addr) (fd : FuncData) : Prop := FunD K "part" "part" (defArgs sPart) (defBody sPart) (defScope sPart) [.int 1] [] f fd
theorem ok_part {f fC : Addr} {fd fdC : FuncData} {k : Nat} (F : FunP K f fd) (C : FnOk P w K mg base CX0 (k + 1) fC fdC ["one", "other"] spCommon) (bC : Binds K fdC ["one", "other"] []) (gC : mg "common" = some (.ref fC)) (kC : PySem.W.keepIn K (.ref fC) = true) :
    FnOk P w K mg base CX0 (k + 2) f fd ["over", "under"] spPart := by
  refine F.ok scPart (fun vs H Q E h => ?_) (fun cdv A outer s H vs Q E hr h => ?_)
  · obtain ⟨a, b, rfl, _⟩ := h
    rfl
  · obtain ⟨a, b, rfl, hb, hB, q⟩ := h
    refine ⟨_, pss_cons (ps_if (pt_cmpR op_eq (pv 1) pe_int (nomark _)) pss_never pss_nil)
      (pss_cons (ps_set (i := 2) scPart.nd rfl (.inl rfl) (pe_call C hr (by rfl) gC kC bC .nil pass0 (pa_cons (pv 0) (pa_cons (pv 1) pa_nil))))
      (pss_cons (ps_if (pt_cmpR op_lt (pv 1) pe_int (nomark _)) (pss_one (ps_set (i := 2) scPart.nd rfl (.inl rfl) (pe_un un_neg (pv 2)))) pss_nil)
      (pss_one (ps_ret (pe_tup (pa_cons (pe_op op_fdivA (pv 0) (pv 2)) (pa_cons (pe_op op_fdivA (pv 1) (pv 2)) pa_nil))))))), ?_⟩
    refine ⟨_, rfl, rfl, _, rfl, ite2 (fun c => ?_) (fun c => ?_)⟩
    · have : b = 0 := by simpa using c
      exact hb this
    · refine ⟨_, rfl, _, rfl, a, b, rfl, ?_⟩
      have g0 := gcd_pos (a := a) hb
      have gB : Bi 8999 ((Int.gcd a b : Nat) : Int) := hB.gcd hb
      have fin : ∀ z : Int, z = (if b < 0 then -((Int.gcd a b : Nat) : Int) else ((Int.gcd a b : Nat) : Int)) → ∀ p, H p = none → Q (.ref p) (upd H p (.tup [.int (a.fdiv z), .int (b.fdiv z)])) := fun z hz p np => by
        rw [hz, part_num hb, part_den hb]
        exact q p np
      refine ⟨_, rfl, _, _, rfl, rfl, _, rfl, ite2 (fun c2 => ?_) (fun c2 => ?_)⟩
      · have c3 : b < 0 := by simpa using c2
        rw [if_pos c3] at fin
        refine ⟨_, rfl, _, rfl, ?_⟩
        refine ⟨_, rfl, _, rfl, _, _, rfl, rfl, gB.neg.divA (by omega) (by decide), _, rfl, _, rfl, _, _, rfl, rfl, gB.neg.divA (by omega) (by decide), (by show 2 ≤ sizeLine; decide), fun p np => ?_⟩
        exact fin _ rfl p np
      · have c3 : ¬ b < 0 := by simpa using c2
        rw [if_neg c3] at fin
        refine ⟨_, rfl, _, rfl, _, _, rfl, rfl, gB.divA (by omega) (by decide), _, rfl, _, rfl, _, _, rfl, rfl, gB.divA (by omega) (by decide), (by show 2 ≤ sizeLine; decide), fun p np => ?_⟩
        exact fin _ rfl p np
/-! ### the law's own -/
abbrev sLow : Stmt := topS 20
theorem scLow : FnScope ["_law_above", "_law_beneath", "_law_one", "_law_other", "_law_side"] ["_law_above", "_law_beneath"] (defScope sLow) := ⟨rfl, rfl, rfl, by decide +kernel, rfl, by decide +kernel, by decide +kernel⟩
theorem ok_low {f : Addr} {fd : FuncData} {k : Nat} (F : Fun K "_law_low" "_law_low" sLow f fd) (ma : mg "abs" = none) : FnOk P w K mg base CX0 (k + 1) f fd ["_law_above", "_law_beneath"] spPart := by
  refine F.ok scLow (fun vs H Q E h => ?_) (fun cdv A outer s H vs Q E hr h => ?_)
  · obtain ⟨a, b, rfl, _⟩ := h
    rfl
  · obtain ⟨a, b, rfl, hb, hB, q⟩ := h
    refine ⟨_, pss_cons (ps_par (i := 2) (j := 3) rfl scLow.nd rfl rfl (by decide) rfl rfl
        (pa_cons (pe_callB call_abs (by rfl) ma (by decide +kernel) (pa_cons (pv 0) pa_nil)) (pa_cons (pe_callB call_abs (by rfl) ma (by decide +kernel) (pa_cons (pv 1) pa_nil)) pa_nil)) (by rfl))
      (pss_cons (ps_while PassesOwn.never (pt_cmpR op_ne (pv 3) pe_int (nomark _))
        (pss_one (ps_par (i := 2) (j := 3) rfl scLow.nd rfl rfl (by decide) rfl rfl (pa_cons (pv 3) (pa_cons (pe_op op_mod (pv 2) (pv 3)) pa_nil)) (by rfl))))
      (pss_cons (ps_set (i := 4) scLow.nd rfl (.inl rfl) (pe_ifExp (pt_cmpR op_gt (pv 1) pe_int (nomark _)) pe_int (pe_un un_neg pe_int)))
      (pss_one (ps_ret (pe_tup (pa_cons (pe_op op_fdivW (pe_op op_mul (pv 4) (pv 0)) (pv 2)) (pa_cons (pe_op op_fdivW (pe_op op_mul (pv 4) (pv 1)) (pv 2)) pa_nil))))))), ?_⟩
    refine ⟨_, rfl, a, rfl, _, rfl, b, rfl, _, _, rfl, ?_⟩
    refine while_by (fun σ H' => ∃ x y : Int, σ = [some (.int a), some (.int b), some (.int x), some (.int y), none] ∧ H' = H ∧ 0 ≤ x ∧ 0 ≤ y ∧ Int.gcd x y = Int.gcd a b) (fun σ _ => match σ with | [_, _, _, some (.int y), _] => y.toNat | _ => 0)
      ⟨_, _, rfl, rfl, ?_, ?_, ?_⟩ ?_ ?_
    · rw [abs_if]; omega
    · rw [abs_if]; omega
    · rw [abs_if, abs_if, gcd_abs]
    · rintro σ H' ⟨x, y, rfl, rfl, hx, hy, e⟩
      refine ⟨_, rfl, rfl, _, rfl, ite2 (fun c => ?_) (fun c => ?_)⟩
      · have hy0 : y ≠ 0 := fun z => by
          subst z
          simp at c
        refine ⟨_, rfl, _, rfl, _, rfl, _, _, rfl, rfl, (by omega), _, _, rfl, ?_⟩
        refine ⟨⟨_, _, rfl, rfl, hy, Int.emod_nonneg _ hy0, ?_⟩, ?_⟩
        · rw [gcd_step hy0 hx hy]
          exact e
        · show (x % y).toNat < y.toNat
          have := Int.emod_lt_of_pos x (show 0 < y by omega)
          have := Int.emod_nonneg x hy0
          omega
      · have hy0 : y = 0 := by
          simpa using c
        subst hy0
        have e2 : x = ((Int.gcd a b : Nat) : Int) := by
          rw [← e]
          unfold Int.gcd
          simp
          omega
        subst e2
        have g0 := gcd_pos (a := a) hb
        have gB : Bi 8999 ((Int.gcd a b : Nat) : Int) := hB.gcd hb
        have fin : ∀ z : Int, z = sg b → ∀ p, H' p = none → Q (.ref p) (upd H' p (.tup [.int (z * a / ((Int.gcd a b : Nat) : Int)), .int (z * b / ((Int.gcd a b : Nat) : Int))])) := fun z hz p np => by
          rw [hz, low_num hb, low_den hb]
          exact q p np
        have wd : ∀ i, CDivW i ((Int.gcd a b : Nat) : Int) := fun i => wide_div g0 gB (by decide) (by decide)
        refine ⟨_, rfl, _, _, rfl, rfl, _, rfl, ite2 (fun c2 => ?_) (fun c2 => ?_)⟩
        · have c3 : 0 < b := by simpa using c2
          refine ⟨_, rfl, _, rfl, _, _, rfl, rfl, .inl ⟨by decide, by decide⟩, _, rfl, _, _, rfl, rfl, wd _, _, rfl, _, rfl, _, _, rfl, rfl, .inl ⟨by decide, by decide⟩, _, rfl, _, _, rfl, rfl, wd _, (by show 2 ≤ sizeLine; decide), fun p np => ?_⟩
          exact fin 1 (by unfold sg; rw [if_pos c3]) p np
        · have c3 : ¬ 0 < b := by simpa using c2
          refine ⟨_, rfl, _, rfl, _, rfl, _, _, rfl, rfl, .inl ⟨by decide, by decide⟩, _, rfl, _, _, rfl, rfl, wd _, _, rfl, _, rfl, _, _, rfl, rfl, .inl ⟨by decide, by decide⟩, _, rfl, _, _, rfl, rfl, wd _, (by show 2 ≤ sizeLine; decide), fun p np => ?_⟩
          exact fin (-1) (by unfold sg; rw [if_neg c3]) p np
    · rintro σ H' Q Q' hq ⟨v, e, e2, b, e3, z⟩
      exact ⟨v, e, e2, b, e3, hq _ _ z⟩
end
end Gap
namespace Gap
open PySem PySem.Spec PyProof.Rows L2
section
variable {P : Program} {w : World} {K : PySem.W.Frag} {mg : Str → Option Value} {base : Heap}
theorem bi_of {n : Nat} {x : Int} (h0 : -(2 ^ n : Nat) < x) (h1 : x < (2 ^ n : Nat)) : Bi n x := by
  unfold Bi
  omega
theorem isQ_at {H : Hp} {p : Addr} {q : Rat} (h : H p = some (.tup [.int q.num, .int (q.den : Int)])) : IsQ K H (.ref p) q := ⟨p, rfl, .inl (.inl h)⟩
/-! ### the bag -/
structure Bag (H : Hp) (b l : Addr) : Prop where
  at_ : ∃ (xs : List Int) (i n s : Int), H b = some (.lst [.ref l, .int i, .int n, .int s]) ∧ H l = some (.lst (xs.map V.int)) ∧ l ≠ b ∧ 0 ≤ i ∧ 0 ≤ n ∧ 0 ≤ s ∧ s < 2147483647
/-- all but what stands at b is kept -/
def SameB (b : Addr) (H H' : Hp) : Prop := ∀ a o, a ≠ b → H a = some o → H' a = some o
theorem SameB.refl (b : Addr) (H : Hp) : SameB b H H := fun _ _ _ h => h
theorem SameB.trans {b : Addr} {H H1 H2 : Hp} (a : SameB b H H1) (c : SameB b H1 H2) : SameB b H H2 := fun x o n h => c x o n (a x o n h)
theorem SameB.of {b : Addr} {H H' : Hp} (e : Same H H') : SameB b H H' := fun a o _ h => e a o h
theorem SameB.upd {b : Addr} {H : Hp} {o : HO} : SameB b H (upd H b o) := fun a u n h => by
  rw [upd_ne n]
  exact h
theorem Bag.same {H H' : Hp} {b bl : Addr} (h : Bag H b bl) (e : Same H H') : Bag H' b bl := by
  obtain ⟨xs, i, n, s, h1, h2, r⟩ := h
  exact ⟨xs, i, n, s, e _ _ h1, e _ _ h2, r⟩
theorem Bag.tupT {H H' : Hp} {b bl : Addr} (h : Bag H b bl) (e : SameB b H H') {a : Addr} {xs : List V} (t : SqT K H a xs) : SqT K H' a xs := by
  obtain ⟨ys, i, n, s, h1, _⟩ := h
  rcases t with t | t
  · refine .inl ?_
    rcases t with t | ⟨o, t⟩
    · exact .inl (e _ _ (ne_of t h1 (by intro z; cases z)) t)
    · exact .inr ⟨o, e _ _ (ne_of t h1 (by intro z; cases z)) t⟩
  · exact .inr t
theorem Bag.isQ {H H' : Hp} {b bl : Addr} (h : Bag H b bl) (e : SameB b H H') {v : V} {q : Rat} (t : IsQ K H v q) : IsQ K H' v q := by
  obtain ⟨a, rfl, t⟩ := t
  exact ⟨a, rfl, h.tupT e t⟩
theorem Bag.ne {H : Hp} {b p bl : Addr} (h : Bag H b bl) (np : H p = none) : p ≠ b := fun z => by
  obtain ⟨ys, i, n, s, h1, _⟩ := h
  rw [z, h1] at np
  cases np
theorem Bag.nel {H : Hp} {b bl p : Addr} (h : Bag H b bl) (np : H p = none) : p ≠ bl := fun z => by
  obtain ⟨ys, i, n, s, _, h2, _⟩ := h
  rw [z, h2] at np
  cases np
/-- another thing is written -/
theorem Bag.put {H : Hp} {b bl p : Addr} {o : HO} (h : Bag H b bl) (n1 : p ≠ b) (n2 : p ≠ bl) : Bag (upd H p o) b bl := by
  obtain ⟨xs, i, n, s, h1, h2, r⟩ := h
  exact ⟨xs, i, n, s, by rw [upd_ne n1.symm]; exact h1, by rw [upd_ne n2.symm]; exact h2, r⟩
/-- fractions stay where a list is written -/
theorem SqT.putL {H : Hp} {p : Addr} {xs ys : List V} (hp : H p = some (.lst xs)) {c : Addr} {zs : List V} (z : SqT K H c zs) : SqT K (upd H p (.lst ys)) c zs := by
  rcases z with z | z
  · refine .inl ?_
    rcases z with z | ⟨o, z⟩
    · exact .inl (by rw [upd_ne (ne_of z hp (by intro y; cases y))]; exact z)
    · exact .inr ⟨o, by rw [upd_ne (ne_of z hp (by intro y; cases y))]; exact z⟩
  · exact .inr z
theorem IsQ.putL {H : Hp} {p : Addr} {xs ys : List V} (hp : H p = some (.lst xs)) {v : V} {q : Rat} (z : IsQ K H v q) : IsQ K (upd H p (.lst ys)) v q := by
  obtain ⟨c, e, z⟩ := z
  exact ⟨c, e, SqT.putL hp z⟩
abbrev sBag : Stmt := topS 16
theorem scBag : FnScope ["_law_script", "_law_salt", "_law_cell"] ["_law_script"] (defScope sBag) := ⟨rfl, rfl, rfl, by decide +kernel, rfl, by decide +kernel, by decide +kernel⟩
def spBag (K : PySem.W.Frag) : Sp := fun vs H Q _ => ∃ (a : Addr) (ns : List Int), vs = [.ref a] ∧ SqL K H a (ns.map V.int) ∧ ns.length ≤ 63 ∧ ∀ b bl H', Same H H' → H b = none → Bag H' b bl → Q (.ref b) H'
theorem cut_ints (ns : List Int) (lo hi : Option Int) : ∃ ms : List Int, cutV (ns.map V.int) lo hi = ms.map V.int := by
  unfold cutV
  rw [← List.map_drop, ← List.map_take]
  exact ⟨_, rfl⟩
theorem ok_bag {f : Addr} {fd : FuncData} {k : Nat} (F : Fun K "_law_bag" "_law_bag" sBag f fd) (ml : mg "list" = none) : FnOk P w K mg base CX0 (k + 1) f fd ["_law_script"] (spBag K) := by
  refine F.ok scBag (fun vs H Q E h => ?_) (fun cdv A outer s H vs Q E hr h => ?_)
  · obtain ⟨a, ns, rfl, _⟩ := h
    rfl
  · obtain ⟨a, ns, rfl, hS, hl, q⟩ := h
    refine ⟨_, pss_cons (ps_set (i := 1) scBag.nd rfl (.inl rfl) pe_int)
      (pss_cons (ps_for PassesOwn.never rfl (pi_list (pe_slice sl_list (pv 0) po_none (po_some pe_int))) (pg_name (i := 2) scBag.nd rfl (.inl rfl))
        (pss_one (ps_set (i := 1) scBag.nd rfl (.inl rfl) (pe_op op_mod (pe_op op_add (pe_op op_add (pe_op op_mul (pv 1) pe_int) (pe_op op_mod (pv 2) pe_int)) pe_int) pe_int))))
      (pss_one (ps_ret (pe_lst (pa_cons (pe_callTy call_list_of (by rfl) ml boot_list (pa_cons (pe_slice sl_list (pv 0) po_none (po_some pe_int)) pa_nil)) (pa_cons pe_int (pa_cons pe_int (pa_cons (pv 1) pa_nil)))))))), ?_⟩
    obtain ⟨ms, em⟩ := cut_ints ns none (some 63)
    have lm : ms.length ≤ 63 := by
      have := cutV_length (ns.map V.int) none (some 63)
      rw [em, List.length_map, List.length_map] at this
      omega
    refine ⟨_, rfl, _, rfl, a, _, rfl, hS, fun p np => ⟨p, rfl, ⟨_, .inl (.inl upd_same)⟩, ?_⟩⟩
    rw [em]
    refine for_list (K := K) (a := p) (xs := ms.map V.int) (fun i σ H' => ∃ (z : Int) (v : Option V), σ = [some (.ref a), some (.int z), v] ∧ H' = upd H p (.lst (ms.map V.int)) ∧ 0 ≤ z ∧ z < 2147483647) ⟨9146, none, rfl, rfl, by decide, by decide⟩ ?_ ?_ ?_
    · rintro i σ H' hi ⟨z, v, rfl, rfl, _⟩
      exact .inl (.inl upd_same)
    · rintro i x σ H' hi ⟨z, v, rfl, rfl, z0, z1⟩
      obtain ⟨y, hy, rfl⟩ : ∃ y, ms[i]? = some y ∧ x = V.int y := by
        rw [List.getElem?_map] at hi
        cases e : ms[i]? with
        | none =>
          rw [e] at hi
          cases hi
        | some y =>
          rw [e] at hi
          exact ⟨y, rfl, (Option.some.inj hi).symm⟩
      refine ⟨_, rfl, _, _, rfl, rfl, .inr ⟨by decide, by decide⟩, _, rfl, _, _, rfl, rfl, (by show (0 : Int) < 2147483629; decide), _, _, rfl, rfl, _, _, rfl, rfl, _, _, rfl, rfl, (by show (0 : Int) < 2147483647; decide), ?_⟩
      exact ⟨_, _, rfl, rfl, Int.emod_nonneg _ (by decide), Int.emod_lt_of_pos _ (by decide)⟩
    · rintro σ H' ⟨z, v, rfl, rfl, z0, z1⟩
      have s1 : Same H (upd H p (.lst (ms.map V.int))) := same_upd np
      refine ⟨_, rfl, _, rfl, a, _, rfl, s1.seq hS, fun p2 np2 => ?_⟩
      rw [em]
      have s2 := same_upd (o := .lst (ms.map V.int)) np2
      refine ⟨p2, _, rfl, .inl (.inl (.inl upd_same)), fun l nl => ⟨_, rfl, (by show 4 ≤ sizeLine; decide), fun b nb => ?_⟩⟩
      have s3 := same_upd (o := .lst (ms.map V.int)) nl
      have s4 := same_upd (o := .lst [.ref l, .int 0, .int 0, .int z]) nb
      have hl : (L2.upd (L2.upd (L2.upd H p (.lst (ms.map V.int))) p2 (.lst (ms.map V.int))) l (.lst (ms.map V.int))) l = some (.lst (ms.map V.int)) := upd_same
      refine q b l _ (((s1.trans s2).trans s3).trans s4) ((s1.trans (s2.trans s3)).free nb) ⟨ms, 0, 0, z, upd_same, s4 _ _ hl, ne_of_none hl nb, by decide, by decide, z0, z1⟩
/-! ### one draw -/
abbrev sPull : Stmt := topS 17
theorem scPull : FnScope ["_law_bag_here", "_law_many", "_law_cell", "_law_got", "_law_seed"] ["_law_bag_here", "_law_many"] (defScope sPull) := ⟨rfl, rfl, rfl, by decide +kernel, rfl, by decide +kernel, by decide +kernel⟩
def spPull : Sp := fun vs H Q _ => ∃ (b bl : Addr) (m : Int), vs = [.ref b, .int m] ∧ 0 < m ∧ m.natAbs.log2 < 9000 ∧ Bag H b bl ∧ ∀ r H', SameB b H H' → Bag H' b bl → 0 ≤ r → r < m → Q (.int r) H'
theorem ok_pull {f : Addr} {fd : FuncData} {k : Nat} (F : Fun K "_law_pull" "_law_pull" sPull f fd) (mn : mg "len" = none) : FnOk P w K mg base CX0 (k + 1) f fd ["_law_bag_here", "_law_many"] spPull := by
  refine F.ok scPull (fun vs H Q E h => ?_) (fun cdv A outer s H vs Q E hr h => ?_)
  · obtain ⟨b, l, m, rfl, _⟩ := h
    rfl
  · obtain ⟨b, l, m, rfl, m0, m9, hB, q⟩ := h
    refine ⟨_, Evl.pss_cut (ps_if (pw_and (pt_cmpR op_eq (pe_ix ix_list (pv 0) pe_int (fun _ _ => rfl)) pe_int (nomark _)) (pw_and1 (pt_cmpR op_lt (pe_ix ix_list (pv 0) pe_int (fun _ _ => rfl)) (pe_callB call_len_seq (by rfl) mn PySem.boot_len (pa_cons (pe_ix ix_list (pv 0) pe_int (fun _ _ => rfl)) pa_nil)) (nomark _)))).pt
        (pss_cons (ps_set (i := 2) scPull.nd rfl (.inl rfl) (pe_ix ix_list (pe_ix ix_list (pv 0) pe_int (fun _ _ => rfl)) (pe_ix ix_list (pv 0) pe_int (fun _ _ => rfl)) (fun _ _ => rfl)))
        (pss_cons (ps_asg (pe_op op_add (pe_ix ix_list (pv 0) pe_int (fun _ _ => rfl)) pe_int) (pg_sub (pv 0) pe_int set_list))
        (pss_one (ps_if (pt_cmpR op_ge (pv 2) (pe_op op_pow pe_int pe_int) (nomark _)) (pss_one (ps_asg (pv 2) (pg_sub (pv 0) pe_int set_list)))
          (pss_one (ps_asg (pe_op op_mod (pe_op op_add (pe_op op_add (pe_op op_mul (pe_ix ix_list (pv 0) pe_int (fun _ _ => rfl)) pe_int) (pe_op op_mul (pe_op op_mod (pv 2) pe_int) pe_int)) pe_int) pe_int) (pg_sub (pv 0) pe_int set_list)))))))
        pss_nil)
      (pss_cons (ps_if (pt_cmpR op_gt (pe_ix ix_list (pv 0) pe_int (fun _ _ => rfl)) pe_int (nomark _))
        (pss_cons (ps_set (i := 3) scPull.nd rfl (.inl rfl) (pe_op op_mod (pe_ix ix_list (pv 0) pe_int (fun _ _ => rfl)) (pv 1)))
        (pss_cons (ps_asg (pe_op op_fdivW (pe_ix ix_list (pv 0) pe_int (fun _ _ => rfl)) (pv 1)) (pg_sub (pv 0) pe_int set_list))
        (pss_one (ps_ret (pv 3)))))
        pss_nil)
      (pss_cons (ps_set (i := 4) scPull.nd rfl (.inl rfl) (pe_ix ix_list (pv 0) pe_int (fun _ _ => rfl)))
      (pss_cons (ps_set (i := 4) scPull.nd rfl (.inl rfl) (pe_op op_mod (pe_op op_add (pe_op op_add (pe_op op_mul (pe_op op_mod (pe_op op_mul (pv 4) (pv 4)) pe_int) pe_int) (pe_op op_mul (pv 4) pe_int)) pe_int) pe_int))
      (pss_cons (ps_asg (pv 4) (pg_sub (pv 0) pe_int set_list))
      (pss_one (ps_ret (pe_op op_mod (pe_op op_add (pe_op op_fdiv (pv 4) pe_int) (pe_op op_mul (pe_op op_mod (pv 4) pe_int) pe_int)) (pv 1)))))))), ?_⟩
    obtain ⟨xs, i, n, sd, hb, hl, lb, i0, n0, s0, s1⟩ := hB.at_
    have SB : SqL K H b [.ref l, .int i, .int n, .int sd] := .inl (.inl hb)
    refine ⟨fun σ' H' => ∃ v, σ' = [some (.ref b), some (.int m), v, none, none] ∧ SameB b H H' ∧ Bag H' b l, ?_, ?_⟩
    · have stay : ∀ v : Option V, ∃ v' : Option V, ([some (V.ref b), some (V.int m), v, none, none] : L2.St) = [some (V.ref b), some (V.int m), v', none, none] ∧ SameB b H H ∧ Bag H b l := fun v => ⟨v, rfl, SameB.refl b H, hB⟩
      refine ⟨_, rfl, b, _, 2, _, rfl, rfl, SB, atI_nat (j := 2) rfl, rfl, _, rfl, ite2 (fun c => ?_) (fun c => ?_)⟩
      · refine ⟨_, rfl, b, _, 1, _, rfl, rfl, SB, atI_nat (j := 1) rfl, _, rfl, b, _, 0, _, rfl, rfl, SB, atI_nat (j := 0) rfl, l, _, rfl, .inl (.inl (.inl hl)), _, _, rfl, rfl, _, rfl, ite2 (fun c2 => ?_) (fun c2 => ?_)⟩
        · have ci : i < (xs.length : Int) := by simpa using c2
          have hix : xs[i.toNat]? = some (xs[i.toNat]'(by omega)) := List.getElem?_eq_getElem (by omega)
          generalize xs[i.toNat]'(by omega) = cell at hix
          have hat : atI (xs.map V.int) i = some (V.int cell) := at_of (j := i.toNat) (by omega) (by rw [List.getElem?_map, hix]; rfl)
          refine ⟨_, rfl, b, _, 0, _, rfl, rfl, SB, atI_nat (j := 0) rfl, _, rfl, b, _, 1, _, rfl, rfl, SB, atI_nat (j := 1) rfl, l, _, i, _, rfl, rfl, .inl (.inl hl), hat, ?_⟩
          refine ⟨_, rfl, b, _, 1, _, rfl, rfl, SB, atI_nat (j := 1) rfl, _, _, rfl, rfl, _, rfl, b, _, 1, 1, rfl, rfl, hb, rfl, ?_⟩
          have hb1 : (upd H b (.lst [.ref l, .int (i + 1), .int n, .int sd])) b = some (.lst [.ref l, .int (i + 1), .int n, .int sd]) := upd_same
          have SB1 : SqL K (upd H b (.lst [.ref l, .int (i + 1), .int n, .int sd])) b [.ref l, .int (i + 1), .int n, .int sd] := .inl (.inl hb1)
          refine ⟨_, rfl, _, _, rfl, rfl, ⟨by decide, by decide, by decide⟩, _, _, rfl, rfl, _, rfl, ite2 (fun c3 => ?_) (fun c3 => ?_)⟩
          · have c4 : (10 : Int) ^ 18 ≤ cell := of_decide_eq_true c3
            refine ⟨_, rfl, _, rfl, b, _, 2, 2, rfl, rfl, hb1, rfl, ?_⟩
            rw [upd_upd]
            refine ⟨_, rfl, SameB.upd, ⟨xs, i + 1, cell, sd, upd_same, ?_, lb, by omega, by omega, s0, s1⟩⟩
            rw [upd_ne lb]
            exact hl
          · refine ⟨_, rfl, b, _, 3, _, rfl, rfl, SB1, atI_nat (j := 3) rfl, _, _, rfl, rfl, .inr ⟨by decide, by decide⟩, _, rfl, _, _, rfl, rfl, (by show (0 : Int) < 2147483629; decide), _, _, rfl, rfl, .inr ⟨by decide, by decide⟩, _, _, rfl, rfl, _, _, rfl, rfl, _, _, rfl, rfl, (by show (0 : Int) < 2147483647; decide), _, rfl, b, _, 3, 3, rfl, rfl, hb1, rfl, ?_⟩
            rw [upd_upd]
            refine ⟨_, rfl, SameB.upd, ⟨xs, i + 1, n, _, upd_same, ?_, lb, by omega, n0, Int.emod_nonneg _ (by decide), Int.emod_lt_of_pos _ (by decide)⟩⟩
            rw [upd_ne lb]
            exact hl
        · exact stay _
      · exact stay _
    · rintro σ' H' ⟨v, rfl, sb, hB'⟩
      clear hb hl SB
      obtain ⟨xs, i, n, sd, hb, hl, lb, i0, n0, s0, s1⟩ := hB'.at_
      have SB : SqL K H' b [.ref l, .int i, .int n, .int sd] := .inl (.inl hb)
      refine ⟨_, rfl, b, _, 2, _, rfl, rfl, SB, atI_nat (j := 2) rfl, _, _, rfl, rfl, _, rfl, ite2 (fun c => ?_) (fun c => ?_)⟩
      · refine ⟨_, rfl, b, _, 2, _, rfl, rfl, SB, atI_nat (j := 2) rfl, _, rfl, _, _, rfl, rfl, m0, ?_⟩
        refine ⟨_, rfl, b, _, 2, _, rfl, rfl, SB, atI_nat (j := 2) rfl, _, rfl, _, _, rfl, rfl, ⟨m0, m9⟩, _, rfl, b, _, 2, 2, rfl, rfl, hb, rfl, ?_⟩
        refine ⟨_, rfl, q _ _ (sb.trans SameB.upd) ⟨xs, i, n / m, sd, upd_same, ?_, lb, i0, Int.ediv_nonneg n0 (by omega), s0, s1⟩ (Int.emod_nonneg _ (by omega)) (Int.emod_lt_of_pos _ m0)⟩
        rw [upd_ne lb]
        exact hl
      · refine ⟨_, rfl, b, _, 3, _, rfl, rfl, SB, atI_nat (j := 3) rfl, ?_⟩
        refine ⟨_, rfl, _, rfl, _, _, rfl, rfl, .inl ⟨by omega, by omega⟩, _, _, rfl, rfl, (by show (0 : Int) < 2147483587; decide), _, _, rfl, rfl, .inr ⟨by decide, by decide⟩, _, rfl, _, _, rfl, rfl, .inr ⟨by decide, by decide⟩, _, _, rfl, rfl, _, _, rfl, rfl, _, _, rfl, rfl, (by show (0 : Int) < 2147483647; decide), ?_⟩
        refine ⟨_, rfl, _, rfl, b, _, 3, 3, rfl, rfl, hb, rfl, ?_⟩
        refine ⟨_, rfl, _, _, rfl, rfl, ⟨by decide, by decide⟩, _, rfl, _, _, rfl, rfl, (by show (0 : Int) < 8191; decide), _, _, rfl, rfl, .inr ⟨by decide, by decide⟩, _, _, rfl, rfl, _, rfl, _, _, rfl, rfl, m0, ?_⟩
        refine q _ _ (sb.trans SameB.upd) ⟨xs, i, n, _, upd_same, ?_, lb, i0, n0, Int.emod_nonneg _ (by decide), Int.emod_lt_of_pos _ (by decide)⟩ (Int.emod_nonneg _ (by omega)) (Int.emod_lt_of_pos _ m0)
        rw [upd_ne lb]
        exact hl
end
end Gap
namespace Gap
open PySem PySem.Spec PyProof.Rows L2
section
variable {P : Program} {w : World} {K : PySem.W.Frag} {mg : Str → Option Value} {base : Heap}
/-! ### two values that are the same throughout -/
def Flat (u : V) : Prop := u = .non ∨ (∃ b, u = .bl b) ∨ (∃ i, u = .int i) ∨ ∃ s, u = .str s
def Eqv (K : PySem.W.Frag) (H : Hp) : Nat → V → V → Prop
  | 0, u, v => u = v ∧ Flat u
  | d + 1, u, v => (u = v ∧ Flat u) ∨ ∃ (a b : Addr) (xs ys : List V), u = .ref a ∧ v = .ref b ∧ ((SqL K H a xs ∧ SqL K H b ys) ∨ (SqT K H a xs ∧ SqT K H b ys)) ∧ xs.length = ys.length ∧ xs.length ≤ 1000 ∧ ∀ (i : Nat) (x y : V), xs[i]? = some x → ys[i]? = some y → Eqv K H d x y
theorem Eqv.same {H H' : Hp} (e : Same H H') : ∀ {d : Nat} {u v : V}, Eqv K H d u v → Eqv K H' d u v
  | 0, _, _, h => h
  | d + 1, _, _, h => by
    rcases h with h | ⟨a, b, xs, ys, rfl, rfl, h, l, l2, k⟩
    · exact .inl h
    · refine .inr ⟨a, b, xs, ys, rfl, rfl, ?_, l, l2, fun i x y h1 h2 => Eqv.same e (k i x y h1 h2)⟩
      rcases h with ⟨h1, h2⟩ | ⟨h1, h2⟩
      · exact .inl ⟨e.seq h1, e.seq h2⟩
      · exact .inr ⟨Same.seqT e h1, Same.seqT e h2⟩
theorem Eqv.up {H : Hp} : ∀ {d : Nat} {u v : V}, Eqv K H d u v → Eqv K H (d + 1) u v
  | 0, _, _, h => .inl h
  | d + 1, _, _, h => by
    rcases h with h | ⟨a, b, xs, ys, rfl, rfl, h, l, l2, k⟩
    · exact .inl h
    · exact .inr ⟨a, b, xs, ys, rfl, rfl, h, l, l2, fun i x y h1 h2 => Eqv.up (k i x y h1 h2)⟩
theorem Eqv.flat {H : Hp} {d : Nat} {u : V} (h : Flat u) : Eqv K H d u u := by
  cases d with
  | zero => exact ⟨rfl, h⟩
  | succ d => exact .inl ⟨rfl, h⟩
theorem Eqv.int {H : Hp} {d : Nat} {i : Int} : Eqv K H d (.int i) (.int i) := Eqv.flat (.inr (.inr (.inl ⟨i, rfl⟩)))
theorem Eqv.isQ {H : Hp} {d : Nat} {u v : V} {q : Rat} (hu : IsQ K H u q) (hv : IsQ K H v q) : Eqv K H (d + 1) u v := by
  obtain ⟨a, rfl, ha⟩ := hu
  obtain ⟨b, rfl, hb⟩ := hv
  refine .inr ⟨a, b, _, _, rfl, rfl, .inr ⟨ha, hb⟩, rfl, (by show 2 ≤ 1000; decide), fun i x y h1 h2 => ?_⟩
  rw [h1] at h2
  cases h2
  match i, h1 with
  | 0, h1 => cases h1; exact Eqv.int
  | 1, h1 => cases h1; exact Eqv.int
/-- two sequences of the same kind, item by item -/
inductive All2 (R : V → V → Prop) : List V → List V → Prop where
  | nil : All2 R [] []
  | cons {x y : V} {xs ys : List V} (h : R x y) (t : All2 R xs ys) : All2 R (x :: xs) (y :: ys)
theorem All2.len {R : V → V → Prop} {xs ys : List V} (h : All2 R xs ys) : xs.length = ys.length := by
  induction h with
  | nil => rfl
  | cons _ _ ih => exact congrArg Nat.succ ih
theorem All2.get {R : V → V → Prop} {xs ys : List V} (h : All2 R xs ys) : ∀ (i : Nat) (x y : V), xs[i]? = some x → ys[i]? = some y → R x y := by
  induction h with
  | nil => intro i x y h1; simp at h1
  | cons r _ ih =>
    intro i x y h1 h2
    cases i with
    | zero => cases h1; cases h2; exact r
    | succ i => exact ih i x y h1 h2
theorem Eqv.lists {H : Hp} {d : Nat} {a b : Addr} {xs ys : List V} (ha : SqL K H a xs) (hb : SqL K H b ys) (h : All2 (Eqv K H d) xs ys) (hl : xs.length ≤ 1000) : Eqv K H (d + 1) (.ref a) (.ref b) :=
  .inr ⟨a, b, xs, ys, rfl, rfl, .inl ⟨ha, hb⟩, h.len, hl, h.get⟩
theorem Eqv.tups {H : Hp} {d : Nat} {a b : Addr} {xs ys : List V} (ha : SqT K H a xs) (hb : SqT K H b ys) (h : All2 (Eqv K H d) xs ys) (hl : xs.length ≤ 1000) : Eqv K H (d + 1) (.ref a) (.ref b) :=
  .inr ⟨a, b, xs, ys, rfl, rfl, .inr ⟨ha, hb⟩, h.len, hl, h.get⟩
theorem ty_list {H : Hp} {a : Addr} {xs : List V} (h : SqL K H a xs) : TyX K H (.ref a) (.type "list") := by
  rcases h with (h | ⟨o, h⟩) | ⟨o, its, n, h, c, _⟩
  · exact .base (.lst h)
  · exact .base (.frz h)
  · exact .kList h c
theorem ty_tup {H : Hp} {a : Addr} {xs : List V} (h : SqT K H a xs) : TyX K H (.ref a) (.type "tuple") := by
  rcases h with (h | ⟨o, h⟩) | ⟨o, its, n, h, c, _⟩
  · exact .base (.tup h)
  · exact .fTuple h
  · exact .kTuple h c
/-- the type of a flat value -/
def flatTy : V → String
  | .non => "NoneType" | .bl _ => "bool" | .int _ => "int" | .str _ => "str" | _ => "object"
theorem ty_flat {H : Hp} {u : V} (h : Flat u) : TyX K H u (.type (flatTy u)) := by
  rcases h with rfl | ⟨b, rfl⟩ | ⟨i, rfl⟩ | ⟨s, rfl⟩
  · exact .base .non
  · exact .base (.bl b)
  · exact .base (.int i)
  · exact .base (.str s)
def rIxB (K : PySem.W.Frag) : R2 := fun x y H Q => rIxL K x y H Q ∨ rIxT K x y H Q
theorem ix_seq {X : Cx} : IxR X (rIxB X.K) := by
  intro value slice pins s σ H x y v u Q I rx ry h hs
  rcases h with h | h
  · exact ix_list value slice pins s σ H x y v u Q I rx ry h hs
  · exact ix_tup value slice pins s σ H x y v u Q I rx ry h hs
theorem ix_seqK {X : Cx} {K : PySem.W.Frag} (h : X.K = K) : IxR X (rIxB K) := h ▸ ix_seq
theorem at_seq {H : Hp} {a : Addr} {xs : List V} {i : Nat} {x : V} {Q : VK} (h : SqL K H a xs ∨ SqT K H a xs) (e : xs[i]? = some x) {z : Int} (hz : z = (i : Int)) (q : Q x H) : rIxL K (.ref a) (.int z) H Q ∨ rIxT K (.ref a) (.int z) H Q := by
  rcases h with h | h
  · exact .inl ⟨a, xs, z, x, rfl, rfl, h, at_of hz e, q⟩
  · exact .inr ⟨a, xs, z, x, rfl, rfl, h, at_of hz e, q⟩
abbrev sSame : Stmt := topS 19
theorem scSame : FnScope ["_law_told", "_law_due", "_law_k"] ["_law_told", "_law_due"] (defScope sSame) := ⟨rfl, rfl, rfl, by decide +kernel, rfl, by decide +kernel, by decide +kernel⟩
def spSame (K : PySem.W.Frag) (d : Nat) : Sp := fun vs H Q _ => ∃ (u v : V), vs = [u, v] ∧ Eqv K H d u v ∧ ∀ H', Same H H' → Q (.bl true) H'
/-- what the def reads of the built-ins -/
structure Blt (mg : Str → Option Value) : Prop where
  isi : mg "isinstance" = none
  lst : mg "list" = none
  tup : mg "tuple" = none
  bol : mg "bool" = none
  int : mg "int" = none
  str : mg "str" = none
  len : mg "len" = none
  all : mg "all" = none
  rng : mg "range" = none
theorem kit_seq {u : V} (h : Flat u) : PySem.W.kitAny K (.type (flatTy u)) [.type "list", .type "tuple"] = some false := by
  have h1 : kitB (flatTy u) "list" = some false := by
    rcases h with rfl | ⟨b, rfl⟩ | ⟨i, rfl⟩ | ⟨s, rfl⟩
    · exact (by decide +kernel : kitB "NoneType" "list" = some false)
    · exact (by decide +kernel : kitB "bool" "list" = some false)
    · exact (by decide +kernel : kitB "int" "list" = some false)
    · exact (by decide +kernel : kitB "str" "list" = some false)
  have h2 : kitB (flatTy u) "tuple" = some false := by
    rcases h with rfl | ⟨b, rfl⟩ | ⟨i, rfl⟩ | ⟨s, rfl⟩
    · exact (by decide +kernel : kitB "NoneType" "tuple" = some false)
    · exact (by decide +kernel : kitB "bool" "tuple" = some false)
    · exact (by decide +kernel : kitB "int" "tuple" = some false)
    · exact (by decide +kernel : kitB "str" "tuple" = some false)
  exact kitAny_cons (kit_ty h1) (fun _ => kitAny_cons (kit_ty h2) (fun _ => kitAny_nil) (fun z => nomatch z)) (fun z => nomatch z)
theorem kit_some {u : V} (h : Flat u) (n : String) (hn : n = "bool" ∨ n = "int" ∨ n = "str") : ∃ b, PySem.W.kitOne K (.type (flatTy u)) (.type n) = some b := by
  have h1 : ∃ b, kitB (flatTy u) n = some b := by
    rcases hn with rfl | rfl | rfl <;> rcases h with rfl | ⟨b, rfl⟩ | ⟨i, rfl⟩ | ⟨s, rfl⟩
    · exact ⟨false, (by decide +kernel : kitB "NoneType" "bool" = some false)⟩
    · exact ⟨true, (by decide +kernel : kitB "bool" "bool" = some true)⟩
    · exact ⟨false, (by decide +kernel : kitB "int" "bool" = some false)⟩
    · exact ⟨false, (by decide +kernel : kitB "str" "bool" = some false)⟩
    · exact ⟨false, (by decide +kernel : kitB "NoneType" "int" = some false)⟩
    · exact ⟨true, (by decide +kernel : kitB "bool" "int" = some true)⟩
    · exact ⟨true, (by decide +kernel : kitB "int" "int" = some true)⟩
    · exact ⟨false, (by decide +kernel : kitB "str" "int" = some false)⟩
    · exact ⟨false, (by decide +kernel : kitB "NoneType" "str" = some false)⟩
    · exact ⟨false, (by decide +kernel : kitB "bool" "str" = some false)⟩
    · exact ⟨false, (by decide +kernel : kitB "int" "str" = some false)⟩
    · exact ⟨true, (by decide +kernel : kitB "str" "str" = some true)⟩
  obtain ⟨b, e⟩ := h1
  exact ⟨b, kit_ty e⟩
theorem kit_l : PySem.W.kitAny K (.type "list") [.type "list", .type "tuple"] = some true := kitAny_cons (b := true) (kit_ty (by decide +kernel)) (fun z => nomatch z) (fun _ => rfl)
theorem kit_t : PySem.W.kitAny K (.type "tuple") [.type "list", .type "tuple"] = some true := kitAny_cons (b := false) (kit_ty (by decide +kernel)) (fun _ => kitAny_cons (b := true) (kit_ty (by decide +kernel)) (fun z => nomatch z) (fun _ => rfl)) (fun z => nomatch z)
theorem two_tys {H : Hp} : Paired ClsV [V.ty "list", V.ty "tuple"] [.type "list", .type "tuple"] := .cons (.ty _) (.cons (.ty _) .nil)
theorem ok_same0 {f : Addr} {fd : FuncData} (F : Fun K "_law_same" "_law_same" sSame f fd) (T : Blt mg) : FnOk P w K mg base CX0 1 f fd ["_law_told", "_law_due"] (spSame K 0) := by
    refine F.ok scSame (fun vs H Q E h => ?_) (fun cdv A outer s H vs Q E hr h => ?_)
    · obtain ⟨u, v, rfl, _⟩ := h
      rfl
    · obtain ⟨u, v, rfl, ⟨rfl, hF⟩, q⟩ := h
      refine ⟨_, pss_cons (ps_if (pt_val (pe_callB call_isiT (by rfl) T.isi (by decide +kernel) (pa_cons (pv 1) (pa_cons (pe_tup (pa_cons (pe_bltn (v := .ty "list") (by rfl) T.lst (by decide +kernel) rfl) (pa_cons (pe_bltn (v := .ty "tuple") (by rfl) T.tup (by decide +kernel) rfl) pa_nil))) pa_nil))))
          pss_never
          pss_nil)
        (pss_cons (ps_if (pw_or (pt_cmp (pc_isN (pv 1))) (pw_or1 (pt_cmp (pc_isN (pv 0))))).pt (pss_one (ps_ret (pe_and (pe_cmp (pc_isN (pv 1))) (pe_one (pe_cmp (pc_isN (pv 0))))))) pss_nil)
        (pss_cons (ps_if (pw_or (pt_cmpR op_ne (pe_callB call_isi (by rfl) T.isi (by decide +kernel) (pa_cons (pv 0) (pa_cons (pe_bltn (v := .ty "bool") (by rfl) T.bol (by decide +kernel) rfl) pa_nil))) (pe_callB call_isi (by rfl) T.isi (by decide +kernel) (pa_cons (pv 1) (pa_cons (pe_bltn (v := .ty "bool") (by rfl) T.bol (by decide +kernel) rfl) pa_nil))) (nomark _))
              (pw_or1 (pt_cmpR op_ne (pe_callB call_isi (by rfl) T.isi (by decide +kernel) (pa_cons (pv 0) (pa_cons (pe_bltn (v := .ty "int") (by rfl) T.int (by decide +kernel) rfl) pa_nil))) (pe_callB call_isi (by rfl) T.isi (by decide +kernel) (pa_cons (pv 1) (pa_cons (pe_bltn (v := .ty "int") (by rfl) T.int (by decide +kernel) rfl) pa_nil))) (nomark _)))).pt pss_never pss_nil)
        (pss_one (ps_ret (pe_and (pe_cmpR op_eq (pe_callB call_isi (by rfl) T.isi (by decide +kernel) (pa_cons (pv 0) (pa_cons (pe_bltn (v := .ty "str") (by rfl) T.str (by decide +kernel) rfl) pa_nil))) (pe_callB call_isi (by rfl) T.isi (by decide +kernel) (pa_cons (pv 1) (pa_cons (pe_bltn (v := .ty "str") (by rfl) T.str (by decide +kernel) rfl) pa_nil))) (nomark _))
          (pe_one (pe_cmpR op_eq (pv 0) (pv 1) (nomark _)))))))), ?_⟩
      have hT : ∀ H', TyX K H' u (.type (flatTy u)) := fun H' => ty_flat hF
      obtain ⟨b1, e1⟩ := kit_some (K := K) hF "bool" (.inl rfl)
      obtain ⟨b2, e2⟩ := kit_some (K := K) hF "int" (.inr (.inl rfl))
      obtain ⟨b3, e3⟩ := kit_some (K := K) hF "str" (.inr (.inr rfl))
      refine ⟨_, rfl, (by show 2 ≤ sizeLine; decide), fun p np => ⟨u, p, _, _, _, _, rfl, upd_same, two_tys (H := H), hT _, kit_seq hF, _, rfl, iteF ?_⟩⟩
      have sm := same_upd (o := .tup [.ty "list", .ty "tuple"]) np
      by_cases hn : u = .non
      · subst hn
        refine ⟨_, rfl, _, rfl, iteT ?_⟩
        refine ⟨_, rfl, _, rfl, iteT ⟨_, rfl, q _ sm⟩⟩
      · have dn : decide (u = .non) = false := decide_eq_false hn
        refine ⟨_, rfl, _, rfl, ?_⟩
        rw [dn]
        refine iteF ⟨_, rfl, _, rfl, ?_⟩
        rw [dn]
        refine iteF ⟨_, rfl, _, _, _, _, _, rfl, .ty _, hT _, e1, _, rfl, _, _, _, _, _, rfl, .ty _, hT _, e1, rfl, _, rfl, iteNS rfl ?_⟩
        refine ⟨_, rfl, _, _, _, _, _, rfl, .ty _, hT _, e2, _, rfl, _, _, _, _, _, rfl, .ty _, hT _, e2, rfl, _, rfl, iteNS rfl ?_⟩
        refine ⟨_, rfl, _, _, _, _, _, rfl, .ty _, hT _, e3, _, rfl, _, _, _, _, _, rfl, .ty _, hT _, e3, rfl, _, rfl, ite2 (fun _ => ?_) (fun c => absurd (decide_eq_true rfl) c)⟩
        refine ⟨_, rfl, _, rfl, ?_, ?_⟩
        · rcases hF with rfl | ⟨b, rfl⟩ | ⟨i, rfl⟩ | ⟨s, rfl⟩
          · exact absurd rfl hn
          · rfl
          · rfl
          · rfl
        · rw [decide_eq_true (rfl : u = u)]
          exact q _ sm
theorem ok_same {f : Addr} {fd : FuncData} (F : Fun K "_law_same" "_law_same" sSame f fd) (T : Blt mg) (bS : Binds K fd ["_law_told", "_law_due"] []) (gS : mg "_law_same" = some (.ref f)) :
    ∀ d : Nat, FnOk P w K mg base CX0 (d + 1) f fd ["_law_told", "_law_due"] (spSame K d) := by
  intro d
  induction d with
  | zero => exact ok_same0 F T
  | succ d ih =>
    refine F.ok scSame (fun vs H Q E h => ?_) (fun cdv A outer s H vs Q E hr h => ?_)
    · obtain ⟨u, v, rfl, _⟩ := h
      rfl
    · obtain ⟨u, v, rfl, hE, q⟩ := h
      refine ⟨_, pss_cons (ps_if (pt_val (pe_callB call_isiT (by rfl) T.isi (by decide +kernel) (pa_cons (pv 1) (pa_cons (pe_tup (pa_cons (pe_bltn (v := .ty "list") (by rfl) T.lst (by decide +kernel) rfl) (pa_cons (pe_bltn (v := .ty "tuple") (by rfl) T.tup (by decide +kernel) rfl) pa_nil))) pa_nil))))
          (pss_cons (ps_if (pw_or (pt_cmpR op_ne (pe_callB call_isi (by rfl) T.isi (by decide +kernel) (pa_cons (pv 0) (pa_cons (pe_bltn (v := .ty "list") (by rfl) T.lst (by decide +kernel) rfl) pa_nil))) (pe_callB call_isi (by rfl) T.isi (by decide +kernel) (pa_cons (pv 1) (pa_cons (pe_bltn (v := .ty "list") (by rfl) T.lst (by decide +kernel) rfl) pa_nil))) (nomark _))
              (pw_or1 (pt_cmpR op_ne (pe_callB call_isi (by rfl) T.isi (by decide +kernel) (pa_cons (pv 0) (pa_cons (pe_bltn (v := .ty "tuple") (by rfl) T.tup (by decide +kernel) rfl) pa_nil))) (pe_callB call_isi (by rfl) T.isi (by decide +kernel) (pa_cons (pv 1) (pa_cons (pe_bltn (v := .ty "tuple") (by rfl) T.tup (by decide +kernel) rfl) pa_nil))) (nomark _)))).pt pss_never pss_nil)
          (pss_one (ps_ret (pe_and (pe_cmpR op_eq (pe_callB call_len_seq (by rfl) T.len PySem.boot_len (pa_cons (pv 0) pa_nil)) (pe_callB call_len_seq (by rfl) T.len PySem.boot_len (pa_cons (pv 1) pa_nil)) (nomark _))
            (pe_one (pe_callB (cr_all rfl) (by rfl) T.all (by decide +kernel) (pa_cons (pe_lc (own := [("_law_k", 2)]) (g := gName 2) (tt := tYes) rfl scSame.nd (pi_range1 rfl T.rng (pa_cons (pe_callB call_len_seq (by rfl) T.len PySem.boot_len (pa_cons (pv 1) pa_nil)) pa_nil))
                (blkOk_by (own := [("_law_k", 2)]) (N := ["_law_told", "_law_due", "_law_k"]) (sc := defScope sSame) (by decide +kernel)) (fun _ _ _ _ _ => pg_name (i := 2) scSame.nd rfl (.inl rfl)) (fun _ _ _ _ _ => pts_nil)
                (fun _ _ _ _ _ => pe_call ih hr (by rfl) gS F.kp bS .nil pass0 (pa_cons (pe_ix (ix_seqK (K := K) rfl) (pv 0) (pv 2) (fun _ _ => rfl)) (pa_cons (pe_ix (ix_seqK (K := K) rfl) (pv 1) (pv 2) (fun _ _ => rfl)) pa_nil)))) pa_nil)))))))
          pss_nil)
        (pss_cons (ps_if (pw_or (pt_cmp (pc_isN (pv 1))) (pw_or1 (pt_cmp (pc_isN (pv 0))))).pt (pss_one (ps_ret (pe_and (pe_cmp (pc_isN (pv 1))) (pe_one (pe_cmp (pc_isN (pv 0))))))) pss_nil)
        (pss_cons (ps_if (pw_or (pt_cmpR op_ne (pe_callB call_isi (by rfl) T.isi (by decide +kernel) (pa_cons (pv 0) (pa_cons (pe_bltn (v := .ty "bool") (by rfl) T.bol (by decide +kernel) rfl) pa_nil))) (pe_callB call_isi (by rfl) T.isi (by decide +kernel) (pa_cons (pv 1) (pa_cons (pe_bltn (v := .ty "bool") (by rfl) T.bol (by decide +kernel) rfl) pa_nil))) (nomark _))
              (pw_or1 (pt_cmpR op_ne (pe_callB call_isi (by rfl) T.isi (by decide +kernel) (pa_cons (pv 0) (pa_cons (pe_bltn (v := .ty "int") (by rfl) T.int (by decide +kernel) rfl) pa_nil))) (pe_callB call_isi (by rfl) T.isi (by decide +kernel) (pa_cons (pv 1) (pa_cons (pe_bltn (v := .ty "int") (by rfl) T.int (by decide +kernel) rfl) pa_nil))) (nomark _)))).pt pss_never pss_nil)
        (pss_one (ps_ret (pe_and (pe_cmpR op_eq (pe_callB call_isi (by rfl) T.isi (by decide +kernel) (pa_cons (pv 0) (pa_cons (pe_bltn (v := .ty "str") (by rfl) T.str (by decide +kernel) rfl) pa_nil))) (pe_callB call_isi (by rfl) T.isi (by decide +kernel) (pa_cons (pv 1) (pa_cons (pe_bltn (v := .ty "str") (by rfl) T.str (by decide +kernel) rfl) pa_nil))) (nomark _))
          (pe_one (pe_cmpR op_eq (pv 0) (pv 1) (nomark _)))))))), ?_⟩
      rcases hE with ⟨rfl, hF⟩ | ⟨a, b, xs, ys, rfl, rfl, hs, hl, h1000, hk⟩
      · have hT : ∀ H', TyX K H' u (.type (flatTy u)) := fun H' => ty_flat hF
        obtain ⟨b1, e1⟩ := kit_some (K := K) hF "bool" (.inl rfl)
        obtain ⟨b2, e2⟩ := kit_some (K := K) hF "int" (.inr (.inl rfl))
        obtain ⟨b3, e3⟩ := kit_some (K := K) hF "str" (.inr (.inr rfl))
        refine ⟨_, rfl, (by show 2 ≤ sizeLine; decide), fun p np => ⟨u, p, _, _, _, _, rfl, upd_same, two_tys (H := H), hT _, kit_seq hF, _, rfl, iteF ?_⟩⟩
        have sm := same_upd (o := .tup [.ty "list", .ty "tuple"]) np
        by_cases hn : u = .non
        · subst hn
          refine ⟨_, rfl, _, rfl, iteT ?_⟩
          refine ⟨_, rfl, _, rfl, iteT ⟨_, rfl, q _ sm⟩⟩
        · have dn : decide (u = .non) = false := decide_eq_false hn
          refine ⟨_, rfl, _, rfl, ?_⟩
          rw [dn]
          refine iteF ⟨_, rfl, _, rfl, ?_⟩
          rw [dn]
          refine iteF ⟨_, rfl, _, _, _, _, _, rfl, .ty _, hT _, e1, _, rfl, _, _, _, _, _, rfl, .ty _, hT _, e1, rfl, _, rfl, iteNS rfl ?_⟩
          refine ⟨_, rfl, _, _, _, _, _, rfl, .ty _, hT _, e2, _, rfl, _, _, _, _, _, rfl, .ty _, hT _, e2, rfl, _, rfl, iteNS rfl ?_⟩
          refine ⟨_, rfl, _, _, _, _, _, rfl, .ty _, hT _, e3, _, rfl, _, _, _, _, _, rfl, .ty _, hT _, e3, rfl, _, rfl, ite2 (fun _ => ?_) (fun c => absurd (decide_eq_true rfl) c)⟩
          refine ⟨_, rfl, _, rfl, ?_, ?_⟩
          · rcases hF with rfl | ⟨b, rfl⟩ | ⟨i, rfl⟩ | ⟨s, rfl⟩
            · exact absurd rfl hn
            · rfl
            · rfl
            · rfl
          · rw [decide_eq_true (rfl : u = u)]
            exact q _ sm
      · have la : SqL K H a xs ∨ SqT K H a xs := hs.elim (fun z => .inl z.1) (fun z => .inr z.1)
        have lb : SqL K H b ys ∨ SqT K H b ys := hs.elim (fun z => .inl z.2) (fun z => .inr z.2)
        obtain ⟨t, ht, tyA, tyB, ⟨bl, el⟩, ⟨bt, et⟩⟩ : ∃ t : String, PySem.W.kitAny K (.type t) [.type "list", .type "tuple"] = some true ∧ (∀ H', Same H H' → TyX K H' (.ref a) (.type t)) ∧ (∀ H', Same H H' → TyX K H' (.ref b) (.type t)) ∧ (∃ z, PySem.W.kitOne K (.type t) (.type "list") = some z) ∧ (∃ z, PySem.W.kitOne K (.type t) (.type "tuple") = some z) := by
          rcases hs with ⟨h1, h2⟩ | ⟨h1, h2⟩
          · exact ⟨"list", kit_l, fun H' e => ty_list (e.seq h1), fun H' e => ty_list (e.seq h2), ⟨true, kit_ty (by decide +kernel)⟩, ⟨false, kit_ty (by decide +kernel)⟩⟩
          · exact ⟨"tuple", kit_t, fun H' e => ty_tup (Same.seqT e h1), fun H' e => ty_tup (Same.seqT e h2), ⟨false, kit_ty (by decide +kernel)⟩, ⟨true, kit_ty (by decide +kernel)⟩⟩
        have up : ∀ {H' : Hp} {c : Addr} {zs : List V}, Same H H' → (SqL K H c zs ∨ SqT K H c zs) → (SqL K H' c zs ∨ SqT K H' c zs) := fun e z => z.elim (fun z => .inl (e.seq z)) (fun z => .inr (Same.seqT e z))
        refine ⟨_, rfl, (by show 2 ≤ sizeLine; decide), fun p np => ⟨.ref b, p, _, _, _, _, rfl, upd_same, two_tys (H := H), tyB _ (same_upd np), ht, _, rfl, iteT ?_⟩⟩
        have sm := same_upd (o := .tup [.ty "list", .ty "tuple"]) np
        generalize upd H p (.tup [.ty "list", .ty "tuple"]) = H1 at sm
        refine ⟨_, rfl, _, _, _, _, _, rfl, .ty _, tyA _ sm, el, _, rfl, _, _, _, _, _, rfl, .ty _, tyB _ sm, el, rfl, _, rfl, iteNS rfl ?_⟩
        refine ⟨_, rfl, _, _, _, _, _, rfl, .ty _, tyA _ sm, et, _, rfl, _, _, _, _, _, rfl, .ty _, tyB _ sm, et, rfl, _, rfl, iteNS rfl ?_⟩
        refine ⟨_, rfl, a, xs, rfl, up sm la, _, rfl, b, ys, rfl, up sm lb, rfl, _, rfl, ite2 (fun _ => ?_) (fun c => absurd (decide_eq_true (by rw [hl])) c)⟩
        refine ⟨_, rfl, b, ys, rfl, up sm lb, (ys.length : Int), rfl, by omega, by omega, fun D nD => ?_⟩
        refine lc_range (lo := 0) (n := (ys.length : Int).toNat) (fun i H' => Same H1 H' ∧ H' D = some (.lst ((List.replicate i true).map V.bl))) ⟨same_upd nD, upd_same⟩ ?_ ?_
        · rintro i H' hi ⟨s2, hD⟩
          have hi : i < ys.length := by omega
          have gy : ys[i]? = some ys[i] := List.getElem?_eq_getElem hi
          have gx : xs[i]? = some (xs[i]'(by omega)) := List.getElem?_eq_getElem (by omega)
          refine ⟨rfl, ?_⟩
          unfold tYes
          refine iteT ?_
          refine ⟨_, rfl, _, rfl, at_seq (i := i) (up (sm.trans s2) la) gx (by omega) ⟨_, rfl, _, rfl, at_seq (i := i) (up (sm.trans s2) lb) gy (by omega) ?_⟩⟩
          refine ⟨_, _, rfl, Eqv.same (sm.trans s2) (hk i _ _ gx gy), fun H3 s3 => ?_⟩
          refine ⟨_, s3 _ _ hD, ?_, fun c o e => ?_, ?_⟩
          · rw [List.length_map, List.length_replicate]
            exact small1000 (by omega)
          · rw [upd_ne (ne_of_none e nD)]
            exact s3 _ _ (s2 _ _ e)
          · rw [upd_same, List.replicate_succ', List.map_append]
            rfl
        · rintro H' ⟨s2, hD⟩
          refine ⟨D, _, rfl, .inl (.inl hD), ?_⟩
          have ea : (List.replicate (ys.length : Int).toNat true).all id = true := List.all_eq_true.mpr (fun z hz => List.eq_of_mem_replicate hz)
          show Q (V.bl ((List.replicate (ys.length : Int).toNat true).all id)) H'
          rw [ea]
          exact q _ (sm.trans s2)
end
end Gap
namespace Gap
open PySem PySem.Spec PyProof.Rows L2
/-! ### a def that may be called: where it stands, what it keeps -/
structure Cal (P : Program) (w : World) (K : PySem.W.Frag) (mg : Str → Option Value) (base : Heap) (k : Nat) (name : Str) (ps : List Str) (sp : Sp) : Prop where
  ex : ∃ (f : Addr) (fd : FuncData), FnOk P w K mg base CX0 k f fd ps sp ∧ Binds K fd ps [] ∧ mg name = some (.ref f) ∧ PySem.W.keepIn K (.ref f) = true
section
variable {P : Program} {w : World} {K : PySem.W.Frag} {mg : Str → Option Value} {base : Heap}
theorem Cal.mono {j k : Nat} {name : Str} {ps : List Str} {sp : Sp} (C : Cal P w K mg base j name ps sp) (h : j ≤ k) : Cal P w K mg base k name ps sp := by
  obtain ⟨f, fd, F, r⟩ := C.ex
  exact ⟨f, fd, F.mono h, r⟩
end
section
variable {X : Cx} {CX : CXT} {k : Nat} {f : Addr} {fd : FuncData} {ps ks : List Str} {sp : Sp} {E : XK} {x : Str} {p pos : Pos} {kws : List Keyword} {tk : TA} {g : List Value → List Value → List Value} {gV : List V → List V → List V}
/-- f(k = v, ..), nothing by place -/
theorem pe_callK0 (F : FnOk X.prog X.w X.K X.mg X.base CX k f fd ps sp) (hr : Room k X.A) (hg : Gl X x) (hm : X.mg x = some (.ref f)) (hk : PySem.W.keepIn X.K (.ref f) = true) (hb : KBinds X.K fd ps ks g gV) (hx : Passes CX X E)
    (hkw : PK X kws tk) (all : (backToKw pos (keywordEach kws X.env)).all (·.1.isSome) = true := by rfl) (names : (backToKw pos (keywordEach kws X.env)).filterMap (·.1) = ks := by rfl)
    (nodebug : (x == ("__debug__" : Str)) = false := by decide) (plain : ((backTo pos (starEach [] X.env)).any (·.1) || (backToKw pos (keywordEach kws X.env)).any (·.1.isNone)) = false := by rfl) :
    PE X (.Call (.Name x p) [] kws pos) (tCallK sp gV E tNil tk) := by
  refine ⟨fun pins s σ H Q I h => wpAny_Call_Name_kw (ld_glob I hg hm ?_ nodebug)⟩
  refine PySem.W.callWith_KW0 (h₀ := X.base) I.ok.mod.kin hk all (thn (hkw.run pos pins s σ H _ I h) fun ws s2 z => ?_) plain
  obtain ⟨zs, H2, J, rz, q2⟩ := z
  refine ⟨J.kIn, ?_⟩
  rw [names]
  exact run_fnk F hr hb hx J .nil rz q2
end
end Gap
namespace Gap
open PySem PySem.Spec PyProof.Rows L2
section
variable {P : Program} {w : World} {K : PySem.W.Frag} {mg : Str → Option Value} {base : Heap}
/-- of two fractions (pre of both) the fraction op -/
def sp2 (K : PySem.W.Frag) (op : Rat → Rat → Rat) (pre : Rat → Rat → Prop) : Sp := fun vs H Q _ => ∃ (u v : V) (q r : Rat), vs = [u, v] ∧ IsQ K H u q ∧ IsQ K H v r ∧ Bq 4000 q ∧ Bq 4000 r ∧ pre q r ∧ RetQ K H Q (op q r)
abbrev sPlusP : Stmt := topS 7
theorem scPlusP : FnScope ["one", "other"] ["one", "other"] (defScope sPlusP) := ⟨rfl, rfl, rfl, by decide +kernel, rfl, by decide +kernel, by decide +kernel⟩
theorem ok_PlusP {f fC : Addr} {fd fdC : FuncData} {k : Nat} (F : Fun K "plus" "plus" sPlusP f fd) (C : FnOk P w K mg base CX0 k fC fdC ["over", "under"] spPart) (bC : Binds K fdC ["over", "under"] []) (gC : mg "part" = some (.ref fC)) (kC : PySem.W.keepIn K (.ref fC) = true) :
    FnOk P w K mg base CX0 (k + 1) f fd ["one", "other"] (sp2 K (fun q r => q + r) (fun _ _ => True)) := by
  refine F.ok scPlusP (fun vs H Q E h => ?_) (fun cdv A outer s H vs Q E hr h => ?_)
  · obtain ⟨u, v, q, r, rfl, _⟩ := h
    rfl
  · obtain ⟨u, v, q, r, rfl, hq, hr', bq, br, pre, ret⟩ := h
    obtain ⟨x, rfl, hq⟩ := hq
    obtain ⟨y, rfl, hr'⟩ := hr'
    refine ⟨_, pss_one (ps_ret (pe_call C hr (by rfl) gC kC bC .nil pass0 (pa_cons (pe_op op_add (pe_op op_mulW (pe_ix ix_tup (pv 0) pe_int (fun _ _ => rfl)) (pe_ix ix_tup (pv 1) pe_int (fun _ _ => rfl))) (pe_op op_mulW (pe_ix ix_tup (pv 1) pe_int (fun _ _ => rfl)) (pe_ix ix_tup (pv 0) pe_int (fun _ _ => rfl)))) (pa_cons (pe_op op_mulW (pe_ix ix_tup (pv 0) pe_int (fun _ _ => rfl)) (pe_ix ix_tup (pv 1) pe_int (fun _ _ => rfl))) pa_nil)))), ?_⟩
    refine ⟨_, rfl, _, _, _, _, rfl, rfl, hq, atI_nat (j := 0) rfl, _, rfl, _, _, _, _, rfl, rfl, hr', atI_nat (j := 1) rfl, _, _, rfl, rfl, (bq.1.mulW br.2 (by decide)), _, rfl, _, _, _, _, rfl, rfl, hr', atI_nat (j := 0) rfl, _, rfl, _, _, _, _, rfl, rfl, hq, atI_nat (j := 1) rfl, _, _, rfl, rfl, (br.1.mulW bq.2 (by decide)), _, _, rfl, rfl, _, rfl, _, _, _, _, rfl, rfl, hq, atI_nat (j := 1) rfl, _, rfl, _, _, _, _, rfl, rfl, hr', atI_nat (j := 1) rfl, _, _, rfl, rfl, (bq.2.mulW br.2 (by decide)), _, _, rfl, den_mul_ne q r, (bq.2.mul br.2).mono (by decide), ?_⟩
    rw [add_divInt]
    exact RetQ.new ret
abbrev sLessP : Stmt := topS 8
theorem scLessP : FnScope ["one", "other"] ["one", "other"] (defScope sLessP) := ⟨rfl, rfl, rfl, by decide +kernel, rfl, by decide +kernel, by decide +kernel⟩
theorem ok_LessP {f fC : Addr} {fd fdC : FuncData} {k : Nat} (F : Fun K "less" "less" sLessP f fd) (C : FnOk P w K mg base CX0 k fC fdC ["over", "under"] spPart) (bC : Binds K fdC ["over", "under"] []) (gC : mg "part" = some (.ref fC)) (kC : PySem.W.keepIn K (.ref fC) = true) :
    FnOk P w K mg base CX0 (k + 1) f fd ["one", "other"] (sp2 K (fun q r => q - r) (fun _ _ => True)) := by
  refine F.ok scLessP (fun vs H Q E h => ?_) (fun cdv A outer s H vs Q E hr h => ?_)
  · obtain ⟨u, v, q, r, rfl, _⟩ := h
    rfl
  · obtain ⟨u, v, q, r, rfl, hq, hr', bq, br, pre, ret⟩ := h
    obtain ⟨x, rfl, hq⟩ := hq
    obtain ⟨y, rfl, hr'⟩ := hr'
    refine ⟨_, pss_one (ps_ret (pe_call C hr (by rfl) gC kC bC .nil pass0 (pa_cons (pe_op op_sub (pe_op op_mulW (pe_ix ix_tup (pv 0) pe_int (fun _ _ => rfl)) (pe_ix ix_tup (pv 1) pe_int (fun _ _ => rfl))) (pe_op op_mulW (pe_ix ix_tup (pv 1) pe_int (fun _ _ => rfl)) (pe_ix ix_tup (pv 0) pe_int (fun _ _ => rfl)))) (pa_cons (pe_op op_mulW (pe_ix ix_tup (pv 0) pe_int (fun _ _ => rfl)) (pe_ix ix_tup (pv 1) pe_int (fun _ _ => rfl))) pa_nil)))), ?_⟩
    refine ⟨_, rfl, _, _, _, _, rfl, rfl, hq, atI_nat (j := 0) rfl, _, rfl, _, _, _, _, rfl, rfl, hr', atI_nat (j := 1) rfl, _, _, rfl, rfl, (bq.1.mulW br.2 (by decide)), _, rfl, _, _, _, _, rfl, rfl, hr', atI_nat (j := 0) rfl, _, rfl, _, _, _, _, rfl, rfl, hq, atI_nat (j := 1) rfl, _, _, rfl, rfl, (br.1.mulW bq.2 (by decide)), _, _, rfl, rfl, _, rfl, _, _, _, _, rfl, rfl, hq, atI_nat (j := 1) rfl, _, rfl, _, _, _, _, rfl, rfl, hr', atI_nat (j := 1) rfl, _, _, rfl, rfl, (bq.2.mulW br.2 (by decide)), _, _, rfl, den_mul_ne q r, (bq.2.mul br.2).mono (by decide), ?_⟩
    rw [sub_divInt]
    exact RetQ.new ret
abbrev sTimesP : Stmt := topS 9
theorem scTimesP : FnScope ["one", "other"] ["one", "other"] (defScope sTimesP) := ⟨rfl, rfl, rfl, by decide +kernel, rfl, by decide +kernel, by decide +kernel⟩
theorem ok_TimesP {f fC : Addr} {fd fdC : FuncData} {k : Nat} (F : Fun K "times" "times" sTimesP f fd) (C : FnOk P w K mg base CX0 k fC fdC ["over", "under"] spPart) (bC : Binds K fdC ["over", "under"] []) (gC : mg "part" = some (.ref fC)) (kC : PySem.W.keepIn K (.ref fC) = true) :
    FnOk P w K mg base CX0 (k + 1) f fd ["one", "other"] (sp2 K (fun q r => q * r) (fun _ _ => True)) := by
  refine F.ok scTimesP (fun vs H Q E h => ?_) (fun cdv A outer s H vs Q E hr h => ?_)
  · obtain ⟨u, v, q, r, rfl, _⟩ := h
    rfl
  · obtain ⟨u, v, q, r, rfl, hq, hr', bq, br, pre, ret⟩ := h
    obtain ⟨x, rfl, hq⟩ := hq
    obtain ⟨y, rfl, hr'⟩ := hr'
    refine ⟨_, pss_one (ps_ret (pe_call C hr (by rfl) gC kC bC .nil pass0 (pa_cons (pe_op op_mulW (pe_ix ix_tup (pv 0) pe_int (fun _ _ => rfl)) (pe_ix ix_tup (pv 1) pe_int (fun _ _ => rfl))) (pa_cons (pe_op op_mulW (pe_ix ix_tup (pv 0) pe_int (fun _ _ => rfl)) (pe_ix ix_tup (pv 1) pe_int (fun _ _ => rfl))) pa_nil)))), ?_⟩
    refine ⟨_, rfl, _, _, _, _, rfl, rfl, hq, atI_nat (j := 0) rfl, _, rfl, _, _, _, _, rfl, rfl, hr', atI_nat (j := 0) rfl, _, _, rfl, rfl, (bq.1.mulW br.1 (by decide)), _, rfl, _, _, _, _, rfl, rfl, hq, atI_nat (j := 1) rfl, _, rfl, _, _, _, _, rfl, rfl, hr', atI_nat (j := 1) rfl, _, _, rfl, rfl, (bq.2.mulW br.2 (by decide)), _, _, rfl, den_mul_ne q r, (bq.2.mul br.2).mono (by decide), ?_⟩
    rw [mul_divInt]
    exact RetQ.new ret
abbrev sPlusL : Stmt := topS 21
theorem scPlusL : FnScope ["_law_one", "_law_other"] ["_law_one", "_law_other"] (defScope sPlusL) := ⟨rfl, rfl, rfl, by decide +kernel, rfl, by decide +kernel, by decide +kernel⟩
theorem ok_PlusL {f fC : Addr} {fd fdC : FuncData} {k : Nat} (F : Fun K "_law_plus" "_law_plus" sPlusL f fd) (C : FnOk P w K mg base CX0 k fC fdC ["_law_above", "_law_beneath"] spPart) (bC : Binds K fdC ["_law_above", "_law_beneath"] []) (gC : mg "_law_low" = some (.ref fC)) (kC : PySem.W.keepIn K (.ref fC) = true) :
    FnOk P w K mg base CX0 (k + 1) f fd ["_law_one", "_law_other"] (sp2 K (fun q r => q + r) (fun _ _ => True)) := by
  refine F.ok scPlusL (fun vs H Q E h => ?_) (fun cdv A outer s H vs Q E hr h => ?_)
  · obtain ⟨u, v, q, r, rfl, _⟩ := h
    rfl
  · obtain ⟨u, v, q, r, rfl, hq, hr', bq, br, pre, ret⟩ := h
    obtain ⟨x, rfl, hq⟩ := hq
    obtain ⟨y, rfl, hr'⟩ := hr'
    refine ⟨_, pss_one (ps_ret (pe_call C hr (by rfl) gC kC bC .nil pass0 (pa_cons (pe_op op_add (pe_op op_mulW (pe_ix ix_tup (pv 0) pe_int (fun _ _ => rfl)) (pe_ix ix_tup (pv 1) pe_int (fun _ _ => rfl))) (pe_op op_mulW (pe_ix ix_tup (pv 1) pe_int (fun _ _ => rfl)) (pe_ix ix_tup (pv 0) pe_int (fun _ _ => rfl)))) (pa_cons (pe_op op_mulW (pe_ix ix_tup (pv 0) pe_int (fun _ _ => rfl)) (pe_ix ix_tup (pv 1) pe_int (fun _ _ => rfl))) pa_nil)))), ?_⟩
    refine ⟨_, rfl, _, _, _, _, rfl, rfl, hq, atI_nat (j := 0) rfl, _, rfl, _, _, _, _, rfl, rfl, hr', atI_nat (j := 1) rfl, _, _, rfl, rfl, (bq.1.mulW br.2 (by decide)), _, rfl, _, _, _, _, rfl, rfl, hr', atI_nat (j := 0) rfl, _, rfl, _, _, _, _, rfl, rfl, hq, atI_nat (j := 1) rfl, _, _, rfl, rfl, (br.1.mulW bq.2 (by decide)), _, _, rfl, rfl, _, rfl, _, _, _, _, rfl, rfl, hq, atI_nat (j := 1) rfl, _, rfl, _, _, _, _, rfl, rfl, hr', atI_nat (j := 1) rfl, _, _, rfl, rfl, (bq.2.mulW br.2 (by decide)), _, _, rfl, den_mul_ne q r, (bq.2.mul br.2).mono (by decide), ?_⟩
    rw [add_divInt]
    exact RetQ.new ret
abbrev sMinusL : Stmt := topS 22
theorem scMinusL : FnScope ["_law_one", "_law_other"] ["_law_one", "_law_other"] (defScope sMinusL) := ⟨rfl, rfl, rfl, by decide +kernel, rfl, by decide +kernel, by decide +kernel⟩
theorem ok_MinusL {f fC : Addr} {fd fdC : FuncData} {k : Nat} (F : Fun K "_law_minus" "_law_minus" sMinusL f fd) (C : FnOk P w K mg base CX0 k fC fdC ["_law_above", "_law_beneath"] spPart) (bC : Binds K fdC ["_law_above", "_law_beneath"] []) (gC : mg "_law_low" = some (.ref fC)) (kC : PySem.W.keepIn K (.ref fC) = true) :
    FnOk P w K mg base CX0 (k + 1) f fd ["_law_one", "_law_other"] (sp2 K (fun q r => q - r) (fun _ _ => True)) := by
  refine F.ok scMinusL (fun vs H Q E h => ?_) (fun cdv A outer s H vs Q E hr h => ?_)
  · obtain ⟨u, v, q, r, rfl, _⟩ := h
    rfl
  · obtain ⟨u, v, q, r, rfl, hq, hr', bq, br, pre, ret⟩ := h
    obtain ⟨x, rfl, hq⟩ := hq
    obtain ⟨y, rfl, hr'⟩ := hr'
    refine ⟨_, pss_one (ps_ret (pe_call C hr (by rfl) gC kC bC .nil pass0 (pa_cons (pe_op op_sub (pe_op op_mulW (pe_ix ix_tup (pv 0) pe_int (fun _ _ => rfl)) (pe_ix ix_tup (pv 1) pe_int (fun _ _ => rfl))) (pe_op op_mulW (pe_ix ix_tup (pv 1) pe_int (fun _ _ => rfl)) (pe_ix ix_tup (pv 0) pe_int (fun _ _ => rfl)))) (pa_cons (pe_op op_mulW (pe_ix ix_tup (pv 0) pe_int (fun _ _ => rfl)) (pe_ix ix_tup (pv 1) pe_int (fun _ _ => rfl))) pa_nil)))), ?_⟩
    refine ⟨_, rfl, _, _, _, _, rfl, rfl, hq, atI_nat (j := 0) rfl, _, rfl, _, _, _, _, rfl, rfl, hr', atI_nat (j := 1) rfl, _, _, rfl, rfl, (bq.1.mulW br.2 (by decide)), _, rfl, _, _, _, _, rfl, rfl, hr', atI_nat (j := 0) rfl, _, rfl, _, _, _, _, rfl, rfl, hq, atI_nat (j := 1) rfl, _, _, rfl, rfl, (br.1.mulW bq.2 (by decide)), _, _, rfl, rfl, _, rfl, _, _, _, _, rfl, rfl, hq, atI_nat (j := 1) rfl, _, rfl, _, _, _, _, rfl, rfl, hr', atI_nat (j := 1) rfl, _, _, rfl, rfl, (bq.2.mulW br.2 (by decide)), _, _, rfl, den_mul_ne q r, (bq.2.mul br.2).mono (by decide), ?_⟩
    rw [sub_divInt]
    exact RetQ.new ret
abbrev sByL : Stmt := topS 23
theorem scByL : FnScope ["_law_one", "_law_other"] ["_law_one", "_law_other"] (defScope sByL) := ⟨rfl, rfl, rfl, by decide +kernel, rfl, by decide +kernel, by decide +kernel⟩
theorem ok_ByL {f fC : Addr} {fd fdC : FuncData} {k : Nat} (F : Fun K "_law_by" "_law_by" sByL f fd) (C : FnOk P w K mg base CX0 k fC fdC ["_law_above", "_law_beneath"] spPart) (bC : Binds K fdC ["_law_above", "_law_beneath"] []) (gC : mg "_law_low" = some (.ref fC)) (kC : PySem.W.keepIn K (.ref fC) = true) :
    FnOk P w K mg base CX0 (k + 1) f fd ["_law_one", "_law_other"] (sp2 K (fun q r => q * r) (fun _ _ => True)) := by
  refine F.ok scByL (fun vs H Q E h => ?_) (fun cdv A outer s H vs Q E hr h => ?_)
  · obtain ⟨u, v, q, r, rfl, _⟩ := h
    rfl
  · obtain ⟨u, v, q, r, rfl, hq, hr', bq, br, pre, ret⟩ := h
    obtain ⟨x, rfl, hq⟩ := hq
    obtain ⟨y, rfl, hr'⟩ := hr'
    refine ⟨_, pss_one (ps_ret (pe_call C hr (by rfl) gC kC bC .nil pass0 (pa_cons (pe_op op_mulW (pe_ix ix_tup (pv 0) pe_int (fun _ _ => rfl)) (pe_ix ix_tup (pv 1) pe_int (fun _ _ => rfl))) (pa_cons (pe_op op_mulW (pe_ix ix_tup (pv 0) pe_int (fun _ _ => rfl)) (pe_ix ix_tup (pv 1) pe_int (fun _ _ => rfl))) pa_nil)))), ?_⟩
    refine ⟨_, rfl, _, _, _, _, rfl, rfl, hq, atI_nat (j := 0) rfl, _, rfl, _, _, _, _, rfl, rfl, hr', atI_nat (j := 0) rfl, _, _, rfl, rfl, (bq.1.mulW br.1 (by decide)), _, rfl, _, _, _, _, rfl, rfl, hq, atI_nat (j := 1) rfl, _, rfl, _, _, _, _, rfl, rfl, hr', atI_nat (j := 1) rfl, _, _, rfl, rfl, (bq.2.mulW br.2 (by decide)), _, _, rfl, den_mul_ne q r, (bq.2.mul br.2).mono (by decide), ?_⟩
    rw [mul_divInt]
    exact RetQ.new ret
abbrev sPerL : Stmt := topS 24
theorem scPerL : FnScope ["_law_one", "_law_other"] ["_law_one", "_law_other"] (defScope sPerL) := ⟨rfl, rfl, rfl, by decide +kernel, rfl, by decide +kernel, by decide +kernel⟩
theorem ok_PerL {f fC : Addr} {fd fdC : FuncData} {k : Nat} (F : Fun K "_law_per" "_law_per" sPerL f fd) (C : FnOk P w K mg base CX0 k fC fdC ["_law_above", "_law_beneath"] spPart) (bC : Binds K fdC ["_law_above", "_law_beneath"] []) (gC : mg "_law_low" = some (.ref fC)) (kC : PySem.W.keepIn K (.ref fC) = true) :
    FnOk P w K mg base CX0 (k + 1) f fd ["_law_one", "_law_other"] (sp2 K (fun q r => q / r) (fun _ r => r ≠ 0)) := by
  refine F.ok scPerL (fun vs H Q E h => ?_) (fun cdv A outer s H vs Q E hr h => ?_)
  · obtain ⟨u, v, q, r, rfl, _⟩ := h
    rfl
  · obtain ⟨u, v, q, r, rfl, hq, hr', bq, br, pre, ret⟩ := h
    obtain ⟨x, rfl, hq⟩ := hq
    obtain ⟨y, rfl, hr'⟩ := hr'
    refine ⟨_, pss_one (ps_ret (pe_call C hr (by rfl) gC kC bC .nil pass0 (pa_cons (pe_op op_mulW (pe_ix ix_tup (pv 0) pe_int (fun _ _ => rfl)) (pe_ix ix_tup (pv 1) pe_int (fun _ _ => rfl))) (pa_cons (pe_op op_mulW (pe_ix ix_tup (pv 0) pe_int (fun _ _ => rfl)) (pe_ix ix_tup (pv 1) pe_int (fun _ _ => rfl))) pa_nil)))), ?_⟩
    refine ⟨_, rfl, _, _, _, _, rfl, rfl, hq, atI_nat (j := 0) rfl, _, rfl, _, _, _, _, rfl, rfl, hr', atI_nat (j := 1) rfl, _, _, rfl, rfl, (bq.1.mulW br.2 (by decide)), _, rfl, _, _, _, _, rfl, rfl, hq, atI_nat (j := 1) rfl, _, rfl, _, _, _, _, rfl, rfl, hr', atI_nat (j := 0) rfl, _, _, rfl, rfl, (bq.2.mulW br.1 (by decide)), _, _, rfl, Int.mul_ne_zero (den_ne q) (num_ne pre), (bq.2.mul br.1).mono (by decide), ?_⟩
    rw [div_divInt]
    exact RetQ.new ret
end
end Gap
namespace Gap
open PySem PySem.Spec PyProof.Rows L2
section
variable {P : Program} {w : World} {K : PySem.W.Frag} {mg : Str → Option Value} {base : Heap}
/-! ### places and discs -/
def IsPl (K : PySem.W.Frag) (H : Hp) (v : V) (p q : Rat) : Prop := ∃ (a : Addr) (x y : V), v = .ref a ∧ SqT K H a [x, y] ∧ IsQ K H x p ∧ IsQ K H y q
structure Dq where
  back : Rat
  bend : Rat
  x : Rat
  y : Rat
def IsD (K : PySem.W.Frag) (H : Hp) (v : V) (D : Dq) : Prop := ∃ (a : Addr) (v0 v1 v2 v3 : V), v = .ref a ∧ SqT K H a [v0, v1, v2, v3] ∧ IsQ K H v0 D.back ∧ IsQ K H v1 D.bend ∧ IsQ K H v2 D.x ∧ IsQ K H v3 D.y
structure Dq.Ok (D : Dq) (n : Nat) : Prop where
  ne : D.bend ≠ 0
  one : D.x * D.x + D.y * D.y - D.bend * D.back = 1
  b0 : Bq n D.back
  b1 : Bq n D.bend
  b2 : Bq n D.x
  b3 : Bq n D.y
theorem Dq.Ok.mono {D : Dq} {m n : Nat} (h : D.Ok m) (l : m ≤ n) : D.Ok n := ⟨h.ne, h.one, h.b0.mono l, h.b1.mono l, h.b2.mono l, h.b3.mono l⟩
theorem IsPl.same {H H' : Hp} {v : V} {p q : Rat} (h : IsPl K H v p q) (e : Same H H') : IsPl K H' v p q := by
  obtain ⟨a, x, y, rfl, h1, h2, h3⟩ := h
  exact ⟨a, x, y, rfl, Same.seqT e h1, h2.same e, h3.same e⟩
theorem IsD.same {H H' : Hp} {v : V} {D : Dq} (h : IsD K H v D) (e : Same H H') : IsD K H' v D := by
  obtain ⟨a, v0, v1, v2, v3, rfl, h, h0, h1, h2, h3⟩ := h
  exact ⟨a, v0, v1, v2, v3, rfl, Same.seqT e h, h0.same e, h1.same e, h2.same e, h3.same e⟩
theorem Bag.isPl {H H' : Hp} {b bl : Addr} (hB : Bag H b bl) (e : SameB b H H') {v : V} {p q : Rat} (h : IsPl K H v p q) : IsPl K H' v p q := by
  obtain ⟨a, x, y, rfl, h1, h2, h3⟩ := h
  exact ⟨a, x, y, rfl, hB.tupT e h1, hB.isQ e h2, hB.isQ e h3⟩
theorem Bag.isD {H H' : Hp} {b bl : Addr} (hB : Bag H b bl) (e : SameB b H H') {v : V} {D : Dq} (h : IsD K H v D) : IsD K H' v D := by
  obtain ⟨a, v0, v1, v2, v3, rfl, h, h0, h1, h2, h3⟩ := h
  exact ⟨a, v0, v1, v2, v3, rfl, hB.tupT e h, hB.isQ e h0, hB.isQ e h1, hB.isQ e h2, hB.isQ e h3⟩
theorem isPl_at {H : Hp} {a : Addr} {x y : V} {p q : Rat} (h : H a = some (.tup [x, y])) (hx : IsQ K H x p) (hy : IsQ K H y q) : IsPl K H (.ref a) p q := ⟨a, x, y, rfl, .inl (.inl h), hx, hy⟩
theorem isD_at {H : Hp} {a : Addr} {v0 v1 v2 v3 : V} {D : Dq} (h : H a = some (.tup [v0, v1, v2, v3])) (h0 : IsQ K H v0 D.back) (h1 : IsQ K H v1 D.bend) (h2 : IsQ K H v2 D.x) (h3 : IsQ K H v3 D.y) : IsD K H (.ref a) D := ⟨a, v0, v1, v2, v3, rfl, .inl (.inl h), h0, h1, h2, h3⟩
theorem Eqv.isPl {H : Hp} {d : Nat} {u v : V} {p q : Rat} (hu : IsPl K H u p q) (hv : IsPl K H v p q) : Eqv K H (d + 2) u v := by
  obtain ⟨a, x, y, rfl, h1, h2, h3⟩ := hu
  obtain ⟨a', x', y', rfl, g1, g2, g3⟩ := hv
  exact Eqv.tups h1 g1 (.cons (Eqv.isQ h2 g2) (.cons (Eqv.isQ h3 g3) .nil)) (by show 2 ≤ 1000; decide)
theorem Eqv.isD {H : Hp} {d : Nat} {u v : V} {D : Dq} (hu : IsD K H u D) (hv : IsD K H v D) : Eqv K H (d + 2) u v := by
  obtain ⟨a, v0, v1, v2, v3, rfl, h, h0, h1, h2, h3⟩ := hu
  obtain ⟨a', w0, w1, w2, w3, rfl, g, g0, g1, g2, g3⟩ := hv
  exact Eqv.tups h g (.cons (Eqv.isQ h0 g0) (.cons (Eqv.isQ h1 g1) (.cons (Eqv.isQ h2 g2) (.cons (Eqv.isQ h3 g3) .nil)))) (by show 4 ≤ 1000; decide)
/-! ### a drawn place -/
abbrev sSpot : Stmt := topS 26
theorem scSpot : FnScope ["_law_bag_here", "_law_most", "_law_reach", "_law_found", "_law_k", "_law_beneath"] ["_law_bag_here", "_law_most", "_law_reach"] (defScope sSpot) := ⟨rfl, rfl, rfl, by decide +kernel, rfl, by decide +kernel, by decide +kernel⟩
def spSpot (K : PySem.W.Frag) : Sp := fun vs H Q _ => ∃ (b bl : Addr) (m r : Int), vs = [.ref b, .int m, .int r] ∧ Bag H b bl ∧ 1 ≤ m ∧ m ≤ 10 ∧ 1 ≤ r ∧ r ≤ 10 ∧ ∀ v p q H', SameB b H H' → Bag H' b bl → IsPl K H' v p q → Bq 9 p → Bq 9 q → Q v H'
theorem log_small2 {m : Int} (h0 : 0 < m) (h : m ≤ 1000) : m.natAbs.log2 < 9000 := by
  refine Nat.lt_of_lt_of_le (PySem.Flt.log2_lt_of (show 0 < 20 by decide) ?_) (by decide)
  have : (2 : Nat) ^ 20 = 1048576 := by decide
  omega
theorem ok_spot {f fp fl : Addr} {fd fdp fdl : FuncData} {k : Nat} (F : Fun K "_law_spot" "_law_spot" sSpot f fd) (PL : FnOk P w K mg base CX0 k fp fdp ["_law_bag_here", "_law_many"] spPull) (bp : Binds K fdp ["_law_bag_here", "_law_many"] []) (gp : mg "_law_pull" = some (.ref fp)) (kp : PySem.W.keepIn K (.ref fp) = true)
    (LW : FnOk P w K mg base CX0 k fl fdl ["_law_above", "_law_beneath"] spPart) (bl : Binds K fdl ["_law_above", "_law_beneath"] []) (gl : mg "_law_low" = some (.ref fl)) (kl : PySem.W.keepIn K (.ref fl) = true) (mr : mg "range" = none) :
    FnOk P w K mg base CX0 (k + 1) f fd ["_law_bag_here", "_law_most", "_law_reach"] (spSpot K) := by
  refine F.ok scSpot (fun vs H Q E h => ?_) (fun cdv A outer s H vs Q E hr h => ?_)
  · obtain ⟨b, bl, m, r, rfl, _⟩ := h
    rfl
  · obtain ⟨b, bl', m, r, rfl, hB, m1, m2, r1, r2, ret⟩ := h
    refine ⟨_, pss_cons (ps_set (i := 3) scSpot.nd rfl (.inl rfl) (pe_lst pa_nil))
      (pss_cons (ps_for PassesOwn.never rfl (pi_range1 rfl mr (pa_cons pe_int pa_nil)) (pg_name (i := 4) scSpot.nd rfl (.inl rfl))
        (pss_cons (ps_set (i := 5) scSpot.nd rfl (.inl rfl) (pe_op op_add pe_int (pe_call PL hr (by rfl) gp kp bp .nil pass0 (pa_cons (pv 0) (pa_cons (pv 1) pa_nil)))))
        (pss_one (ps_expr (pe_bm PySem.F.plainAttrs_list PySem.F.slot_list_append PySem.F.type_list_append mt_append (pv 3) (pa_cons (pe_call LW hr (by rfl) gl kl bl .nil pass0
          (pa_cons (pe_op op_sub (pe_call PL hr (by rfl) gp kp bp .nil pass0 (pa_cons (pv 0) (pa_cons (pe_op op_add (pe_op op_mul (pe_op op_mul pe_int (pv 2)) (pv 5)) pe_int) pa_nil))) (pe_op op_mul (pv 2) (pv 5))) (pa_cons (pv 5) pa_nil))) pa_nil))))))
      (pss_one (ps_ret (pe_tup (pa_cons (pe_ix ix_list (pv 3) pe_int (fun _ _ => rfl)) (pa_cons (pe_ix ix_list (pv 3) pe_int (fun _ _ => rfl)) pa_nil)))))), ?_⟩
    refine ⟨Nat.zero_le _, fun l nl => ?_⟩
    have lb : l ≠ b := hB.ne nl
    have lbl : l ≠ bl' := hB.nel nl
    refine ⟨2, rfl, by decide, by decide, for_range (lo := 0) (n := 2) (fun i σ H' => ∃ (x4 x5 : Option V) (us : List V) (qs : List Rat), σ = [some (.ref b), some (.int m), some (.int r), some (.ref l), x4, x5] ∧ SameB b H H' ∧ Bag H' b bl' ∧ H' l = some (.lst us) ∧ Paired (fun v q => IsQ K H' v q ∧ Bq 9 q) us qs ∧ us.length = i)
      ⟨none, none, [], [], rfl, SameB.of (same_upd nl), hB.same (same_upd nl), upd_same, .nil, rfl⟩ ?_ ?_⟩
    · rintro i σ H1 hi ⟨x4, x5, us, qs, rfl, s1, B1, hl, hq, hu⟩
      refine ⟨_, rfl, _, rfl, b, bl', m, rfl, by omega, log_small2 (by omega) (by omega), B1, fun u H2 s2 B2 u0 u1 => ⟨_, _, rfl, rfl, ?_⟩⟩
      have e1 : 0 ≤ r * (1 + u) := Int.mul_nonneg (by omega) (by omega)
      have e2 : r * (1 + u) ≤ 100 := by
        have a1 : r * (1 + u) ≤ r * 10 := Int.mul_le_mul_of_nonneg_left (by omega) (by omega)
        omega
      have e3 : 2 * r * (1 + u) = 2 * (r * (1 + u)) := Int.mul_assoc _ _ _
      have hl2 := s2 _ _ lb hl
      refine ⟨_, rfl, .inl ⟨rfl, _, .inl (.inl hl2)⟩, _, rfl, _, rfl, _, _, rfl, rfl, .inl ⟨by decide, by decide⟩, _, rfl, _, _, rfl, rfl, .inl ⟨by omega, by omega⟩, _, _, rfl, rfl, b, bl', _, rfl, by omega, log_small2 (by omega) (by omega), B2, fun t H3 s3 B3 t0 t1 => ?_⟩
      refine ⟨_, rfl, _, rfl, _, _, rfl, rfl, .inl ⟨by omega, by omega⟩, _, _, rfl, rfl, _, rfl, _, _, rfl, by omega, (bi_of (n := 9) (by simp; omega) (by simp; omega)).mono (by decide), fun p np => ?_⟩
      have z1 : Bi 9 (t - r * (1 + u)) := bi_of (by simp; omega) (by simp; omega)
      have z2 : Bi 9 (1 + u) := bi_of (by simp; omega) (by simp; omega)
      have bq := Bq.of z1 z2 (show (1 + u : Int) ≠ 0 by omega)
      generalize Rat.divInt (t - r * (1 + u)) (1 + u) = q at bq
      have s4 := same_upd (o := .tup [.int q.num, .int (q.den : Int)]) np
      have hp : (upd H3 p (.tup [.int q.num, .int (q.den : Int)])) p = some (.tup [.int q.num, .int (q.den : Int)]) := upd_same
      have B4 := B3.same s4
      have hl4 := s4 _ _ (s3 _ _ lb hl2)
      generalize upd H3 p (.tup [.int q.num, .int (q.den : Int)]) = H4 at s4 hp B4 hl4
      refine ⟨l, us, _, rfl, rfl, hl4, small1000 (by omega), ?_⟩
      have up : ∀ v q, IsQ K H1 v q → IsQ K (upd H4 l (.lst (us ++ [.ref p]))) v q := fun v q z => (((B2.isQ s3 (B1.isQ s2 z)).same s4).putL hl4)
      refine ⟨_, _, us ++ [.ref p], qs ++ [q], rfl, fun c o n e => ?_, B4.put lb lbl, upd_same, ?_, ?_⟩
      · rw [upd_ne (ne_of_none e nl)]
        exact s4 _ _ (s3 _ _ n (s2 _ _ n (s1 _ _ n e)))
      · have snoc : ∀ {us : List V} {qs : List Rat}, Paired (fun v q => IsQ K H1 v q ∧ Bq 9 q) us qs → Paired (fun v q => IsQ K (upd H4 l (.lst (us ++ [.ref p]))) v q ∧ Bq 9 q) us qs → True := fun _ _ => trivial
        have conv : ∀ {vs : List V} {rs : List Rat}, Paired (fun v q => IsQ K H1 v q ∧ Bq 9 q) vs rs → Paired (fun v q => IsQ K (upd H4 l (.lst (us ++ [.ref p]))) v q ∧ Bq 9 q) (vs ++ [.ref p]) (rs ++ [q]) := fun {vs rs} h => by
          induction h with
          | nil => exact .cons ⟨(isQ_at hp).putL hl4, bq⟩ .nil
          | cons h _ ih => exact .cons ⟨up _ _ h.1, h.2⟩ ih
        exact conv hq
      · rw [List.length_append, hu]
        rfl
    · rintro σ H1 ⟨x4, x5, us, qs, rfl, s1, B1, hl, hq, hu⟩
      match us, qs, hq, hu with
      | [v1, v2], [q1, q2], .cons h1 (.cons h2 .nil), _ =>
        refine ⟨_, rfl, l, _, 0, _, rfl, rfl, .inl (.inl hl), atI_nat (j := 0) rfl, _, rfl, l, _, 1, _, rfl, rfl, .inl (.inl hl), atI_nat (j := 1) rfl, (by show 2 ≤ sizeLine; decide), fun t nt => ?_⟩
        have st := same_upd (o := .tup [v1, v2]) nt
        exact ret _ q1 q2 _ (s1.trans (SameB.of st)) (B1.same st) (isPl_at upd_same (h1.1.same st) (h2.1.same st)) h1.2 h2.2
end
end Gap
namespace Gap
open PySem PySem.Spec PyProof.Rows L2
section
variable {P : Program} {w : World} {K : PySem.W.Frag} {mg : Str → Option Value} {base : Heap}
/-- the law's own reckoning -/
structure Own (P : Program) (w : World) (K : PySem.W.Frag) (mg : Str → Option Value) (base : Heap) (k : Nat) : Prop where
  plus : Cal P w K mg base k "_law_plus" ["_law_one", "_law_other"] (sp2 K (fun q r => q + r) (fun _ _ => True))
  minus : Cal P w K mg base k "_law_minus" ["_law_one", "_law_other"] (sp2 K (fun q r => q - r) (fun _ _ => True))
  by_ : Cal P w K mg base k "_law_by" ["_law_one", "_law_other"] (sp2 K (fun q r => q * r) (fun _ _ => True))
  per : Cal P w K mg base k "_law_per" ["_law_one", "_law_other"] (sp2 K (fun q r => q / r) (fun _ r => r ≠ 0))
def RetDq (K : PySem.W.Frag) (H : Hp) (Q : VK) (D : Dq) : Prop := ∀ v H', Same H H' → IsD K H' v D → Q v H'
def RetPl (K : PySem.W.Frag) (H : Hp) (Q : VK) (p q : Rat) : Prop := ∀ v H', Same H H' → IsPl K H' v p q → Q v H'
/-! ### made -/
abbrev sMade : Stmt := topS 27
theorem scMade : FnScope ["_law_center", "_law_bend", "_law_x", "_law_y", "_law_both"] ["_law_center", "_law_bend"] (defScope sMade) := ⟨rfl, rfl, rfl, by decide +kernel, rfl, by decide +kernel, by decide +kernel⟩
def madeOf (p q r : Rat) : Dq := ⟨((p * r) * (p * r) + (q * r) * (q * r) - 1) / r, r, p * r, q * r⟩
theorem madeOf_ok {p q r : Rat} {m n : Nat} (hr : r ≠ 0) (bp : Bq m p) (bq : Bq m q) (br : Bq n r) : (madeOf p q r).Ok (4 * (m + n) + n + 4) := by
  refine ⟨hr, ?_, ?_, br.mono (by omega), (bp.mul br).mono (by omega), (bq.mul br).mono (by omega)⟩
  · show (p * r) * (p * r) + (q * r) * (q * r) - r * (((p * r) * (p * r) + (q * r) * (q * r) - 1) / r) = 1
    grind
  · exact (((((bp.mul br).mul (bp.mul br)).add ((bq.mul br).mul (bq.mul br))).sub bq1).div br hr).mono (by omega)
def spMade (K : PySem.W.Frag) : Sp := fun vs H Q _ => ∃ (c b : V) (p q r : Rat), vs = [c, b] ∧ IsPl K H c p q ∧ IsQ K H b r ∧ r ≠ 0 ∧ Bq 300 p ∧ Bq 300 q ∧ Bq 300 r ∧ RetDq K H Q (madeOf p q r)
theorem ok_made {f : Addr} {fd : FuncData} {k : Nat} (F : Fun K "_law_made" "_law_made" sMade f fd) (O : Own P w K mg base k) : FnOk P w K mg base CX0 (k + 1) f fd ["_law_center", "_law_bend"] (spMade K) := by
  obtain ⟨f1, fd1, F1, b1, g1, k1⟩ := O.plus.ex
  obtain ⟨f2, fd2, F2, b2, g2, k2⟩ := O.minus.ex
  obtain ⟨f3, fd3, F3, b3, g3, k3⟩ := O.by_.ex
  obtain ⟨f4, fd4, F4, b4, g4, k4⟩ := O.per.ex
  refine F.ok scMade (fun vs H Q E h => ?_) (fun cdv A outer s H vs Q E hr h => ?_)
  · obtain ⟨c, b, p, q, r, rfl, _⟩ := h
    rfl
  · obtain ⟨c, b, p, q, r, rfl, ⟨ca, x, y, rfl, hc, hp, hq⟩, hb, r0, bp, bq, br, ret⟩ := h
    refine ⟨_, pss_cons (ps_par (i := 2) (j := 3) rfl scMade.nd rfl rfl (by decide) rfl rfl (pa_cons (pe_call F3 hr (by rfl) g3 k3 b3 .nil pass0 (pa_cons (pe_ix ix_tup (pv 0) pe_int (fun _ _ => rfl)) (pa_cons (pv 1) pa_nil))) (pa_cons (pe_call F3 hr (by rfl) g3 k3 b3 .nil pass0 (pa_cons (pe_ix ix_tup (pv 0) pe_int (fun _ _ => rfl)) (pa_cons (pv 1) pa_nil))) pa_nil)) (by rfl))
      (pss_cons (ps_set (i := 4) scMade.nd rfl (.inl rfl) (pe_call F2 hr (by rfl) g2 k2 b2 .nil pass0 (pa_cons (pe_call F1 hr (by rfl) g1 k1 b1 .nil pass0 (pa_cons (pe_call F3 hr (by rfl) g3 k3 b3 .nil pass0 (pa_cons (pv 2) (pa_cons (pv 2) pa_nil))) (pa_cons (pe_call F3 hr (by rfl) g3 k3 b3 .nil pass0 (pa_cons (pv 3) (pa_cons (pv 3) pa_nil))) pa_nil))) (pa_cons (pe_tup (pa_cons pe_int (pa_cons pe_int pa_nil))) pa_nil))))
      (pss_one (ps_ret (pe_tup (pa_cons (pe_call F4 hr (by rfl) g4 k4 b4 .nil pass0 (pa_cons (pv 4) (pa_cons (pv 1) pa_nil))) (pa_cons (pv 1) (pa_cons (pv 2) (pa_cons (pv 3) pa_nil)))))))), ?_⟩
    refine ⟨_, rfl, ca, _, 0, _, rfl, rfl, hc, atI_nat (j := 0) rfl, _, rfl, _, _, p, r, rfl, hp, hb, bp.mono (by decide), br.mono (by decide), trivial, fun vx H1 s1 ix => ?_⟩
    refine ⟨_, rfl, ca, _, 1, _, rfl, rfl, Same.seqT s1 hc, atI_nat (j := 1) rfl, _, rfl, _, _, q, r, rfl, hq.same s1, hb.same s1, bq.mono (by decide), br.mono (by decide), trivial, fun vy H2 s2 iy => ⟨_, _, rfl, ?_⟩⟩
    have ix2 : IsQ K H2 vx (p * r) := ix.same s2
    have iy : IsQ K H2 vy (q * r) := iy
    have bx := bp.mul br
    have by' := bq.mul br
    refine ⟨_, rfl, _, rfl, _, _, _, _, rfl, ix2, ix2, bx.mono (by decide), bx.mono (by decide), trivial, fun v1 H3 s3 i1 => ?_⟩
    refine ⟨_, rfl, _, rfl, _, _, _, _, rfl, iy.same s3, iy.same s3, by'.mono (by decide), by'.mono (by decide), trivial, fun v2 H4 s4 i2 => ?_⟩
    have bxx := bx.mul bx
    have byy := by'.mul by'
    refine ⟨_, _, _, _, rfl, i1.same s4, i2, bxx.mono (by decide), byy.mono (by decide), trivial, fun v3 H5 s5 i3 => ⟨(by show 2 ≤ sizeLine; decide), fun t nt => ?_⟩⟩
    have s6 := same_upd (o := .tup [.int 1, .int 1]) nt
    have bs := bxx.add byy
    refine ⟨_, _, _, _, rfl, i3.same s6, isQ_at (q := 1) upd_same, bs.mono (by decide), bq1.mono (by decide), trivial, fun v4 H7 s7 i4 => ?_⟩
    have s27 := (((s3.trans s4).trans s5).trans s6).trans s7
    have hb7 := (hb.same s1).same (s2.trans s27)
    refine ⟨_, rfl, _, rfl, _, _, _, _, rfl, i4, hb7, (bs.sub bq1).mono (by decide), br.mono (by decide), r0, fun v5 H8 s8 i5 => ⟨_, rfl, _, rfl, _, rfl, (by show 4 ≤ sizeLine; decide), fun d nd => ?_⟩⟩
    have s9 := same_upd (o := .tup [v5, b, vx, vy]) nd
    exact ret _ _ (((s1.trans s2).trans s27).trans (s8.trans s9)) (isD_at (D := madeOf p q r) upd_same (i5.same s9) ((hb7.same s8).same s9) (((ix2.same s27).same s8).same s9) (((iy.same s27).same s8).same s9))
/-! ### a drawn disc -/
abbrev sFree : Stmt := topS 31
theorem scFree : FnScope ["_law_bag_here", "_law_bend"] ["_law_bag_here"] (defScope sFree) := ⟨rfl, rfl, rfl, by decide +kernel, rfl, by decide +kernel, by decide +kernel⟩
def spFree (K : PySem.W.Frag) : Sp := fun vs H Q _ => ∃ (b bl : Addr), vs = [.ref b] ∧ Bag H b bl ∧ ∀ v D H', SameB b H H' → Bag H' b bl → IsD K H' v D → D.Ok 70 → Q v H'
theorem ok_free {f fp fl fs fm : Addr} {fd fdp fdl fds fdm : FuncData} {k : Nat} (F : Fun K "_law_free_disc" "_law_free_disc" sFree f fd) (PL : FnOk P w K mg base CX0 k fp fdp ["_law_bag_here", "_law_many"] spPull) (bp : Binds K fdp ["_law_bag_here", "_law_many"] []) (gp : mg "_law_pull" = some (.ref fp)) (kp : PySem.W.keepIn K (.ref fp) = true)
    (LW : FnOk P w K mg base CX0 k fl fdl ["_law_above", "_law_beneath"] spPart) (bl : Binds K fdl ["_law_above", "_law_beneath"] []) (gl : mg "_law_low" = some (.ref fl)) (kl : PySem.W.keepIn K (.ref fl) = true) (SP : FnOk P w K mg base CX0 k fs fds ["_law_bag_here", "_law_most", "_law_reach"] (spSpot K)) (bs : Binds K fds ["_law_bag_here", "_law_most", "_law_reach"] []) (gs : mg "_law_spot" = some (.ref fs)) (ks : PySem.W.keepIn K (.ref fs) = true)
    (MD : FnOk P w K mg base CX0 k fm fdm ["_law_center", "_law_bend"] (spMade K)) (bm : Binds K fdm ["_law_center", "_law_bend"] []) (gm : mg "_law_made" = some (.ref fm)) (km : PySem.W.keepIn K (.ref fm) = true) : FnOk P w K mg base CX0 (k + 1) f fd ["_law_bag_here"] (spFree K) := by
  refine F.ok scFree (fun vs H Q E h => ?_) (fun cdv A outer s H vs Q E hr h => ?_)
  · obtain ⟨b, bl, rfl, _⟩ := h
    rfl
  · obtain ⟨b, bl', rfl, hB, ret⟩ := h
    refine ⟨_, pss_cons (ps_set (i := 1) scFree.nd rfl (.inl rfl) (pe_call LW hr (by rfl) gl kl bl .nil pass0 (pa_cons (pe_op op_sub (pe_call PL hr (by rfl) gp kp bp .nil pass0 (pa_cons (pv 0) (pa_cons pe_int pa_nil))) pe_int)
        (pa_cons (pe_op op_add pe_int (pe_call PL hr (by rfl) gp kp bp .nil pass0 (pa_cons (pv 0) (pa_cons pe_int pa_nil)))) pa_nil))))
      (pss_one (ps_ret (pe_call MD hr (by rfl) gm km bm .nil pass0 (pa_cons (pe_call SP hr (by rfl) gs ks bs .nil pass0 (pa_cons (pv 0) (pa_cons pe_int (pa_cons pe_int pa_nil))))
        (pa_cons (pe_ifExp (pt_cmpR op_eq (pe_ix ix_tup (pv 1) pe_int (fun _ _ => rfl)) pe_int (nomark _)) (pe_tup (pa_cons pe_int (pa_cons pe_int pa_nil))) (pv 1)) pa_nil))))), ?_⟩
    refine ⟨_, rfl, b, bl', 25, rfl, by decide, by decide +kernel, hB, fun r1 H1 s1 B1 l1 u1 => ⟨_, _, rfl, rfl, ?_⟩⟩
    refine ⟨_, rfl, b, bl', 6, rfl, by decide, by decide +kernel, B1, fun r2 H2 s2 B2 l2 u2 => ⟨_, _, rfl, rfl, ?_⟩⟩
    have n1 : (1 + r2 : Int) ≠ 0 := by omega
    have z1 : Bi 4 (r1 - 12) := bi_of (by simp; omega) (by simp; omega)
    have z2 : Bi 4 (1 + r2) := bi_of (by simp; omega) (by simp; omega)
    refine ⟨_, _, rfl, n1, z2.mono (by decide), fun p np => ?_⟩
    have bq := Bq.of z1 z2 n1
    generalize Rat.divInt (r1 - 12) (1 + r2) = r at bq
    have s3 := same_upd (o := .tup [.int r.num, .int (r.den : Int)]) np
    have B3 := B2.same s3
    have hp : (upd H2 p (.tup [.int r.num, .int (r.den : Int)])) p = some (.tup [.int r.num, .int (r.den : Int)]) := upd_same
    generalize upd H2 p (.tup [.int r.num, .int (r.den : Int)]) = H3 at s3 B3 hp
    have s03 := (s1.trans s2).trans (SameB.of (b := b) s3)
    refine ⟨_, rfl, b, bl', 6, 3, rfl, B3, by decide, by decide, by decide, by decide, fun v px py H4 s4 B4 ip bx by' => ?_⟩
    have hp4 : SqT K H4 p [.int r.num, .int (r.den : Int)] := B3.tupT s4 (.inl (.inl hp))
    refine ⟨_, rfl, p, _, 0, _, rfl, rfl, hp4, atI_nat (j := 0) rfl, rfl, _, rfl, ite2 (fun e => ?_) (fun e => ?_)⟩
    · refine ⟨(by show 2 ≤ sizeLine; decide), fun t nt => ?_⟩
      have s5 := same_upd (o := .tup [.int 1, .int 1]) nt
      refine ⟨_, _, px, py, 1, rfl, ip.same s5, isQ_at (q := 1) upd_same, by decide, bx.mono (by decide), by'.mono (by decide), bq1.mono (by decide), fun d H6 s6 id => ?_⟩
      exact ret _ _ _ ((s03.trans s4).trans (SameB.of (s5.trans s6))) (B4.same (s5.trans s6)) id (by
        have z := madeOf_ok (by decide) bx by' bq1
        exact ⟨z.ne, z.one, z.b0.mono (by decide), z.b1.mono (by decide), z.b2.mono (by decide), z.b3.mono (by decide)⟩)
    · have r0 : r ≠ 0 := fun z => by
        subst z
        simp at e
      refine ⟨_, rfl, _, _, px, py, r, rfl, ip, ⟨p, rfl, hp4⟩, r0, bx.mono (by decide), by'.mono (by decide), bq.mono (by decide), fun d H6 s6 id => ?_⟩
      exact ret _ _ _ ((s03.trans s4).trans (SameB.of s6)) (B4.same s6) id (by
        have z := madeOf_ok r0 bx by' bq
        exact ⟨z.ne, z.one, z.b0.mono (by decide), z.b1.mono (by decide), z.b2.mono (by decide), z.b3.mono (by decide)⟩)
end
end Gap
namespace Gap
open PySem PySem.Spec PyProof.Rows L2
section
variable {P : Program} {w : World} {K : PySem.W.Frag} {mg : Str → Option Value} {base : Heap}
/-! ### one of a list -/
abbrev sOf : Stmt := topS 18
theorem scOf : FnScope ["_law_bag_here", "_law_things"] ["_law_bag_here", "_law_things"] (defScope sOf) := ⟨rfl, rfl, rfl, by decide +kernel, rfl, by decide +kernel, by decide +kernel⟩
def spOf (K : PySem.W.Frag) : Sp := fun vs H Q _ => ∃ (b bl t : Addr) (xs : List V), vs = [.ref b, .ref t] ∧ Bag H b bl ∧ H t = some (.lst xs) ∧ t ≠ b ∧ 0 < xs.length ∧ xs.length ≤ 1000 ∧ ∀ (i : Nat) (x : V) (H' : Hp), SameB b H H' → Bag H' b bl → xs[i]? = some x → Q x H'
theorem log_small {n : Nat} (h : n ≤ 1000) : ((n : Int)).natAbs.log2 < 9000 := by
  rw [Int.natAbs_natCast]
  refine Nat.lt_of_lt_of_le (PySem.Flt.log2_lt_of (show 0 < 1000 by decide) ?_) (by decide)
  exact Nat.lt_of_le_of_lt h (by decide)
theorem ok_of {f fp : Addr} {fd fdp : FuncData} {k : Nat} (F : Fun K "_law_of" "_law_of" sOf f fd) (PL : FnOk P w K mg base CX0 k fp fdp ["_law_bag_here", "_law_many"] spPull) (bp : Binds K fdp ["_law_bag_here", "_law_many"] []) (gp : mg "_law_pull" = some (.ref fp)) (kp : PySem.W.keepIn K (.ref fp) = true) (ml : mg "len" = none) :
    FnOk P w K mg base CX0 (k + 1) f fd ["_law_bag_here", "_law_things"] (spOf K) := by
  refine F.ok scOf (fun vs H Q E h => ?_) (fun cdv A outer s H vs Q E hr h => ?_)
  · obtain ⟨b, bl, t, xs, rfl, _⟩ := h
    rfl
  · obtain ⟨b, bl, t, xs, rfl, hB, ht, tb, l0, l1, q⟩ := h
    refine ⟨_, pss_one (ps_ret (pe_ix ix_list (pv 1) (pe_call PL hr (by rfl) gp kp bp .nil pass0 (pa_cons (pv 0) (pa_cons (pe_callB call_len_seq (by rfl) ml PySem.boot_len (pa_cons (pv 1) pa_nil)) pa_nil))) (fun _ _ => rfl))), ?_⟩
    refine ⟨_, rfl, _, rfl, _, rfl, t, xs, rfl, .inl (.inl (.inl ht)), b, bl, _, rfl, by omega, log_small l1, hB, fun r H1 s1 B1 r0 r1 => ?_⟩
    have rl : r.toNat < xs.length := by omega
    refine ⟨t, xs, r, xs[r.toNat], rfl, rfl, .inl (.inl (s1 _ _ tb ht)), at_of (j := r.toNat) (by omega) (List.getElem?_eq_getElem rl), ?_⟩
    exact q r.toNat _ H1 s1 B1 (List.getElem?_eq_getElem rl)
end
end Gap
namespace Gap
open PySem PySem.Spec PyProof.Rows L2
section
variable {P : Program} {w : World} {K : PySem.W.Frag} {mg : Str → Option Value} {base : Heap}
/-! ### a turning -/
abbrev sTurn : Stmt := topS 28
theorem scTurn : FnScope ["_law_bag_here", "_law_some"] ["_law_bag_here"] (defScope sTurn) := ⟨rfl, rfl, rfl, by decide +kernel, rfl, by decide +kernel, by decide +kernel⟩
def spTurn (K : PySem.W.Frag) : Sp := fun vs H Q _ => ∃ (b bl : Addr), vs = [.ref b] ∧ Bag H b bl ∧ ∀ v p q H', SameB b H H' → Bag H' b bl → IsPl K H' v p q → p * p + q * q = 1 → Bq 6 p → Bq 6 q → Q v H'
def rat2 (a : Int) (b : Nat) (h : b ≠ 0) (r : a.natAbs.Coprime b) : Rat := ⟨a, b, h, r⟩
theorem ok_turn {f fo : Addr} {fd fdo : FuncData} {k : Nat} (F : Fun K "_law_turn" "_law_turn" sTurn f fd) (OF : FnOk P w K mg base CX0 k fo fdo ["_law_bag_here", "_law_things"] (spOf K)) (bo : Binds K fdo ["_law_bag_here", "_law_things"] []) (go : mg "_law_of" = some (.ref fo)) (ko : PySem.W.keepIn K (.ref fo) = true) : FnOk P w K mg base CX0 (k + 1) f fd ["_law_bag_here"] (spTurn K) := by
  refine F.ok scTurn (fun vs H Q E h => ?_) (fun cdv A outer s H vs Q E hr h => ?_)
  · obtain ⟨b, bl, rfl, _⟩ := h
    rfl
  · obtain ⟨b, bl, rfl, hB, ret⟩ := h
    refine ⟨_, pss_cons (ps_set (i := 1) scTurn.nd rfl (.inl rfl) (pe_lst (pa_cons (pe_tup (pa_cons (pe_tup (pa_cons pe_int (pa_cons pe_int pa_nil))) (pa_cons (pe_tup (pa_cons pe_int (pa_cons pe_int pa_nil))) pa_nil)))
        (pa_cons (pe_tup (pa_cons (pe_tup (pa_cons pe_int (pa_cons pe_int pa_nil))) (pa_cons (pe_tup (pa_cons pe_int (pa_cons pe_int pa_nil))) pa_nil)))
        (pa_cons (pe_tup (pa_cons (pe_tup (pa_cons (pe_un un_neg pe_int) (pa_cons pe_int pa_nil))) (pa_cons (pe_tup (pa_cons pe_int (pa_cons pe_int pa_nil))) pa_nil))) pa_nil)))))
      (pss_one (ps_ret (pe_call OF hr (by rfl) go ko bo .nil pass0 (pa_cons (pv 0) (pa_cons (pe_op op_cat (pv 1) (pe_lst (pa_cons (pe_tup (pa_cons (pe_tup (pa_cons (pe_un un_neg pe_int) (pa_cons pe_int pa_nil))) (pa_cons (pe_tup (pa_cons pe_int (pa_cons pe_int pa_nil))) pa_nil)))
        (pa_cons (pe_tup (pa_cons (pe_tup (pa_cons pe_int (pa_cons pe_int pa_nil))) (pa_cons (pe_tup (pa_cons (pe_un un_neg pe_int) (pa_cons pe_int pa_nil))) pa_nil))) pa_nil)))) pa_nil))))), ?_⟩
    refine ⟨(by show 2 ≤ sizeLine; decide), fun a1 n1 => ⟨(by show 2 ≤ sizeLine; decide), fun a2 n2 => ⟨(by show 2 ≤ sizeLine; decide), fun a3 n3 => ?_⟩⟩⟩
    have s1 := same_upd (o := .tup [.int 3, .int 5]) n1
    have s2 := same_upd (o := .tup [.int 4, .int 5]) n2
    have s3 := same_upd (o := .tup [.ref a1, .ref a2]) n3
    refine ⟨(by show 2 ≤ sizeLine; decide), fun b1 m1 => ⟨(by show 2 ≤ sizeLine; decide), fun b2 m2 => ⟨(by show 2 ≤ sizeLine; decide), fun b3 m3 => ?_⟩⟩⟩
    have t1 := same_upd (o := .tup [.int 0, .int 1]) m1
    have t2 := same_upd (o := .tup [.int 1, .int 1]) m2
    have t3 := same_upd (o := .tup [.ref b1, .ref b2]) m3
    refine ⟨_, rfl, (by show 2 ≤ sizeLine; decide), fun c1 o1 => ⟨(by show 2 ≤ sizeLine; decide), fun c2 o2 => ⟨(by show 2 ≤ sizeLine; decide), fun c3 o3 => ⟨(by show 3 ≤ sizeLine; decide), fun l1 ol => ?_⟩⟩⟩⟩
    have u1 := same_upd (o := .tup [.int (-5), .int 13]) o1
    have u2 := same_upd (o := .tup [.int 12, .int 13]) o2
    have u3 := same_upd (o := .tup [.ref c1, .ref c2]) o3
    have u4 := same_upd (o := .lst [.ref a3, .ref b3, .ref c3]) ol
    have U := ((u1.trans u2).trans u3).trans u4
    have T' := ((t1.trans t2).trans t3).trans U
    have Y1 : IsPl K _ (.ref a3) (rat2 3 5 (by decide) (by decide)) (rat2 4 5 (by decide) (by decide)) := (isPl_at upd_same (isQ_at (s3 _ _ (s2 _ _ upd_same))) (isQ_at (s3 _ _ upd_same))).same T'
    have Y2 : IsPl K _ (.ref b3) (rat2 0 1 (by decide) (by decide)) (rat2 1 1 (by decide) (by decide)) := (isPl_at upd_same (isQ_at (t3 _ _ (t2 _ _ upd_same))) (isQ_at (t3 _ _ upd_same))).same U
    have Y3 : IsPl K _ (.ref c3) (rat2 (-5) 13 (by decide) (by decide)) (rat2 12 13 (by decide) (by decide)) := (isPl_at upd_same (isQ_at (u3 _ _ (u2 _ _ upd_same))) (isQ_at (u3 _ _ upd_same))).same u4
    have hl1 := upd_same (H := upd (upd (upd (upd (upd (upd (upd (upd (upd H a1 (.tup [.int 3, .int 5])) a2 (.tup [.int 4, .int 5])) a3 (.tup [.ref a1, .ref a2])) b1 (.tup [.int 0, .int 1])) b2 (.tup [.int 1, .int 1])) b3 (.tup [.ref b1, .ref b2])) c1 (.tup [.int (-5), .int 13])) c2 (.tup [.int 12, .int 13])) c3 (.tup [.ref c1, .ref c2])) (a := l1) (o := .lst [.ref a3, .ref b3, .ref c3])
    have S0 := ((s1.trans s2).trans s3).trans T'
    generalize upd (upd (upd (upd (upd (upd (upd (upd (upd (upd H a1 (.tup [.int 3, .int 5])) a2 (.tup [.int 4, .int 5])) a3 (.tup [.ref a1, .ref a2])) b1 (.tup [.int 0, .int 1])) b2 (.tup [.int 1, .int 1])) b3 (.tup [.ref b1, .ref b2])) c1 (.tup [.int (-5), .int 13])) c2 (.tup [.int 12, .int 13])) c3 (.tup [.ref c1, .ref c2])) l1 (.lst [.ref a3, .ref b3, .ref c3]) = H1 at Y1 Y2 Y3 hl1 S0
    refine ⟨_, rfl, _, rfl, _, rfl, (by show 2 ≤ sizeLine; decide), fun d1 e1 => ⟨(by show 2 ≤ sizeLine; decide), fun d2 e2 => ⟨(by show 2 ≤ sizeLine; decide), fun d3 e3 => ?_⟩⟩⟩
    have v1 := same_upd (o := .tup [.int (-1), .int 1]) e1
    have v2 := same_upd (o := .tup [.int 0, .int 1]) e2
    have v3 := same_upd (o := .tup [.ref d1, .ref d2]) e3
    refine ⟨(by show 2 ≤ sizeLine; decide), fun g1 h1 => ⟨_, rfl, (by show 2 ≤ sizeLine; decide), fun g2 h2 => ⟨(by show 2 ≤ sizeLine; decide), fun g3 h3 => ⟨(by show 2 ≤ sizeLine; decide), fun l2 h4 => ?_⟩⟩⟩⟩
    have w1 := same_upd (o := .tup [.int 20, .int 29]) h1
    have w2 := same_upd (o := .tup [.int (-21), .int 29]) h2
    have w3 := same_upd (o := .tup [.ref g1, .ref g2]) h3
    have w4 := same_upd (o := .lst [.ref d3, .ref g3]) h4
    have W := ((w1.trans w2).trans w3).trans w4
    have Z := ((v1.trans v2).trans v3).trans W
    refine ⟨l1, l2, _, _, rfl, rfl, Z _ _ hl1, upd_same, (by show 5 ≤ sizeLine; decide), fun t nt => ?_⟩
    have st := same_upd (o := .lst ([.ref a3, .ref b3, .ref c3] ++ [.ref d3, .ref g3])) nt
    have Y4 : IsPl K _ (.ref d3) (rat2 (-1) 1 (by decide) (by decide)) (rat2 0 1 (by decide) (by decide)) := ((isPl_at upd_same (isQ_at (v3 _ _ (v2 _ _ upd_same))) (isQ_at (v3 _ _ upd_same))).same W).same st
    have Y5 : IsPl K _ (.ref g3) (rat2 20 29 (by decide) (by decide)) (rat2 (-21) 29 (by decide) (by decide)) := ((isPl_at upd_same (isQ_at (w3 _ _ (w2 _ _ upd_same))) (isQ_at (w3 _ _ upd_same))).same w4).same st
    have B1 := ((hB.same S0).same Z).same st
    refine ⟨b, bl, t, _, rfl, B1, upd_same, ((hB.same S0).same Z).ne nt, by simp, by simp, fun i x H' s' B' hx => ?_⟩
    have go := (SameB.of (b := b) ((S0.trans Z).trans st)).trans s'
    have fin : ∀ {v : V} {p q : Rat}, IsPl K _ v p q → p * p + q * q = 1 → Bq 6 p → Bq 6 q → Q v H' := fun {v p q} h e bp bq => ret v p q H' go B' (B1.isPl s' h) e bp bq
    match i, hx with
    | 0, hx => cases hx; exact fin ((Y1.same Z).same st) (by decide +kernel) ⟨by unfold Bi; decide, by unfold Bi; decide⟩ ⟨by unfold Bi; decide, by unfold Bi; decide⟩
    | 1, hx => cases hx; exact fin ((Y2.same Z).same st) (by decide +kernel) ⟨by unfold Bi; decide, by unfold Bi; decide⟩ ⟨by unfold Bi; decide, by unfold Bi; decide⟩
    | 2, hx => cases hx; exact fin ((Y3.same Z).same st) (by decide +kernel) ⟨by unfold Bi; decide, by unfold Bi; decide⟩ ⟨by unfold Bi; decide, by unfold Bi; decide⟩
    | 3, hx => cases hx; exact fin Y4 (by decide +kernel) ⟨by unfold Bi; decide, by unfold Bi; decide⟩ ⟨by unfold Bi; decide, by unfold Bi; decide⟩
    | 4, hx => cases hx; exact fin Y5 (by decide +kernel) ⟨by unfold Bi; decide, by unfold Bi; decide⟩ ⟨by unfold Bi; decide, by unfold Bi; decide⟩
    | n + 5, hx => cases hx
end
end Gap
namespace Gap
open PySem PySem.Spec PyProof.Rows L2
section
variable {P : Program} {w : World} {K : PySem.W.Frag} {mg : Str → Option Value} {base : Heap}
/-! ### a drawn fraction -/
abbrev sDrawn : Stmt := topS 25
theorem scDrawn : FnScope ["_law_bag_here", "_law_some"] ["_law_bag_here"] (defScope sDrawn) := ⟨rfl, rfl, rfl, by decide +kernel, rfl, by decide +kernel, by decide +kernel⟩
/-- what a draw hands back: some fraction, not too great; the bag has gone on -/
def RetD (K : PySem.W.Frag) (n : Nat) (b bl : Addr) (H : Hp) (Q : VK) : Prop := ∀ v q H', SameB b H H' → Bag H' b bl → IsQ K H' v q → Bq n q → Q v H'
def spDrawn (K : PySem.W.Frag) : Sp := fun vs H Q _ => ∃ (b bl : Addr), vs = [.ref b] ∧ Bag H b bl ∧ RetD K 70 b bl H Q

theorem ok_drawn {f fp fl : Addr} {fd fdp fdl : FuncData} {k : Nat} (F : Fun K "_law_part" "_law_part" sDrawn f fd) (PL : FnOk P w K mg base CX0 k fp fdp ["_law_bag_here", "_law_many"] spPull) (bp : Binds K fdp ["_law_bag_here", "_law_many"] []) (gp : mg "_law_pull" = some (.ref fp)) (kp : PySem.W.keepIn K (.ref fp) = true)
    (LW : FnOk P w K mg base CX0 k fl fdl ["_law_above", "_law_beneath"] spPart) (bl : Binds K fdl ["_law_above", "_law_beneath"] []) (gl : mg "_law_low" = some (.ref fl)) (kl : PySem.W.keepIn K (.ref fl) = true) :
    FnOk P w K mg base CX0 (k + 1) f fd ["_law_bag_here"] (spDrawn K) := by
  refine F.ok scDrawn (fun vs H Q E h => ?_) (fun cdv A outer s H vs Q E hr h => ?_)
  · obtain ⟨b, bl', rfl, _⟩ := h
    rfl
  · obtain ⟨b, bl', rfl, hB, q⟩ := h
    refine ⟨_, pss_cons (ps_set (i := 1) scDrawn.nd rfl (.inl rfl) (pe_call LW hr (by rfl) gl kl bl .nil pass0 (pa_cons (pe_op op_sub (pe_call PL hr (by rfl) gp kp bp .nil pass0 (pa_cons (pv 0) (pa_cons pe_int pa_nil))) pe_int)
        (pa_cons (pe_op op_add pe_int (pe_call PL hr (by rfl) gp kp bp .nil pass0 (pa_cons (pv 0) (pa_cons pe_int pa_nil)))) pa_nil))))
      (pss_cons (ps_if (pt_cmpR op_eq (pe_call PL hr (by rfl) gp kp bp .nil pass0 (pa_cons (pv 0) (pa_cons pe_int pa_nil))) pe_int (nomark _))
        (pss_one (ps_ret (pe_call LW hr (by rfl) gl kl bl .nil pass0 (pa_cons (pe_op op_sub (pe_call PL hr (by rfl) gp kp bp .nil pass0 (pa_cons (pv 0) (pa_cons (pe_op op_pow pe_int pe_int) pa_nil))) (pe_op op_mul pe_int (pe_op op_pow pe_int pe_int)))
          (pa_cons (pe_op op_add pe_int (pe_call PL hr (by rfl) gp kp bp .nil pass0 (pa_cons (pv 0) (pa_cons (pe_op op_pow pe_int pe_int) pa_nil)))) pa_nil)))))
        pss_nil)
      (pss_one (ps_ret (pe_ix ix_list (pe_lst (pa_cons (pv 1) (pa_cons (pv 1) (pa_cons (pe_tup (pa_cons pe_int (pa_cons pe_int pa_nil))) (pa_cons (pe_tup (pa_cons pe_int (pa_cons pe_int pa_nil))) pa_nil)))))
        (pe_call PL hr (by rfl) gp kp bp .nil pass0 (pa_cons (pv 0) (pa_cons pe_int pa_nil))) (fun _ _ => rfl))))), ?_⟩
    refine ⟨_, rfl, b, bl', 61, rfl, by decide, by decide +kernel, hB, fun r1 H1 s1 B1 l1 u1 => ⟨_, _, rfl, rfl, ?_⟩⟩
    refine ⟨_, rfl, b, bl', 12, rfl, by decide, by decide +kernel, B1, fun r2 H2 s2 B2 l2 u2 => ⟨_, _, rfl, rfl, ?_⟩⟩
    have n1 : (1 + r2 : Int) ≠ 0 := by omega
    have z1 : Bi 5 (r1 - 30) := bi_of (by simp; omega) (by simp; omega)
    have z2 : Bi 5 (1 + r2) := bi_of (by simp; omega) (by simp; omega)
    refine ⟨_, _, rfl, n1, z2.mono (by decide), fun p np => ?_⟩
    have bq := (Bq.of z1 z2 n1).mono (show 5 ≤ 70 by decide)
    generalize Rat.divInt (r1 - 30) (1 + r2) = qs at bq
    have s3 := SameB.of (b := b) (same_upd (o := .tup [.int qs.num, .int (qs.den : Int)]) np)
    have B3 := B2.same (same_upd (o := .tup [.int qs.num, .int (qs.den : Int)]) np)
    have hp : (upd H2 p (.tup [.int qs.num, .int (qs.den : Int)])) p = some (.tup [.int qs.num, .int (qs.den : Int)]) := upd_same
    generalize upd H2 p (.tup [.int qs.num, .int (qs.den : Int)]) = H3 at s3 B3 hp
    have pb : p ≠ b := B2.ne np
    have s03 := (s1.trans s2).trans s3
    refine ⟨_, rfl, b, bl', 4, rfl, by decide, by decide +kernel, B3, fun r4 H4 s4 B4 l4 u4 => ⟨rfl, _, rfl, ite2 (fun _ => ?_) (fun _ => ?_)⟩⟩
    · refine ⟨_, rfl, _, _, rfl, rfl, ⟨by decide, by decide, by decide⟩, b, bl', _, rfl, by decide, by decide +kernel, B4, fun r5 H5 s5 B5 l5 u5 => ⟨_, _, rfl, rfl, ⟨by decide, by decide, by decide⟩, _, _, rfl, rfl, .inl ⟨by decide, by decide⟩, _, _, rfl, rfl, ?_⟩⟩
      refine ⟨_, rfl, _, _, rfl, rfl, ⟨by decide, by decide, by decide⟩, b, bl', _, rfl, by decide, by decide +kernel, B5, fun r6 H6 s6 B6 l6 u6 => ⟨_, _, rfl, rfl, ?_⟩⟩
      have e20 : ((10 : Int) ^ (20 : Int).toNat) = 100000000000000000000 := by decide
      have e19 : ((10 : Int) ^ (19 : Int).toNat) = 10000000000000000000 := by decide
      rw [e20] at u5 u6
      have n2 : (1 + r6 : Int) ≠ 0 := by omega
      have z3 : Bi 70 (r5 - 5 * 10 ^ (19 : Int).toNat) := by
        rw [e19]
        exact bi_of (by simp; omega) (by simp; omega)
      have z4 : Bi 70 (1 + r6) := bi_of (by simp; omega) (by simp; omega)
      refine ⟨_, _, rfl, n2, z4.mono (by decide), fun p2 np2 => ?_⟩
      refine q _ _ _ (((s03.trans s4).trans (s5.trans s6)).trans (SameB.of (same_upd np2))) (B6.same (same_upd np2)) (isQ_at upd_same) (Bq.of z3 z4 n2)
    · refine ⟨_, rfl, _, rfl, (by show 2 ≤ sizeLine; decide), fun pa na => ⟨(by show 2 ≤ sizeLine; decide), fun pc nc => ⟨(by show 4 ≤ sizeLine; decide), fun pd nd => ?_⟩⟩⟩
      have hp4 := s4 _ _ pb hp
      have sa := same_upd (o := .tup [.int 0, .int 1]) na
      have sc := same_upd (o := .tup [.int 1, .int 1]) nc
      have sd := same_upd (o := .lst [.ref p, .ref p, .ref pa, .ref pc]) nd
      have hd : (upd (upd (upd H4 pa (.tup [.int 0, .int 1])) pc (.tup [.int 1, .int 1])) pd (.lst [.ref p, .ref p, .ref pa, .ref pc])) pd = some (.lst [.ref p, .ref p, .ref pa, .ref pc]) := upd_same
      have ha := sd _ _ (sc _ _ (upd_same (H := H4) (a := pa) (o := .tup [.int 0, .int 1])))
      have hc := sd _ _ (upd_same (H := upd H4 pa (.tup [.int 0, .int 1])) (a := pc) (o := .tup [.int 1, .int 1]))
      have hpp := sd _ _ (sc _ _ (sa _ _ hp4))
      have B5 := B4.same ((sa.trans sc).trans sd)
      have s5 := SameB.of (b := b) ((sa.trans sc).trans sd)
      generalize upd (upd (upd H4 pa (.tup [.int 0, .int 1])) pc (.tup [.int 1, .int 1])) pd (.lst [.ref p, .ref p, .ref pa, .ref pc]) = H5 at hd ha hc hpp B5 s5
      refine ⟨_, rfl, b, bl', 4, rfl, by decide, by decide +kernel, B5, fun r6 H6 s6 B6 l6 u6 => ?_⟩
      have ndb : pd ≠ b := fun z => by
        obtain ⟨xs, i, n, s, h1, _⟩ := B5
        rw [z, h1] at hd
        injection hd with hd
        injection hd with hd
        simp at hd
      have tp : ∀ {x : Addr} {q : Rat}, H5 x = some (.tup [.int q.num, .int (q.den : Int)]) → IsQ K H6 (.ref x) q := fun {x q} h => B5.isQ s6 (isQ_at h)
      have go := (s03.trans s4).trans (s5.trans s6)
      have hd6 : SqL K H6 pd [.ref p, .ref p, .ref pa, .ref pc] := .inl (.inl (s6 _ _ ndb hd))
      rcases (show r6 = 0 ∨ r6 = 1 ∨ r6 = 2 ∨ r6 = 3 by omega) with rfl | rfl | rfl | rfl
      · exact ⟨pd, _, _, _, rfl, rfl, hd6, atI_nat (j := 0) rfl, q _ _ _ go B6 (tp hpp) bq⟩
      · exact ⟨pd, _, _, _, rfl, rfl, hd6, atI_nat (j := 1) rfl, q _ _ _ go B6 (tp hpp) bq⟩
      · exact ⟨pd, _, _, _, rfl, rfl, hd6, atI_nat (j := 2) rfl, q _ _ _ go B6 (tp (q := 0) ha) (bq0.mono (by decide))⟩
      · exact ⟨pd, _, _, _, rfl, rfl, hd6, atI_nat (j := 3) rfl, q _ _ _ go B6 (tp (q := 1) hc) (bq1.mono (by decide))⟩
end
end Gap
namespace Gap
open PySem PySem.Spec PyProof.Rows L2
section
variable {P : Program} {w : World} {K : PySem.W.Frag} {mg : Str → Option Value} {base : Heap}
/-- the program's own reckoning -/
structure Prg (P : Program) (w : World) (K : PySem.W.Frag) (mg : Str → Option Value) (base : Heap) (k : Nat) : Prop where
  plus : Cal P w K mg base k "plus" ["one", "other"] (sp2 K (fun q r => q + r) (fun _ _ => True))
  less : Cal P w K mg base k "less" ["one", "other"] (sp2 K (fun q r => q - r) (fun _ _ => True))
  times : Cal P w K mg base k "times" ["one", "other"] (sp2 K (fun q r => q * r) (fun _ _ => True))
abbrev sInner : Stmt := topS 13
theorem scInner : FnScope ["one", "other"] ["one", "other"] (defScope sInner) := ⟨rfl, rfl, rfl, by decide +kernel, rfl, by decide +kernel, by decide +kernel⟩
def spInner (K : PySem.W.Frag) : Sp := fun vs H Q _ => ∃ (u v : V) (p q p' q' : Rat), vs = [u, v] ∧ IsPl K H u p q ∧ IsPl K H v p' q' ∧ Bq 1900 p ∧ Bq 1900 q ∧ Bq 1900 p' ∧ Bq 1900 q' ∧ RetQ K H Q (p * p' + q * q')
theorem ok_inner {f : Addr} {fd : FuncData} {k : Nat} (F : Fun K "inner" "inner" sInner f fd) (O : Prg P w K mg base k) : FnOk P w K mg base CX0 (k + 1) f fd ["one", "other"] (spInner K) := by
  obtain ⟨f1, fd1, F1, b1, g1, k1⟩ := O.plus.ex
  obtain ⟨f3, fd3, F3, b3, g3, k3⟩ := O.times.ex
  refine F.ok scInner (fun vs H Q E h => ?_) (fun cdv A outer s H vs Q E hr h => ?_)
  · obtain ⟨u, v, p, q, p', q', rfl, _⟩ := h
    rfl
  · obtain ⟨u, v, p, q, p', q', rfl, ⟨a, x, y, rfl, ha, hx, hy⟩, ⟨c, x', y', rfl, hc, hx', hy'⟩, bp, bq, bp', bq', ret⟩ := h
    refine ⟨_, pss_one (ps_ret (pe_call F1 hr (by rfl) g1 k1 b1 .nil pass0 (pa_cons (pe_call F3 hr (by rfl) g3 k3 b3 .nil pass0 (pa_cons (pe_ix ix_tup (pv 0) pe_int (fun _ _ => rfl)) (pa_cons (pe_ix ix_tup (pv 1) pe_int (fun _ _ => rfl)) pa_nil)))
      (pa_cons (pe_call F3 hr (by rfl) g3 k3 b3 .nil pass0 (pa_cons (pe_ix ix_tup (pv 0) pe_int (fun _ _ => rfl)) (pa_cons (pe_ix ix_tup (pv 1) pe_int (fun _ _ => rfl)) pa_nil))) pa_nil)))), ?_⟩
    refine ⟨_, rfl, a, _, 0, _, rfl, rfl, ha, atI_nat (j := 0) rfl, _, rfl, c, _, 0, _, rfl, rfl, hc, atI_nat (j := 0) rfl, _, _, _, _, rfl, hx, hx', bp.mono (by decide), bp'.mono (by decide), trivial, fun u1 H1 s1 i1 => ?_⟩
    refine ⟨_, rfl, a, _, 1, _, rfl, rfl, Same.seqT s1 ha, atI_nat (j := 1) rfl, _, rfl, c, _, 1, _, rfl, rfl, Same.seqT s1 hc, atI_nat (j := 1) rfl, _, _, _, _, rfl, hy.same s1, hy'.same s1, bq.mono (by decide), bq'.mono (by decide), trivial, fun u2 H2 s2 i2 => ?_⟩
    refine ⟨_, _, _, _, rfl, i1.same s2, i2, (bp.mul bp').mono (by decide), (bq.mul bq').mono (by decide), trivial, fun u3 H3 s3 i3 => ?_⟩
    exact ret _ _ ((s1.trans s2).trans s3) i3
end
end Gap
namespace Gap
open PySem PySem.Spec PyProof.Rows L2
section
variable {P : Program} {w : World} {K : PySem.W.Frag} {mg : Str → Option Value} {base : Heap}
/-! ### pairs of numbers, parts or not -/
def IsZ (K : PySem.W.Frag) (H : Hp) (v : V) (z : Int × Int) : Prop := ∃ a, v = .ref a ∧ SqT K H a [.int z.1, .int z.2]
theorem IsZ.same {H H' : Hp} {v : V} {z : Int × Int} (h : IsZ K H v z) (e : Same H H') : IsZ K H' v z := by
  obtain ⟨a, rfl, h⟩ := h
  exact ⟨a, rfl, Same.seqT e h⟩
theorem Bag.isZ {H H' : Hp} {b bl : Addr} (hB : Bag H b bl) (e : SameB b H H') {v : V} {z : Int × Int} (h : IsZ K H v z) : IsZ K H' v z := by
  obtain ⟨a, rfl, h⟩ := h
  exact ⟨a, rfl, hB.tupT e h⟩
def Zs (K : PySem.W.Frag) (H : Hp) : List V → List (Int × Int) → Prop := Paired (fun v z => IsZ K H v z ∧ Bi 200 z.1 ∧ Bi 200 z.2)
theorem Zs.len {H : Hp} {us : List V} {zs : List (Int × Int)} (h : Zs K H us zs) : us.length = zs.length := Paired.length h
theorem Zs.mono {H H' : Hp} (f : ∀ v z, IsZ K H v z → IsZ K H' v z) : ∀ {us : List V} {zs : List (Int × Int)}, Zs K H us zs → Zs K H' us zs
  | _, _, .nil => .nil
  | _, _, .cons r t => .cons ⟨f _ _ r.1, r.2⟩ (Zs.mono f t)
theorem Zs.same {H H' : Hp} {us : List V} {zs : List (Int × Int)} (h : Zs K H us zs) (e : Same H H') : Zs K H' us zs := h.mono fun _ _ z => z.same e
theorem Zs.get {H : Hp} : ∀ {us : List V} {zs : List (Int × Int)} {i : Nat} {v : V}, Zs K H us zs → us[i]? = some v → ∃ z, zs[i]? = some z ∧ IsZ K H v z ∧ Bi 200 z.1 ∧ Bi 200 z.2
  | _, _, _, _, .nil, e => by simp at e
  | _, _, 0, _, .cons r _, e => by
    cases e
    exact ⟨_, rfl, r⟩
  | _, _, i + 1, _, .cons _ t, e => Zs.get (i := i) t e
theorem Zs.append {H : Hp} : ∀ {us vs : List V} {zs ys : List (Int × Int)}, Zs K H us zs → Zs K H vs ys → Zs K H (us ++ vs) (zs ++ ys)
  | _, _, _, _, .nil, h => h
  | _, _, _, _, .cons r t, h => .cons r (Zs.append t h)
theorem Zs.take {H : Hp} : ∀ {us : List V} {zs : List (Int × Int)} (n : Nat), Zs K H us zs → Zs K H (us.take n) (zs.take n)
  | _, _, 0, _ => .nil
  | _, _, _ + 1, .nil => .nil
  | _, _, n + 1, .cons r t => .cons r (Zs.take n t)
theorem Zs.drop {H : Hp} : ∀ {us : List V} {zs : List (Int × Int)} (n : Nat), Zs K H us zs → Zs K H (us.drop n) (zs.drop n)
  | _, _, 0, h => h
  | _, _, _ + 1, .nil => .nil
  | _, _, n + 1, .cons _ t => Zs.drop n t
/-- a tuple of at most n pairs -/
def TZ (K : PySem.W.Frag) (H : Hp) (n : Nat) (v : V) : Prop := ∃ (a : Addr) (us : List V) (zs : List (Int × Int)), v = .ref a ∧ SqT K H a us ∧ Zs K H us zs ∧ us.length ≤ n
theorem TZ.same {H H' : Hp} {n : Nat} {v : V} (h : TZ K H n v) (e : Same H H') : TZ K H' n v := by
  obtain ⟨a, us, zs, rfl, h1, h2, h3⟩ := h
  exact ⟨a, us, zs, rfl, Same.seqT e h1, h2.same e, h3⟩
theorem TZ.mono {H : Hp} {m n : Nat} {v : V} (h : TZ K H m v) (l : m ≤ n) : TZ K H n v := by
  obtain ⟨a, us, zs, rfl, h1, h2, h3⟩ := h
  exact ⟨a, us, zs, rfl, h1, h2, Nat.le_trans h3 l⟩
theorem Bag.tz {H H' : Hp} {b bl : Addr} (hB : Bag H b bl) (e : SameB b H H') {n : Nat} {v : V} (h : TZ K H n v) : TZ K H' n v := by
  obtain ⟨a, us, zs, rfl, h1, h2, h3⟩ := h
  exact ⟨a, us, zs, rfl, hB.tupT e h1, h2.mono fun _ _ z => hB.isZ e z, h3⟩
theorem tz_cat {H : Hp} {m n : Nat} {u v : V} {Q : VK} (hu : TZ K H m u) (hv : TZ K H n v) (l : m + n ≤ 100) (q : ∀ x H', Same H H' → TZ K H' (m + n) x → Q x H') : rCatA K u v H Q := by
  obtain ⟨a, us, zs, rfl, h1, h2, h3⟩ := hu
  obtain ⟨b, vs, ys, rfl, g1, g2, g3⟩ := hv
  refine ⟨a, b, us, vs, rfl, rfl, h1, g1, ?_, fun _ => q _ _ (Same.refl H) ⟨b, vs, ys, rfl, g1, g2, by omega⟩, fun _ _ => q _ _ (Same.refl H) ⟨a, us, zs, rfl, h1, h2, by omega⟩, fun _ _ p np => ?_⟩
  · exact Nat.le_of_lt (small1000 (by omega))
  · have s := same_upd (o := .tup (us ++ vs)) np
    exact q _ _ s ⟨p, us ++ vs, zs ++ ys, rfl, .inl (.inl upd_same), (h2.same s).append (g2.same s), by rw [List.length_append]; omega⟩
theorem tz_cut {H : Hp} {n : Nat} {u : V} {lo hi : Option Int} {Q : VK} (hu : TZ K H n u) (q : ∀ x H', Same H H' → TZ K H' n x → Q x H') : rSlA K u lo hi H Q := by
  obtain ⟨a, us, zs, rfl, h1, h2, h3⟩ := hu
  refine ⟨a, us, rfl, h1, fun _ => q _ _ (Same.refl H) ⟨a, us, zs, rfl, h1, h2, h3⟩, fun _ p np => ?_⟩
  have s := same_upd (o := .tup (cutV us lo hi)) np
  refine q _ _ s ⟨p, cutV us lo hi, (zs.drop (HT.sIx us.length 0 lo)).take (HT.sIx us.length us.length hi - HT.sIx us.length 0 lo), rfl, .inl (.inl upd_same), ((h2.same s).drop _).take _, Nat.le_trans (cutV_length us lo hi) h3⟩
/-! ### which pairs are parts -/
def partB (z : Int × Int) : Bool := decide (1 ≤ z.2) && decide (((Int.gcd z.1 z.2 : Nat) : Int) = 1)
theorem low_is {i j : Int} (hj : 0 < j) : (((Rat.divInt i j).num == i) && ((((Rat.divInt i j).den : Int) == j) && true)) = decide (((Int.gcd i j : Nat) : Int) = 1) := by
  have j0 : j ≠ 0 := by omega
  have s1 : sg j = 1 := by unfold sg; rw [if_pos hj]
  have g0 := gcd_pos (a := i) j0
  rw [← low_num j0, ← low_den j0, s1, Int.one_mul, Int.one_mul]
  by_cases h : ((Int.gcd i j : Nat) : Int) = 1
  · rw [decide_eq_true h, h, Int.ediv_one, Int.ediv_one]
    simp
  · rw [decide_eq_false h]
    have ne : ((j / ((Int.gcd i j : Nat) : Int)) == j) = false := by
      rw [beq_eq_false_iff_ne]
      intro z
      have d : ((Int.gcd i j : Nat) : Int) ∣ j := Int.gcd_dvd_right i j
      have e := Int.ediv_mul_cancel d
      rw [z] at e
      have : j * (((Int.gcd i j : Nat) : Int) - 1) = 0 := by rw [Int.mul_sub, e]; omega
      rcases Int.mul_eq_zero.mp this with y | y
      · exact j0 y
      · exact h (by omega)
    rw [ne]
    simp
theorem part_q {z : Int × Int} (h : partB z = true) : (Rat.divInt z.1 z.2).num = z.1 ∧ ((Rat.divInt z.1 z.2).den : Int) = z.2 := by
  unfold partB at h
  rw [Bool.and_eq_true, decide_eq_true_eq, decide_eq_true_eq] at h
  have e := low_is (i := z.1) (j := z.2) (by omega)
  rw [decide_eq_true h.2, Bool.and_true, Bool.and_eq_true, beq_iff_eq, beq_iff_eq] at e
  exact e
theorem IsZ.isQ {H : Hp} {v : V} {z : Int × Int} (h : IsZ K H v z) (p : partB z = true) : IsQ K H v (Rat.divInt z.1 z.2) := by
  obtain ⟨a, rfl, h⟩ := h
  refine ⟨a, rfl, ?_⟩
  rw [(part_q p).1, (part_q p).2]
  exact h
theorem part_bq {z : Int × Int} (p : partB z = true) (h1 : Bi 200 z.1) (h2 : Bi 200 z.2) : Bq 200 (Rat.divInt z.1 z.2) := by
  constructor
  · rw [(part_q p).1]
    exact h1
  · rw [(part_q p).2]
    exact h2
def spIsPart (K : PySem.W.Frag) : Sp := fun vs H Q _ => ∃ (v : V) (z : Int × Int), vs = [v] ∧ IsZ K H v z ∧ Bi 200 z.2 ∧ ∀ H', Same H H' → Q (.bl (partB z)) H'
abbrev sIsPart : Stmt := topS 6
theorem scIsPart : FnScope ["pair", "top", "bottom"] ["pair"] (defScope sIsPart) := ⟨rfl, rfl, rfl, by decide +kernel, rfl, by decide +kernel, by decide +kernel⟩
theorem dec_vi (i j : Int) : decide (V.int i = V.int j) = decide (i = j) := by
  by_cases h : i = j
  · subst h
    simp
  · rw [decide_eq_false h, decide_eq_false (fun z => h (V.int.inj z))]
theorem ok_isPart {f : Addr} {fd : FuncData} {k : Nat} (F : Fun K "is_part" "is_part" sIsPart f fd) (Co : Cal P w K mg base k "common" ["one", "other"] spCommon) : FnOk P w K mg base CX0 (k + 1) f fd ["pair"] (spIsPart K) := by
  obtain ⟨f1, fd1, F1, b1, g1, k1⟩ := Co.ex
  refine F.ok scIsPart (fun vs H Q E h => ?_) (fun cdv A outer s H vs Q E hr h => ?_)
  · obtain ⟨v, z, rfl, _⟩ := h
    rfl
  · obtain ⟨v, z, rfl, ⟨a, rfl, hz⟩, _, ret⟩ := h
    refine ⟨_, pss_cons (ps_asg (pv 0) (pg_tup rfl (pgs_cons (pg_name (i := 1) scIsPart.nd rfl (.inl rfl)) (pgs_cons (pg_name (i := 2) scIsPart.nd rfl (.inl rfl)) pgs_nil))))
      (pss_one (ps_ret (pe_and (pe_cmpR op_ge (pv 2) pe_int (nomark _)) (pe_one (pe_cmpR op_eq (pe_call F1 hr (by rfl) g1 k1 b1 .nil pass0 (pa_cons (pv 1) (pa_cons (pv 2) pa_nil))) pe_int (nomark _)))))), ?_⟩
    refine ⟨_, rfl, a, _, rfl, hz, rfl, _, _, rfl, _, _, rfl, rfl, ?_⟩
    refine ⟨_, rfl, _, _, rfl, rfl, _, rfl, ite2 (fun e => ?_) (fun e => ?_)⟩
    · refine ⟨_, rfl, _, rfl, z.1, z.2, rfl, rfl, ?_⟩
      rw [dec_vi]
      have : partB z = decide (((Int.gcd z.1 z.2 : Nat) : Int) = 1) := by
        unfold partB
        rw [e]
        rfl
      rw [← this]
      exact ret H (Same.refl H)
    · have : partB z = false := by
        unfold partB
        rw [Bool.not_eq_true] at e
        rw [e]
        rfl
      rw [← this]
      exact ret H (Same.refl H)
abbrev sIsPartL : Stmt := topS 29
theorem scIsPartL : FnScope ["_law_one"] ["_law_one"] (defScope sIsPartL) := ⟨rfl, rfl, rfl, by decide +kernel, rfl, by decide +kernel, by decide +kernel⟩
theorem dp_pair {H : Hp} {a : Addr} {i j : Int} (h : SqT K H a [.int i, .int j]) : Dp K H (.ref a) (.tuple [.int i, .int j]) := .tup h (.cons (.int _) (.cons (.int _) .nil))
theorem shaped_pair (i j : Int) : SeqAt.shaped (.tuple [.int i, .int j]) = true := rfl
theorem eqv_pair (i j i' j' : Int) : PyData.eqv (.tuple [.int i, .int j]) (.tuple [.int i', .int j']) = ((i == i') && ((j == j') && true)) := rfl
theorem ok_isPartL {f : Addr} {fd : FuncData} {k : Nat} (F : Fun K "_law_is_part" "_law_is_part" sIsPartL f fd) (Lo : Cal P w K mg base k "_law_low" ["_law_above", "_law_beneath"] spPart) : FnOk P w K mg base CX0 (k + 1) f fd ["_law_one"] (spIsPart K) := by
  obtain ⟨f1, fd1, F1, b1, g1, k1⟩ := Lo.ex
  refine F.ok scIsPartL (fun vs H Q E h => ?_) (fun cdv A outer s H vs Q E hr h => ?_)
  · obtain ⟨v, z, rfl, _⟩ := h
    rfl
  · obtain ⟨v, z, rfl, ⟨a, rfl, hz⟩, b2, ret⟩ := h
    refine ⟨_, pss_one (ps_ret (pe_and (pe_cmpR op_gt (pe_ix ix_tup (pv 0) pe_int (fun _ _ => rfl)) pe_int (nomark _)) (pe_one (pe_cmpR (op_eqD hr.units) (pe_call F1 hr (by rfl) g1 k1 b1 .nil pass0 (pa_cons (pe_ix ix_tup (pv 0) pe_int (fun _ _ => rfl)) (pa_cons (pe_ix ix_tup (pv 0) pe_int (fun _ _ => rfl)) pa_nil)))
      (pe_tup (pa_cons (pe_ix ix_tup (pv 0) pe_int (fun _ _ => rfl)) (pa_cons (pe_ix ix_tup (pv 0) pe_int (fun _ _ => rfl)) pa_nil))) (nomark _))))), ?_⟩
    refine ⟨_, rfl, a, _, 1, _, rfl, rfl, hz, atI_nat (j := 1) rfl, _, _, rfl, rfl, _, rfl, ite2 (fun e => ?_) (fun e => ?_)⟩
    · have e2 : 0 < z.2 := of_decide_eq_true e
      refine ⟨_, rfl, a, _, 0, _, rfl, rfl, hz, atI_nat (j := 0) rfl, _, rfl, a, _, 1, _, rfl, rfl, hz, atI_nat (j := 1) rfl, z.1, z.2, rfl, by omega, b2.mono (by decide), fun p np => ?_⟩
      have s1 := same_upd (o := .tup [.int (Rat.divInt z.1 z.2).num, .int ((Rat.divInt z.1 z.2).den : Int)]) np
      refine ⟨_, rfl, a, _, 0, _, rfl, rfl, Same.seqT s1 hz, atI_nat (j := 0) rfl, _, rfl, a, _, 1, _, rfl, rfl, Same.seqT s1 hz, atI_nat (j := 1) rfl, (by show 2 ≤ sizeLine; decide), fun t nt => ?_⟩
      have s2 := same_upd (o := .tup [.int z.1, .int z.2]) nt
      refine ⟨_, _, dp_pair (.inl (.inl (s2 _ _ upd_same))), dp_pair (.inl (.inl upd_same)), shaped_pair _ _, shaped_pair _ _, ?_⟩
      rw [eqv_pair, low_is e2]
      have : partB z = decide (((Int.gcd z.1 z.2 : Nat) : Int) = 1) := by
        unfold partB
        rw [decide_eq_true (show 1 ≤ z.2 by omega)]
        rfl
      rw [← this]
      exact ret _ (s1.trans s2)
    · have e2 : ¬ 0 < z.2 := fun z => e (decide_eq_true z)
      have : partB z = false := by
        unfold partB
        rw [decide_eq_false (show ¬ 1 ≤ z.2 by omega)]
        rfl
      rw [← this]
      exact ret H (Same.refl H)
end
end Gap
namespace Gap
open PySem PySem.Spec PyProof.Rows L2
section
variable {P : Program} {w : World} {K : PySem.W.Frag} {mg : Str → Option Value} {base : Heap}
def qOf (z : Int × Int) : Rat := Rat.divInt z.1 z.2
def discB : List (Int × Int) → Bool
  | [z0, z1, z2, z3] => (partB z0 && (partB z1 && (partB z2 && (partB z3 && true)))) && (!decide (qOf z1 = 0) && decide (qOf z2 * qOf z2 + qOf z3 * qOf z3 - qOf z1 * qOf z0 = 1))
  | _ => false
theorem disc4 (z0 z1 z2 z3 : Int × Int) : discB [z0, z1, z2, z3] = ((partB z0 && (partB z1 && (partB z2 && (partB z3 && true)))) && (!decide (qOf z1 = 0) && decide (qOf z2 * qOf z2 + qOf z3 * qOf z3 - qOf z1 * qOf z0 = 1))) := rfl
theorem disc_len {zs : List (Int × Int)} (h : zs.length ≠ 4) : discB zs = false := by
  match zs, h with
  | [], _ => rfl
  | [_], _ => rfl
  | [_, _], _ => rfl
  | [_, _, _], _ => rfl
  | [_, _, _, _], h => exact absurd rfl h
  | _ :: _ :: _ :: _ :: _ :: _, _ => rfl
theorem disc_no {zs : List (Int × Int)} (h : (zs.map partB).all id = false) : discB zs = false := by
  match zs, h with
  | [], h => rfl
  | [_], _ => rfl
  | [_, _], _ => rfl
  | [_, _, _], _ => rfl
  | [z0, z1, z2, z3], h =>
    have e : (partB z0 && (partB z1 && (partB z2 && (partB z3 && true)))) = false := h
    rw [disc4, e]
    rfl
  | _ :: _ :: _ :: _ :: _ :: _, _ => rfl
theorem isz {q : Rat} : ((q.num == 0) && (((q.den : Int) == 1) && true)) = decide (q = 0) := by
  by_cases h : q = 0
  · subst h
    rfl
  · have n0 : q.num ≠ 0 := num_ne h
    have e : (q.num == 0) = false := by simpa using n0
    rw [decide_eq_false h, e]
    rfl
theorem isone {q : Rat} : ((q.num == 1) && (((q.den : Int) == 1) && true)) = decide (q = 1) := by
  by_cases h : q = 1
  · subst h
    rfl
  · rw [decide_eq_false h]
    by_cases e : q.num = 1
    · have n0 : ((q.den : Int) == 1) = false := by
        rw [beq_eq_false_iff_ne]
        intro z
        refine h (Rat.ext e ?_)
        show q.den = 1
        omega
      rw [n0]
      simp
    · have n0 : (q.num == 1) = false := by simpa using e
      rw [n0]
      rfl
theorem zs4 {H : Hp} {us : List V} {zs : List (Int × Int)} (h : Zs K H us zs) (l : zs.length = 4) : ∃ v0 v1 v2 v3 z0 z1 z2 z3, us = [v0, v1, v2, v3] ∧ zs = [z0, z1, z2, z3] ∧ (IsZ K H v0 z0 ∧ Bi 200 z0.1 ∧ Bi 200 z0.2) ∧ (IsZ K H v1 z1 ∧ Bi 200 z1.1 ∧ Bi 200 z1.2) ∧ (IsZ K H v2 z2 ∧ Bi 200 z2.1 ∧ Bi 200 z2.2) ∧ (IsZ K H v3 z3 ∧ Bi 200 z3.1 ∧ Bi 200 z3.2) := by
  unfold Zs at h
  cases h with
  | nil => cases l
  | cons h0 h =>
    cases h with
    | nil => cases l
    | cons h1 h =>
      cases h with
      | nil => cases l
      | cons h2 h =>
        cases h with
        | nil => cases l
        | cons h3 h =>
          cases h with
          | nil => exact ⟨_, _, _, _, _, _, _, _, rfl, rfl, h0, h1, h2, h3⟩
          | cons h4 h =>
            simp only [List.length_cons] at l
            omega
def spIsDisc (K : PySem.W.Frag) : Sp := fun vs H Q _ => ∃ (a : Addr) (us : List V) (zs : List (Int × Int)), vs = [.ref a] ∧ SqT K H a us ∧ Zs K H us zs ∧ us.length ≤ 100 ∧ ∀ H', Same H H' → Q (.bl (discB zs)) H'
/-- the comprehension over the pairs -/
theorem all_parts {H1 : Hp} {D a : Addr} {us : List V} {zs : List (Int × Int)} {g : TG} {te : TE} {vs : List Nat} {σ : L2.St} {Qd : Hp → Prop} (nD : H1 D = none) (ha : SqT K H1 a us) (hz : Zs K H1 us zs) (hl : us.length ≤ 100)
    (turn : ∀ x z H, Same H1 H → IsZ K H x z → Bi 200 z.2 → ∀ R : V → Hp → Prop, (∀ H', Same H H' → R (.bl (partB z)) H') → g x (wipe σ vs) H fun σ2 H2 => wipe σ2 vs = wipe σ vs ∧ te σ2 H2 R)
    (done : ∀ H, Same H1 H → H D = some (.lst ((zs.map partB).map V.bl)) → Qd H)
    (gmono : ∀ x H (R R' : L2.St → Hp → Prop), (∀ s h, R s h → R' s h) → g x (wipe σ vs) H R → g x (wipe σ vs) H R') :
    ∃ W : Nat → Nat → Hp → Prop, (∃ m, W 0 m (upd H1 D (.lst []))) ∧ ∀ i m H, W i m H →
      ((Itt K a).stop i H ∧ Qd H) ∨ ((Itt K a).go i H ∧ ∃ Nx : Hp → Prop, (∀ H', Nx H' → ∃ m', m' < m ∧ W (i + 1) m' H') ∧ ∀ x H', (Itt K a).yld i H x H' → g x (wipe σ vs) H' fun σ2 H2 => wipe σ2 vs = wipe σ vs ∧ tYes σ2 H2 fun b H3 =>
        if b = true then te σ2 H3 fun y H4 => ∃ acc, H4 D = some (.lst acc) ∧ acc.length < sizeLine ∧ Nx (upd H4 D (.lst (acc ++ [y]))) else Nx H3) := by
  refine lc_tup (K := K) (a := a) (xs := us) (fun i H' => Same H1 H' ∧ H' D = some (.lst (((zs.take i).map partB).map V.bl))) ⟨same_upd nD, upd_same⟩ (fun i H _ h => Same.seqT h.1 ha) ?_ ?_
  · rintro i x H hx ⟨s1, hD⟩
    obtain ⟨z, hzi, hxz, b1, b2⟩ := hz.get hx
    have il : i < us.length := (List.getElem?_eq_some_iff.mp hx).1
    refine gmono x H _ _ (fun s h R => ⟨R.1, ?_⟩) (turn x z H s1 (hxz.same s1) b2 (fun y H4 => ∃ acc, H4 D = some (.lst acc) ∧ acc.length < sizeLine ∧ Same H1 (upd H4 D (.lst (acc ++ [y]))) ∧ (upd H4 D (.lst (acc ++ [y]))) D = some (.lst (((zs.take (i + 1)).map partB).map V.bl))) fun H' s2 => ?_)
    · unfold tYes
      exact iteT R.2
    · refine ⟨_, s2 _ _ hD, ?_, fun c o e => ?_, ?_⟩
      · rw [List.length_map, List.length_map, List.length_take]
        exact small1000 (by omega)
      · rw [upd_ne (ne_of_none e nD)]
        exact s2 _ _ (s1 _ _ e)
      · rw [upd_same, List.take_add_one, hzi, List.map_append, List.map_append]
        rfl
  · rintro H ⟨s1, hD⟩
    rw [hz.len, List.take_length] at hD
    exact done H s1 hD
end
end Gap
namespace Gap
open PySem PySem.Spec PyProof.Rows L2
section
variable {P : Program} {w : World} {K : PySem.W.Frag} {mg : Str → Option Value} {base : Heap}
abbrev sIsDisc : Stmt := topS 14
theorem scIsDisc : FnScope ["thing", "back", "bend", "x", "y", "one"] ["thing"] (defScope sIsDisc) := ⟨rfl, rfl, rfl, by decide +kernel, rfl, by decide +kernel, by decide +kernel⟩
theorem ok_isDisc {f a0 a1 : Addr} {fd : FuncData} {k : Nat} (F : Fun K "is_disc" "is_disc" sIsDisc f fd) (T : Blt mg) (Ip : Cal P w K mg base k "is_part" ["pair"] (spIsPart K)) (O : Prg P w K mg base k) (In : Cal P w K mg base k "inner" ["one", "other"] (spInner K))
    (g0 : mg "NOUGHT" = some (.ref a0)) (i0 : ∀ H, SqT K H a0 [.int 0, .int 1]) (ga1 : mg "ONE" = some (.ref a1)) (i1 : ∀ H, SqT K H a1 [.int 1, .int 1]) : FnOk P w K mg base CX0 (k + 1) f fd ["thing"] (spIsDisc K) := by
  obtain ⟨fp, fdp, FP, bp, gp, kp⟩ := Ip.ex
  obtain ⟨f2, fd2, F2, b2, g2, k2⟩ := O.less.ex
  obtain ⟨f3, fd3, F3, b3, g3, k3⟩ := O.times.ex
  obtain ⟨fi, fdi, FI, bi, gi, ki⟩ := In.ex
  refine F.ok scIsDisc (fun vs H Q E h => ?_) (fun cdv A outer s H vs Q E hr h => ?_)
  · obtain ⟨a, us, zs, rfl, _⟩ := h
    rfl
  · obtain ⟨a, us, zs, rfl, ha, hz, hl, ret⟩ := h
    refine ⟨_, pss_cons (ps_if (pw_or (pt_cmpR op_ne (pe_callB call_len_seq (by rfl) T.len PySem.boot_len (pa_cons (pv 0) pa_nil)) pe_int (nomark _)) (pw_or1 (pt_not (pt_val (pe_callB (cr_all rfl) (by rfl) T.all (by decide +kernel) (pa_cons
          (pe_lc (own := [("one", 5)]) (g := gName 5) (tt := tYes) rfl scIsDisc.nd (pi_tup (pv 0)) (blkOk_by (own := [("one", 5)]) (N := ["thing", "back", "bend", "x", "y", "one"]) (sc := defScope sIsDisc) (by decide +kernel)) (fun _ _ _ _ _ => pg_name (i := 5) scIsDisc.nd rfl (.inl rfl)) (fun _ _ _ _ _ => pts_nil) (fun _ _ _ _ _ => pe_call FP hr (by rfl) gp kp bp .nil pass0 (pa_cons (pv 5) pa_nil))) pa_nil)))))).pt
        (pss_one (ps_ret pe_bl)) pss_nil)
      (pss_cons (ps_asg (pv 0) (pg_tup rfl (pgs_cons (pg_name (i := 1) scIsDisc.nd rfl (.inl rfl)) (pgs_cons (pg_name (i := 2) scIsDisc.nd rfl (.inl rfl)) (pgs_cons (pg_name (i := 3) scIsDisc.nd rfl (.inl rfl)) (pgs_cons (pg_name (i := 4) scIsDisc.nd rfl (.inl rfl)) pgs_nil))))))
      (pss_one (ps_ret (pe_and (pe_cmpR (op_neD hr.units) (pv 2) (pe_glob (v := .ref a0) rfl g0 rfl) (nomark _)) (pe_one (pe_cmpR (op_eqD hr.units) (pe_call F2 hr (by rfl) g2 k2 b2 .nil pass0 (pa_cons (pe_call FI hr (by rfl) gi ki bi .nil pass0 (pa_cons (pe_tup (pa_cons (pv 3) (pa_cons (pv 4) pa_nil))) (pa_cons (pe_tup (pa_cons (pv 3) (pa_cons (pv 4) pa_nil))) pa_nil)))
        (pa_cons (pe_call F3 hr (by rfl) g3 k3 b3 .nil pass0 (pa_cons (pv 2) (pa_cons (pv 1) pa_nil))) pa_nil))) (pe_glob (v := .ref a1) rfl ga1 rfl) (nomark _))))))), ?_⟩
    refine ⟨_, rfl, a, us, rfl, .inr ha, rfl, _, rfl, ite2 (fun e => ?_) (fun e => ?_)⟩
    · have l4 : zs.length ≠ 4 := fun z => by
        rw [hz.len, z] at e
        simp at e
      refine iteT ?_
      have q := ret H (Same.refl H)
      rw [disc_len l4] at q
      exact q
    · refine ⟨_, rfl, a, rfl, ⟨_, ha⟩, fun D nD => ?_⟩
      refine all_parts nD ha hz hl (fun x z H2 s2 hx b2' R q => ⟨rfl, _, rfl, x, z, rfl, hx, b2', q⟩) ?_ (fun x H R R' h q => h _ _ q)
      intro H2 s2 hD
      refine ⟨D, zs.map partB, rfl, .inl (.inl hD), _, rfl, ?_⟩
      refine ite2 (fun na => ?_) (fun na => ?_)
      · have hall : (zs.map partB).all id = false := by simpa using na
        have q := ret H2 s2
        rw [disc_no hall] at q
        exact q
      · have hall : (zs.map partB).all id = true := by simpa using na
        have l4 : zs.length = 4 := by
          have : (us.length : Int) = 4 := by simpa using e
          rw [← hz.len]
          omega
        obtain ⟨v0, v1, v2, v3, z0, z1, z2, z3, rfl, rfl, h0, h1, h2, h3⟩ := zs4 hz l4
        have hall' : (partB z0 && (partB z1 && (partB z2 && (partB z3 && true)))) = true := hall
        have hp := hall'
        simp only [Bool.and_eq_true, Bool.and_true] at hp
        obtain ⟨p0, p1, p2, p3⟩ := hp
        have j0 : IsQ K H2 v0 (qOf z0) := (h0.1.same s2).isQ p0
        have j1 : IsQ K H2 v1 (qOf z1) := (h1.1.same s2).isQ p1
        have j2 : IsQ K H2 v2 (qOf z2) := (h2.1.same s2).isQ p2
        have j3 : IsQ K H2 v3 (qOf z3) := (h3.1.same s2).isQ p3
        have c0 : Bq 200 (qOf z0) := part_bq p0 h0.2.1 h0.2.2
        have c1 : Bq 200 (qOf z1) := part_bq p1 h1.2.1 h1.2.2
        have c2 : Bq 200 (qOf z2) := part_bq p2 h2.2.1 h2.2.2
        have c3 : Bq 200 (qOf z3) := part_bq p3 h3.2.1 h3.2.2
        refine ⟨_, rfl, a, _, rfl, Same.seqT s2 ha, rfl, _, _, rfl, _, _, rfl, _, _, rfl, _, _, rfl, rfl, ?_⟩
        obtain ⟨x1, rfl, hx1⟩ := id j1
        refine ⟨_, rfl, _, _, dp_pair hx1, dp_pair (i0 H2), shaped_pair _ _, shaped_pair _ _, _, rfl, ?_⟩
        rw [eqv_pair, isz]
        have dis : discB [z0, z1, z2, z3] = (!decide (qOf z1 = 0) && decide (qOf z2 * qOf z2 + qOf z3 * qOf z3 - qOf z1 * qOf z0 = 1)) := by
          rw [disc4, hall']
          rfl
        refine ite2 (fun e2 => ?_) (fun e2 => ?_)
        · refine ⟨_, rfl, _, rfl, (by show 2 ≤ sizeLine; decide), fun t1 n1 => ⟨_, rfl, _, rfl, (by show 2 ≤ sizeLine; decide), fun t2 n2 => ?_⟩⟩
          have s3 := same_upd (o := .tup [v2, v3]) n1
          have s4 := same_upd (o := .tup [v2, v3]) n2
          have s34 := s3.trans s4
          refine ⟨_, _, _, _, _, _, rfl, isPl_at (s4 _ _ upd_same) (j2.same s34) (j3.same s34), isPl_at upd_same (j2.same s34) (j3.same s34), c2.mono (by decide), c3.mono (by decide), c2.mono (by decide), c3.mono (by decide), fun u1 H5 s5 k1' => ?_⟩
          have s35 := s34.trans s5
          refine ⟨_, rfl, _, rfl, _, _, _, _, rfl, j1.same s35, j0.same s35, c1.mono (by decide), c0.mono (by decide), trivial, fun u2 H6 s6 k2' => ?_⟩
          refine ⟨_, _, _, _, rfl, k1'.same s6, k2', ((c2.mul c2).add (c3.mul c3)).mono (by decide), (c1.mul c0).mono (by decide), trivial, fun u3 H7 s7 k3' => ?_⟩
          obtain ⟨x3, rfl, hx3⟩ := k3'
          refine ⟨_, _, dp_pair hx3, dp_pair (i1 H7), shaped_pair _ _, shaped_pair _ _, ?_⟩
          rw [eqv_pair, isone]
          have q := ret H7 ((s2.trans s35).trans (s6.trans s7))
          rw [dis, e2, Bool.true_and] at q
          exact q
        · have q := ret H2 s2
          rw [Bool.not_eq_true] at e2
          rw [dis, e2, Bool.false_and] at q
          exact q
end
end Gap
namespace Gap
open PySem PySem.Spec PyProof.Rows L2
section
variable {P : Program} {w : World} {K : PySem.W.Frag} {mg : Str → Option Value} {base : Heap}
abbrev sIsDiscL : Stmt := topS 30
theorem scIsDiscL : FnScope ["_law_thing", "_law_both", "_law_one"] ["_law_thing"] (defScope sIsDiscL) := ⟨rfl, rfl, rfl, by decide +kernel, rfl, by decide +kernel, by decide +kernel⟩
theorem ok_isDiscL {f : Addr} {fd : FuncData} {k : Nat} (F : Fun K "_law_is_disc" "_law_is_disc" sIsDiscL f fd) (T : Blt mg) (Ip : Cal P w K mg base k "_law_is_part" ["_law_one"] (spIsPart K)) (O : Own P w K mg base k) : FnOk P w K mg base CX0 (k + 1) f fd ["_law_thing"] (spIsDisc K) := by
  obtain ⟨fp, fdp, FP, bp, gp, kp⟩ := Ip.ex
  obtain ⟨f1, fd1, F1, b1, g1, k1⟩ := O.plus.ex
  obtain ⟨f2, fd2, F2, b2, g2, k2⟩ := O.minus.ex
  obtain ⟨f3, fd3, F3, b3, g3, k3⟩ := O.by_.ex
  refine F.ok scIsDiscL (fun vs H Q E h => ?_) (fun cdv A outer s H vs Q E hr h => ?_)
  · obtain ⟨a, us, zs, rfl, _⟩ := h
    rfl
  · obtain ⟨a, us, zs, rfl, ha, hz, hl, ret⟩ := h
    refine ⟨_, pss_cons (ps_if (pw_or (pt_cmpR op_ne (pe_callB call_len_seq (by rfl) T.len PySem.boot_len (pa_cons (pv 0) pa_nil)) pe_int (nomark _)) (pw_or (pt_not (pt_val (pe_callB (cr_all rfl) (by rfl) T.all (by decide +kernel) (pa_cons
          (pe_lc (own := [("_law_one", 2)]) (g := gName 2) (tt := tYes) rfl scIsDiscL.nd (pi_tup (pv 0)) (blkOk_by (own := [("_law_one", 2)]) (N := ["_law_thing", "_law_both", "_law_one"]) (sc := defScope sIsDiscL) (by decide +kernel)) (fun _ _ _ _ _ => pg_name (i := 2) scIsDiscL.nd rfl (.inl rfl)) (fun _ _ _ _ _ => pts_nil) (fun _ _ _ _ _ => pe_call FP hr (by rfl) gp kp bp .nil pass0 (pa_cons (pv 2) pa_nil))) pa_nil))))
          (pw_or1 (pt_cmpR op_eq (pe_ix ix_tup (pe_ix ix_tup (pv 0) pe_int (fun _ _ => rfl)) pe_int (fun _ _ => rfl)) pe_int (nomark _))))).pt
        (pss_one (ps_ret pe_bl)) pss_nil)
      (pss_cons (ps_set (i := 1) scIsDiscL.nd rfl (.inl rfl) (pe_call F1 hr (by rfl) g1 k1 b1 .nil pass0 (pa_cons (pe_call F3 hr (by rfl) g3 k3 b3 .nil pass0 (pa_cons (pe_ix ix_tup (pv 0) pe_int (fun _ _ => rfl)) (pa_cons (pe_ix ix_tup (pv 0) pe_int (fun _ _ => rfl)) pa_nil))) (pa_cons (pe_call F3 hr (by rfl) g3 k3 b3 .nil pass0 (pa_cons (pe_ix ix_tup (pv 0) pe_int (fun _ _ => rfl)) (pa_cons (pe_ix ix_tup (pv 0) pe_int (fun _ _ => rfl)) pa_nil))) pa_nil))))
      (pss_one (ps_ret (pe_cmpR (op_eqD hr.units) (pe_call F2 hr (by rfl) g2 k2 b2 .nil pass0 (pa_cons (pv 1) (pa_cons (pe_call F3 hr (by rfl) g3 k3 b3 .nil pass0 (pa_cons (pe_ix ix_tup (pv 0) pe_int (fun _ _ => rfl)) (pa_cons (pe_ix ix_tup (pv 0) pe_int (fun _ _ => rfl)) pa_nil))) pa_nil))) (pe_tup (pa_cons pe_int (pa_cons pe_int pa_nil))) (nomark _))))), ?_⟩
    refine ⟨_, rfl, a, us, rfl, .inr ha, rfl, _, rfl, ite2 (fun e => ?_) (fun e => ?_)⟩
    · have l4 : zs.length ≠ 4 := fun z => by
        rw [hz.len, z] at e
        simp at e
      refine iteT ?_
      have q := ret H (Same.refl H)
      rw [disc_len l4] at q
      exact q
    · refine ⟨_, rfl, a, rfl, ⟨_, ha⟩, fun D nD => ?_⟩
      refine all_parts nD ha hz hl (fun x z H2 s2 hx b2' R q => ⟨rfl, _, rfl, x, z, rfl, hx, b2', q⟩) ?_ (fun x H R R' h q => h _ _ q)
      intro H2 s2 hD
      refine ⟨D, zs.map partB, rfl, .inl (.inl hD), _, rfl, ?_⟩
      refine ite2 (fun na => ?_) (fun na => ?_)
      · have hall : (zs.map partB).all id = false := by simpa using na
        refine iteT ?_
        have q := ret H2 s2
        rw [disc_no hall] at q
        exact q
      · have hall : (zs.map partB).all id = true := by simpa using na
        have l4 : zs.length = 4 := by
          have : (us.length : Int) = 4 := by simpa using e
          rw [← hz.len]
          omega
        obtain ⟨v0, v1, v2, v3, z0, z1, z2, z3, rfl, rfl, h0, h1, h2, h3⟩ := zs4 hz l4
        have hall' : (partB z0 && (partB z1 && (partB z2 && (partB z3 && true)))) = true := hall
        have hp := hall'
        simp only [Bool.and_eq_true, Bool.and_true] at hp
        obtain ⟨p0, p1, p2, p3⟩ := hp
        have j0 : IsQ K H2 v0 (qOf z0) := (h0.1.same s2).isQ p0
        have j1 : IsQ K H2 v1 (qOf z1) := (h1.1.same s2).isQ p1
        have j2 : IsQ K H2 v2 (qOf z2) := (h2.1.same s2).isQ p2
        have j3 : IsQ K H2 v3 (qOf z3) := (h3.1.same s2).isQ p3
        have c0 : Bq 200 (qOf z0) := part_bq p0 h0.2.1 h0.2.2
        have c1 : Bq 200 (qOf z1) := part_bq p1 h1.2.1 h1.2.2
        have c2 : Bq 200 (qOf z2) := part_bq p2 h2.2.1 h2.2.2
        have c3 : Bq 200 (qOf z3) := part_bq p3 h3.2.1 h3.2.2
        have ha2 := Same.seqT s2 ha
        obtain ⟨x1, rfl, hx1⟩ := id j1
        have dis : discB [z0, z1, z2, z3] = (!decide (qOf z1 = 0) && decide (qOf z2 * qOf z2 + qOf z3 * qOf z3 - qOf z1 * qOf z0 = 1)) := by
          rw [disc4, hall']
          rfl
        refine ⟨_, rfl, a, _, 1, _, rfl, rfl, ha2, atI_nat (j := 1) rfl, x1, _, 0, _, rfl, rfl, hx1, atI_nat (j := 0) rfl, rfl, _, rfl, ite2 (fun e2 => ?_) (fun e2 => ?_)⟩
        · have z0' : qOf z1 = 0 := by
            have y : (qOf z1).num = 0 := by simpa using e2
            exact Rat.num_eq_zero.mp y
          have q := ret H2 s2
          rw [dis, decide_eq_true z0', Bool.not_true, Bool.false_and] at q
          exact q
        · have z0' : ¬ qOf z1 = 0 := fun y => by
            rw [y] at e2
            simp at e2
          refine ⟨_, rfl, a, _, 2, _, rfl, rfl, ha2, atI_nat (j := 2) rfl, _, rfl, a, _, 2, _, rfl, rfl, ha2, atI_nat (j := 2) rfl, _, _, _, _, rfl, j2, j2, c2.mono (by decide), c2.mono (by decide), trivial, fun u1 H3 s3 m1 => ?_⟩
          have ha3 := Same.seqT s3 ha2
          refine ⟨_, rfl, a, _, 3, _, rfl, rfl, ha3, atI_nat (j := 3) rfl, _, rfl, a, _, 3, _, rfl, rfl, ha3, atI_nat (j := 3) rfl, _, _, _, _, rfl, j3.same s3, j3.same s3, c3.mono (by decide), c3.mono (by decide), trivial, fun u2 H4 s4 m2 => ?_⟩
          refine ⟨_, _, _, _, rfl, m1.same s4, m2, (c2.mul c2).mono (by decide), (c3.mul c3).mono (by decide), trivial, fun u3 H5 s5 m3 => ?_⟩
          have s25 := (s3.trans s4).trans s5
          have ha5 := Same.seqT s25 ha2
          refine ⟨_, rfl, _, rfl, a, _, 1, _, rfl, rfl, ha5, atI_nat (j := 1) rfl, _, rfl, a, _, 0, _, rfl, rfl, ha5, atI_nat (j := 0) rfl, _, _, _, _, rfl, j1.same s25, j0.same s25, c1.mono (by decide), c0.mono (by decide), trivial, fun u4 H6 s6 m4 => ?_⟩
          refine ⟨_, _, _, _, rfl, m3.same s6, m4, ((c2.mul c2).add (c3.mul c3)).mono (by decide), (c1.mul c0).mono (by decide), trivial, fun u5 H7 s7 m5 => ⟨(by show 2 ≤ sizeLine; decide), fun t nt => ?_⟩⟩
          have s8 := same_upd (o := .tup [.int 1, .int 1]) nt
          obtain ⟨x5, rfl, hx5⟩ := m5.same s8
          refine ⟨_, _, dp_pair hx5, dp_pair (.inl (.inl upd_same)), shaped_pair _ _, shaped_pair _ _, ?_⟩
          rw [eqv_pair, isone]
          have q := ret _ ((s2.trans s25).trans ((s6.trans s7).trans s8))
          rw [dis, decide_eq_false z0', Bool.not_false, Bool.true_and] at q
          exact q
end
end Gap
namespace Gap
open PySem PySem.Spec PyProof.Rows L2
section
variable {P : Program} {w : World} {K : PySem.W.Frag} {mg : Str → Option Value} {base : Heap}
abbrev sLaw : Stmt := topS 32
abbrev nLaw : List Str := ["_law_script", "_law_bag_here", "_law_turn_here", "_law_thing", "_law_at", "_law_fork", "_law_above", "_law_beneath", "_law_odd", "_law_turn_of"]
theorem scLaw : FnScope nLaw ["_law_script"] (defScope sLaw) := ⟨rfl, rfl, rfl, by decide +kernel, rfl, by decide +kernel, by decide +kernel⟩
def spLaw (K : PySem.W.Frag) : Sp := fun vs H Q _ => ∃ (a : Addr) (ns : List Int), vs = [.ref a] ∧ SqL K H a (ns.map V.int) ∧ ns.length ≤ 63 ∧ ∀ H', Q (.bl true) H'
theorem IsQ.isZ {H : Hp} {v : V} {q : Rat} (h : IsQ K H v q) : IsZ K H v (q.num, (q.den : Int)) := h
theorem isZ_at {H : Hp} {p : Addr} {i j : Int} (h : H p = some (.tup [.int i, .int j])) : IsZ K H (.ref p) (i, j) := ⟨p, rfl, .inl (.inl h)⟩
theorem small_bi {n : Nat} {x : Int} (h : Bi n x) (l : n ≤ 200) : Bi 200 x := h.mono l
theorem ok_law {f : Addr} {fd : FuncData} {k : Nat} (F : Fun K "law" "law" sLaw f fd) (T : Blt mg) (B : Cal P w K mg base k "_law_bag" ["_law_script"] (spBag K)) (Pu : Cal P w K mg base k "_law_pull" ["_law_bag_here", "_law_many"] spPull) (Fr : Cal P w K mg base k "_law_free_disc" ["_law_bag_here"] (spFree K)) (Dr : Cal P w K mg base k "_law_part" ["_law_bag_here"] (spDrawn K))
    (Tu : Cal P w K mg base k "_law_turn" ["_law_bag_here"] (spTurn K)) (Is : Cal P w K mg base k "is_disc" ["thing"] (spIsDisc K)) (Il : Cal P w K mg base k "_law_is_disc" ["_law_thing"] (spIsDisc K)) (Sm : Cal P w K mg base k "_law_same" ["_law_told", "_law_due"] (spSame K 0)) : FnOk P w K mg base CX0 (k + 1) f fd ["_law_script"] (spLaw K) := by
  obtain ⟨fB, fdB, FB, bB, gB, kB⟩ := B.ex
  obtain ⟨fP, fdP, FP, bP, gP, kP⟩ := Pu.ex
  obtain ⟨fF, fdF, FF, bF, gF, kF⟩ := Fr.ex
  obtain ⟨fD, fdD, FD, bD, gD, kD⟩ := Dr.ex
  obtain ⟨fT, fdT, FT, bT, gT, kT⟩ := Tu.ex
  obtain ⟨fI, fdI, FI, bI, gI, kI⟩ := Is.ex
  obtain ⟨fL, fdL, FL, bL, gL, kL⟩ := Il.ex
  obtain ⟨fM, fdM, FM, bM, gM, kM⟩ := Sm.ex
  refine F.ok scLaw (fun vs H Q E h => ?_) (fun cdv A outer s H vs Q E hr h => ?_)
  · obtain ⟨a, ns, rfl, _⟩ := h
    rfl
  · obtain ⟨a, ns, rfl, hS, hlen, ret⟩ := h
    refine ⟨_, pss_cons (ps_set (i := 1) scLaw.nd rfl (.inl rfl) (pe_call FB hr (by rfl) gB kB bB .nil pass0 (pa_cons (pv 0) pa_nil)))
      (pss_cons (ps_for PassesOwn.never rfl (pi_range1 rfl T.rng (pa_cons pe_int pa_nil)) (pg_name (i := 2) scLaw.nd rfl (.inl rfl))
        (pss_cons (ps_set (i := 3) scLaw.nd rfl (.inl rfl) (pe_call FF hr (by rfl) gF kF bF .nil pass0 (pa_cons (pv 1) pa_nil)))
        (pss_cons (ps_set (i := 4) scLaw.nd rfl (.inl rfl) (pe_call FP hr (by rfl) gP kP bP .nil pass0 (pa_cons (pv 1) (pa_cons pe_int pa_nil))))
        (pss_cons (ps_set (i := 5) scLaw.nd rfl (.inl rfl) (pe_call FP hr (by rfl) gP kP bP .nil pass0 (pa_cons (pv 1) (pa_cons pe_int pa_nil))))
        (pss_cons (ps_asg (pe_ix ix_tup (pv 3) (pv 4) (fun _ _ => rfl)) (pg_tup rfl (pgs_cons (pg_name (i := 6) scLaw.nd rfl (.inl rfl)) (pgs_cons (pg_name (i := 7) scLaw.nd rfl (.inl rfl)) pgs_nil))))
        (pss_cons (ps_set (i := 8) scLaw.nd rfl (.inl rfl) (pe_lst (pa_cons (pe_ix ix_tup (pv 3) (pv 4) (fun _ _ => rfl)) (pa_cons (pe_call FD hr (by rfl) gD kD bD .nil pass0 (pa_cons (pv 1) pa_nil)) (pa_cons (pe_tup (pa_cons pe_int (pa_cons pe_int pa_nil))) pa_nil)))))
        (pss_cons (ps_set (i := 8) scLaw.nd rfl (.inl rfl) (pe_op op_cat (pv 8) (pe_lst (pa_cons (pe_tup (pa_cons (pe_op op_mul (pv 6) pe_int) (pa_cons (pe_op op_mul (pv 7) pe_int) pa_nil))) (pa_cons (pe_tup (pa_cons (pv 6) (pa_cons (pe_op op_sub pe_int (pv 7)) pa_nil))) pa_nil)))))
        (Evl.pss_cut (ps_if (pt_cmpR op_lt (pv 5) pe_int (nomark _)) (pss_one (ps_set (i := 3) scLaw.nd rfl (.inl rfl) (pe_op op_catA (pe_op op_catA (pe_slice sl_tupA (pv 3) po_none (po_some (pv 4))) (pe_tup (pa_cons (pe_ix ix_list (pv 8) (pv 5) (fun _ _ => rfl)) pa_nil))) (pe_slice sl_tupA (pv 3) (po_some (pe_op op_add (pv 4) pe_int)) po_none)))) pss_nil)
        (Evl.pss_cut (ps_if (pt_cmpR op_eq (pv 5) pe_int (nomark _)) (pss_one (ps_set (i := 3) scLaw.nd rfl (.inl rfl) (pe_ifExp (pt_cmpR op_eq (pe_call FP hr (by rfl) gP kP bP .nil pass0 (pa_cons (pv 1) (pa_cons pe_int pa_nil))) pe_int (nomark _))
            (pe_op op_catA (pe_slice sl_tupA (pv 3) po_none (po_some (pv 4))) (pe_slice sl_tupA (pv 3) (po_some (pe_op op_add (pv 4) pe_int)) po_none)) (pe_op op_catA (pv 3) (pe_tup (pa_cons (pe_tup (pa_cons pe_int (pa_cons pe_int pa_nil))) pa_nil)))))) pss_nil)
        (Evl.pss_cut (ps_if (pt_cmpR op_eq (pv 5) pe_int (nomark _)) (pss_cons (ps_set (i := 9) scLaw.nd rfl (.inl rfl) (pe_call FT hr (by rfl) gT kT bT .nil pass0 (pa_cons (pv 1) pa_nil)))
            (pss_one (ps_set (i := 3) scLaw.nd rfl (.inl rfl) (pe_tup (pa_cons (pe_tup (pa_cons pe_int (pa_cons pe_int pa_nil))) (pa_cons (pe_tup (pa_cons pe_int (pa_cons pe_int pa_nil))) (pa_cons (pe_ix ix_tup (pv 9) pe_int (fun _ _ => rfl)) (pa_cons (pe_ix ix_tup (pv 9) pe_int (fun _ _ => rfl)) pa_nil)))))))) pss_nil)
        (pss_one (ps_if (pt_not (pt_val (pe_call FM hr (by rfl) gM kM bM .nil pass0 (pa_cons (pe_call FI hr (by rfl) gI kI bI .nil pass0 (pa_cons (pv 3) pa_nil)) (pa_cons (pe_call FL hr (by rfl) gL kL bL .nil pass0 (pa_cons (pv 3) pa_nil)) pa_nil))))) pss_never pss_nil))))))))))))
      (pss_one (ps_ret (pe_and (pe_cmpR op_isBl (pe_call FI hr (by rfl) gI kI bI .nil pass0 (pa_cons (pe_tup pa_nil) pa_nil)) pe_bl (nomark _))
        (pe_one (pe_cmpR op_isBl (pe_call FI hr (by rfl) gI kI bI .nil pass0 (pa_cons (pe_tup (pa_cons (pe_tup (pa_cons pe_int (pa_cons pe_int pa_nil))) (pa_cons (pe_tup (pa_cons (pe_un un_neg pe_int) (pa_cons pe_int pa_nil))) (pa_cons (pe_tup (pa_cons pe_int (pa_cons pe_int pa_nil))) (pa_cons (pe_tup (pa_cons pe_int (pa_cons pe_int pa_nil))) pa_nil))))) pa_nil)) pe_bl (nomark _))))))), ?_⟩
    refine ⟨_, rfl, a, ns, rfl, hS, hlen, fun b bl H1 s1 nb B1 => ?_⟩
    refine ⟨6, rfl, by decide, by decide, for_range (lo := 0) (n := 6) (fun i σ H' => ∃ x2 x3 x4 x5 x6 x7 x8 x9 : Option V, σ = [some (.ref a), some (.ref b), x2, x3, x4, x5, x6, x7, x8, x9] ∧ Bag H' b bl) ⟨_, _, _, _, _, _, _, _, rfl, B1⟩ ?_ ?_⟩
    · rintro i σ H2 hi ⟨x2, x3, x4, x5, x6, x7, x8, x9, rfl, B2⟩
      refine ⟨_, rfl, b, bl, rfl, B2, fun vd D H3 s3 B3 iD ok => ?_⟩
      refine ⟨_, rfl, b, bl, 4, rfl, by decide, by decide +kernel, B3, fun at' H4 s4 B4 a0 a4 => ?_⟩
      refine ⟨_, rfl, b, bl, 7, rfl, by decide, by decide +kernel, B4, fun fork H5 s5 B5 f0 f7 => ?_⟩
      have iD := B4.isD s5 (B3.isD s4 iD)
      obtain ⟨da, v0, v1, v2, v3, rfl, hd, h0, h1, h2, h3⟩ := iD
      clear s3 s4 s5 B2 B3 B4
      have zs : Zs K H5 [v0, v1, v2, v3] [(D.back.num, (D.back.den : Int)), (D.bend.num, (D.bend.den : Int)), (D.x.num, (D.x.den : Int)), (D.y.num, (D.y.den : Int))] :=
        .cons ⟨h0, ok.b0.1.mono (by decide), ok.b0.2.mono (by decide)⟩ (.cons ⟨h1, ok.b1.1.mono (by decide), ok.b1.2.mono (by decide)⟩ (.cons ⟨h2, ok.b2.1.mono (by decide), ok.b2.2.mono (by decide)⟩ (.cons ⟨h3, ok.b3.1.mono (by decide), ok.b3.2.mono (by decide)⟩ .nil)))
      -- the one that is picked
      obtain ⟨vp, hvp⟩ : ∃ v, [v0, v1, v2, v3][at'.toNat]? = some v := ⟨_, List.getElem?_eq_getElem (by simp; omega)⟩
      have zsmall : ∀ z ∈ [(D.back.num, (D.back.den : Int)), (D.bend.num, (D.bend.den : Int)), (D.x.num, (D.x.den : Int)), (D.y.num, (D.y.den : Int))], Bi 70 z.1 ∧ Bi 70 z.2 := fun z hz => by
        simp only [List.mem_cons, List.not_mem_nil, or_false] at hz
        rcases hz with rfl | rfl | rfl | rfl
        · exact ok.b0
        · exact ok.b1
        · exact ok.b2
        · exact ok.b3
      obtain ⟨z, hzi, ⟨pa, rfl, hpa⟩, _⟩ := zs.get hvp
      have zb := zsmall z (List.mem_of_getElem? hzi)
      have hat : atI [v0, v1, v2, v3] at' = some (.ref pa) := at_of (j := at'.toNat) (by omega) hvp
      refine ⟨_, rfl, _, rfl, da, _, at', _, rfl, rfl, hd, hat, pa, _, rfl, hpa, rfl, _, _, rfl, _, _, rfl, rfl, ?_⟩
      refine ⟨_, rfl, _, rfl, da, _, at', _, rfl, rfl, hd, hat, _, rfl, b, bl, rfl, B5, fun vq q H6 s6 B6 iq bq => ⟨(by show 2 ≤ sizeLine; decide), fun o1 n1 => ⟨(by show 3 ≤ sizeLine; decide), fun l1 m1 => ?_⟩⟩⟩
      have hd6 := B5.tupT s6 hd
      have zs6 : Zs K H6 [v0, v1, v2, v3] _ := zs.mono fun v z y => B5.isZ s6 y
      have hpa6 := B5.tupT s6 hpa
      have t1 := same_upd (o := .tup [.int 0, .int 1]) n1
      have t2 := same_upd (o := .lst [.ref pa, vq, .ref o1]) m1
      refine ⟨_, rfl, _, rfl, _, _, rfl, rfl, .inr ⟨by decide, by decide⟩, _, rfl, _, _, rfl, rfl, .inr ⟨by decide, by decide⟩, (by show 2 ≤ sizeLine; decide), fun o2 n2 => ⟨_, rfl, _, rfl, _, _, rfl, rfl, (by show 2 ≤ sizeLine; decide), fun o3 n3 => ⟨(by show 2 ≤ sizeLine; decide), fun l2 m2 => ?_⟩⟩⟩
      have t3 := same_upd (o := .tup [.int (z.1 * 2), .int (z.2 * 2)]) n2
      have t4 := same_upd (o := .tup [.int z.1, .int (0 - z.2)]) n3
      have t5 := same_upd (o := .lst [.ref o2, .ref o3]) m2
      refine ⟨l1, l2, _, _, rfl, rfl, t5 _ _ (t4 _ _ (t3 _ _ upd_same)), upd_same, (by show 5 ≤ sizeLine; decide), fun l3 m3 => ?_⟩
      have t6 := same_upd (o := .lst ([.ref pa, vq, .ref o1] ++ [.ref o2, .ref o3])) m3
      have t36 := ((t3.trans t4).trans t5).trans t6
      have t16 := (t1.trans t2).trans t36
      have zl : Zs K _ [.ref pa, vq, .ref o1, .ref o2, .ref o3] [z, (q.num, (q.den : Int)), (0, 1), (z.1 * 2, z.2 * 2), (z.1, 0 - z.2)] :=
        .cons ⟨⟨pa, rfl, Same.seqT t16 hpa6⟩, zb.1.mono (by decide), zb.2.mono (by decide)⟩ (.cons ⟨(iq.same t16).isZ, bq.1.mono (by decide), bq.2.mono (by decide)⟩ (.cons ⟨isZ_at (t36 _ _ (t2 _ _ upd_same)), by unfold Bi; decide, by unfold Bi; decide⟩
          (.cons ⟨isZ_at (t6 _ _ (t5 _ _ (t4 _ _ upd_same))), (zb.1.mul (show Bi 2 2 by unfold Bi; decide)).mono (by decide), (zb.2.mul (show Bi 2 2 by unfold Bi; decide)).mono (by decide)⟩ (.cons ⟨isZ_at (t6 _ _ (t5 _ _ upd_same)), zb.1.mono (by decide), ((show Bi 70 0 by unfold Bi; decide).sub zb.2).mono (by decide)⟩ .nil))))
      have hl3 := upd_same (H := upd (upd (upd (upd (upd H6 o1 (.tup [.int 0, .int 1])) l1 (.lst [.ref pa, vq, .ref o1])) o2 (.tup [.int (z.1 * 2), .int (z.2 * 2)])) o3 (.tup [.int z.1, .int (0 - z.2)])) l2 (.lst [.ref o2, .ref o3])) (a := l3) (o := .lst ([.ref pa, vq, .ref o1] ++ [.ref o2, .ref o3]))
      have B7 := B6.same t16
      have tz7 : TZ K _ 4 (.ref da) := ⟨da, _, _, rfl, Same.seqT t16 hd6, zs6.same t16, by show 4 ≤ 4; decide⟩
      generalize upd (upd (upd (upd (upd (upd H6 o1 (.tup [.int 0, .int 1])) l1 (.lst [.ref pa, vq, .ref o1])) o2 (.tup [.int (z.1 * 2), .int (z.2 * 2)])) o3 (.tup [.int z.1, .int (0 - z.2)])) l2 (.lst [.ref o2, .ref o3])) l3 (.lst ([.ref pa, vq, .ref o1] ++ [.ref o2, .ref o3])) = H7 at zl hl3 B7 tz7
      clear t1 t2 t3 t4 t5 t6 t36 t16 zs6 hd6 hpa6 zs hd
      -- three ways to spoil it
      refine ⟨fun σ' H' => ∃ (vt : V), σ' = [some (.ref a), some (.ref b), some (.int (0 + (i : Int))), some vt, some (.int at'), some (.int fork), some (.int z.1), some (.int z.2), some (.ref l3), x9] ∧ Bag H' b bl ∧ TZ K H' 20 vt, ?_, ?_⟩
      · refine ⟨_, rfl, _, _, rfl, rfl, _, rfl, ite2 (fun e => ?_) (fun e => ?_)⟩
        · have e5 : fork < 5 := of_decide_eq_true e
          refine ⟨_, rfl, _, rfl, at', rfl, tz_cut tz7 fun w1 G1 u1 y1 => ?_⟩
          obtain ⟨vo, hvo⟩ : ∃ v, [V.ref pa, vq, .ref o1, .ref o2, .ref o3][fork.toNat]? = some v := ⟨_, List.getElem?_eq_getElem (by simp; omega)⟩
          obtain ⟨zo, _, hzo, bo1, bo2⟩ := zl.get hvo
          refine ⟨_, rfl, _, rfl, l3, _, fork, _, rfl, rfl, .inl (.inl (u1 _ _ hl3)), at_of (j := fork.toNat) (by omega) hvo, (by show 1 ≤ sizeLine; decide), fun t nt => ?_⟩
          have u2 := same_upd (o := .tup [vo]) nt
          refine tz_cat (y1.same u2) (n := 1) ⟨t, [vo], [zo], rfl, .inl (.inl upd_same), .cons ⟨(hzo.same u1).same u2, bo1, bo2⟩ .nil, by show 1 ≤ 1; decide⟩ (by decide) fun w2 G2 u3 y2 => ?_
          refine ⟨_, rfl, _, rfl, _, _, rfl, rfl, _, rfl, ?_⟩
          unfold tNoPart
          refine tz_cut (tz7.same ((u1.trans u2).trans u3)) fun w3 G3 u4 y3 => ?_
          refine tz_cat (y2.same u4) y3 (by decide) fun w4 G4 u5 y4 => ?_
          exact ⟨w4, rfl, B7.same (((u1.trans u2).trans u3).trans (u4.trans u5)), y4.mono (by decide)⟩
        · exact ⟨.ref da, rfl, B7, tz7.mono (by decide)⟩
      · rintro σ' H8 ⟨vt, rfl, B8, tz8⟩
        refine ⟨fun σ' H' => ∃ (vt : V), σ' = [some (.ref a), some (.ref b), some (.int (0 + (i : Int))), some vt, some (.int at'), some (.int fork), some (.int z.1), some (.int z.2), some (.ref l3), x9] ∧ Bag H' b bl ∧ TZ K H' 50 vt, ?_, ?_⟩
        · refine ⟨_, rfl, rfl, _, rfl, ite2 (fun e => ?_) (fun e => ?_)⟩
          · refine ⟨_, rfl, b, bl, 2, rfl, by decide, by decide +kernel, B8, fun r2 H9 s9 B9 _ _ => ⟨rfl, _, rfl, ?_⟩⟩
            have tz9 := B8.tz s9 tz8
            refine ite2 (fun _ => ?_) (fun _ => ?_)
            · refine ⟨_, rfl, _, rfl, at', rfl, tz_cut tz9 fun w1 G1 u1 y1 => ?_⟩
              refine ⟨_, rfl, _, rfl, _, _, rfl, rfl, _, rfl, ?_⟩
              unfold tNoPart
              refine tz_cut (tz9.same u1) fun w3 G3 u4 y3 => ?_
              refine tz_cat (y1.same u4) y3 (by decide) fun w4 G4 u5 y4 => ?_
              exact ⟨w4, rfl, B9.same ((u1.trans u4).trans u5), y4.mono (by decide)⟩
            · refine ⟨_, rfl, (by show 2 ≤ sizeLine; decide), fun t nt => ⟨(by show 1 ≤ sizeLine; decide), fun t' nt' => ?_⟩⟩
              have u1 := same_upd (o := .tup [.int 0, .int 1]) nt
              have u2 := same_upd (o := .tup [.ref t]) nt'
              refine tz_cat (tz9.same (u1.trans u2)) (n := 1) ⟨t', [.ref t], [(0, 1)], rfl, .inl (.inl upd_same), .cons ⟨isZ_at (u2 _ _ upd_same), by unfold Bi; decide, by unfold Bi; decide⟩ .nil, by show 1 ≤ 1; decide⟩ (by decide) fun w4 G4 u5 y4 => ?_
              exact ⟨w4, rfl, B9.same ((u1.trans u2).trans u5), y4.mono (by decide)⟩
          · exact ⟨vt, rfl, B8, tz8.mono (by decide)⟩
        · clear tz8 B8 vt
          rintro σ' H9 ⟨vt, rfl, B9, tz9⟩
          refine ⟨fun σ' H' => ∃ (vt : V) (y9 : Option V), σ' = [some (.ref a), some (.ref b), some (.int (0 + (i : Int))), some vt, some (.int at'), some (.int fork), some (.int z.1), some (.int z.2), some (.ref l3), y9] ∧ Bag H' b bl ∧ TZ K H' 100 vt, ?_, ?_⟩
          · refine ⟨_, rfl, rfl, _, rfl, ite2 (fun e => ?_) (fun e => ?_)⟩
            · refine ⟨_, rfl, b, bl, rfl, B9, fun vu p q' Ha sa Ba iu _ bp bq' => ?_⟩
              obtain ⟨ua, x, y, rfl, hu, hx, hy⟩ := iu
              refine ⟨(by show 2 ≤ sizeLine; decide), fun t1 e1 => ⟨(by show 2 ≤ sizeLine; decide), fun t2 e2 => ?_⟩⟩
              have u1 := same_upd (o := .tup [.int 0, .int 1]) e1
              have u2 := same_upd (o := .tup [.int 0, .int 1]) e2
              have u12 := u1.trans u2
              refine ⟨_, rfl, ua, _, 0, _, rfl, rfl, Same.seqT u12 hu, atI_nat (j := 0) rfl, _, rfl, ua, _, 1, _, rfl, rfl, Same.seqT u12 hu, atI_nat (j := 1) rfl, (by show 4 ≤ sizeLine; decide), fun t3 e3 => ?_⟩
              have u3 := same_upd (o := .tup [.ref t1, .ref t2, x, y]) e3
              have u13 := u12.trans u3
              refine ⟨.ref t3, _, rfl, Ba.same u13, ⟨t3, _, [(0, 1), (0, 1), (p.num, (p.den : Int)), (q'.num, (q'.den : Int))], rfl, .inl (.inl upd_same), .cons ⟨isZ_at (u3 _ _ (u2 _ _ upd_same)), by unfold Bi; decide, by unfold Bi; decide⟩ (.cons ⟨isZ_at (u3 _ _ upd_same), by unfold Bi; decide, by unfold Bi; decide⟩ (.cons ⟨(hx.same u13).isZ, bp.1.mono (by decide), bp.2.mono (by decide)⟩ (.cons ⟨(hy.same u13).isZ, bq'.1.mono (by decide), bq'.2.mono (by decide)⟩ .nil))), by show 4 ≤ 100; decide⟩⟩
            · exact ⟨vt, _, rfl, B9, tz9.mono (by decide)⟩
          · clear tz9 B9 vt
            rintro σ' Ha ⟨vt, y9, rfl, Ba, ta, us, zz, rfl, ht, hz, hl⟩
            refine ⟨_, rfl, ta, us, zz, rfl, ht, hz, hl, fun Hb sb => ?_⟩
            refine ⟨_, rfl, ta, us, zz, rfl, Same.seqT sb ht, hz.same sb, hl, fun Hc sc => ?_⟩
            refine ⟨_, _, rfl, Eqv.flat (.inr (.inl ⟨_, rfl⟩)), fun Hd sd => ⟨_, rfl, iteF ?_⟩⟩
            exact ⟨_, _, _, _, _, _, _, _, rfl, Ba.same ((sb.trans sc).trans sd)⟩
    · rintro σ H2 ⟨x2, x3, x4, x5, x6, x7, x8, x9, rfl, B2⟩
      refine ⟨Nat.zero_le _, fun t0 n0 => ⟨t0, [], [], rfl, .inl (.inl upd_same), .nil, Nat.zero_le _, fun H3 s3 => ⟨false, false, rfl, rfl, _, rfl, iteT ?_⟩⟩⟩
      refine ⟨(by show 2 ≤ sizeLine; decide), fun t1 n1 => ⟨_, rfl, (by show 2 ≤ sizeLine; decide), fun t2 n2 => ⟨(by show 2 ≤ sizeLine; decide), fun t3 n3 => ⟨(by show 2 ≤ sizeLine; decide), fun t4 n4 => ⟨(by show 4 ≤ sizeLine; decide), fun t5 n5 => ?_⟩⟩⟩⟩⟩
      have u1 := same_upd (o := .tup [.int 1, .int 1]) n1
      have u2 := same_upd (o := .tup [.int (-1), .int 1]) n2
      have u3 := same_upd (o := .tup [.int 0, .int 1]) n3
      have u4 := same_upd (o := .tup [.int 0, .int 1]) n4
      have u5 := same_upd (o := .tup [.ref t1, .ref t2, .ref t3, .ref t4]) n5
      refine ⟨t5, _, [(1, 1), (-1, 1), (0, 1), (0, 1)], rfl, .inl (.inl upd_same), .cons ⟨isZ_at (u5 _ _ (u4 _ _ (u3 _ _ (u2 _ _ upd_same)))), by unfold Bi; decide, by unfold Bi; decide⟩ (.cons ⟨isZ_at (u5 _ _ (u4 _ _ (u3 _ _ upd_same))), by unfold Bi; decide, by unfold Bi; decide⟩ (.cons ⟨isZ_at (u5 _ _ (u4 _ _ upd_same)), by unfold Bi; decide, by unfold Bi; decide⟩ (.cons ⟨isZ_at (u5 _ _ upd_same), by unfold Bi; decide, by unfold Bi; decide⟩ .nil))), (by show 4 ≤ 100; decide), fun H4 s4 => ?_⟩
      have e : discB [(1, 1), (-1, 1), (0, 1), (0, 1)] = true := by decide +kernel
      rw [e]
      exact ⟨true, true, rfl, rfl, ret _⟩
end
end Gap
namespace Gap
open PySem PySem.Spec PyProof.Rows L2
/-! ### what the top has written -/
def FnAt (K : PySem.W.Frag) (name : Str) (st : Stmt) : Prop := ∃ (f : Addr) (fd : FuncData), Fun K name name st f fd ∧ PySem.W.nsIn K mainGlobals name = some (some (.ref f))
theorem fnAt {K : PySem.W.Frag} {name : Str} {st : Stmt} {f : Addr} {oc kV doc pm cdv ct : Value} {od an : Option Addr} {osl : Array (Option Value)} (a : PySem.W.nsIn K mainGlobals name = some (some (.ref f)))
    (l : K.lookup f = some ⟨oc, od, .func (PySem.W.fnOf name name (defArgs st) (defBody st) (defScope st) .none kV doc pm an cdv ct), osl⟩) (c : PySem.W.codeIn K cdv name = true) (k : PySem.W.keepIn K (.ref f) = true) : FnAt K name st := ⟨f, _, fun_mk l c k, a⟩
/-- a def with one default, an int -/
def FnAtD (K : PySem.W.Frag) (name : Str) (st : Stmt) (dvs : List V) (kws : List (Str × V)) : Prop := ∃ (f : Addr) (fd : FuncData), FunD K name name (defArgs st) (defBody st) (defScope st) dvs kws f fd ∧ PySem.W.nsIn K mainGlobals name = some (some (.ref f))
theorem fnAtD1 {K : PySem.W.Frag} {name : Str} {st : Stmt} {f T : Addr} {i : Int} {t : Tok} {n : Nat} {oc oc2 kV doc pm cdv ct : Value} {od od2 an : Option Addr} {osl osl2 : Array (Option Value)} (a : PySem.W.nsIn K mainGlobals name = some (some (.ref f)))
    (l : K.lookup f = some ⟨oc, od, .func (PySem.W.fnOf name name (defArgs st) (defBody st) (defScope st) (.ref T) kV doc pm an cdv ct), osl⟩) (c : PySem.W.codeIn K cdv name = true) (k : PySem.W.keepIn K (.ref f) = true)
    (d : K.lookup T = some ⟨oc2, od2, .seq #[.int i t] n, osl2⟩) : FnAtD K name st [.int i] [] :=
  ⟨f, _, ⟨⟨oc, od, .ref T, kV, doc, pm, an, cdv, ct, osl, rfl, l, c, .inr ⟨by simp, T, _, [.int i t], n, rfl, d, rfl, .cons ⟨t, rfl⟩ .nil⟩, .inl rfl⟩, k⟩, a⟩
/-- a def with one default behind the star, a pair of ints -/
theorem fnAtK1 {K : PySem.W.Frag} {name y : Str} {st : Stmt} {f D T : Addr} {i j : Int} {t u : Tok} {n : Nat} {oc doc pm cdv ct : Value} {od od2 an : Option Addr} {osl osl2 : Array (Option Value)} (a : PySem.W.nsIn K mainGlobals name = some (some (.ref f)))
    (l : K.lookup f = some ⟨oc, od, .func (PySem.W.fnOf name name (defArgs st) (defBody st) (defScope st) .none (.ref D) doc pm an cdv ct), osl⟩) (c : PySem.W.codeIn K cdv name = true) (k : PySem.W.keepIn K (.ref f) = true)
    (d : PySem.W.nsIn K D y = some (some (.ref T))) (e : K.lookup T = some ⟨.type "tuple", od2, .seq #[.int i t, .int j u] n, osl2⟩) : ∃ T : Addr, FnAtD K name st [] [(y, .ref T)] ∧ ∀ H, SqT K H T [.int i, .int j] :=
  ⟨T, ⟨f, _, ⟨⟨oc, od, .none, .ref D, doc, pm, an, cdv, ct, osl, rfl, l, c, .inl ⟨rfl, rfl⟩, .inr ⟨D, rfl, fun q hq => by
    have e := List.mem_singleton.mp hq
    subst e
    exact ⟨_, d, rfl⟩⟩⟩, k⟩, a⟩, fun H => .inr ⟨_, _, _, e, rfl, rfl, by show 2 ≤ sizeLine; decide, .cons ⟨t, rfl⟩ (.cons ⟨u, rfl⟩ .nil)⟩⟩
section
variable {P : Program} {w : World} {K : PySem.W.Frag} {mg : Str → Option Value} {base h : Heap}
theorem cal_of {k : Nat} {name : Str} {st : Stmt} {ps : List Str} {sp : Sp} (X : K.In h) (G : h.Ns mainGlobals mg) (F : FnAt K name st) (ok : ∀ f fd, Fun K name name st f fd → FnOk P w K mg base CX0 k f fd ps sp)
    (b : ∀ f fd, Fun K name name st f fd → Binds K fd ps []) : Cal P w K mg base k name ps sp := by
  obtain ⟨f, fd, F, a⟩ := F
  exact ⟨f, fd, ok f fd F, b f fd F, PySem.W.mg_of X G a, F.kp⟩
end
end Gap
namespace Gap
open PySem PySem.Spec PyProof.Rows L2
/-- a module's own pair of ints -/
def PairAt (K : PySem.W.Frag) (name : Str) (i j : Int) : Prop := ∃ a : Addr, PySem.W.nsIn K mainGlobals name = some (some (.ref a)) ∧ ∀ H, SqT K H a [.int i, .int j]
theorem pairAt {K : PySem.W.Frag} {name : Str} {i j : Int} {a : Addr} {t u : Tok} {n : Nat} {od : Option Addr} {osl : Array (Option Value)} (g : PySem.W.nsIn K mainGlobals name = some (some (.ref a))) (e : K.lookup a = some ⟨.type "tuple", od, .seq #[.int i t, .int j u] n, osl⟩) : PairAt K name i j :=
  ⟨a, g, fun H => .inr ⟨_, _, _, e, rfl, rfl, by show 2 ≤ sizeLine; decide, .cons ⟨t, rfl⟩ (.cons ⟨u, rfl⟩ .nil)⟩⟩
end Gap
namespace Gap
open PySem PySem.Spec PyProof.Rows L2
theorem all_mk {l : PySem.W.OpenLaw} {w : World} {K : PySem.W.Frag} {h : Heap} {mg : Str → Option Value} {fa : Addr} (X : K.In h) (G : h.Ns mainGlobals mg) (hfa : mg "law" = some (.ref fa))
    (aCommon : FnAt K "common" sCommon) (aPart : FnAtD K "part" sPart [.int 1] []) (aIsPart : FnAt K "is_part" sIsPart) (p1 : FnAt K "plus" sPlusP) (p2 : FnAt K "less" sLessP) (p3 : FnAt K "times" sTimesP) (aInner : FnAt K "inner" sInner) (aIsDisc : FnAt K "is_disc" sIsDisc) (aNought : PairAt K "NOUGHT" 0 1) (aOne : PairAt K "ONE" 1 1) (aBag : FnAt K "_law_bag" sBag) (aPull : FnAt K "_law_pull" sPull) (aSame : FnAt K "_law_same" sSame) (aLow : FnAt K "_law_low" sLow) (aOf : FnAt K "_law_of" sOf) (b1 : FnAt K "_law_plus" sPlusL) (b2 : FnAt K "_law_minus" sMinusL) (b3 : FnAt K "_law_by" sByL) (b4 : FnAt K "_law_per" sPerL) (aDrawn : FnAt K "_law_part" sDrawn) (aSpot : FnAt K "_law_spot" sSpot) (aMade : FnAt K "_law_made" sMade) (aTurn : FnAt K "_law_turn" sTurn) (aIsPartL : FnAt K "_law_is_part" sIsPartL) (aIsDiscL : FnAt K "_law_is_disc" sIsDiscL) (aFree : FnAt K "_law_free_disc" sFree) (aLaw : FnAt K "law" sLaw)
    (zabs : PySem.W.nsIn K mainGlobals "abs" = some none) (zisi : PySem.W.nsIn K mainGlobals "isinstance" = some none) (zlst : PySem.W.nsIn K mainGlobals "list" = some none) (ztup : PySem.W.nsIn K mainGlobals "tuple" = some none) (zbol : PySem.W.nsIn K mainGlobals "bool" = some none) (zint : PySem.W.nsIn K mainGlobals "int" = some none) (zstr : PySem.W.nsIn K mainGlobals "str" = some none) (zlen : PySem.W.nsIn K mainGlobals "len" = some none) (zall : PySem.W.nsIn K mainGlobals "all" = some none) (zrng : PySem.W.nsIn K mainGlobals "range" = some none) :
    ∃ fd : FuncData, (∀ (s : Shared) (v : Value), BindsTo s fd ⟨[v], []⟩ [("_law_script", v)]) ∧ ∀ base : Heap, K.In base → base.Ns mainGlobals mg → FnOk l.prog w K mg base CX0 7 fa fd ["_law_script"] (spLaw K) := by
  have mA := PySem.W.mg_none_of X G zabs
  have T : Blt mg := ⟨PySem.W.mg_none_of X G zisi, PySem.W.mg_none_of X G zlst, PySem.W.mg_none_of X G ztup, PySem.W.mg_none_of X G zbol, PySem.W.mg_none_of X G zint, PySem.W.mg_none_of X G zstr, PySem.W.mg_none_of X G zlen, PySem.W.mg_none_of X G zall, PySem.W.mg_none_of X G zrng⟩
  obtain ⟨f0, fd0, F0, a0⟩ := aLaw
  have e := hfa.symm.trans (PySem.W.mg_of X G a0)
  cases e
  refine ⟨fd0, ?_, fun base _ _ => ?_⟩
  · obtain ⟨oc, od, kV, doc, pm, an, cdv, ct, osl, rfl, _⟩ := F0.ex
    exact fun s v => .of_eq rfl
  · skip
    have cCommon := cal_of X G aCommon (fun f fd F => ok_common (P := l.prog) (w := w) (base := base) (mg := mg) (k := 0) F mA) fun f fd F => F.binds fun _ _ _ _ _ _ us hl => match us, hl with | [_, _], _ => rfl
    have cLow := cal_of X G aLow (fun f fd F => ok_low (P := l.prog) (w := w) (base := base) (mg := mg) (k := 0) F mA) fun f fd F => F.binds fun _ _ _ _ _ _ us hl => match us, hl with | [_, _], _ => rfl
    have cPull := cal_of X G aPull (fun f fd F => ok_pull (P := l.prog) (w := w) (base := base) (mg := mg) (k := 0) F T.len) fun f fd F => F.binds fun _ _ _ _ _ _ us hl => match us, hl with | [_, _], _ => rfl
    have cBag := cal_of X G aBag (fun f fd F => ok_bag (P := l.prog) (w := w) (base := base) (mg := mg) (k := 0) F T.lst) fun f fd F => F.binds fun _ _ _ _ _ _ us hl => match us, hl with | [_], _ => rfl
    have cSame : Cal l.prog w K mg base 1 "_law_same" ["_law_told", "_law_due"] (spSame K 0) := by
      obtain ⟨f, fd, F, a⟩ := aSame
      have b : Binds K fd ["_law_told", "_law_due"] [] := F.binds fun _ _ _ _ _ _ us hl => match us, hl with | [_, _], _ => rfl
      exact ⟨f, fd, ok_same F T b (PySem.W.mg_of X G a) 0, b, PySem.W.mg_of X G a, F.kp⟩
    obtain ⟨fCo, fdCo, FCo, bCo, gCo, kCo⟩ := cCommon.ex
    obtain ⟨fPa, fdPa, FPa, aPa⟩ := aPart
    have okPa : FnOk l.prog w K mg base CX0 2 fPa fdPa ["over", "under"] spPart := ok_part FPa FCo bCo gCo kCo
    have bPa := FPa.binds1 (ps := ["over", "under"]) 2 1 (by simp) rfl fun T kV doc pm an cdv ct us its hu hi => match us, its, hu, hi with | [_, _], [_], _, _ => ⟨_, rfl, rfl⟩
    obtain ⟨dsPa, vdPa, bPa⟩ := bPa
    cases vdPa
    have gPa := PySem.W.mg_of X G aPa
    have kPa := FPa.kp
    have q1 := cal_of X G p1 (fun f fd F => ok_PlusP (P := l.prog) (w := w) (base := base) (mg := mg) F okPa bPa gPa kPa) fun f fd F => F.binds fun _ _ _ _ _ _ us hl => match us, hl with | [_, _], _ => rfl
    have q2 := cal_of X G p2 (fun f fd F => ok_LessP (P := l.prog) (w := w) (base := base) (mg := mg) F okPa bPa gPa kPa) fun f fd F => F.binds fun _ _ _ _ _ _ us hl => match us, hl with | [_, _], _ => rfl
    have q3 := cal_of X G p3 (fun f fd F => ok_TimesP (P := l.prog) (w := w) (base := base) (mg := mg) F okPa bPa gPa kPa) fun f fd F => F.binds fun _ _ _ _ _ _ us hl => match us, hl with | [_, _], _ => rfl
    have PR : Prg l.prog w K mg base 3 := ⟨q1, q2, q3⟩
    have cInner := cal_of X G aInner (fun f fd F => ok_inner F PR) fun f fd F => F.binds fun _ _ _ _ _ _ us hl => match us, hl with | [_, _], _ => rfl
    have cIsPart := cal_of X G aIsPart (fun f fd F => ok_isPart F cCommon) fun f fd F => F.binds fun _ _ _ _ _ _ us hl => match us, hl with | [_], _ => rfl
    obtain ⟨n0, gn0, in0⟩ := aNought
    obtain ⟨n1, gn1, in1⟩ := aOne
    have cIsDisc := cal_of X G aIsDisc (fun f fd F => ok_isDisc (k := 4) F T (cIsPart.mono (by decide)) ⟨q1.mono (by decide), q2.mono (by decide), q3.mono (by decide)⟩ (cInner.mono (by decide)) (PySem.W.mg_of X G gn0) in0 (PySem.W.mg_of X G gn1) in1) fun f fd F => F.binds fun _ _ _ _ _ _ us hl => match us, hl with | [_], _ => rfl
    obtain ⟨fLo, fdLo, FLo, bLo, gLo, kLo⟩ := cLow.ex
    have cPlus := cal_of X G b1 (fun f fd F => ok_PlusL (P := l.prog) (w := w) (base := base) (mg := mg) F FLo bLo gLo kLo) fun f fd F => F.binds fun _ _ _ _ _ _ us hl => match us, hl with | [_, _], _ => rfl
    have cMinus := cal_of X G b2 (fun f fd F => ok_MinusL (P := l.prog) (w := w) (base := base) (mg := mg) F FLo bLo gLo kLo) fun f fd F => F.binds fun _ _ _ _ _ _ us hl => match us, hl with | [_, _], _ => rfl
    have cBy := cal_of X G b3 (fun f fd F => ok_ByL (P := l.prog) (w := w) (base := base) (mg := mg) F FLo bLo gLo kLo) fun f fd F => F.binds fun _ _ _ _ _ _ us hl => match us, hl with | [_, _], _ => rfl
    have cPer := cal_of X G b4 (fun f fd F => ok_PerL (P := l.prog) (w := w) (base := base) (mg := mg) F FLo bLo gLo kLo) fun f fd F => F.binds fun _ _ _ _ _ _ us hl => match us, hl with | [_, _], _ => rfl
    have O : Own l.prog w K mg base 2 := ⟨cPlus.mono (by decide), cMinus.mono (by decide), cBy.mono (by decide), cPer.mono (by decide)⟩
    obtain ⟨fpu, fdpu, Fpu, bpu, gpu, kpu⟩ := cPull.ex
    have cSpot := cal_of X G aSpot (fun f fd F => ok_spot F Fpu bpu gpu kpu FLo bLo gLo kLo T.rng) fun f fd F => F.binds fun _ _ _ _ _ _ us hl => match us, hl with | [_, _, _], _ => rfl
    have cDrawn := cal_of X G aDrawn (fun f fd F => ok_drawn F Fpu bpu gpu kpu FLo bLo gLo kLo) fun f fd F => F.binds fun _ _ _ _ _ _ us hl => match us, hl with | [_], _ => rfl
    have cMade := cal_of X G aMade (fun f fd F => ok_made F O) fun f fd F => F.binds fun _ _ _ _ _ _ us hl => match us, hl with | [_, _], _ => rfl
    have cOf := cal_of X G aOf (fun f fd F => ok_of F Fpu bpu gpu kpu T.len) fun f fd F => F.binds fun _ _ _ _ _ _ us hl => match us, hl with | [_, _], _ => rfl
    obtain ⟨fOf, fdOf, FOf, bOf, gOf, kOf⟩ := cOf.ex
    have cTurn := cal_of X G aTurn (fun f fd F => ok_turn F FOf bOf gOf kOf) fun f fd F => F.binds fun _ _ _ _ _ _ us hl => match us, hl with | [_], _ => rfl
    have cIsPartL := cal_of X G aIsPartL (fun f fd F => ok_isPartL F cLow) fun f fd F => F.binds fun _ _ _ _ _ _ us hl => match us, hl with | [_], _ => rfl
    have cIsDiscL := cal_of X G aIsDiscL (fun f fd F => ok_isDiscL (k := 4) F T (cIsPartL.mono (by decide)) (⟨O.plus.mono (by decide), O.minus.mono (by decide), O.by_.mono (by decide), O.per.mono (by decide)⟩ : Own l.prog w K mg base 4)) fun f fd F => F.binds fun _ _ _ _ _ _ us hl => match us, hl with | [_], _ => rfl
    obtain ⟨fSp, fdSp, FSp, bSp, gSp, kSp⟩ := (cSpot.mono (show 2 ≤ 3 by decide)).ex
    obtain ⟨fMa, fdMa, FMa, bMa, gMa, kMa⟩ := cMade.ex
    have cFree := cal_of X G aFree (fun f fd F => ok_free F (Fpu.mono (show 1 ≤ 3 by decide)) bpu gpu kpu (FLo.mono (show 1 ≤ 3 by decide)) bLo gLo kLo FSp bSp gSp kSp FMa bMa gMa kMa) fun f fd F => F.binds fun _ _ _ _ _ _ us hl => match us, hl with | [_], _ => rfl
    exact ok_law (k := 6) F0 T (cBag.mono (by decide)) (cPull.mono (by decide)) (cFree.mono (by decide)) (cDrawn.mono (by decide)) (cTurn.mono (by decide)) (cIsDisc.mono (by decide)) (cIsDiscL.mono (by decide)) (cSame.mono (by decide))
end Gap
open PySem PySem.W PyProof.Rows
set_option maxHeartbeats 0 in
theorem PySem.Challenge.cw_gapstone_k05_which_fours_are_discs_holds : PySem.Challenge.rw_gapstone_k05_which_fours_are_discs.Holds := by
  w_on; o_law; k_head; (case hw => w_witness2)
  k_fill
  refine L2.walk_of (l := PySem.Challenge.rw_gapstone_k05_which_fours_are_discs) (n := 63) (k := 7) (x := "_law_script") (CX := fun _ => L2.CX0) (sp := fun w => Gap.spLaw _) rfl (by decide) rfl ⟨rfl, by decide, by decide⟩ (fun w h Y => PySem.W.kIn_of Y) ?F (fun _ _ a ns hl _ hS => ⟨a, ns, rfl, hS, hl, fun _ => rfl⟩) (fun _ _ _ _ _ h => h)
  case F =>
    intro w mg fa h KX G hmg
    refine' Gap.all_mk KX G hmg ?aCommon ?aPart ?aIsPart ?p1 ?p2 ?p3 ?aInner ?aIsDisc ?aNought ?aOne ?aBag ?aPull ?aSame ?aLow ?aOf ?b1 ?b2 ?b3 ?b4 ?aDrawn ?aSpot ?aMade ?aTurn ?aIsPartL ?aIsDiscL ?aFree ?aLaw ?zabs ?zisi ?zlst ?ztup ?zbol ?zint ?zstr ?zlen ?zall ?zrng
    case aCommon => (refine' Gap.fnAt ?a ?l ?c ?k; (case a => k_is); (case l => k_is); (case c => k_is); (case k => k_is))
    case aPart => (refine' Gap.fnAtD1 ?a ?l ?c ?k ?d; (case a => k_is); (case l => k_is); (case c => k_is); (case k => k_is); (case d => k_is))
    case aIsPart => (refine' Gap.fnAt ?a ?l ?c ?k; (case a => k_is); (case l => k_is); (case c => k_is); (case k => k_is))
    case p1 => (refine' Gap.fnAt ?a ?l ?c ?k; (case a => k_is); (case l => k_is); (case c => k_is); (case k => k_is))
    case p2 => (refine' Gap.fnAt ?a ?l ?c ?k; (case a => k_is); (case l => k_is); (case c => k_is); (case k => k_is))
    case p3 => (refine' Gap.fnAt ?a ?l ?c ?k; (case a => k_is); (case l => k_is); (case c => k_is); (case k => k_is))
    case aInner => (refine' Gap.fnAt ?a ?l ?c ?k; (case a => k_is); (case l => k_is); (case c => k_is); (case k => k_is))
    case aIsDisc => (refine' Gap.fnAt ?a ?l ?c ?k; (case a => k_is); (case l => k_is); (case c => k_is); (case k => k_is))
    case aNought => (refine' Gap.pairAt ?g ?e; (case g => k_is); (case e => k_is))
    case aOne => (refine' Gap.pairAt ?g ?e; (case g => k_is); (case e => k_is))
    case aBag => (refine' Gap.fnAt ?a ?l ?c ?k; (case a => k_is); (case l => k_is); (case c => k_is); (case k => k_is))
    case aPull => (refine' Gap.fnAt ?a ?l ?c ?k; (case a => k_is); (case l => k_is); (case c => k_is); (case k => k_is))
    case aSame => (refine' Gap.fnAt ?a ?l ?c ?k; (case a => k_is); (case l => k_is); (case c => k_is); (case k => k_is))
    case aLow => (refine' Gap.fnAt ?a ?l ?c ?k; (case a => k_is); (case l => k_is); (case c => k_is); (case k => k_is))
    case aOf => (refine' Gap.fnAt ?a ?l ?c ?k; (case a => k_is); (case l => k_is); (case c => k_is); (case k => k_is))
    case b1 => (refine' Gap.fnAt ?a ?l ?c ?k; (case a => k_is); (case l => k_is); (case c => k_is); (case k => k_is))
    case b2 => (refine' Gap.fnAt ?a ?l ?c ?k; (case a => k_is); (case l => k_is); (case c => k_is); (case k => k_is))
    case b3 => (refine' Gap.fnAt ?a ?l ?c ?k; (case a => k_is); (case l => k_is); (case c => k_is); (case k => k_is))
    case b4 => (refine' Gap.fnAt ?a ?l ?c ?k; (case a => k_is); (case l => k_is); (case c => k_is); (case k => k_is))
    case aDrawn => (refine' Gap.fnAt ?a ?l ?c ?k; (case a => k_is); (case l => k_is); (case c => k_is); (case k => k_is))
    case aSpot => (refine' Gap.fnAt ?a ?l ?c ?k; (case a => k_is); (case l => k_is); (case c => k_is); (case k => k_is))
    case aMade => (refine' Gap.fnAt ?a ?l ?c ?k; (case a => k_is); (case l => k_is); (case c => k_is); (case k => k_is))
    case aTurn => (refine' Gap.fnAt ?a ?l ?c ?k; (case a => k_is); (case l => k_is); (case c => k_is); (case k => k_is))
    case aIsPartL => (refine' Gap.fnAt ?a ?l ?c ?k; (case a => k_is); (case l => k_is); (case c => k_is); (case k => k_is))
    case aIsDiscL => (refine' Gap.fnAt ?a ?l ?c ?k; (case a => k_is); (case l => k_is); (case c => k_is); (case k => k_is))
    case aFree => (refine' Gap.fnAt ?a ?l ?c ?k; (case a => k_is); (case l => k_is); (case c => k_is); (case k => k_is))
    case aLaw => (refine' Gap.fnAt ?a ?l ?c ?k; (case a => k_is); (case l => k_is); (case c => k_is); (case k => k_is))
    case zabs => k_is
    case zisi => k_is
    case zlst => k_is
    case ztup => k_is
    case zbol => k_is
    case zint => k_is
    case zstr => k_is
    case zlen => k_is
    case zall => k_is
    case zrng => k_is
