import PyProof.Rows.All
import Wide.All
import OpenK.AllK
import Wide.FinOn
import PySem.Challenge.RW_gapstone_k03_totals
import HandS.ForMost
import HandS.Wide
import HandS.IsInst
import HandS.Defaults
import HandS.Conv
import HandS.Evl
set_option Elab.async false
set_option linter.all false
set_option maxRecDepth 100000
set_option maxHeartbeats 4000000
namespace Gap
/-- the fraction, as its two numbers -/
theorem gcd_rec (a b : Int) (hb : b ≠ 0) (ha : 0 ≤ a) (hb0 : 0 < b) : Int.gcd b (a % b) = Int.gcd a b := by
  obtain ⟨n, rfl⟩ := Int.eq_ofNat_of_zero_le ha
  obtain ⟨m, rfl⟩ := Int.eq_ofNat_of_zero_le (Int.le_of_lt hb0)
  show Nat.gcd m ((n : Int) % (m : Int)).natAbs = Nat.gcd n m
  rw [show ((n : Int) % (m : Int)).natAbs = n % m by omega, Nat.gcd_comm n m, Nat.gcd_rec m n, Nat.gcd_comm]
theorem gcd_pos {a b : Int} (h : b ≠ 0) : 0 < ((Int.gcd a b : Nat) : Int) := by
  have : Int.gcd a b ≠ 0 := fun e => h (Int.gcd_eq_zero_iff.mp e).2
  omega
def sg (b : Int) : Int := if 0 < b then 1 else -1
theorem sg_sign {b : Int} (h : b ≠ 0) : sg b = b.sign := by
  unfold sg
  by_cases h0 : 0 < b
  · rw [if_pos h0, Int.sign_eq_one_of_pos h0]
  · rw [if_neg h0, Int.sign_eq_neg_one_of_neg (by omega)]
theorem low_num {a b : Int} (h : b ≠ 0) : sg b * a / ((Int.gcd a b : Nat) : Int) = (Rat.divInt a b).num := by
  rw [Rat.num_divInt, sg_sign h, Int.gcd_comm]
theorem low_den {a b : Int} (h : b ≠ 0) : sg b * b / ((Int.gcd a b : Nat) : Int) = ((Rat.divInt a b).den : Int) := by
  rw [Rat.den_divInt, if_neg h, sg_sign h, Int.sign_mul_self, Int.gcd_comm]
  simp
/-- part's way: by the common factor with under's sign -/
theorem part_num {a b : Int} (h : b ≠ 0) : (a.fdiv (if b < 0 then -((Int.gcd a b : Nat) : Int) else ((Int.gcd a b : Nat) : Int))) = (Rat.divInt a b).num := by
  rw [← low_num h]
  have g := gcd_pos (a := a) h
  by_cases hb : b < 0
  · rw [if_pos hb]
    have e : sg b = -1 := by unfold sg; rw [if_neg (by omega)]
    rw [e]
    have e2 : a.fdiv (-((Int.gcd a b : Nat) : Int)) = (-a).fdiv ((Int.gcd a b : Nat) : Int) := by
      have := Int.neg_fdiv_neg (-a) (Int.gcd a b : Int)
      rw [Int.neg_neg] at this
      exact this
    rw [e2, Int.fdiv_eq_ediv_of_nonneg _ (by omega)]
    congr 1
    omega
  · rw [if_neg hb]
    have e : sg b = 1 := by unfold sg; rw [if_pos (by omega)]
    rw [e, Int.fdiv_eq_ediv_of_nonneg _ (by omega), Int.one_mul]
theorem part_den {a b : Int} (h : b ≠ 0) : (b.fdiv (if b < 0 then -((Int.gcd a b : Nat) : Int) else ((Int.gcd a b : Nat) : Int))) = ((Rat.divInt a b).den : Int) := by
  rw [← low_den h]
  have g := gcd_pos (a := a) h
  by_cases hb : b < 0
  · rw [if_pos hb]
    have e : sg b = -1 := by unfold sg; rw [if_neg (by omega)]
    rw [e]
    have e2 : b.fdiv (-((Int.gcd a b : Nat) : Int)) = (-b).fdiv ((Int.gcd a b : Nat) : Int) := by
      have := Int.neg_fdiv_neg (-b) (Int.gcd a b : Int)
      rw [Int.neg_neg] at this
      exact this
    rw [e2, Int.fdiv_eq_ediv_of_nonneg _ (by omega)]
    congr 1
    omega
  · rw [if_neg hb]
    have e : sg b = 1 := by unfold sg; rw [if_pos (by omega)]
    rw [e, Int.fdiv_eq_ediv_of_nonneg _ (by omega), Int.one_mul]
theorem den_ne (q : Rat) : (q.den : Int) ≠ 0 := by have := q.den_nz; omega
theorem den_pos (q : Rat) : (0 : Int) < q.den := by have := q.den_nz; omega
theorem add_divInt (q r : Rat) : Rat.divInt (q.num * r.den + r.num * q.den) (q.den * r.den) = q + r := by
  rw [← Rat.divInt_add_divInt _ _ (den_ne q) (den_ne r), Rat.num_divInt_den, Rat.num_divInt_den]
theorem sub_divInt (q r : Rat) : Rat.divInt (q.num * r.den - r.num * q.den) (q.den * r.den) = q - r := by
  rw [← Rat.divInt_sub_divInt _ _ (den_ne q) (den_ne r), Rat.num_divInt_den, Rat.num_divInt_den]
theorem mul_divInt (q r : Rat) : Rat.divInt (q.num * r.num) (q.den * r.den) = q * r := by
  rw [← Rat.divInt_mul_divInt, Rat.num_divInt_den, Rat.num_divInt_den]
theorem div_divInt (q r : Rat) : Rat.divInt (q.num * r.den) (q.den * r.num) = q / r := by
  have e1 : q = (q.num : Rat) / (q.den : Int) := by rw [← Rat.divInt_eq_div, Rat.num_divInt_den]
  have e2 : r = (r.num : Rat) / (r.den : Int) := by rw [← Rat.divInt_eq_div, Rat.num_divInt_den]
  have d1 : ((q.den : Int) : Rat) ≠ 0 := by
    intro h
    exact den_ne q (by exact_mod_cast h)
  have d2 : ((r.den : Int) : Rat) ≠ 0 := by
    intro h
    exact den_ne r (by exact_mod_cast h)
  rw [Rat.divInt_eq_div]
  by_cases hr : r.num = 0
  · have : r = 0 := Rat.num_eq_zero.mp hr
    subst this
    simp [Rat.div_def]
  · have d3 : (r.num : Rat) ≠ 0 := by
      intro h
      exact hr (by exact_mod_cast h)
    rw [Rat.intCast_mul, Rat.intCast_mul]
    generalize hA : ((q.num : Int) : Rat) = A at *
    generalize hB : ((q.den : Int) : Rat) = B at *
    generalize hC : ((r.num : Int) : Rat) = C at *
    generalize hD : ((r.den : Int) : Rat) = D at *
    rw [e1, e2]
    grind
theorem num_ne {q : Rat} (h : q ≠ 0) : q.num ≠ 0 := fun e => h (Rat.num_eq_zero.mp e)
end Gap
namespace Gap
open PySem PySem.Spec PyProof.Rows L2
/-! ### sizes -/
def Bi (n : Nat) (x : Int) : Prop := x.natAbs < 2 ^ n
theorem Bi.mono {m n : Nat} {x : Int} (h : Bi m x) (l : m ≤ n) : Bi n x := Nat.lt_of_lt_of_le h (Nat.pow_le_pow_right (by decide) l)
theorem Bi.mul {m n : Nat} {x y : Int} (a : Bi m x) (b : Bi n y) : Bi (m + n) (x * y) := wide_lt a b
theorem Bi.add {m : Nat} {x y : Int} (a : Bi m x) (b : Bi m y) : Bi (m + 1) (x + y) := by
  unfold Bi at *
  have : 2 ^ (m + 1) = 2 ^ m + 2 ^ m := by rw [Nat.pow_succ]; omega
  omega
theorem Bi.neg {m : Nat} {x : Int} (a : Bi m x) : Bi m (-x) := by
  unfold Bi at *
  omega
theorem Bi.sub {m : Nat} {x y : Int} (a : Bi m x) (b : Bi m y) : Bi (m + 1) (x - y) := by
  have := a.add b.neg
  rw [← Int.sub_eq_add_neg] at this
  exact this
theorem Bi.mulW {m n : Nat} {x y : Int} (a : Bi m x) (b : Bi n y) (h : m + n ≤ 999998) : CMulW x y := wide_mul (a.mono (Nat.le_succ m)) (b.mono (Nat.le_succ n)) (Nat.succ_pos _) (Nat.succ_pos _) (by omega)
theorem Bi.of_le {n : Nat} {x y : Int} (a : Bi n y) (h : x.natAbs ≤ y.natAbs) : Bi n x := Nat.lt_of_le_of_lt h a
theorem Bi.gcd {n : Nat} {a b : Int} (h : Bi n b) (hb : b ≠ 0) : Bi n ((Int.gcd a b : Nat) : Int) := by
  refine h.of_le ?_
  have := Nat.le_of_dvd (Int.natAbs_pos.mpr hb) (Int.gcd_dvd_natAbs_right a b)
  rw [Int.natAbs_natCast]
  exact this
/-- a fraction of two numbers of at most n bits -/
def Bq (n : Nat) (q : Rat) : Prop := Bi n q.num ∧ Bi n (q.den : Int)
theorem Bq.mono {m n : Nat} {q : Rat} (h : Bq m q) (l : m ≤ n) : Bq n q := ⟨h.1.mono l, h.2.mono l⟩
theorem Bq.of {n : Nat} {a b : Int} (ha : Bi n a) (hb : Bi n b) (h : b ≠ 0) : Bq n (Rat.divInt a b) := by
  have g := gcd_pos (a := a) h
  constructor
  · rw [← low_num h]
    refine ha.of_le ?_
    have e : (sg b * a).natAbs = a.natAbs := by
      unfold sg
      split <;> omega
    rw [Int.natAbs_ediv_of_dvd]
    · rw [e]
      exact Nat.div_le_self _ _
    · have : ((Int.gcd a b : Nat) : Int) ∣ a := Int.gcd_dvd_left a b
      exact Int.dvd_mul_of_dvd_right this
  · rw [← low_den h]
    refine hb.of_le ?_
    have e : (sg b * b).natAbs = b.natAbs := by
      unfold sg
      split <;> omega
    rw [Int.natAbs_ediv_of_dvd]
    · rw [e]
      exact Nat.div_le_self _ _
    · have : ((Int.gcd a b : Nat) : Int) ∣ b := Int.gcd_dvd_right a b
      exact Int.dvd_mul_of_dvd_right this
theorem den_mul_ne (q r : Rat) : (q.den : Int) * r.den ≠ 0 := Int.mul_ne_zero (den_ne q) (den_ne r)
theorem Bi.add2 {m n : Nat} {x y : Int} (a : Bi m x) (b : Bi n y) (h : m = n) : Bi (m + 1) (x + y) := by
  subst h
  exact a.add b
theorem Bq.add {m n : Nat} {q r : Rat} (a : Bq m q) (b : Bq n r) : Bq (m + n + 1) (q + r) := by
  rw [← add_divInt]
  exact Bq.of ((a.1.mul b.2).add2 (b.1.mul a.2) (Nat.add_comm m n)) ((a.2.mul b.2).mono (Nat.le_succ _)) (den_mul_ne q r)
theorem Bq.sub {m n : Nat} {q r : Rat} (a : Bq m q) (b : Bq n r) : Bq (m + n + 1) (q - r) := by
  rw [← sub_divInt, Int.sub_eq_add_neg]
  exact Bq.of ((a.1.mul b.2).add2 (b.1.mul a.2).neg (Nat.add_comm m n)) ((a.2.mul b.2).mono (Nat.le_succ _)) (den_mul_ne q r)
theorem Bq.mul {m n : Nat} {q r : Rat} (a : Bq m q) (b : Bq n r) : Bq (m + n) (q * r) := by
  rw [← mul_divInt]
  exact Bq.of (a.1.mul b.1) (a.2.mul b.2) (den_mul_ne q r)
theorem Bq.div {m n : Nat} {q r : Rat} (a : Bq m q) (b : Bq n r) (h : r ≠ 0) : Bq (m + n) (q / r) := by
  rw [← div_divInt]
  exact Bq.of (a.1.mul b.2) (a.2.mul b.1) (Int.mul_ne_zero (den_ne q) (num_ne h))
theorem Bq.int {n : Nat} {i : Int} (h : Bi n i) (h1 : 1 ≤ n) : Bq n (i : Rat) := by
  refine ⟨h, ?_⟩
  show Bi n ((1 : Nat) : Int)
  unfold Bi
  have := Nat.pow_le_pow_right (show 0 < 2 by decide) h1
  show 1 < 2 ^ n
  omega
theorem bq0 : Bq 1 0 := ⟨by unfold Bi; decide, by unfold Bi; decide⟩
theorem bq1 : Bq 1 1 := ⟨by unfold Bi; decide, by unfold Bi; decide⟩
/-! ### rules that the layer lacks -/
section
variable {X : Cx}
/-- // by any divisor but nought, below 2 ^ 9000 -/
def CDivA (_ j : Int) : Prop := j ≠ 0 ∧ j.natAbs.log2 < 9000
theorem op_fdivA : OpR X (binaryOp .FloorDiv) (rI CDivA fun i j => .int (i.fdiv j)) := opI fun _ _ _ _ _ _ _ c q => floordiv_int c.1 q (.inl (PyProof.noPylong_of_log2 c.2))
theorem Bi.divA {n : Nat} {i j : Int} (h : Bi n j) (h0 : j ≠ 0) (hn : n < 9000) : CDivA i j := ⟨h0, Nat.lt_of_lt_of_le (PySem.Flt.log2_lt_of (Nat.succ_pos n) (h.mono (Nat.le_succ n))) hn⟩
/-- what is never come to -/
theorem pss_never {l : List Stmt} : PSs X l (fun _ _ _ => False) := ⟨fun _ _ _ _ _ _ h => h.elim⟩
theorem ps_never {l : Stmt} : PS X l (fun _ _ _ => False) := ⟨fun _ _ _ _ _ _ h => h.elim⟩
end
theorem same_upd {H : Hp} {p : Addr} {o : HO} (h : H p = none) : Same H (upd H p o) := fun b x e => by
  rw [upd_ne (ne_of_none e h)]
  exact e
theorem Same.seqT {K : PySem.W.Frag} {H H' : Hp} {a : Addr} {xs : List V} (e : Same H H') (h : SqT K H a xs) : SqT K H' a xs := by
  rcases h with h | h
  · refine .inl ?_
    rcases h with h | ⟨o, h⟩
    · exact .inl (e _ _ h)
    · exact .inr ⟨o, e _ _ h⟩
  · exact .inr h
/-- a fraction as a value -/
def IsQ (K : PySem.W.Frag) (H : Hp) (v : V) (q : Rat) : Prop := ∃ a, v = .ref a ∧ SqT K H a [.int q.num, .int (q.den : Int)]
theorem IsQ.same {K : PySem.W.Frag} {H H' : Hp} {v : V} {q : Rat} (h : IsQ K H v q) (e : Same H H') : IsQ K H' v q := by
  obtain ⟨a, rfl, h⟩ := h
  exact ⟨a, rfl, Same.seqT e h⟩
end Gap
namespace Gap
open PySem PySem.Spec PyProof.Rows L2
def topS (i : Nat) : Stmt := PySem.Challenge.pw_gapstone_k03_totals.main.body.getD i (.Pass ⟨0, 0, 0, 0⟩)
/-! ### the greatest common factor -/
section
variable {P : Program} {w : World} {K : PySem.W.Frag} {mg : Str → Option Value} {base : Heap}
/-- what the law's and the program's own loops do -/
theorem gcd_step {a b : Int} (hb : b ≠ 0) (ha : 0 ≤ a) (hb0 : 0 ≤ b) : Int.gcd b (a % b) = Int.gcd a b := gcd_rec a b hb ha (by omega)
theorem abs_if (a : Int) : (if a < 0 then -a else a) = (a.natAbs : Int) := by
  split <;> omega
theorem gcd_abs (a b : Int) : Int.gcd (a.natAbs : Int) (b.natAbs : Int) = Int.gcd a b := by
  unfold Int.gcd
  rw [Int.natAbs_natCast, Int.natAbs_natCast]
abbrev sCommon : Stmt := topS 4
theorem scCommon : FnScope ["one", "other"] ["one", "other"] (defScope sCommon) := ⟨rfl, rfl, rfl, by decide +kernel, rfl, by decide +kernel, by decide +kernel⟩
def spCommon : Sp := fun vs H Q _ => ∃ (a b : Int), vs = [.int a, .int b] ∧ Q (.int ((Int.gcd a b : Nat) : Int)) H
theorem ok_common {f : Addr} {fd : FuncData} {k : Nat} (F : Fun K "common" "common" sCommon f fd) (ma : mg "abs" = none) : FnOk P w K mg base CX0 (k + 1) f fd ["one", "other"] spCommon := by
  refine F.ok scCommon (fun vs H Q E h => ?_) (fun cdv A outer s H vs Q E hr h => ?_)
  · obtain ⟨a, b, rfl, _⟩ := h
    rfl
  · obtain ⟨a, b, rfl, q⟩ := h
    refine ⟨_, pss_cons (ps_par (i := 0) (j := 1) rfl scCommon.nd rfl rfl (by decide) rfl rfl
        (pa_cons (pe_callB call_abs (by rfl) ma (by decide +kernel) (pa_cons (pv 0) pa_nil)) (pa_cons (pe_callB call_abs (by rfl) ma (by decide +kernel) (pa_cons (pv 1) pa_nil)) pa_nil)) (by rfl))
      (pss_cons (ps_while PassesOwn.never (pt_cmpR op_ne (pv 1) pe_int (nomark _))
        (pss_one (ps_par (i := 0) (j := 1) rfl scCommon.nd rfl rfl (by decide) rfl rfl (pa_cons (pv 1) (pa_cons (pe_op op_mod (pv 0) (pv 1)) pa_nil)) (by rfl))))
      (pss_one (ps_ret (pv 0)))), ?_⟩
    refine ⟨_, rfl, a, rfl, _, rfl, b, rfl, _, _, rfl, ?_⟩
    refine while_by (fun σ H' => ∃ x y : Int, σ = [some (.int x), some (.int y)] ∧ H' = H ∧ 0 ≤ x ∧ 0 ≤ y ∧ Int.gcd x y = Int.gcd a b) (fun σ _ => match σ with | [_, some (.int y)] => y.toNat | _ => 0)
      ⟨_, _, rfl, rfl, ?_, ?_, ?_⟩ ?_ ?_
    · rw [abs_if]; omega
    · rw [abs_if]; omega
    · rw [abs_if, abs_if, gcd_abs]
    · rintro σ H' ⟨x, y, rfl, rfl, hx, hy, e⟩
      refine ⟨_, rfl, rfl, _, rfl, ite2 (fun c => ?_) (fun c => ?_)⟩
      · have hy0 : y ≠ 0 := fun z => by
          subst z
          simp at c
        refine ⟨_, rfl, _, rfl, _, rfl, _, _, rfl, rfl, (by omega), _, _, rfl, ?_⟩
        refine ⟨⟨_, _, rfl, rfl, hy, Int.emod_nonneg _ hy0, ?_⟩, ?_⟩
        · rw [gcd_step hy0 hx hy]
          exact e
        · show (x % y).toNat < y.toNat
          have := Int.emod_lt_of_pos x (show 0 < y by omega)
          have := Int.emod_nonneg x hy0
          omega
      · have hy0 : y = 0 := by
          simpa using c
        subst hy0
        refine ⟨_, rfl, ?_⟩
        have e2 : ((Int.gcd a b : Nat) : Int) = x := by
          rw [← e]
          unfold Int.gcd
          simp
          omega
        rw [e2] at q
        exact q
    · rintro σ H' Q Q' hq ⟨v, e, e2, b, e3, z⟩
      exact ⟨v, e, e2, b, e3, hq _ _ z⟩
end
end Gap
namespace Gap
open PySem PySem.Spec PyProof.Rows L2
section
variable {P : Program} {w : World} {K : PySem.W.Frag} {mg : Str → Option Value} {base : Heap}
/-- a new tuple of the fraction's two numbers is handed back -/
def RetN (H : Hp) (Q : VK) (q : Rat) : Prop := ∀ p, H p = none → Q (.ref p) (upd H p (.tup [.int q.num, .int (q.den : Int)]))
/-- some value that is the fraction -/
def RetQ (K : PySem.W.Frag) (H : Hp) (Q : VK) (q : Rat) : Prop := ∀ v H', Same H H' → IsQ K H' v q → Q v H'
theorem RetQ.new {H : Hp} {Q : VK} {q : Rat} (r : RetQ K H Q q) : RetN H Q q := fun p np => r _ _ (same_upd np) ⟨p, rfl, .inl (.inl upd_same)⟩
theorem RetQ.same {H H' : Hp} {Q : VK} {q : Rat} (r : RetQ K H Q q) (e : Same H H') : RetQ K H' Q q := fun v H2 e2 h => r v H2 (e.trans e2) h
/-! ### part(over, under): under is not nought -/
abbrev sPart : Stmt := topS 5
theorem scPart : FnScope ["over", "under", "by"] ["over", "under"] (defScope sPart) := ⟨rfl, rfl, rfl, by decide +kernel, rfl, by decide +kernel, by decide +kernel⟩
def spPart : Sp := fun vs H Q _ => ∃ (a b : Int), vs = [.int a, .int b] ∧ b ≠ 0 ∧ Bi 8999 b ∧ RetN H Q (Rat.divInt a b)
abbrev FunP (K : PySem.W.Frag) (f : Addr) (fd : FuncData) : Prop := FunD K "part" "part" (defArgs sPart) (defBody sPart) (defScope sPart) [.int 1] [] f fd
theorem ok_part {f fC : Addr} {fd fdC : FuncData} {k : Nat} (F : FunP K f fd) (C : FnOk P w K mg base CX0 (k + 1) fC fdC ["one", "other"] spCommon) (bC : Binds K fdC ["one", "other"] []) (gC : mg "common" = some (.ref fC)) (kC : PySem.W.keepIn K (.ref fC) = true) :
    FnOk P w K mg base CX0 (k + 2) f fd ["over", "under"] spPart := by
  refine F.ok scPart (fun vs H Q E h => ?_) (fun cdv A outer s H vs Q E hr h => ?_)
  · obtain ⟨a, b, rfl, _⟩ := h
    rfl
  · obtain ⟨a, b, rfl, hb, hB, q⟩ := h
    refine ⟨_, pss_cons (ps_if (pt_cmpR op_eq (pv 1) pe_int (nomark _)) pss_never pss_nil)
      (pss_cons (ps_set (i := 2) scPart.nd rfl (.inl rfl) (pe_call C hr (by rfl) gC kC bC .nil pass0 (pa_cons (pv 0) (pa_cons (pv 1) pa_nil))))
      (pss_cons (ps_if (pt_cmpR op_lt (pv 1) pe_int (nomark _)) (pss_one (ps_set (i := 2) scPart.nd rfl (.inl rfl) (pe_un un_neg (pv 2)))) pss_nil)
      (pss_one (ps_ret (pe_tup (pa_cons (pe_op op_fdivA (pv 0) (pv 2)) (pa_cons (pe_op op_fdivA (pv 1) (pv 2)) pa_nil))))))), ?_⟩
    refine ⟨_, rfl, rfl, _, rfl, ite2 (fun c => ?_) (fun c => ?_)⟩
    · have : b = 0 := by simpa using c
      exact hb this
    · refine ⟨_, rfl, _, rfl, a, b, rfl, ?_⟩
      have g0 := gcd_pos (a := a) hb
      have gB : Bi 8999 ((Int.gcd a b : Nat) : Int) := hB.gcd hb
      have fin : ∀ z : Int, z = (if b < 0 then -((Int.gcd a b : Nat) : Int) else ((Int.gcd a b : Nat) : Int)) → ∀ p, H p = none → Q (.ref p) (upd H p (.tup [.int (a.fdiv z), .int (b.fdiv z)])) := fun z hz p np => by
        rw [hz, part_num hb, part_den hb]
        exact q p np
      refine ⟨_, rfl, _, _, rfl, rfl, _, rfl, ite2 (fun c2 => ?_) (fun c2 => ?_)⟩
      · have c3 : b < 0 := by simpa using c2
        rw [if_pos c3] at fin
        refine ⟨_, rfl, _, rfl, ?_⟩
        refine ⟨_, rfl, _, rfl, _, _, rfl, rfl, gB.neg.divA (by omega) (by decide), _, rfl, _, rfl, _, _, rfl, rfl, gB.neg.divA (by omega) (by decide), (by show 2 ≤ sizeLine; decide), fun p np => ?_⟩
        exact fin _ rfl p np
      · have c3 : ¬ b < 0 := by simpa using c2
        rw [if_neg c3] at fin
        refine ⟨_, rfl, _, rfl, _, _, rfl, rfl, gB.divA (by omega) (by decide), _, rfl, _, rfl, _, _, rfl, rfl, gB.divA (by omega) (by decide), (by show 2 ≤ sizeLine; decide), fun p np => ?_⟩
        exact fin _ rfl p np
/-! ### the law's own -/
abbrev sLow : Stmt := topS 11
theorem scLow : FnScope ["_law_above", "_law_beneath", "_law_one", "_law_other", "_law_side"] ["_law_above", "_law_beneath"] (defScope sLow) := ⟨rfl, rfl, rfl, by decide +kernel, rfl, by decide +kernel, by decide +kernel⟩
theorem ok_low {f : Addr} {fd : FuncData} {k : Nat} (F : Fun K "_law_low" "_law_low" sLow f fd) (ma : mg "abs" = none) : FnOk P w K mg base CX0 (k + 1) f fd ["_law_above", "_law_beneath"] spPart := by
  refine F.ok scLow (fun vs H Q E h => ?_) (fun cdv A outer s H vs Q E hr h => ?_)
  · obtain ⟨a, b, rfl, _⟩ := h
    rfl
  · obtain ⟨a, b, rfl, hb, hB, q⟩ := h
    refine ⟨_, pss_cons (ps_par (i := 2) (j := 3) rfl scLow.nd rfl rfl (by decide) rfl rfl
        (pa_cons (pe_callB call_abs (by rfl) ma (by decide +kernel) (pa_cons (pv 0) pa_nil)) (pa_cons (pe_callB call_abs (by rfl) ma (by decide +kernel) (pa_cons (pv 1) pa_nil)) pa_nil)) (by rfl))
      (pss_cons (ps_while PassesOwn.never (pt_cmpR op_ne (pv 3) pe_int (nomark _))
        (pss_one (ps_par (i := 2) (j := 3) rfl scLow.nd rfl rfl (by decide) rfl rfl (pa_cons (pv 3) (pa_cons (pe_op op_mod (pv 2) (pv 3)) pa_nil)) (by rfl))))
      (pss_cons (ps_set (i := 4) scLow.nd rfl (.inl rfl) (pe_ifExp (pt_cmpR op_gt (pv 1) pe_int (nomark _)) pe_int (pe_un un_neg pe_int)))
      (pss_one (ps_ret (pe_tup (pa_cons (pe_op op_fdivW (pe_op op_mul (pv 4) (pv 0)) (pv 2)) (pa_cons (pe_op op_fdivW (pe_op op_mul (pv 4) (pv 1)) (pv 2)) pa_nil))))))), ?_⟩
    refine ⟨_, rfl, a, rfl, _, rfl, b, rfl, _, _, rfl, ?_⟩
    refine while_by (fun σ H' => ∃ x y : Int, σ = [some (.int a), some (.int b), some (.int x), some (.int y), none] ∧ H' = H ∧ 0 ≤ x ∧ 0 ≤ y ∧ Int.gcd x y = Int.gcd a b) (fun σ _ => match σ with | [_, _, _, some (.int y), _] => y.toNat | _ => 0)
      ⟨_, _, rfl, rfl, ?_, ?_, ?_⟩ ?_ ?_
    · rw [abs_if]; omega
    · rw [abs_if]; omega
    · rw [abs_if, abs_if, gcd_abs]
    · rintro σ H' ⟨x, y, rfl, rfl, hx, hy, e⟩
      refine ⟨_, rfl, rfl, _, rfl, ite2 (fun c => ?_) (fun c => ?_)⟩
      · have hy0 : y ≠ 0 := fun z => by
          subst z
          simp at c
        refine ⟨_, rfl, _, rfl, _, rfl, _, _, rfl, rfl, (by omega), _, _, rfl, ?_⟩
        refine ⟨⟨_, _, rfl, rfl, hy, Int.emod_nonneg _ hy0, ?_⟩, ?_⟩
        · rw [gcd_step hy0 hx hy]
          exact e
        · show (x % y).toNat < y.toNat
          have := Int.emod_lt_of_pos x (show 0 < y by omega)
          have := Int.emod_nonneg x hy0
          omega
      · have hy0 : y = 0 := by
          simpa using c
        subst hy0
        have e2 : x = ((Int.gcd a b : Nat) : Int) := by
          rw [← e]
          unfold Int.gcd
          simp
          omega
        subst e2
        have g0 := gcd_pos (a := a) hb
        have gB : Bi 8999 ((Int.gcd a b : Nat) : Int) := hB.gcd hb
        have fin : ∀ z : Int, z = sg b → ∀ p, H' p = none → Q (.ref p) (upd H' p (.tup [.int (z * a / ((Int.gcd a b : Nat) : Int)), .int (z * b / ((Int.gcd a b : Nat) : Int))])) := fun z hz p np => by
          rw [hz, low_num hb, low_den hb]
          exact q p np
        have wd : ∀ i, CDivW i ((Int.gcd a b : Nat) : Int) := fun i => wide_div g0 gB (by decide) (by decide)
        refine ⟨_, rfl, _, _, rfl, rfl, _, rfl, ite2 (fun c2 => ?_) (fun c2 => ?_)⟩
        · have c3 : 0 < b := by simpa using c2
          refine ⟨_, rfl, _, rfl, _, _, rfl, rfl, .inl ⟨by decide, by decide⟩, _, rfl, _, _, rfl, rfl, wd _, _, rfl, _, rfl, _, _, rfl, rfl, .inl ⟨by decide, by decide⟩, _, rfl, _, _, rfl, rfl, wd _, (by show 2 ≤ sizeLine; decide), fun p np => ?_⟩
          exact fin 1 (by unfold sg; rw [if_pos c3]) p np
        · have c3 : ¬ 0 < b := by simpa using c2
          refine ⟨_, rfl, _, rfl, _, rfl, _, _, rfl, rfl, .inl ⟨by decide, by decide⟩, _, rfl, _, _, rfl, rfl, wd _, _, rfl, _, rfl, _, _, rfl, rfl, .inl ⟨by decide, by decide⟩, _, rfl, _, _, rfl, rfl, wd _, (by show 2 ≤ sizeLine; decide), fun p np => ?_⟩
          exact fin (-1) (by unfold sg; rw [if_neg c3]) p np
    · rintro σ H' Q Q' hq ⟨v, e, e2, b, e3, z⟩
      exact ⟨v, e, e2, b, e3, hq _ _ z⟩
end
end Gap
namespace Gap
open PySem PySem.Spec PyProof.Rows L2
section
variable {P : Program} {w : World} {K : PySem.W.Frag} {mg : Str → Option Value} {base : Heap}
/-- of two fractions (pre of both) the fraction op -/
def sp2 (K : PySem.W.Frag) (op : Rat → Rat → Rat) (pre : Rat → Rat → Prop) : Sp := fun vs H Q _ => ∃ (u v : V) (q r : Rat), vs = [u, v] ∧ IsQ K H u q ∧ IsQ K H v r ∧ Bq 4000 q ∧ Bq 4000 r ∧ pre q r ∧ RetQ K H Q (op q r)
abbrev sPlusL : Stmt := topS 12
theorem scPlusL : FnScope ["_law_one", "_law_other"] ["_law_one", "_law_other"] (defScope sPlusL) := ⟨rfl, rfl, rfl, by decide +kernel, rfl, by decide +kernel, by decide +kernel⟩
theorem ok_PlusL {f fC : Addr} {fd fdC : FuncData} {k : Nat} (F : Fun K "_law_plus" "_law_plus" sPlusL f fd) (C : FnOk P w K mg base CX0 k fC fdC ["_law_above", "_law_beneath"] spPart) (bC : Binds K fdC ["_law_above", "_law_beneath"] []) (gC : mg "_law_low" = some (.ref fC)) (kC : PySem.W.keepIn K (.ref fC) = true) :
    FnOk P w K mg base CX0 (k + 1) f fd ["_law_one", "_law_other"] (sp2 K (fun q r => q + r) (fun _ _ => True)) := by
  refine F.ok scPlusL (fun vs H Q E h => ?_) (fun cdv A outer s H vs Q E hr h => ?_)
  · obtain ⟨u, v, q, r, rfl, _⟩ := h
    rfl
  · obtain ⟨u, v, q, r, rfl, hq, hr', bq, br, pre, ret⟩ := h
    obtain ⟨x, rfl, hq⟩ := hq
    obtain ⟨y, rfl, hr'⟩ := hr'
    refine ⟨_, pss_one (ps_ret (pe_call C hr (by rfl) gC kC bC .nil pass0 (pa_cons (pe_op op_add (pe_op op_mulW (pe_ix ix_tup (pv 0) pe_int (fun _ _ => rfl)) (pe_ix ix_tup (pv 1) pe_int (fun _ _ => rfl))) (pe_op op_mulW (pe_ix ix_tup (pv 1) pe_int (fun _ _ => rfl)) (pe_ix ix_tup (pv 0) pe_int (fun _ _ => rfl)))) (pa_cons (pe_op op_mulW (pe_ix ix_tup (pv 0) pe_int (fun _ _ => rfl)) (pe_ix ix_tup (pv 1) pe_int (fun _ _ => rfl))) pa_nil)))), ?_⟩
    refine ⟨_, rfl, _, _, _, _, rfl, rfl, hq, atI_nat (j := 0) rfl, _, rfl, _, _, _, _, rfl, rfl, hr', atI_nat (j := 1) rfl, _, _, rfl, rfl, (bq.1.mulW br.2 (by decide)), _, rfl, _, _, _, _, rfl, rfl, hr', atI_nat (j := 0) rfl, _, rfl, _, _, _, _, rfl, rfl, hq, atI_nat (j := 1) rfl, _, _, rfl, rfl, (br.1.mulW bq.2 (by decide)), _, _, rfl, rfl, _, rfl, _, _, _, _, rfl, rfl, hq, atI_nat (j := 1) rfl, _, rfl, _, _, _, _, rfl, rfl, hr', atI_nat (j := 1) rfl, _, _, rfl, rfl, (bq.2.mulW br.2 (by decide)), _, _, rfl, den_mul_ne q r, (bq.2.mul br.2).mono (by decide), ?_⟩
    rw [add_divInt]
    exact RetQ.new ret
end
end Gap
namespace Gap
open PySem PySem.Spec PyProof.Rows L2
section
variable {P : Program} {w : World} {K : PySem.W.Frag} {mg : Str → Option Value} {base : Heap}
/-! ### the bag -/
structure Bag (H : Hp) (b l : Addr) : Prop where
  at_ : ∃ (xs : List Int) (i n s : Int), H b = some (.lst [.ref l, .int i, .int n, .int s]) ∧ H l = some (.lst (xs.map V.int)) ∧ l ≠ b ∧ 0 ≤ i ∧ 0 ≤ n ∧ 0 ≤ s ∧ s < 2147483647
/-- all but what stands at b is kept -/
def SameB (b : Addr) (H H' : Hp) : Prop := ∀ a o, a ≠ b → H a = some o → H' a = some o
theorem SameB.refl (b : Addr) (H : Hp) : SameB b H H := fun _ _ _ h => h
theorem SameB.trans {b : Addr} {H H1 H2 : Hp} (a : SameB b H H1) (c : SameB b H1 H2) : SameB b H H2 := fun x o n h => c x o n (a x o n h)
theorem SameB.of {b : Addr} {H H' : Hp} (e : Same H H') : SameB b H H' := fun a o _ h => e a o h
theorem SameB.upd {b : Addr} {H : Hp} {o : HO} : SameB b H (upd H b o) := fun a u n h => by
  rw [upd_ne n]
  exact h
theorem Bag.same {H H' : Hp} {b bl : Addr} (h : Bag H b bl) (e : Same H H') : Bag H' b bl := by
  obtain ⟨xs, i, n, s, h1, h2, r⟩ := h
  exact ⟨xs, i, n, s, e _ _ h1, e _ _ h2, r⟩
theorem Bag.tupT {H H' : Hp} {b bl : Addr} (h : Bag H b bl) (e : SameB b H H') {a : Addr} {xs : List V} (t : SqT K H a xs) : SqT K H' a xs := by
  obtain ⟨ys, i, n, s, h1, _⟩ := h
  rcases t with t | t
  · refine .inl ?_
    rcases t with t | ⟨o, t⟩
    · exact .inl (e _ _ (ne_of t h1 (by intro z; cases z)) t)
    · exact .inr ⟨o, e _ _ (ne_of t h1 (by intro z; cases z)) t⟩
  · exact .inr t
theorem Bag.isQ {H H' : Hp} {b bl : Addr} (h : Bag H b bl) (e : SameB b H H') {v : V} {q : Rat} (t : IsQ K H v q) : IsQ K H' v q := by
  obtain ⟨a, rfl, t⟩ := t
  exact ⟨a, rfl, h.tupT e t⟩
theorem Bag.ne {H : Hp} {b p bl : Addr} (h : Bag H b bl) (np : H p = none) : p ≠ b := fun z => by
  obtain ⟨ys, i, n, s, h1, _⟩ := h
  rw [z, h1] at np
  cases np
theorem Bag.nel {H : Hp} {b bl p : Addr} (h : Bag H b bl) (np : H p = none) : p ≠ bl := fun z => by
  obtain ⟨ys, i, n, s, _, h2, _⟩ := h
  rw [z, h2] at np
  cases np
/-- another thing is written -/
theorem Bag.put {H : Hp} {b bl p : Addr} {o : HO} (h : Bag H b bl) (n1 : p ≠ b) (n2 : p ≠ bl) : Bag (upd H p o) b bl := by
  obtain ⟨xs, i, n, s, h1, h2, r⟩ := h
  exact ⟨xs, i, n, s, by rw [upd_ne n1.symm]; exact h1, by rw [upd_ne n2.symm]; exact h2, r⟩
/-- fractions stay where a list is written -/
theorem SqT.putL {H : Hp} {p : Addr} {xs ys : List V} (hp : H p = some (.lst xs)) {c : Addr} {zs : List V} (z : SqT K H c zs) : SqT K (upd H p (.lst ys)) c zs := by
  rcases z with z | z
  · refine .inl ?_
    rcases z with z | ⟨o, z⟩
    · exact .inl (by rw [upd_ne (ne_of z hp (by intro y; cases y))]; exact z)
    · exact .inr ⟨o, by rw [upd_ne (ne_of z hp (by intro y; cases y))]; exact z⟩
  · exact .inr z
theorem IsQ.putL {H : Hp} {p : Addr} {xs ys : List V} (hp : H p = some (.lst xs)) {v : V} {q : Rat} (z : IsQ K H v q) : IsQ K (upd H p (.lst ys)) v q := by
  obtain ⟨c, e, z⟩ := z
  exact ⟨c, e, SqT.putL hp z⟩
abbrev sBag : Stmt := topS 8
theorem scBag : FnScope ["_law_script", "_law_salt", "_law_cell"] ["_law_script"] (defScope sBag) := ⟨rfl, rfl, rfl, by decide +kernel, rfl, by decide +kernel, by decide +kernel⟩
def spBag (K : PySem.W.Frag) : Sp := fun vs H Q _ => ∃ (a : Addr) (ns : List Int), vs = [.ref a] ∧ SqL K H a (ns.map V.int) ∧ ns.length ≤ 63 ∧ ∀ b bl H', Same H H' → H b = none → Bag H' b bl → Q (.ref b) H'
theorem cut_ints (ns : List Int) (lo hi : Option Int) : ∃ ms : List Int, cutV (ns.map V.int) lo hi = ms.map V.int := by
  unfold cutV
  rw [← List.map_drop, ← List.map_take]
  exact ⟨_, rfl⟩
theorem ok_bag {f : Addr} {fd : FuncData} {k : Nat} (F : Fun K "_law_bag" "_law_bag" sBag f fd) (ml : mg "list" = none) : FnOk P w K mg base CX0 (k + 1) f fd ["_law_script"] (spBag K) := by
  refine F.ok scBag (fun vs H Q E h => ?_) (fun cdv A outer s H vs Q E hr h => ?_)
  · obtain ⟨a, ns, rfl, _⟩ := h
    rfl
  · obtain ⟨a, ns, rfl, hS, hl, q⟩ := h
    refine ⟨_, pss_cons (ps_set (i := 1) scBag.nd rfl (.inl rfl) pe_int)
      (pss_cons (ps_for PassesOwn.never rfl (pi_list (pe_slice sl_list (pv 0) po_none (po_some pe_int))) (pg_name (i := 2) scBag.nd rfl (.inl rfl))
        (pss_one (ps_set (i := 1) scBag.nd rfl (.inl rfl) (pe_op op_mod (pe_op op_add (pe_op op_add (pe_op op_mul (pv 1) pe_int) (pe_op op_mod (pv 2) pe_int)) pe_int) pe_int))))
      (pss_one (ps_ret (pe_lst (pa_cons (pe_callTy call_list_of (by rfl) ml boot_list (pa_cons (pe_slice sl_list (pv 0) po_none (po_some pe_int)) pa_nil)) (pa_cons pe_int (pa_cons pe_int (pa_cons (pv 1) pa_nil)))))))), ?_⟩
    obtain ⟨ms, em⟩ := cut_ints ns none (some 63)
    have lm : ms.length ≤ 63 := by
      have := cutV_length (ns.map V.int) none (some 63)
      rw [em, List.length_map, List.length_map] at this
      omega
    refine ⟨_, rfl, _, rfl, a, _, rfl, hS, fun p np => ⟨p, rfl, ⟨_, .inl (.inl upd_same)⟩, ?_⟩⟩
    rw [em]
    refine for_list (K := K) (a := p) (xs := ms.map V.int) (fun i σ H' => ∃ (z : Int) (v : Option V), σ = [some (.ref a), some (.int z), v] ∧ H' = upd H p (.lst (ms.map V.int)) ∧ 0 ≤ z ∧ z < 2147483647) ⟨9146, none, rfl, rfl, by decide, by decide⟩ ?_ ?_ ?_
    · rintro i σ H' hi ⟨z, v, rfl, rfl, _⟩
      exact .inl (.inl upd_same)
    · rintro i x σ H' hi ⟨z, v, rfl, rfl, z0, z1⟩
      obtain ⟨y, hy, rfl⟩ : ∃ y, ms[i]? = some y ∧ x = V.int y := by
        rw [List.getElem?_map] at hi
        cases e : ms[i]? with
        | none =>
          rw [e] at hi
          cases hi
        | some y =>
          rw [e] at hi
          exact ⟨y, rfl, (Option.some.inj hi).symm⟩
      refine ⟨_, rfl, _, _, rfl, rfl, .inr ⟨by decide, by decide⟩, _, rfl, _, _, rfl, rfl, (by show (0 : Int) < 2147483629; decide), _, _, rfl, rfl, _, _, rfl, rfl, _, _, rfl, rfl, (by show (0 : Int) < 2147483647; decide), ?_⟩
      exact ⟨_, _, rfl, rfl, Int.emod_nonneg _ (by decide), Int.emod_lt_of_pos _ (by decide)⟩
    · rintro σ H' ⟨z, v, rfl, rfl, z0, z1⟩
      have s1 : Same H (upd H p (.lst (ms.map V.int))) := same_upd np
      refine ⟨_, rfl, _, rfl, a, _, rfl, s1.seq hS, fun p2 np2 => ?_⟩
      rw [em]
      have s2 := same_upd (o := .lst (ms.map V.int)) np2
      refine ⟨p2, _, rfl, .inl (.inl (.inl upd_same)), fun l nl => ⟨_, rfl, (by show 4 ≤ sizeLine; decide), fun b nb => ?_⟩⟩
      have s3 := same_upd (o := .lst (ms.map V.int)) nl
      have s4 := same_upd (o := .lst [.ref l, .int 0, .int 0, .int z]) nb
      have hl : (L2.upd (L2.upd (L2.upd H p (.lst (ms.map V.int))) p2 (.lst (ms.map V.int))) l (.lst (ms.map V.int))) l = some (.lst (ms.map V.int)) := upd_same
      refine q b l _ (((s1.trans s2).trans s3).trans s4) ((s1.trans (s2.trans s3)).free nb) ⟨ms, 0, 0, z, upd_same, s4 _ _ hl, ne_of_none hl nb, by decide, by decide, z0, z1⟩
/-! ### one draw -/
abbrev sPull : Stmt := topS 9
theorem scPull : FnScope ["_law_bag_here", "_law_many", "_law_cell", "_law_got", "_law_seed"] ["_law_bag_here", "_law_many"] (defScope sPull) := ⟨rfl, rfl, rfl, by decide +kernel, rfl, by decide +kernel, by decide +kernel⟩
def spPull : Sp := fun vs H Q _ => ∃ (b bl : Addr) (m : Int), vs = [.ref b, .int m] ∧ 0 < m ∧ m.natAbs.log2 < 9000 ∧ Bag H b bl ∧ ∀ r H', SameB b H H' → Bag H' b bl → 0 ≤ r → r < m → Q (.int r) H'
theorem ok_pull {f : Addr} {fd : FuncData} {k : Nat} (F : Fun K "_law_pull" "_law_pull" sPull f fd) (mn : mg "len" = none) : FnOk P w K mg base CX0 (k + 1) f fd ["_law_bag_here", "_law_many"] spPull := by
  refine F.ok scPull (fun vs H Q E h => ?_) (fun cdv A outer s H vs Q E hr h => ?_)
  · obtain ⟨b, l, m, rfl, _⟩ := h
    rfl
  · obtain ⟨b, l, m, rfl, m0, m9, hB, q⟩ := h
    refine ⟨_, Evl.pss_cut (ps_if (pw_and (pt_cmpR op_eq (pe_ix ix_list (pv 0) pe_int (fun _ _ => rfl)) pe_int (nomark _)) (pw_and1 (pt_cmpR op_lt (pe_ix ix_list (pv 0) pe_int (fun _ _ => rfl)) (pe_callB call_len_seq (by rfl) mn PySem.boot_len (pa_cons (pe_ix ix_list (pv 0) pe_int (fun _ _ => rfl)) pa_nil)) (nomark _)))).pt
        (pss_cons (ps_set (i := 2) scPull.nd rfl (.inl rfl) (pe_ix ix_list (pe_ix ix_list (pv 0) pe_int (fun _ _ => rfl)) (pe_ix ix_list (pv 0) pe_int (fun _ _ => rfl)) (fun _ _ => rfl)))
        (pss_cons (ps_asg (pe_op op_add (pe_ix ix_list (pv 0) pe_int (fun _ _ => rfl)) pe_int) (pg_sub (pv 0) pe_int set_list))
        (pss_one (ps_if (pt_cmpR op_ge (pv 2) (pe_op op_pow pe_int pe_int) (nomark _)) (pss_one (ps_asg (pv 2) (pg_sub (pv 0) pe_int set_list)))
          (pss_one (ps_asg (pe_op op_mod (pe_op op_add (pe_op op_add (pe_op op_mul (pe_ix ix_list (pv 0) pe_int (fun _ _ => rfl)) pe_int) (pe_op op_mul (pe_op op_mod (pv 2) pe_int) pe_int)) pe_int) pe_int) (pg_sub (pv 0) pe_int set_list)))))))
        pss_nil)
      (pss_cons (ps_if (pt_cmpR op_gt (pe_ix ix_list (pv 0) pe_int (fun _ _ => rfl)) pe_int (nomark _))
        (pss_cons (ps_set (i := 3) scPull.nd rfl (.inl rfl) (pe_op op_mod (pe_ix ix_list (pv 0) pe_int (fun _ _ => rfl)) (pv 1)))
        (pss_cons (ps_asg (pe_op op_fdivW (pe_ix ix_list (pv 0) pe_int (fun _ _ => rfl)) (pv 1)) (pg_sub (pv 0) pe_int set_list))
        (pss_one (ps_ret (pv 3)))))
        pss_nil)
      (pss_cons (ps_set (i := 4) scPull.nd rfl (.inl rfl) (pe_ix ix_list (pv 0) pe_int (fun _ _ => rfl)))
      (pss_cons (ps_set (i := 4) scPull.nd rfl (.inl rfl) (pe_op op_mod (pe_op op_add (pe_op op_add (pe_op op_mul (pe_op op_mod (pe_op op_mul (pv 4) (pv 4)) pe_int) pe_int) (pe_op op_mul (pv 4) pe_int)) pe_int) pe_int))
      (pss_cons (ps_asg (pv 4) (pg_sub (pv 0) pe_int set_list))
      (pss_one (ps_ret (pe_op op_mod (pe_op op_add (pe_op op_fdiv (pv 4) pe_int) (pe_op op_mul (pe_op op_mod (pv 4) pe_int) pe_int)) (pv 1)))))))), ?_⟩
    obtain ⟨xs, i, n, sd, hb, hl, lb, i0, n0, s0, s1⟩ := hB.at_
    have SB : SqL K H b [.ref l, .int i, .int n, .int sd] := .inl (.inl hb)
    refine ⟨fun σ' H' => ∃ v, σ' = [some (.ref b), some (.int m), v, none, none] ∧ SameB b H H' ∧ Bag H' b l, ?_, ?_⟩
    · have stay : ∀ v : Option V, ∃ v' : Option V, ([some (V.ref b), some (V.int m), v, none, none] : L2.St) = [some (V.ref b), some (V.int m), v', none, none] ∧ SameB b H H ∧ Bag H b l := fun v => ⟨v, rfl, SameB.refl b H, hB⟩
      refine ⟨_, rfl, b, _, 2, _, rfl, rfl, SB, atI_nat (j := 2) rfl, rfl, _, rfl, ite2 (fun c => ?_) (fun c => ?_)⟩
      · refine ⟨_, rfl, b, _, 1, _, rfl, rfl, SB, atI_nat (j := 1) rfl, _, rfl, b, _, 0, _, rfl, rfl, SB, atI_nat (j := 0) rfl, l, _, rfl, .inl (.inl (.inl hl)), _, _, rfl, rfl, _, rfl, ite2 (fun c2 => ?_) (fun c2 => ?_)⟩
        · have ci : i < (xs.length : Int) := by simpa using c2
          have hix : xs[i.toNat]? = some (xs[i.toNat]'(by omega)) := List.getElem?_eq_getElem (by omega)
          generalize xs[i.toNat]'(by omega) = cell at hix
          have hat : atI (xs.map V.int) i = some (V.int cell) := at_of (j := i.toNat) (by omega) (by rw [List.getElem?_map, hix]; rfl)
          refine ⟨_, rfl, b, _, 0, _, rfl, rfl, SB, atI_nat (j := 0) rfl, _, rfl, b, _, 1, _, rfl, rfl, SB, atI_nat (j := 1) rfl, l, _, i, _, rfl, rfl, .inl (.inl hl), hat, ?_⟩
          refine ⟨_, rfl, b, _, 1, _, rfl, rfl, SB, atI_nat (j := 1) rfl, _, _, rfl, rfl, _, rfl, b, _, 1, 1, rfl, rfl, hb, rfl, ?_⟩
          have hb1 : (upd H b (.lst [.ref l, .int (i + 1), .int n, .int sd])) b = some (.lst [.ref l, .int (i + 1), .int n, .int sd]) := upd_same
          have SB1 : SqL K (upd H b (.lst [.ref l, .int (i + 1), .int n, .int sd])) b [.ref l, .int (i + 1), .int n, .int sd] := .inl (.inl hb1)
          refine ⟨_, rfl, _, _, rfl, rfl, ⟨by decide, by decide, by decide⟩, _, _, rfl, rfl, _, rfl, ite2 (fun c3 => ?_) (fun c3 => ?_)⟩
          · have c4 : (10 : Int) ^ 18 ≤ cell := of_decide_eq_true c3
            refine ⟨_, rfl, _, rfl, b, _, 2, 2, rfl, rfl, hb1, rfl, ?_⟩
            rw [upd_upd]
            refine ⟨_, rfl, SameB.upd, ⟨xs, i + 1, cell, sd, upd_same, ?_, lb, by omega, by omega, s0, s1⟩⟩
            rw [upd_ne lb]
            exact hl
          · refine ⟨_, rfl, b, _, 3, _, rfl, rfl, SB1, atI_nat (j := 3) rfl, _, _, rfl, rfl, .inr ⟨by decide, by decide⟩, _, rfl, _, _, rfl, rfl, (by show (0 : Int) < 2147483629; decide), _, _, rfl, rfl, .inr ⟨by decide, by decide⟩, _, _, rfl, rfl, _, _, rfl, rfl, _, _, rfl, rfl, (by show (0 : Int) < 2147483647; decide), _, rfl, b, _, 3, 3, rfl, rfl, hb1, rfl, ?_⟩
            rw [upd_upd]
            refine ⟨_, rfl, SameB.upd, ⟨xs, i + 1, n, _, upd_same, ?_, lb, by omega, n0, Int.emod_nonneg _ (by decide), Int.emod_lt_of_pos _ (by decide)⟩⟩
            rw [upd_ne lb]
            exact hl
        · exact stay _
      · exact stay _
    · rintro σ' H' ⟨v, rfl, sb, hB'⟩
      clear hb hl SB
      obtain ⟨xs, i, n, sd, hb, hl, lb, i0, n0, s0, s1⟩ := hB'.at_
      have SB : SqL K H' b [.ref l, .int i, .int n, .int sd] := .inl (.inl hb)
      refine ⟨_, rfl, b, _, 2, _, rfl, rfl, SB, atI_nat (j := 2) rfl, _, _, rfl, rfl, _, rfl, ite2 (fun c => ?_) (fun c => ?_)⟩
      · refine ⟨_, rfl, b, _, 2, _, rfl, rfl, SB, atI_nat (j := 2) rfl, _, rfl, _, _, rfl, rfl, m0, ?_⟩
        refine ⟨_, rfl, b, _, 2, _, rfl, rfl, SB, atI_nat (j := 2) rfl, _, rfl, _, _, rfl, rfl, ⟨m0, m9⟩, _, rfl, b, _, 2, 2, rfl, rfl, hb, rfl, ?_⟩
        refine ⟨_, rfl, q _ _ (sb.trans SameB.upd) ⟨xs, i, n / m, sd, upd_same, ?_, lb, i0, Int.ediv_nonneg n0 (by omega), s0, s1⟩ (Int.emod_nonneg _ (by omega)) (Int.emod_lt_of_pos _ m0)⟩
        rw [upd_ne lb]
        exact hl
      · refine ⟨_, rfl, b, _, 3, _, rfl, rfl, SB, atI_nat (j := 3) rfl, ?_⟩
        refine ⟨_, rfl, _, rfl, _, _, rfl, rfl, .inl ⟨by omega, by omega⟩, _, _, rfl, rfl, (by show (0 : Int) < 2147483587; decide), _, _, rfl, rfl, .inr ⟨by decide, by decide⟩, _, rfl, _, _, rfl, rfl, .inr ⟨by decide, by decide⟩, _, _, rfl, rfl, _, _, rfl, rfl, _, _, rfl, rfl, (by show (0 : Int) < 2147483647; decide), ?_⟩
        refine ⟨_, rfl, _, rfl, b, _, 3, 3, rfl, rfl, hb, rfl, ?_⟩
        refine ⟨_, rfl, _, _, rfl, rfl, ⟨by decide, by decide⟩, _, rfl, _, _, rfl, rfl, (by show (0 : Int) < 8191; decide), _, _, rfl, rfl, .inr ⟨by decide, by decide⟩, _, _, rfl, rfl, _, rfl, _, _, rfl, rfl, m0, ?_⟩
        refine q _ _ (sb.trans SameB.upd) ⟨xs, i, n, _, upd_same, ?_, lb, i0, n0, Int.emod_nonneg _ (by decide), Int.emod_lt_of_pos _ (by decide)⟩ (Int.emod_nonneg _ (by omega)) (Int.emod_lt_of_pos _ m0)
        rw [upd_ne lb]
        exact hl
end
end Gap
namespace Gap
open PySem PySem.Spec PyProof.Rows L2
section
variable {P : Program} {w : World} {K : PySem.W.Frag} {mg : Str → Option Value} {base : Heap}
/-! ### two values that are the same throughout -/
def Flat (u : V) : Prop := u = .non ∨ (∃ b, u = .bl b) ∨ (∃ i, u = .int i) ∨ ∃ s, u = .str s
def Eqv (K : PySem.W.Frag) (H : Hp) : Nat → V → V → Prop
  | 0, u, v => u = v ∧ Flat u
  | d + 1, u, v => (u = v ∧ Flat u) ∨ ∃ (a b : Addr) (xs ys : List V), u = .ref a ∧ v = .ref b ∧ ((SqL K H a xs ∧ SqL K H b ys) ∨ (SqT K H a xs ∧ SqT K H b ys)) ∧ xs.length = ys.length ∧ xs.length ≤ 1000 ∧ ∀ (i : Nat) (x y : V), xs[i]? = some x → ys[i]? = some y → Eqv K H d x y
theorem Eqv.same {H H' : Hp} (e : Same H H') : ∀ {d : Nat} {u v : V}, Eqv K H d u v → Eqv K H' d u v
  | 0, _, _, h => h
  | d + 1, _, _, h => by
    rcases h with h | ⟨a, b, xs, ys, rfl, rfl, h, l, l2, k⟩
    · exact .inl h
    · refine .inr ⟨a, b, xs, ys, rfl, rfl, ?_, l, l2, fun i x y h1 h2 => Eqv.same e (k i x y h1 h2)⟩
      rcases h with ⟨h1, h2⟩ | ⟨h1, h2⟩
      · exact .inl ⟨e.seq h1, e.seq h2⟩
      · exact .inr ⟨Same.seqT e h1, Same.seqT e h2⟩
theorem Eqv.up {H : Hp} : ∀ {d : Nat} {u v : V}, Eqv K H d u v → Eqv K H (d + 1) u v
  | 0, _, _, h => .inl h
  | d + 1, _, _, h => by
    rcases h with h | ⟨a, b, xs, ys, rfl, rfl, h, l, l2, k⟩
    · exact .inl h
    · exact .inr ⟨a, b, xs, ys, rfl, rfl, h, l, l2, fun i x y h1 h2 => Eqv.up (k i x y h1 h2)⟩
theorem Eqv.flat {H : Hp} {d : Nat} {u : V} (h : Flat u) : Eqv K H d u u := by
  cases d with
  | zero => exact ⟨rfl, h⟩
  | succ d => exact .inl ⟨rfl, h⟩
theorem Eqv.int {H : Hp} {d : Nat} {i : Int} : Eqv K H d (.int i) (.int i) := Eqv.flat (.inr (.inr (.inl ⟨i, rfl⟩)))
theorem Eqv.isQ {H : Hp} {d : Nat} {u v : V} {q : Rat} (hu : IsQ K H u q) (hv : IsQ K H v q) : Eqv K H (d + 1) u v := by
  obtain ⟨a, rfl, ha⟩ := hu
  obtain ⟨b, rfl, hb⟩ := hv
  refine .inr ⟨a, b, _, _, rfl, rfl, .inr ⟨ha, hb⟩, rfl, (by show 2 ≤ 1000; decide), fun i x y h1 h2 => ?_⟩
  rw [h1] at h2
  cases h2
  match i, h1 with
  | 0, h1 => cases h1; exact Eqv.int
  | 1, h1 => cases h1; exact Eqv.int
/-- two sequences of the same kind, item by item -/
inductive All2 (R : V → V → Prop) : List V → List V → Prop where
  | nil : All2 R [] []
  | cons {x y : V} {xs ys : List V} (h : R x y) (t : All2 R xs ys) : All2 R (x :: xs) (y :: ys)
theorem All2.len {R : V → V → Prop} {xs ys : List V} (h : All2 R xs ys) : xs.length = ys.length := by
  induction h with
  | nil => rfl
  | cons _ _ ih => exact congrArg Nat.succ ih
theorem All2.get {R : V → V → Prop} {xs ys : List V} (h : All2 R xs ys) : ∀ (i : Nat) (x y : V), xs[i]? = some x → ys[i]? = some y → R x y := by
  induction h with
  | nil => intro i x y h1; simp at h1
  | cons r _ ih =>
    intro i x y h1 h2
    cases i with
    | zero => cases h1; cases h2; exact r
    | succ i => exact ih i x y h1 h2
theorem Eqv.lists {H : Hp} {d : Nat} {a b : Addr} {xs ys : List V} (ha : SqL K H a xs) (hb : SqL K H b ys) (h : All2 (Eqv K H d) xs ys) (hl : xs.length ≤ 1000) : Eqv K H (d + 1) (.ref a) (.ref b) :=
  .inr ⟨a, b, xs, ys, rfl, rfl, .inl ⟨ha, hb⟩, h.len, hl, h.get⟩
theorem Eqv.tups {H : Hp} {d : Nat} {a b : Addr} {xs ys : List V} (ha : SqT K H a xs) (hb : SqT K H b ys) (h : All2 (Eqv K H d) xs ys) (hl : xs.length ≤ 1000) : Eqv K H (d + 1) (.ref a) (.ref b) :=
  .inr ⟨a, b, xs, ys, rfl, rfl, .inr ⟨ha, hb⟩, h.len, hl, h.get⟩
theorem ty_list {H : Hp} {a : Addr} {xs : List V} (h : SqL K H a xs) : TyX K H (.ref a) (.type "list") := by
  rcases h with (h | ⟨o, h⟩) | ⟨o, its, n, h, c, _⟩
  · exact .base (.lst h)
  · exact .base (.frz h)
  · exact .kList h c
theorem ty_tup {H : Hp} {a : Addr} {xs : List V} (h : SqT K H a xs) : TyX K H (.ref a) (.type "tuple") := by
  rcases h with (h | ⟨o, h⟩) | ⟨o, its, n, h, c, _⟩
  · exact .base (.tup h)
  · exact .fTuple h
  · exact .kTuple h c
/-- the type of a flat value -/
def flatTy : V → String
  | .non => "NoneType" | .bl _ => "bool" | .int _ => "int" | .str _ => "str" | _ => "object"
theorem ty_flat {H : Hp} {u : V} (h : Flat u) : TyX K H u (.type (flatTy u)) := by
  rcases h with rfl | ⟨b, rfl⟩ | ⟨i, rfl⟩ | ⟨s, rfl⟩
  · exact .base .non
  · exact .base (.bl b)
  · exact .base (.int i)
  · exact .base (.str s)
def rIxB (K : PySem.W.Frag) : R2 := fun x y H Q => rIxL K x y H Q ∨ rIxT K x y H Q
theorem ix_seq {X : Cx} : IxR X (rIxB X.K) := by
  intro value slice pins s σ H x y v u Q I rx ry h hs
  rcases h with h | h
  · exact ix_list value slice pins s σ H x y v u Q I rx ry h hs
  · exact ix_tup value slice pins s σ H x y v u Q I rx ry h hs
theorem ix_seqK {X : Cx} {K : PySem.W.Frag} (h : X.K = K) : IxR X (rIxB K) := h ▸ ix_seq
theorem at_seq {H : Hp} {a : Addr} {xs : List V} {i : Nat} {x : V} {Q : VK} (h : SqL K H a xs ∨ SqT K H a xs) (e : xs[i]? = some x) {z : Int} (hz : z = (i : Int)) (q : Q x H) : rIxL K (.ref a) (.int z) H Q ∨ rIxT K (.ref a) (.int z) H Q := by
  rcases h with h | h
  · exact .inl ⟨a, xs, z, x, rfl, rfl, h, at_of hz e, q⟩
  · exact .inr ⟨a, xs, z, x, rfl, rfl, h, at_of hz e, q⟩
abbrev sSame : Stmt := topS 10
theorem scSame : FnScope ["_law_told", "_law_due", "_law_k"] ["_law_told", "_law_due"] (defScope sSame) := ⟨rfl, rfl, rfl, by decide +kernel, rfl, by decide +kernel, by decide +kernel⟩
def spSame (K : PySem.W.Frag) (d : Nat) : Sp := fun vs H Q _ => ∃ (u v : V), vs = [u, v] ∧ Eqv K H d u v ∧ ∀ H', Same H H' → Q (.bl true) H'
/-- what the def reads of the built-ins -/
structure Blt (mg : Str → Option Value) : Prop where
  isi : mg "isinstance" = none
  lst : mg "list" = none
  tup : mg "tuple" = none
  bol : mg "bool" = none
  int : mg "int" = none
  str : mg "str" = none
  len : mg "len" = none
  all : mg "all" = none
  rng : mg "range" = none
theorem kit_seq {u : V} (h : Flat u) : PySem.W.kitAny K (.type (flatTy u)) [.type "list", .type "tuple"] = some false := by
  have h1 : kitB (flatTy u) "list" = some false := by
    rcases h with rfl | ⟨b, rfl⟩ | ⟨i, rfl⟩ | ⟨s, rfl⟩
    · exact (by decide +kernel : kitB "NoneType" "list" = some false)
    · exact (by decide +kernel : kitB "bool" "list" = some false)
    · exact (by decide +kernel : kitB "int" "list" = some false)
    · exact (by decide +kernel : kitB "str" "list" = some false)
  have h2 : kitB (flatTy u) "tuple" = some false := by
    rcases h with rfl | ⟨b, rfl⟩ | ⟨i, rfl⟩ | ⟨s, rfl⟩
    · exact (by decide +kernel : kitB "NoneType" "tuple" = some false)
    · exact (by decide +kernel : kitB "bool" "tuple" = some false)
    · exact (by decide +kernel : kitB "int" "tuple" = some false)
    · exact (by decide +kernel : kitB "str" "tuple" = some false)
  exact kitAny_cons (kit_ty h1) (fun _ => kitAny_cons (kit_ty h2) (fun _ => kitAny_nil) (fun z => nomatch z)) (fun z => nomatch z)
theorem kit_some {u : V} (h : Flat u) (n : String) (hn : n = "bool" ∨ n = "int" ∨ n = "str") : ∃ b, PySem.W.kitOne K (.type (flatTy u)) (.type n) = some b := by
  have h1 : ∃ b, kitB (flatTy u) n = some b := by
    rcases hn with rfl | rfl | rfl <;> rcases h with rfl | ⟨b, rfl⟩ | ⟨i, rfl⟩ | ⟨s, rfl⟩
    · exact ⟨false, (by decide +kernel : kitB "NoneType" "bool" = some false)⟩
    · exact ⟨true, (by decide +kernel : kitB "bool" "bool" = some true)⟩
    · exact ⟨false, (by decide +kernel : kitB "int" "bool" = some false)⟩
    · exact ⟨false, (by decide +kernel : kitB "str" "bool" = some false)⟩
    · exact ⟨false, (by decide +kernel : kitB "NoneType" "int" = some false)⟩
    · exact ⟨true, (by decide +kernel : kitB "bool" "int" = some true)⟩
    · exact ⟨true, (by decide +kernel : kitB "int" "int" = some true)⟩
    · exact ⟨false, (by decide +kernel : kitB "str" "int" = some false)⟩
    · exact ⟨false, (by decide +kernel : kitB "NoneType" "str" = some false)⟩
    · exact ⟨false, (by decide +kernel : kitB "bool" "str" = some false)⟩
    · exact ⟨false, (by decide +kernel : kitB "int" "str" = some false)⟩
    · exact ⟨true, (by decide +kernel : kitB "str" "str" = some true)⟩
  obtain ⟨b, e⟩ := h1
  exact ⟨b, kit_ty e⟩
theorem kit_l : PySem.W.kitAny K (.type "list") [.type "list", .type "tuple"] = some true := kitAny_cons (b := true) (kit_ty (by decide +kernel)) (fun z => nomatch z) (fun _ => rfl)
theorem kit_t : PySem.W.kitAny K (.type "tuple") [.type "list", .type "tuple"] = some true := kitAny_cons (b := false) (kit_ty (by decide +kernel)) (fun _ => kitAny_cons (b := true) (kit_ty (by decide +kernel)) (fun z => nomatch z) (fun _ => rfl)) (fun z => nomatch z)
theorem two_tys {H : Hp} : Paired ClsV [V.ty "list", V.ty "tuple"] [.type "list", .type "tuple"] := .cons (.ty _) (.cons (.ty _) .nil)
theorem ok_same0 {f : Addr} {fd : FuncData} (F : Fun K "_law_same" "_law_same" sSame f fd) (T : Blt mg) : FnOk P w K mg base CX0 1 f fd ["_law_told", "_law_due"] (spSame K 0) := by
    refine F.ok scSame (fun vs H Q E h => ?_) (fun cdv A outer s H vs Q E hr h => ?_)
    · obtain ⟨u, v, rfl, _⟩ := h
      rfl
    · obtain ⟨u, v, rfl, ⟨rfl, hF⟩, q⟩ := h
      refine ⟨_, pss_cons (ps_if (pt_val (pe_callB call_isiT (by rfl) T.isi (by decide +kernel) (pa_cons (pv 1) (pa_cons (pe_tup (pa_cons (pe_bltn (v := .ty "list") (by rfl) T.lst (by decide +kernel) rfl) (pa_cons (pe_bltn (v := .ty "tuple") (by rfl) T.tup (by decide +kernel) rfl) pa_nil))) pa_nil))))
          pss_never
          pss_nil)
        (pss_cons (ps_if (pw_or (pt_cmp (pc_isN (pv 1))) (pw_or1 (pt_cmp (pc_isN (pv 0))))).pt (pss_one (ps_ret (pe_and (pe_cmp (pc_isN (pv 1))) (pe_one (pe_cmp (pc_isN (pv 0))))))) pss_nil)
        (pss_cons (ps_if (pw_or (pt_cmpR op_ne (pe_callB call_isi (by rfl) T.isi (by decide +kernel) (pa_cons (pv 0) (pa_cons (pe_bltn (v := .ty "bool") (by rfl) T.bol (by decide +kernel) rfl) pa_nil))) (pe_callB call_isi (by rfl) T.isi (by decide +kernel) (pa_cons (pv 1) (pa_cons (pe_bltn (v := .ty "bool") (by rfl) T.bol (by decide +kernel) rfl) pa_nil))) (nomark _))
              (pw_or1 (pt_cmpR op_ne (pe_callB call_isi (by rfl) T.isi (by decide +kernel) (pa_cons (pv 0) (pa_cons (pe_bltn (v := .ty "int") (by rfl) T.int (by decide +kernel) rfl) pa_nil))) (pe_callB call_isi (by rfl) T.isi (by decide +kernel) (pa_cons (pv 1) (pa_cons (pe_bltn (v := .ty "int") (by rfl) T.int (by decide +kernel) rfl) pa_nil))) (nomark _)))).pt pss_never pss_nil)
        (pss_one (ps_ret (pe_and (pe_cmpR op_eq (pe_callB call_isi (by rfl) T.isi (by decide +kernel) (pa_cons (pv 0) (pa_cons (pe_bltn (v := .ty "str") (by rfl) T.str (by decide +kernel) rfl) pa_nil))) (pe_callB call_isi (by rfl) T.isi (by decide +kernel) (pa_cons (pv 1) (pa_cons (pe_bltn (v := .ty "str") (by rfl) T.str (by decide +kernel) rfl) pa_nil))) (nomark _))
          (pe_one (pe_cmpR op_eq (pv 0) (pv 1) (nomark _)))))))), ?_⟩
      have hT : ∀ H', TyX K H' u (.type (flatTy u)) := fun H' => ty_flat hF
      obtain ⟨b1, e1⟩ := kit_some (K := K) hF "bool" (.inl rfl)
      obtain ⟨b2, e2⟩ := kit_some (K := K) hF "int" (.inr (.inl rfl))
      obtain ⟨b3, e3⟩ := kit_some (K := K) hF "str" (.inr (.inr rfl))
      refine ⟨_, rfl, (by show 2 ≤ sizeLine; decide), fun p np => ⟨u, p, _, _, _, _, rfl, upd_same, two_tys (H := H), hT _, kit_seq hF, _, rfl, iteF ?_⟩⟩
      have sm := same_upd (o := .tup [.ty "list", .ty "tuple"]) np
      by_cases hn : u = .non
      · subst hn
        refine ⟨_, rfl, _, rfl, iteT ?_⟩
        refine ⟨_, rfl, _, rfl, iteT ⟨_, rfl, q _ sm⟩⟩
      · have dn : decide (u = .non) = false := decide_eq_false hn
        refine ⟨_, rfl, _, rfl, ?_⟩
        rw [dn]
        refine iteF ⟨_, rfl, _, rfl, ?_⟩
        rw [dn]
        refine iteF ⟨_, rfl, _, _, _, _, _, rfl, .ty _, hT _, e1, _, rfl, _, _, _, _, _, rfl, .ty _, hT _, e1, rfl, _, rfl, iteNS rfl ?_⟩
        refine ⟨_, rfl, _, _, _, _, _, rfl, .ty _, hT _, e2, _, rfl, _, _, _, _, _, rfl, .ty _, hT _, e2, rfl, _, rfl, iteNS rfl ?_⟩
        refine ⟨_, rfl, _, _, _, _, _, rfl, .ty _, hT _, e3, _, rfl, _, _, _, _, _, rfl, .ty _, hT _, e3, rfl, _, rfl, ite2 (fun _ => ?_) (fun c => absurd (decide_eq_true rfl) c)⟩
        refine ⟨_, rfl, _, rfl, ?_, ?_⟩
        · rcases hF with rfl | ⟨b, rfl⟩ | ⟨i, rfl⟩ | ⟨s, rfl⟩
          · exact absurd rfl hn
          · rfl
          · rfl
          · rfl
        · rw [decide_eq_true (rfl : u = u)]
          exact q _ sm
theorem ok_same {f : Addr} {fd : FuncData} (F : Fun K "_law_same" "_law_same" sSame f fd) (T : Blt mg) (bS : Binds K fd ["_law_told", "_law_due"] []) (gS : mg "_law_same" = some (.ref f)) :
    ∀ d : Nat, FnOk P w K mg base CX0 (d + 1) f fd ["_law_told", "_law_due"] (spSame K d) := by
  intro d
  induction d with
  | zero => exact ok_same0 F T
  | succ d ih =>
    refine F.ok scSame (fun vs H Q E h => ?_) (fun cdv A outer s H vs Q E hr h => ?_)
    · obtain ⟨u, v, rfl, _⟩ := h
      rfl
    · obtain ⟨u, v, rfl, hE, q⟩ := h
      refine ⟨_, pss_cons (ps_if (pt_val (pe_callB call_isiT (by rfl) T.isi (by decide +kernel) (pa_cons (pv 1) (pa_cons (pe_tup (pa_cons (pe_bltn (v := .ty "list") (by rfl) T.lst (by decide +kernel) rfl) (pa_cons (pe_bltn (v := .ty "tuple") (by rfl) T.tup (by decide +kernel) rfl) pa_nil))) pa_nil))))
          (pss_cons (ps_if (pw_or (pt_cmpR op_ne (pe_callB call_isi (by rfl) T.isi (by decide +kernel) (pa_cons (pv 0) (pa_cons (pe_bltn (v := .ty "list") (by rfl) T.lst (by decide +kernel) rfl) pa_nil))) (pe_callB call_isi (by rfl) T.isi (by decide +kernel) (pa_cons (pv 1) (pa_cons (pe_bltn (v := .ty "list") (by rfl) T.lst (by decide +kernel) rfl) pa_nil))) (nomark _))
              (pw_or1 (pt_cmpR op_ne (pe_callB call_isi (by rfl) T.isi (by decide +kernel) (pa_cons (pv 0) (pa_cons (pe_bltn (v := .ty "tuple") (by rfl) T.tup (by decide +kernel) rfl) pa_nil))) (pe_callB call_isi (by rfl) T.isi (by decide +kernel) (pa_cons (pv 1) (pa_cons (pe_bltn (v := .ty "tuple") (by rfl) T.tup (by decide +kernel) rfl) pa_nil))) (nomark _)))).pt pss_never pss_nil)
          (pss_one (ps_ret (pe_and (pe_cmpR op_eq (pe_callB call_len_seq (by rfl) T.len PySem.boot_len (pa_cons (pv 0) pa_nil)) (pe_callB call_len_seq (by rfl) T.len PySem.boot_len (pa_cons (pv 1) pa_nil)) (nomark _))
            (pe_one (pe_callB (cr_all rfl) (by rfl) T.all (by decide +kernel) (pa_cons (pe_lc (own := [("_law_k", 2)]) (g := gName 2) (tt := tYes) rfl scSame.nd (pi_range1 rfl T.rng (pa_cons (pe_callB call_len_seq (by rfl) T.len PySem.boot_len (pa_cons (pv 1) pa_nil)) pa_nil))
                (blkOk_by (own := [("_law_k", 2)]) (N := ["_law_told", "_law_due", "_law_k"]) (sc := defScope sSame) (by decide +kernel)) (fun _ _ _ _ _ => pg_name (i := 2) scSame.nd rfl (.inl rfl)) (fun _ _ _ _ _ => pts_nil)
                (fun _ _ _ _ _ => pe_call ih hr (by rfl) gS F.kp bS .nil pass0 (pa_cons (pe_ix (ix_seqK (K := K) rfl) (pv 0) (pv 2) (fun _ _ => rfl)) (pa_cons (pe_ix (ix_seqK (K := K) rfl) (pv 1) (pv 2) (fun _ _ => rfl)) pa_nil)))) pa_nil)))))))
          pss_nil)
        (pss_cons (ps_if (pw_or (pt_cmp (pc_isN (pv 1))) (pw_or1 (pt_cmp (pc_isN (pv 0))))).pt (pss_one (ps_ret (pe_and (pe_cmp (pc_isN (pv 1))) (pe_one (pe_cmp (pc_isN (pv 0))))))) pss_nil)
        (pss_cons (ps_if (pw_or (pt_cmpR op_ne (pe_callB call_isi (by rfl) T.isi (by decide +kernel) (pa_cons (pv 0) (pa_cons (pe_bltn (v := .ty "bool") (by rfl) T.bol (by decide +kernel) rfl) pa_nil))) (pe_callB call_isi (by rfl) T.isi (by decide +kernel) (pa_cons (pv 1) (pa_cons (pe_bltn (v := .ty "bool") (by rfl) T.bol (by decide +kernel) rfl) pa_nil))) (nomark _))
              (pw_or1 (pt_cmpR op_ne (pe_callB call_isi (by rfl) T.isi (by decide +kernel) (pa_cons (pv 0) (pa_cons (pe_bltn (v := .ty "int") (by rfl) T.int (by decide +kernel) rfl) pa_nil))) (pe_callB call_isi (by rfl) T.isi (by decide +kernel) (pa_cons (pv 1) (pa_cons (pe_bltn (v := .ty "int") (by rfl) T.int (by decide +kernel) rfl) pa_nil))) (nomark _)))).pt pss_never pss_nil)
        (pss_one (ps_ret (pe_and (pe_cmpR op_eq (pe_callB call_isi (by rfl) T.isi (by decide +kernel) (pa_cons (pv 0) (pa_cons (pe_bltn (v := .ty "str") (by rfl) T.str (by decide +kernel) rfl) pa_nil))) (pe_callB call_isi (by rfl) T.isi (by decide +kernel) (pa_cons (pv 1) (pa_cons (pe_bltn (v := .ty "str") (by rfl) T.str (by decide +kernel) rfl) pa_nil))) (nomark _))
          (pe_one (pe_cmpR op_eq (pv 0) (pv 1) (nomark _)))))))), ?_⟩
      rcases hE with ⟨rfl, hF⟩ | ⟨a, b, xs, ys, rfl, rfl, hs, hl, h1000, hk⟩
      · have hT : ∀ H', TyX K H' u (.type (flatTy u)) := fun H' => ty_flat hF
        obtain ⟨b1, e1⟩ := kit_some (K := K) hF "bool" (.inl rfl)
        obtain ⟨b2, e2⟩ := kit_some (K := K) hF "int" (.inr (.inl rfl))
        obtain ⟨b3, e3⟩ := kit_some (K := K) hF "str" (.inr (.inr rfl))
        refine ⟨_, rfl, (by show 2 ≤ sizeLine; decide), fun p np => ⟨u, p, _, _, _, _, rfl, upd_same, two_tys (H := H), hT _, kit_seq hF, _, rfl, iteF ?_⟩⟩
        have sm := same_upd (o := .tup [.ty "list", .ty "tuple"]) np
        by_cases hn : u = .non
        · subst hn
          refine ⟨_, rfl, _, rfl, iteT ?_⟩
          refine ⟨_, rfl, _, rfl, iteT ⟨_, rfl, q _ sm⟩⟩
        · have dn : decide (u = .non) = false := decide_eq_false hn
          refine ⟨_, rfl, _, rfl, ?_⟩
          rw [dn]
          refine iteF ⟨_, rfl, _, rfl, ?_⟩
          rw [dn]
          refine iteF ⟨_, rfl, _, _, _, _, _, rfl, .ty _, hT _, e1, _, rfl, _, _, _, _, _, rfl, .ty _, hT _, e1, rfl, _, rfl, iteNS rfl ?_⟩
          refine ⟨_, rfl, _, _, _, _, _, rfl, .ty _, hT _, e2, _, rfl, _, _, _, _, _, rfl, .ty _, hT _, e2, rfl, _, rfl, iteNS rfl ?_⟩
          refine ⟨_, rfl, _, _, _, _, _, rfl, .ty _, hT _, e3, _, rfl, _, _, _, _, _, rfl, .ty _, hT _, e3, rfl, _, rfl, ite2 (fun _ => ?_) (fun c => absurd (decide_eq_true rfl) c)⟩
          refine ⟨_, rfl, _, rfl, ?_, ?_⟩
          · rcases hF with rfl | ⟨b, rfl⟩ | ⟨i, rfl⟩ | ⟨s, rfl⟩
            · exact absurd rfl hn
            · rfl
            · rfl
            · rfl
          · rw [decide_eq_true (rfl : u = u)]
            exact q _ sm
      · have la : SqL K H a xs ∨ SqT K H a xs := hs.elim (fun z => .inl z.1) (fun z => .inr z.1)
        have lb : SqL K H b ys ∨ SqT K H b ys := hs.elim (fun z => .inl z.2) (fun z => .inr z.2)
        obtain ⟨t, ht, tyA, tyB, ⟨bl, el⟩, ⟨bt, et⟩⟩ : ∃ t : String, PySem.W.kitAny K (.type t) [.type "list", .type "tuple"] = some true ∧ (∀ H', Same H H' → TyX K H' (.ref a) (.type t)) ∧ (∀ H', Same H H' → TyX K H' (.ref b) (.type t)) ∧ (∃ z, PySem.W.kitOne K (.type t) (.type "list") = some z) ∧ (∃ z, PySem.W.kitOne K (.type t) (.type "tuple") = some z) := by
          rcases hs with ⟨h1, h2⟩ | ⟨h1, h2⟩
          · exact ⟨"list", kit_l, fun H' e => ty_list (e.seq h1), fun H' e => ty_list (e.seq h2), ⟨true, kit_ty (by decide +kernel)⟩, ⟨false, kit_ty (by decide +kernel)⟩⟩
          · exact ⟨"tuple", kit_t, fun H' e => ty_tup (Same.seqT e h1), fun H' e => ty_tup (Same.seqT e h2), ⟨false, kit_ty (by decide +kernel)⟩, ⟨true, kit_ty (by decide +kernel)⟩⟩
        have up : ∀ {H' : Hp} {c : Addr} {zs : List V}, Same H H' → (SqL K H c zs ∨ SqT K H c zs) → (SqL K H' c zs ∨ SqT K H' c zs) := fun e z => z.elim (fun z => .inl (e.seq z)) (fun z => .inr (Same.seqT e z))
        refine ⟨_, rfl, (by show 2 ≤ sizeLine; decide), fun p np => ⟨.ref b, p, _, _, _, _, rfl, upd_same, two_tys (H := H), tyB _ (same_upd np), ht, _, rfl, iteT ?_⟩⟩
        have sm := same_upd (o := .tup [.ty "list", .ty "tuple"]) np
        generalize upd H p (.tup [.ty "list", .ty "tuple"]) = H1 at sm
        refine ⟨_, rfl, _, _, _, _, _, rfl, .ty _, tyA _ sm, el, _, rfl, _, _, _, _, _, rfl, .ty _, tyB _ sm, el, rfl, _, rfl, iteNS rfl ?_⟩
        refine ⟨_, rfl, _, _, _, _, _, rfl, .ty _, tyA _ sm, et, _, rfl, _, _, _, _, _, rfl, .ty _, tyB _ sm, et, rfl, _, rfl, iteNS rfl ?_⟩
        refine ⟨_, rfl, a, xs, rfl, up sm la, _, rfl, b, ys, rfl, up sm lb, rfl, _, rfl, ite2 (fun _ => ?_) (fun c => absurd (decide_eq_true (by rw [hl])) c)⟩
        refine ⟨_, rfl, b, ys, rfl, up sm lb, (ys.length : Int), rfl, by omega, by omega, fun D nD => ?_⟩
        refine lc_range (lo := 0) (n := (ys.length : Int).toNat) (fun i H' => Same H1 H' ∧ H' D = some (.lst ((List.replicate i true).map V.bl))) ⟨same_upd nD, upd_same⟩ ?_ ?_
        · rintro i H' hi ⟨s2, hD⟩
          have hi : i < ys.length := by omega
          have gy : ys[i]? = some ys[i] := List.getElem?_eq_getElem hi
          have gx : xs[i]? = some (xs[i]'(by omega)) := List.getElem?_eq_getElem (by omega)
          refine ⟨rfl, ?_⟩
          unfold tYes
          refine iteT ?_
          refine ⟨_, rfl, _, rfl, at_seq (i := i) (up (sm.trans s2) la) gx (by omega) ⟨_, rfl, _, rfl, at_seq (i := i) (up (sm.trans s2) lb) gy (by omega) ?_⟩⟩
          refine ⟨_, _, rfl, Eqv.same (sm.trans s2) (hk i _ _ gx gy), fun H3 s3 => ?_⟩
          refine ⟨_, s3 _ _ hD, ?_, fun c o e => ?_, ?_⟩
          · rw [List.length_map, List.length_replicate]
            exact small1000 (by omega)
          · rw [upd_ne (ne_of_none e nD)]
            exact s3 _ _ (s2 _ _ e)
          · rw [upd_same, List.replicate_succ', List.map_append]
            rfl
        · rintro H' ⟨s2, hD⟩
          refine ⟨D, _, rfl, .inl (.inl hD), ?_⟩
          have ea : (List.replicate (ys.length : Int).toNat true).all id = true := List.all_eq_true.mpr (fun z hz => List.eq_of_mem_replicate hz)
          show Q (V.bl ((List.replicate (ys.length : Int).toNat true).all id)) H'
          rw [ea]
          exact q _ (sm.trans s2)
end
end Gap
namespace Gap
open PySem PySem.Spec PyProof.Rows L2
section
variable {P : Program} {w : World} {K : PySem.W.Frag} {mg : Str → Option Value} {base : Heap}
/-! ### a drawn fraction -/
abbrev sDrawn : Stmt := topS 14
theorem scDrawn : FnScope ["_law_bag_here", "_law_some"] ["_law_bag_here"] (defScope sDrawn) := ⟨rfl, rfl, rfl, by decide +kernel, rfl, by decide +kernel, by decide +kernel⟩
/-- what a draw hands back: some fraction, not too great; the bag has gone on -/
def RetD (K : PySem.W.Frag) (n : Nat) (b bl : Addr) (H : Hp) (Q : VK) : Prop := ∀ v q H', SameB b H H' → Bag H' b bl → IsQ K H' v q → Bq n q → Q v H'
def spDrawn (K : PySem.W.Frag) : Sp := fun vs H Q _ => ∃ (b bl : Addr), vs = [.ref b] ∧ Bag H b bl ∧ RetD K 70 b bl H Q
theorem bi_of {n : Nat} {x : Int} (h0 : -(2 ^ n : Nat) < x) (h1 : x < (2 ^ n : Nat)) : Bi n x := by
  unfold Bi
  omega
theorem isQ_at {H : Hp} {p : Addr} {q : Rat} (h : H p = some (.tup [.int q.num, .int (q.den : Int)])) : IsQ K H (.ref p) q := ⟨p, rfl, .inl (.inl h)⟩
theorem ok_drawn {f fp fl : Addr} {fd fdp fdl : FuncData} {k : Nat} (F : Fun K "_law_part" "_law_part" sDrawn f fd) (PL : FnOk P w K mg base CX0 k fp fdp ["_law_bag_here", "_law_many"] spPull) (bp : Binds K fdp ["_law_bag_here", "_law_many"] []) (gp : mg "_law_pull" = some (.ref fp)) (kp : PySem.W.keepIn K (.ref fp) = true)
    (LW : FnOk P w K mg base CX0 k fl fdl ["_law_above", "_law_beneath"] spPart) (bl : Binds K fdl ["_law_above", "_law_beneath"] []) (gl : mg "_law_low" = some (.ref fl)) (kl : PySem.W.keepIn K (.ref fl) = true) :
    FnOk P w K mg base CX0 (k + 1) f fd ["_law_bag_here"] (spDrawn K) := by
  refine F.ok scDrawn (fun vs H Q E h => ?_) (fun cdv A outer s H vs Q E hr h => ?_)
  · obtain ⟨b, bl', rfl, _⟩ := h
    rfl
  · obtain ⟨b, bl', rfl, hB, q⟩ := h
    refine ⟨_, pss_cons (ps_set (i := 1) scDrawn.nd rfl (.inl rfl) (pe_call LW hr (by rfl) gl kl bl .nil pass0 (pa_cons (pe_op op_sub (pe_call PL hr (by rfl) gp kp bp .nil pass0 (pa_cons (pv 0) (pa_cons pe_int pa_nil))) pe_int)
        (pa_cons (pe_op op_add pe_int (pe_call PL hr (by rfl) gp kp bp .nil pass0 (pa_cons (pv 0) (pa_cons pe_int pa_nil)))) pa_nil))))
      (pss_cons (ps_if (pt_cmpR op_eq (pe_call PL hr (by rfl) gp kp bp .nil pass0 (pa_cons (pv 0) (pa_cons pe_int pa_nil))) pe_int (nomark _))
        (pss_one (ps_ret (pe_call LW hr (by rfl) gl kl bl .nil pass0 (pa_cons (pe_op op_sub (pe_call PL hr (by rfl) gp kp bp .nil pass0 (pa_cons (pv 0) (pa_cons (pe_op op_pow pe_int pe_int) pa_nil))) (pe_op op_mul pe_int (pe_op op_pow pe_int pe_int)))
          (pa_cons (pe_op op_add pe_int (pe_call PL hr (by rfl) gp kp bp .nil pass0 (pa_cons (pv 0) (pa_cons (pe_op op_pow pe_int pe_int) pa_nil)))) pa_nil)))))
        pss_nil)
      (pss_one (ps_ret (pe_ix ix_list (pe_lst (pa_cons (pv 1) (pa_cons (pv 1) (pa_cons (pe_tup (pa_cons pe_int (pa_cons pe_int pa_nil))) (pa_cons (pe_tup (pa_cons pe_int (pa_cons pe_int pa_nil))) pa_nil)))))
        (pe_call PL hr (by rfl) gp kp bp .nil pass0 (pa_cons (pv 0) (pa_cons pe_int pa_nil))) (fun _ _ => rfl))))), ?_⟩
    refine ⟨_, rfl, b, bl', 61, rfl, by decide, by decide +kernel, hB, fun r1 H1 s1 B1 l1 u1 => ⟨_, _, rfl, rfl, ?_⟩⟩
    refine ⟨_, rfl, b, bl', 12, rfl, by decide, by decide +kernel, B1, fun r2 H2 s2 B2 l2 u2 => ⟨_, _, rfl, rfl, ?_⟩⟩
    have n1 : (1 + r2 : Int) ≠ 0 := by omega
    have z1 : Bi 5 (r1 - 30) := bi_of (by simp; omega) (by simp; omega)
    have z2 : Bi 5 (1 + r2) := bi_of (by simp; omega) (by simp; omega)
    refine ⟨_, _, rfl, n1, z2.mono (by decide), fun p np => ?_⟩
    have bq := (Bq.of z1 z2 n1).mono (show 5 ≤ 70 by decide)
    generalize Rat.divInt (r1 - 30) (1 + r2) = qs at bq
    have s3 := SameB.of (b := b) (same_upd (o := .tup [.int qs.num, .int (qs.den : Int)]) np)
    have B3 := B2.same (same_upd (o := .tup [.int qs.num, .int (qs.den : Int)]) np)
    have hp : (upd H2 p (.tup [.int qs.num, .int (qs.den : Int)])) p = some (.tup [.int qs.num, .int (qs.den : Int)]) := upd_same
    generalize upd H2 p (.tup [.int qs.num, .int (qs.den : Int)]) = H3 at s3 B3 hp
    have pb : p ≠ b := B2.ne np
    have s03 := (s1.trans s2).trans s3
    refine ⟨_, rfl, b, bl', 4, rfl, by decide, by decide +kernel, B3, fun r4 H4 s4 B4 l4 u4 => ⟨rfl, _, rfl, ite2 (fun _ => ?_) (fun _ => ?_)⟩⟩
    · refine ⟨_, rfl, _, _, rfl, rfl, ⟨by decide, by decide, by decide⟩, b, bl', _, rfl, by decide, by decide +kernel, B4, fun r5 H5 s5 B5 l5 u5 => ⟨_, _, rfl, rfl, ⟨by decide, by decide, by decide⟩, _, _, rfl, rfl, .inl ⟨by decide, by decide⟩, _, _, rfl, rfl, ?_⟩⟩
      refine ⟨_, rfl, _, _, rfl, rfl, ⟨by decide, by decide, by decide⟩, b, bl', _, rfl, by decide, by decide +kernel, B5, fun r6 H6 s6 B6 l6 u6 => ⟨_, _, rfl, rfl, ?_⟩⟩
      have e20 : ((10 : Int) ^ (20 : Int).toNat) = 100000000000000000000 := by decide
      have e19 : ((10 : Int) ^ (19 : Int).toNat) = 10000000000000000000 := by decide
      rw [e20] at u5 u6
      have n2 : (1 + r6 : Int) ≠ 0 := by omega
      have z3 : Bi 70 (r5 - 5 * 10 ^ (19 : Int).toNat) := by
        rw [e19]
        exact bi_of (by simp; omega) (by simp; omega)
      have z4 : Bi 70 (1 + r6) := bi_of (by simp; omega) (by simp; omega)
      refine ⟨_, _, rfl, n2, z4.mono (by decide), fun p2 np2 => ?_⟩
      refine q _ _ _ (((s03.trans s4).trans (s5.trans s6)).trans (SameB.of (same_upd np2))) (B6.same (same_upd np2)) (isQ_at upd_same) (Bq.of z3 z4 n2)
    · refine ⟨_, rfl, _, rfl, (by show 2 ≤ sizeLine; decide), fun pa na => ⟨(by show 2 ≤ sizeLine; decide), fun pc nc => ⟨(by show 4 ≤ sizeLine; decide), fun pd nd => ?_⟩⟩⟩
      have hp4 := s4 _ _ pb hp
      have sa := same_upd (o := .tup [.int 0, .int 1]) na
      have sc := same_upd (o := .tup [.int 1, .int 1]) nc
      have sd := same_upd (o := .lst [.ref p, .ref p, .ref pa, .ref pc]) nd
      have hd : (upd (upd (upd H4 pa (.tup [.int 0, .int 1])) pc (.tup [.int 1, .int 1])) pd (.lst [.ref p, .ref p, .ref pa, .ref pc])) pd = some (.lst [.ref p, .ref p, .ref pa, .ref pc]) := upd_same
      have ha := sd _ _ (sc _ _ (upd_same (H := H4) (a := pa) (o := .tup [.int 0, .int 1])))
      have hc := sd _ _ (upd_same (H := upd H4 pa (.tup [.int 0, .int 1])) (a := pc) (o := .tup [.int 1, .int 1]))
      have hpp := sd _ _ (sc _ _ (sa _ _ hp4))
      have B5 := B4.same ((sa.trans sc).trans sd)
      have s5 := SameB.of (b := b) ((sa.trans sc).trans sd)
      generalize upd (upd (upd H4 pa (.tup [.int 0, .int 1])) pc (.tup [.int 1, .int 1])) pd (.lst [.ref p, .ref p, .ref pa, .ref pc]) = H5 at hd ha hc hpp B5 s5
      refine ⟨_, rfl, b, bl', 4, rfl, by decide, by decide +kernel, B5, fun r6 H6 s6 B6 l6 u6 => ?_⟩
      have ndb : pd ≠ b := fun z => by
        obtain ⟨xs, i, n, s, h1, _⟩ := B5
        rw [z, h1] at hd
        injection hd with hd
        injection hd with hd
        simp at hd
      have tp : ∀ {x : Addr} {q : Rat}, H5 x = some (.tup [.int q.num, .int (q.den : Int)]) → IsQ K H6 (.ref x) q := fun {x q} h => B5.isQ s6 (isQ_at h)
      have go := (s03.trans s4).trans (s5.trans s6)
      have hd6 : SqL K H6 pd [.ref p, .ref p, .ref pa, .ref pc] := .inl (.inl (s6 _ _ ndb hd))
      rcases (show r6 = 0 ∨ r6 = 1 ∨ r6 = 2 ∨ r6 = 3 by omega) with rfl | rfl | rfl | rfl
      · exact ⟨pd, _, _, _, rfl, rfl, hd6, atI_nat (j := 0) rfl, q _ _ _ go B6 (tp hpp) bq⟩
      · exact ⟨pd, _, _, _, rfl, rfl, hd6, atI_nat (j := 1) rfl, q _ _ _ go B6 (tp hpp) bq⟩
      · exact ⟨pd, _, _, _, rfl, rfl, hd6, atI_nat (j := 2) rfl, q _ _ _ go B6 (tp (q := 0) ha) (bq0.mono (by decide))⟩
      · exact ⟨pd, _, _, _, rfl, rfl, hd6, atI_nat (j := 3) rfl, q _ _ _ go B6 (tp (q := 1) hc) (bq1.mono (by decide))⟩
end
end Gap
namespace Gap
open PySem PySem.Spec PyProof.Rows L2
section
variable {P : Program} {w : World} {K : PySem.W.Frag} {mg : Str → Option Value} {base : Heap}
/-! ### lists of fractions -/
def Qs (K : PySem.W.Frag) (H : Hp) (us : List V) (qs : List Rat) : Prop := Paired (fun v q => IsQ K H v q ∧ Bq 70 q) us qs
theorem Qs.len {H : Hp} {us : List V} {qs : List Rat} (h : Qs K H us qs) : us.length = qs.length := Paired.length h
theorem Qs.get {H : Hp} : ∀ {us : List V} {qs : List Rat} {i : Nat} {v : V}, Qs K H us qs → us[i]? = some v → ∃ q, qs[i]? = some q ∧ IsQ K H v q ∧ Bq 70 q
  | _, _, _, _, .nil, e => by simp at e
  | _, _, 0, _, .cons r _, e => by
    cases e
    exact ⟨_, rfl, r⟩
  | _, _, i + 1, _, .cons _ t, e => Qs.get (i := i) t e
theorem Qs.mono {H H' : Hp} (f : ∀ v q, IsQ K H v q → IsQ K H' v q) : ∀ {us : List V} {qs : List Rat}, Qs K H us qs → Qs K H' us qs
  | _, _, .nil => .nil
  | _, _, .cons r t => .cons ⟨f _ _ r.1, r.2⟩ (Qs.mono f t)
theorem Qs.same {H H' : Hp} {us : List V} {qs : List Rat} (h : Qs K H us qs) (e : Same H H') : Qs K H' us qs := h.mono fun _ _ z => z.same e
theorem Qs.snoc {H : Hp} {v : V} {q : Rat} (r : IsQ K H v q ∧ Bq 70 q) : ∀ {us : List V} {qs : List Rat}, Qs K H us qs → Qs K H (us ++ [v]) (qs ++ [q])
  | _, _, .nil => .cons r .nil
  | _, _, .cons r' t => .cons r' (Qs.snoc r t)
def sumQ (q0 : Rat) (qs : List Rat) : Rat := qs.foldl (· + ·) q0
theorem take_snoc {α : Type} {l : List α} {i : Nat} {x : α} (h : l[i]? = some x) : l.take (i + 1) = l.take i ++ [x] := by
  rw [List.take_add_one, h]
  rfl
theorem sumQ_step {q0 q : Rat} {qs : List Rat} {i : Nat} (h : qs[i]? = some q) : sumQ q0 (qs.take (i + 1)) = sumQ q0 (qs.take i) + q := by
  unfold sumQ
  rw [take_snoc h, List.foldl_append]
  rfl
/-! ### the law's sum -/
abbrev sSum : Stmt := topS 13
theorem scSum : FnScope ["_law_my_row", "_law_found", "_law_one"] ["_law_my_row"] (defScope sSum) := ⟨rfl, rfl, rfl, by decide +kernel, rfl, by decide +kernel, by decide +kernel⟩
def spSum (K : PySem.W.Frag) : Sp := fun vs H Q _ => ∃ (a : Addr) (us : List V) (qs : List Rat), vs = [.ref a] ∧ SqL K H a us ∧ Qs K H us qs ∧ qs.length ≤ 10 ∧ RetQ K H Q (sumQ 0 qs)
theorem ok_sum {f fp : Addr} {fd fdp : FuncData} {k : Nat} (F : Fun K "_law_sum" "_law_sum" sSum f fd) (PL : FnOk P w K mg base CX0 k fp fdp ["_law_one", "_law_other"] (sp2 K (fun q r => q + r) (fun _ _ => True))) (bp : Binds K fdp ["_law_one", "_law_other"] []) (gp : mg "_law_plus" = some (.ref fp)) (kp : PySem.W.keepIn K (.ref fp) = true) :
    FnOk P w K mg base CX0 (k + 1) f fd ["_law_my_row"] (spSum K) := by
  refine F.ok scSum (fun vs H Q E h => ?_) (fun cdv A outer s H vs Q E hr h => ?_)
  · obtain ⟨a, us, qs, rfl, _⟩ := h
    rfl
  · obtain ⟨a, us, qs, rfl, hS, hq, hl, ret⟩ := h
    refine ⟨_, pss_cons (ps_set (i := 1) scSum.nd rfl (.inl rfl) (pe_tup (pa_cons pe_int (pa_cons pe_int pa_nil))))
      (pss_cons (ps_for PassesOwn.never rfl (pi_list (pv 0)) (pg_name (i := 2) scSum.nd rfl (.inl rfl))
        (pss_one (ps_set (i := 1) scSum.nd rfl (.inl rfl) (pe_call PL hr (by rfl) gp kp bp .nil pass0 (pa_cons (pv 1) (pa_cons (pv 2) pa_nil))))))
      (pss_one (ps_ret (pv 1)))), ?_⟩
    refine ⟨(by show 2 ≤ sizeLine; decide), fun p np => ?_⟩
    have s1 := same_upd (o := .tup [.int 0, .int 1]) np
    refine ⟨_, rfl, a, rfl, ⟨_, s1.seq hS⟩, for_list (K := K) (a := a) (xs := us) (fun i σ H' => ∃ (v : V) (x : Option V), σ = [some (.ref a), some v, x] ∧ Same H H' ∧ IsQ K H' v (sumQ 0 (qs.take i)) ∧ Bq (71 * i + 1) (sumQ 0 (qs.take i)))
      ⟨.ref p, none, rfl, s1, isQ_at (q := 0) upd_same, bq0⟩ (fun i σ H' _ ⟨_, _, _, e, _⟩ => e.seq hS) ?_ ?_⟩
    · rintro i y σ H' hi ⟨v, x, rfl, e, iv, bv⟩
      obtain ⟨q, hqi, iy, by'⟩ := hq.get hi
      have il : i < us.length := (List.getElem?_eq_some_iff.mp hi).1
      rw [hq.len] at il
      refine ⟨_, rfl, _, rfl, _, _, _, _, rfl, iv, iy.same e, bv.mono (by omega), by'.mono (by decide), trivial, fun z H2 e2 hz => ?_⟩
      have hz : IsQ K H2 z (sumQ 0 (qs.take i) + q) := hz
      rw [← sumQ_step hqi] at hz
      refine ⟨z, _, rfl, e.trans e2, hz, ?_⟩
      rw [sumQ_step hqi]
      exact (bv.add by').mono (by omega)
    · rintro σ H' ⟨v, x, rfl, e, iv, bv⟩
      refine ⟨_, rfl, ret v H' e ?_⟩
      rw [hq.len, List.take_length] at iv
      exact iv
/-! ### total -/
abbrev sTotal : Stmt := topS 6
theorem scTotal : FnScope ["row", "start", "top", "bottom", "one"] ["row", "start"] (defScope sTotal) := ⟨rfl, rfl, rfl, by decide +kernel, rfl, by decide +kernel, by decide +kernel⟩
def spTotal (K : PySem.W.Frag) : Sp := fun vs H Q _ => ∃ (a : Addr) (v : V) (us : List V) (qs : List Rat) (q0 : Rat), vs = [.ref a, v] ∧ SqL K H a us ∧ Qs K H us qs ∧ qs.length ≤ 10 ∧ IsQ K H v q0 ∧ Bq 70 q0 ∧ RetQ K H Q (sumQ q0 qs)
theorem ok_total {dvs : List V} {kws : List (Str × V)} {f fp : Addr} {fd fdp : FuncData} {k : Nat} (F : FunD K "total" "total" (defArgs sTotal) (defBody sTotal) (defScope sTotal) dvs kws f fd) (PL : FnOk P w K mg base CX0 k fp fdp ["over", "under"] spPart) (dp : ∃ ds, Vals [] ds ∧ Binds K fdp ["over", "under"] ds) (gp : mg "part" = some (.ref fp)) (kp : PySem.W.keepIn K (.ref fp) = true) :
    FnOk P w K mg base CX0 (k + 1) f fd ["row", "start"] (spTotal K) := by
  obtain ⟨ds, vd, bp⟩ := dp
  cases vd
  refine F.ok scTotal (fun vs H Q E h => ?_) (fun cdv A outer s H vs Q E hr h => ?_)
  · obtain ⟨a, v, us, qs, q0, rfl, _⟩ := h
    rfl
  · obtain ⟨a, v, us, qs, q0, rfl, hS, hq, hl, iv, bv, ret⟩ := h
    obtain ⟨sv, rfl, iv⟩ := iv
    refine ⟨_, PSs.nox (pss_cons (ps_asg (pv 1) (pg_tup rfl (pgs_cons (pg_name (i := 2) scTotal.nd rfl (.inl rfl)) (pgs_cons (pg_name (i := 3) scTotal.nd rfl (.inl rfl)) pgs_nil))))
      (pss_cons (ps_for PassesOwn.never rfl (pi_list (pv 0)) (pg_name (i := 4) scTotal.nd rfl (.inl rfl))
        (pss_one (ps_par (i := 2) (j := 3) rfl scTotal.nd rfl rfl (by decide) rfl rfl
          (pa_cons (pe_op op_add (pe_op op_mulW (pv 2) (pe_ix ix_tup (pv 4) pe_int (fun _ _ => rfl))) (pe_op op_mulW (pe_ix ix_tup (pv 4) pe_int (fun _ _ => rfl)) (pv 3)))
            (pa_cons (pe_op op_mulW (pv 3) (pe_ix ix_tup (pv 4) pe_int (fun _ _ => rfl))) pa_nil)) (by rfl))))
      (pss_one (ps_ret (pe_call PL hr (by rfl) gp kp bp .nil pass0 (pa_cons (pv 2) (pa_cons (pv 3) pa_nil))))))), ?_⟩
    refine ⟨_, rfl, sv, _, rfl, iv, rfl, _, _, rfl, _, _, rfl, rfl, ?_⟩
    refine ⟨_, rfl, a, rfl, ⟨_, hS⟩, for_list (K := K) (a := a) (xs := us) (fun i σ H' => ∃ (t b : Int) (x : Option V), σ = [some (.ref a), some (.ref sv), some (.int t), some (.int b), x] ∧ H' = H ∧ b ≠ 0 ∧ Rat.divInt t b = sumQ q0 (qs.take i) ∧ Bi (71 * i + 71) t ∧ Bi (71 * i + 71) b)
      ⟨_, _, none, rfl, rfl, den_ne q0, Rat.num_divInt_den q0, bv.1.mono (by decide), bv.2.mono (by decide)⟩ (fun i σ H' _ ⟨_, _, _, _, e, _⟩ => e ▸ hS) ?_ ?_⟩
    · rintro i y σ H' hi ⟨t, b, x, rfl, rfl, b0, ed, bt, bb⟩
      obtain ⟨q, hqi, ⟨ya, rfl, iy⟩, by'⟩ := hq.get hi
      have il : i < us.length := (List.getElem?_eq_some_iff.mp hi).1
      rw [hq.len] at il
      refine ⟨_, rfl, _, rfl, _, _, _, _, rfl, rfl, iy, atI_nat (j := 1) rfl, _, _, rfl, rfl, (bt.mulW by'.2 (by omega)), _, rfl, _, _, _, _, rfl, rfl, iy, atI_nat (j := 0) rfl, _, rfl, _, _, rfl, rfl, (by'.1.mulW bb (by omega)), _, _, rfl, rfl, ?_⟩
      refine ⟨_, rfl, _, rfl, _, _, _, _, rfl, rfl, iy, atI_nat (j := 1) rfl, _, _, rfl, rfl, (bb.mulW by'.2 (by omega)), _, _, rfl, ?_⟩
      refine ⟨_, _, _, rfl, rfl, Int.mul_ne_zero b0 (den_ne q), ?_, ?_, ?_⟩
      · rw [sumQ_step hqi, ← ed]
        have := Rat.divInt_add_divInt t q.num b0 (den_ne q)
        rw [Rat.num_divInt_den] at this
        exact this.symm
      · exact ((bt.mul by'.2).add2 (by'.1.mul bb) (Nat.add_comm _ _)).mono (by omega)
      · exact (bb.mul by'.2).mono (by omega)
    · rintro σ H' ⟨t, b, x, rfl, rfl, b0, ed, bt, bb⟩
      refine ⟨_, rfl, _, rfl, _, _, rfl, b0, bb.mono (by have := hq.len; omega), ?_⟩
      rw [ed, hq.len, List.take_length]
      exact ret.new
end
end Gap
namespace Gap
open PySem PySem.Spec PyProof.Rows L2
/-! ### a def that may be called: where it stands, what it keeps -/
structure Cal (P : Program) (w : World) (K : PySem.W.Frag) (mg : Str → Option Value) (base : Heap) (k : Nat) (name : Str) (ps : List Str) (sp : Sp) : Prop where
  ex : ∃ (f : Addr) (fd : FuncData), FnOk P w K mg base CX0 k f fd ps sp ∧ Binds K fd ps [] ∧ mg name = some (.ref f) ∧ PySem.W.keepIn K (.ref f) = true
section
variable {P : Program} {w : World} {K : PySem.W.Frag} {mg : Str → Option Value} {base : Heap}
theorem Cal.mono {j k : Nat} {name : Str} {ps : List Str} {sp : Sp} (C : Cal P w K mg base j name ps sp) (h : j ≤ k) : Cal P w K mg base k name ps sp := by
  obtain ⟨f, fd, F, r⟩ := C.ex
  exact ⟨f, fd, F.mono h, r⟩
end
section
variable {X : Cx} {CX : CXT} {k : Nat} {f : Addr} {fd : FuncData} {ps ks : List Str} {sp : Sp} {E : XK} {x : Str} {p pos : Pos} {kws : List Keyword} {tk : TA} {g : List Value → List Value → List Value} {gV : List V → List V → List V}
/-- f(k = v, ..), nothing by place -/
theorem pe_callK0 (F : FnOk X.prog X.w X.K X.mg X.base CX k f fd ps sp) (hr : Room k X.A) (hg : Gl X x) (hm : X.mg x = some (.ref f)) (hk : PySem.W.keepIn X.K (.ref f) = true) (hb : KBinds X.K fd ps ks g gV) (hx : Passes CX X E)
    (hkw : PK X kws tk) (all : (backToKw pos (keywordEach kws X.env)).all (·.1.isSome) = true := by rfl) (names : (backToKw pos (keywordEach kws X.env)).filterMap (·.1) = ks := by rfl)
    (nodebug : (x == ("__debug__" : Str)) = false := by decide) (plain : ((backTo pos (starEach [] X.env)).any (·.1) || (backToKw pos (keywordEach kws X.env)).any (·.1.isNone)) = false := by rfl) :
    PE X (.Call (.Name x p) [] kws pos) (tCallK sp gV E tNil tk) := by
  refine ⟨fun pins s σ H Q I h => wpAny_Call_Name_kw (ld_glob I hg hm ?_ nodebug)⟩
  refine PySem.W.callWith_KW0 (h₀ := X.base) I.ok.mod.kin hk all (thn (hkw.run pos pins s σ H _ I h) fun ws s2 z => ?_) plain
  obtain ⟨zs, H2, J, rz, q2⟩ := z
  refine ⟨J.kIn, ?_⟩
  rw [names]
  exact run_fnk F hr hb hx J .nil rz q2
end
end Gap
namespace Gap
open PySem PySem.Spec PyProof.Rows L2
section
variable {P : Program} {w : World} {K : PySem.W.Frag} {mg : Str → Option Value} {base : Heap}
/-! ### lists of fractions as data -/
def qData (q : Rat) : PyData := .tuple [.int q.num, .int (q.den : Int)]
theorem dp_q {H : Hp} {v : V} {q : Rat} (h : IsQ K H v q) : Dp K H v (qData q) := by
  obtain ⟨a, rfl, h⟩ := h
  exact .tup h (.cons (.int _) (.cons (.int _) .nil))
theorem dp_qs {H : Hp} : ∀ {us : List V} {qs : List Rat}, Qs K H us qs → DpAll K H us (qs.map qData)
  | _, _, .nil => .nil
  | _, _, .cons r t => .cons (dp_q r.1) (dp_qs t)
theorem lay_qs : ∀ qs : List Rat, PyData.canLayAll0 (qs.map qData) = true
  | [] => rfl
  | q :: r => by
    show (PyData.canLay0 (qData q) && PyData.canLayAll0 (r.map qData)) = true
    rw [lay_qs r]
    rfl
theorem shaped_qs (qs : List Rat) : SeqAt.shaped (.list (qs.map qData)) = true := by
  have h1 : (PyData.list (qs.map qData)).canLay0 = true := lay_qs qs
  have h2 : (PyData.list (qs.map qData)).depth ≤ 64 := by
    have : ∀ l : List Rat, PyData.depthAll (l.map qData) ≤ 10 := by
      intro l
      induction l with
      | nil => decide
      | cons q r ih =>
        show max (qData q).depth (PyData.depthAll (r.map qData)) ≤ 10
        have : (qData q).depth ≤ 10 := by
          show PyData.depth _ ≤ 10
          unfold qData
          simp [PyData.depth, PyData.depthAll]
        omega
    have := this qs
    show PyData.depthAll (qs.map qData) + 1 ≤ 64
    omega
  unfold SeqAt.shaped
  rw [h1, decide_eq_true h2]
  rfl
abbrev sLaw : Stmt := topS 15
abbrev nLaw : List Str := ["_law_script", "_law_bag_here", "_law_turn", "_law_some", "_law_handed", "_law_first", "_law_found", "_law_k"]
theorem scLaw : FnScope nLaw ["_law_script"] (defScope sLaw) := ⟨rfl, rfl, rfl, by decide +kernel, rfl, by decide +kernel, by decide +kernel⟩
def spLaw (K : PySem.W.Frag) : Sp := fun vs H Q _ => ∃ (a : Addr) (ns : List Int), vs = [.ref a] ∧ SqL K H a (ns.map V.int) ∧ ns.length ≤ 63 ∧ ∀ H', Q (.bl true) H'
/-- total, with its default, and by its names -/
structure TotalAt (P : Program) (w : World) (K : PySem.W.Frag) (mg : Str → Option Value) (base : Heap) (k : Nat) : Prop where
  ex : ∃ (f : Addr) (fd : FuncData) (T : Addr), FnOk P w K mg base CX0 k f fd ["row", "start"] (spTotal K) ∧ mg "total" = some (.ref f) ∧ PySem.W.keepIn K (.ref f) = true ∧ (∀ H, IsQ K H (.ref T) 0) ∧ (∃ ds, Vals [.ref T] ds ∧ Binds K fd ["row", "start"] ds) ∧
    KBinds K fd ["row", "start"] ["start", "row"] (fun us ws => match us, ws with | [], [s, r] => [r, s] | _, _ => []) (fun us ws => match us, ws with | [], [s, r] => [r, s] | _, _ => []) ∧
    KBinds K fd ["row", "start"] ["start"] (fun us ws => match us, ws with | [r], [s] => [r, s] | _, _ => []) (fun us ws => match us, ws with | [r], [s] => [r, s] | _, _ => [])
def q23 : Rat := ⟨2, 3, by decide, by decide⟩
theorem ok_law {f : Addr} {fd : FuncData} {k : Nat} (F : Fun K "law" "law" sLaw f fd) (T : Blt mg) (B : Cal P w K mg base k "_law_bag" ["_law_script"] (spBag K)) (Pu : Cal P w K mg base k "_law_pull" ["_law_bag_here", "_law_many"] spPull)
    (D : Cal P w K mg base k "_law_part" ["_law_bag_here"] (spDrawn K)) (S : Cal P w K mg base k "_law_sum" ["_law_my_row"] (spSum K)) (Sm : Cal P w K mg base k "_law_same" ["_law_told", "_law_due"] (spSame K 2)) (To : TotalAt P w K mg base k) :
    FnOk P w K mg base CX0 (k + 1) f fd ["_law_script"] (spLaw K) := by
  obtain ⟨fB, fdB, FB, bB, gB, kB⟩ := B.ex
  obtain ⟨fP, fdP, FP, bP, gP, kP⟩ := Pu.ex
  obtain ⟨fD, fdD, FD, bD, gD, kD⟩ := D.ex
  obtain ⟨fS, fdS, FS, bS, gS, kS⟩ := S.ex
  obtain ⟨fM, fdM, FM, bM, gM, kM⟩ := Sm.ex
  obtain ⟨fT, fdT, aT, FT, gT, kT, iT, ⟨ds, vT, bT⟩, kb1, kb2⟩ := To.ex
  refine F.ok scLaw (fun vs H Q E h => ?_) (fun cdv A outer s H vs Q E hr h => ?_)
  · obtain ⟨a, ns, rfl, _⟩ := h
    rfl
  · obtain ⟨a, ns, rfl, hS, hlen, ret⟩ := h
    refine ⟨_, pss_cons (ps_set (i := 1) scLaw.nd rfl (.inr rfl) (pe_call FB hr (by rfl) gB kB bB .nil pass0 (pa_cons (pv 0) pa_nil)))
      (pss_cons (ps_for PassesOwn.never rfl (pi_range1 rfl T.rng (pa_cons pe_int pa_nil)) (pg_name (i := 2) scLaw.nd rfl (.inl rfl))
        (pss_cons (ps_setLc (i := 3) (own := [("_law_k", 7)]) (g := gName 7) (tt := tYes) rfl scLaw.nd rfl rfl (sw_true rfl rfl rfl (by decide +kernel)) (pi_range1 rfl T.rng (pa_cons (pe_call FP hr (by rfl) gP kP bP .nil pass0 (pa_cons (pv 1) (pa_cons pe_int pa_nil))) pa_nil))
            (blkOk_by (own := [("_law_k", 7)]) (N := nLaw) (sc := defScope sLaw) (by decide +kernel)) (fun _ _ _ _ _ => pg_name (i := 7) scLaw.nd rfl (.inl rfl)) (fun _ _ _ _ _ => pts_nil)
            (fun _ _ _ _ _ => pe_call FD hr (by rfl) gD kD bD .nil pass0 (pa_cons (pv 1) pa_nil)))
        (pss_cons (ps_par (i := 4) (j := 5) rfl scLaw.nd rfl rfl (by decide) rfl rfl (pa_cons (pe_callTy call_list_of (by rfl) T.lst boot_list (pa_cons (pv 3) pa_nil)) (pa_cons (pe_call FD hr (by rfl) gD kD bD .nil pass0 (pa_cons (pv 1) pa_nil)) pa_nil)) (by rfl))
        (pss_cons (ps_set (i := 6) scLaw.nd rfl (.inl rfl) (pe_lst (pa_cons (pe_call FT hr (by rfl) gT kT bT vT pass0 (pa_cons (pv 4) pa_nil)) (pa_cons (pe_callK0 FT hr (by rfl) gT kT kb1 pass0 (pk_cons (pv 5) (pk_cons (pv 4) pk_nil))) pa_nil))))
        (pss_one (ps_if (pw_or (pt_not (pt_val (pe_call FM hr (by rfl) gM kM bM .nil pass0 (pa_cons (pv 6) (pa_cons (pe_lst (pa_cons (pe_call FS hr (by rfl) gS kS bS .nil pass0 (pa_cons (pv 3) pa_nil)) (pa_cons (pe_call FS hr (by rfl) gS kS bS .nil pass0 (pa_cons (pe_op op_cat (pe_lst (pa_cons (pv 5) pa_nil)) (pv 3)) pa_nil)) pa_nil))) pa_nil)))))
            (pw_or1 (pt_cmpR (op_neD hr.units) (pv 4) (pv 3) (nomark _)))).pt pss_never pss_nil))))))
      (pss_one (ps_ret (pe_call FM hr (by rfl) gM kM bM .nil pass0 (pa_cons (pe_lst (pa_cons (pe_call FT hr (by rfl) gT kT bT vT pass0 (pa_cons (pe_lst pa_nil) pa_nil)) (pa_cons (pe_callK FT hr (by rfl) gT kT kb2 pass0 (pa_cons (pe_lst pa_nil) pa_nil) (pk_cons (pe_tup (pa_cons pe_int (pa_cons pe_int pa_nil))) pk_nil)) pa_nil)))
        (pa_cons (pe_lst (pa_cons (pe_tup (pa_cons pe_int (pa_cons pe_int pa_nil))) (pa_cons (pe_tup (pa_cons pe_int (pa_cons pe_int pa_nil))) pa_nil))) pa_nil)))))), ?_⟩
    refine ⟨_, rfl, a, ns, rfl, hS, hlen, fun b bl H1 s1 nb B1 => ?_⟩
    refine ⟨4, rfl, by decide, by decide, for_range (lo := 0) (n := 4) (fun i σ H' => ∃ x2 x3 x4 x5 x6 x7 : Option V, σ = [some (.ref a), some (.ref b), x2, x3, x4, x5, x6, x7] ∧ Bag H' b bl) ⟨_, _, _, _, _, _, rfl, B1⟩ ?_ ?_⟩
    · rintro i σ H2 hi ⟨x2, x3, x4, x5, x6, x7, rfl, B2⟩
      refine ⟨_, rfl, b, bl, 9, rfl, by decide, by decide +kernel, B2, fun m H3 s3 B3 m0 m9 => ?_⟩
      refine ⟨m, rfl, by omega, by omega, fun l nl => ?_⟩
      have lb : l ≠ b := B3.ne nl
      refine lc_range (lo := 0) (n := m.toNat) (fun j H' => SameB b H3 H' ∧ Bag H' b bl ∧ ∃ us qs, H' l = some (.lst us) ∧ Qs K H' us qs ∧ us.length = j) ⟨SameB.of (same_upd nl), B3.same (same_upd nl), [], [], upd_same, .nil, rfl⟩ ?_ ?_
      · rintro j H4 hj ⟨s4, B4, us, qs, hl, hq, hu⟩
        refine ⟨rfl, ?_⟩
        unfold tYes
        refine iteT ?_
        refine ⟨_, rfl, b, bl, rfl, B4, fun v q H5 s5 B5 iv bv => ?_⟩
        have hl5 := s5 _ _ lb hl
        have isu : ∀ (y : V) (r : Rat), IsQ K H5 y r → IsQ K (upd H5 l (.lst (us ++ [v]))) y r := fun y r z => z.putL hl5
        refine ⟨us, hl5, small1000 (by omega), fun c o n e => ?_, ?_, us ++ [v], qs ++ [q], upd_same, (Qs.snoc ⟨iv, bv⟩ (hq.mono fun y r z => B4.isQ s5 z)).mono isu, ?_⟩
        · rw [upd_ne (ne_of_none e nl)]
          exact s5 _ _ n (s4 _ _ n e)
        · exact B5.put lb (B3.nel nl)
        · rw [List.length_append, hu]
          rfl
      · rintro H4 ⟨s4, B4, us, qs, hl, hq, hu⟩
        have hm : us.length ≤ 8 := by omega
        have lqs := hq.len
        -- handed, first
        refine ⟨_, rfl, l, us, rfl, .inl (.inl (.inl hl)), fun h nh => ?_⟩
        have sh := same_upd (o := .lst us) nh
        have hh : (upd H4 h (.lst us)) h = some (.lst us) := upd_same
        have hlh := sh _ _ hl
        have Bh := B4.same sh
        have hqh := hq.same sh
        have hb : h ≠ b := B4.ne nh
        generalize upd H4 h (.lst us) = H5 at sh hh hlh Bh hqh
        refine ⟨_, rfl, b, bl, rfl, Bh, fun v0 q0 H6 s6 B6 i0 b0 => ⟨_, _, rfl, ?_⟩⟩
        have hh6 := s6 _ _ hb hh
        have hl6 := s6 _ _ lb hlh
        have hq6 : Qs K H6 us qs := hqh.mono fun y r z => Bh.isQ s6 z
        -- found
        refine ⟨_, rfl, h, .ref aT, us, qs, 0, rfl, .inl (.inl hh6), hq6, by omega, iT _, bq0.mono (by decide), fun v1 H7 s7 i1 => ?_⟩
        refine ⟨_, rfl, _, rfl, h, v0, us, qs, q0, rfl, .inl (.inl (s7 _ _ hh6)), hq6.same s7, by omega, i0.same s7, b0, fun v2 H8 s8 i2 => ⟨(by show 2 ≤ sizeLine; decide), fun fo nfo => ?_⟩⟩
        have s9 := same_upd (o := .lst [v1, v2]) nfo
        have hfo : (upd H8 fo (.lst [v1, v2])) fo = some (.lst [v1, v2]) := upd_same
        have s69 := (s7.trans s8).trans s9
        have i1' := (i1.same s8).same s9
        have i2' := i2.same s9
        generalize upd H8 fo (.lst [v1, v2]) = H9 at s9 hfo s69 i1' i2'
        -- the sums
        have hl9 := s69 _ _ hl6
        have hh9 := s69 _ _ hh6
        have hq9 := hq6.same s69
        refine ⟨_, rfl, _, rfl, l, us, qs, rfl, .inl (.inl hl9), hq9, by omega, fun w1 Ha sa j1 => ?_⟩
        refine ⟨_, rfl, (by show 1 ≤ sizeLine; decide), fun c nc => ⟨_, rfl, c, l, [v0], us, rfl, rfl, upd_same, ?_, ?_, fun e ne => ?_⟩⟩
        · rw [upd_ne (ne_of_none (sa _ _ hl9) nc)]
          exact sa _ _ hl9
        · show 1 + us.length ≤ sizeLine
          exact Nat.le_of_lt (small1000 (by omega))
        have sc := same_upd (o := .lst [v0]) nc
        have se := same_upd (o := .lst ([v0] ++ us)) ne
        have he : (upd (upd Ha c (.lst [v0])) e (.lst ([v0] ++ us))) e = some (.lst ([v0] ++ us)) := upd_same
        have sae := (sa.trans sc).trans se
        have j1' := (j1.same sc).same se
        generalize upd (upd Ha c (.lst [v0])) e (.lst ([v0] ++ us)) = Hb at se he sae j1'
        have hqe : Qs K Hb (v0 :: us) (q0 :: qs) := .cons ⟨(i0.same s69).same sae, b0⟩ (hq9.same sae)
        refine ⟨e, v0 :: us, q0 :: qs, rfl, .inl (.inl he), hqe, (by show qs.length + 1 ≤ 10; omega), fun w2 Hc s10 j2 => ⟨(by show 2 ≤ sizeLine; decide), fun du ndu => ?_⟩⟩
        have s11 := same_upd (o := .lst [w1, w2]) ndu
        have hdu : (upd Hc du (.lst [w1, w2])) du = some (.lst [w1, w2]) := upd_same
        have s9d := (sae.trans s10).trans s11
        have j1'' := (j1'.same s10).same s11
        have j2' := j2.same s11
        generalize upd Hc du (.lst [w1, w2]) = Hd at s11 hdu s9d j1'' j2'
        have e0 : sumQ 0 (q0 :: qs) = sumQ q0 qs := by
          unfold sumQ
          rw [List.foldl_cons, Rat.zero_add]
        rw [e0] at j2'
        refine ⟨_, _, rfl, Eqv.lists (.inl (.inl (s9d _ _ hfo))) (.inl (.inl hdu)) (.cons (Eqv.isQ (i1'.same s9d) j1'') (.cons (Eqv.isQ (i2'.same s9d) j2') .nil)) (by show 2 ≤ 1000; decide), fun He s12 => ⟨_, rfl, ?_⟩⟩
        refine iteF ?_
        have s6e := (s69.trans s9d).trans s12
        refine ⟨_, rfl, _, rfl, .list (qs.map qData), .list (qs.map qData), .lst (.inl (.inl (s6e _ _ hh6))) (dp_qs (hq6.same s6e)), .lst (.inl (.inl (s6e _ _ hl6))) (dp_qs (hq6.same s6e)), shaped_qs qs, shaped_qs qs, _, rfl, ?_⟩
        rw [PySem.SeqAt.eqv_refl _ (show (PyData.list (qs.map qData)).canLay0 = true from lay_qs qs)]
        refine iteF ?_
        exact ⟨_, _, _, _, _, _, rfl, B6.same s6e⟩
    · rintro σ H2 ⟨x2, x3, x4, x5, x6, x7, rfl, B2⟩
      refine ⟨Nat.zero_le _, fun e1 n1 => ?_⟩
      have s1 := same_upd (o := .lst []) n1
      refine ⟨e1, .ref aT, [], [], 0, rfl, .inl (.inl upd_same), .nil, by decide, iT _, bq0.mono (by decide), fun v1 H3 s3 i1 => ?_⟩
      refine ⟨Nat.zero_le _, fun e2 n2 => ⟨(by show 2 ≤ sizeLine; decide), fun e3 n3 => ?_⟩⟩
      have s4 := same_upd (o := .lst []) n2
      have s5 := same_upd (o := .tup [.int 2, .int 3]) n3
      refine ⟨e2, .ref e3, [], [], q23, rfl, .inl (.inl (s5 _ _ upd_same)), .nil, by decide, isQ_at (q := q23) upd_same, ⟨by unfold Bi; decide, by unfold Bi; decide⟩, fun v2 H4 s6 i2 => ⟨(by show 2 ≤ sizeLine; decide), fun p np => ?_⟩⟩
      have s7 := same_upd (o := .lst [v1, v2]) np
      have hp : (upd H4 p (.lst [v1, v2])) p = some (.lst [v1, v2]) := upd_same
      have i1' := (((i1.same s4).same s5).same s6).same s7
      have i2' := i2.same s7
      generalize upd H4 p (.lst [v1, v2]) = H5 at s7 hp i1' i2'
      refine ⟨(by show 2 ≤ sizeLine; decide), fun t1 m1 => ⟨(by show 2 ≤ sizeLine; decide), fun t2 m2 => ⟨(by show 2 ≤ sizeLine; decide), fun r m3 => ?_⟩⟩⟩
      have z1 := same_upd (o := .tup [.int 0, .int 1]) m1
      have z2 := same_upd (o := .tup [.int 2, .int 3]) m2
      have z3 := same_upd (o := .lst [.ref t1, .ref t2]) m3
      refine ⟨_, _, rfl, Eqv.lists (.inl (.inl (z3 _ _ (z2 _ _ (z1 _ _ hp))))) (.inl (.inl upd_same)) (.cons (Eqv.isQ (((i1'.same z1).same z2).same z3) (isQ_at (q := 0) (z3 _ _ (z2 _ _ upd_same)))) (.cons (Eqv.isQ (((i2'.same z1).same z2).same z3) (isQ_at (q := q23) (z3 _ _ upd_same))) .nil)) (by show 2 ≤ 1000; decide), fun H6 _ => ret _⟩
end
end Gap
namespace Gap
open PySem PySem.Spec PyProof.Rows L2
/-! ### what the top has written -/
def FnAt (K : PySem.W.Frag) (name : Str) (st : Stmt) : Prop := ∃ (f : Addr) (fd : FuncData), Fun K name name st f fd ∧ PySem.W.nsIn K mainGlobals name = some (some (.ref f))
theorem fnAt {K : PySem.W.Frag} {name : Str} {st : Stmt} {f : Addr} {oc kV doc pm cdv ct : Value} {od an : Option Addr} {osl : Array (Option Value)} (a : PySem.W.nsIn K mainGlobals name = some (some (.ref f)))
    (l : K.lookup f = some ⟨oc, od, .func (PySem.W.fnOf name name (defArgs st) (defBody st) (defScope st) .none kV doc pm an cdv ct), osl⟩) (c : PySem.W.codeIn K cdv name = true) (k : PySem.W.keepIn K (.ref f) = true) : FnAt K name st := ⟨f, _, fun_mk l c k, a⟩
/-- a def with one default, an int -/
def FnAtD (K : PySem.W.Frag) (name : Str) (st : Stmt) (dvs : List V) (kws : List (Str × V)) : Prop := ∃ (f : Addr) (fd : FuncData), FunD K name name (defArgs st) (defBody st) (defScope st) dvs kws f fd ∧ PySem.W.nsIn K mainGlobals name = some (some (.ref f))
theorem fnAtD1 {K : PySem.W.Frag} {name : Str} {st : Stmt} {f T : Addr} {i : Int} {t : Tok} {n : Nat} {oc oc2 kV doc pm cdv ct : Value} {od od2 an : Option Addr} {osl osl2 : Array (Option Value)} (a : PySem.W.nsIn K mainGlobals name = some (some (.ref f)))
    (l : K.lookup f = some ⟨oc, od, .func (PySem.W.fnOf name name (defArgs st) (defBody st) (defScope st) (.ref T) kV doc pm an cdv ct), osl⟩) (c : PySem.W.codeIn K cdv name = true) (k : PySem.W.keepIn K (.ref f) = true)
    (d : K.lookup T = some ⟨oc2, od2, .seq #[.int i t] n, osl2⟩) : FnAtD K name st [.int i] [] :=
  ⟨f, _, ⟨⟨oc, od, .ref T, kV, doc, pm, an, cdv, ct, osl, rfl, l, c, .inr ⟨by simp, T, _, [.int i t], n, rfl, d, rfl, .cons ⟨t, rfl⟩ .nil⟩, .inl rfl⟩, k⟩, a⟩
/-- a def with one default behind the star, a pair of ints -/
theorem fnAtK1 {K : PySem.W.Frag} {name y : Str} {st : Stmt} {f D T : Addr} {i j : Int} {t u : Tok} {n : Nat} {oc doc pm cdv ct : Value} {od od2 an : Option Addr} {osl osl2 : Array (Option Value)} (a : PySem.W.nsIn K mainGlobals name = some (some (.ref f)))
    (l : K.lookup f = some ⟨oc, od, .func (PySem.W.fnOf name name (defArgs st) (defBody st) (defScope st) .none (.ref D) doc pm an cdv ct), osl⟩) (c : PySem.W.codeIn K cdv name = true) (k : PySem.W.keepIn K (.ref f) = true)
    (d : PySem.W.nsIn K D y = some (some (.ref T))) (e : K.lookup T = some ⟨.type "tuple", od2, .seq #[.int i t, .int j u] n, osl2⟩) : ∃ T : Addr, FnAtD K name st [] [(y, .ref T)] ∧ ∀ H, SqT K H T [.int i, .int j] :=
  ⟨T, ⟨f, _, ⟨⟨oc, od, .none, .ref D, doc, pm, an, cdv, ct, osl, rfl, l, c, .inl ⟨rfl, rfl⟩, .inr ⟨D, rfl, fun q hq => by
    have e := List.mem_singleton.mp hq
    subst e
    exact ⟨_, d, rfl⟩⟩⟩, k⟩, a⟩, fun H => .inr ⟨_, _, _, e, rfl, rfl, by show 2 ≤ sizeLine; decide, .cons ⟨t, rfl⟩ (.cons ⟨u, rfl⟩ .nil)⟩⟩
section
variable {P : Program} {w : World} {K : PySem.W.Frag} {mg : Str → Option Value} {base h : Heap}
theorem cal_of {k : Nat} {name : Str} {st : Stmt} {ps : List Str} {sp : Sp} (X : K.In h) (G : h.Ns mainGlobals mg) (F : FnAt K name st) (ok : ∀ f fd, Fun K name name st f fd → FnOk P w K mg base CX0 k f fd ps sp)
    (b : ∀ f fd, Fun K name name st f fd → Binds K fd ps []) : Cal P w K mg base k name ps sp := by
  obtain ⟨f, fd, F, a⟩ := F
  exact ⟨f, fd, ok f fd F, b f fd F, PySem.W.mg_of X G a, F.kp⟩
end
end Gap
namespace Gap
open PySem PySem.Spec PyProof.Rows L2
theorem kb_names {K : PySem.W.Frag} {kws : List (Str × V)} {f : Addr} {fd : FuncData} (F : FunD K "total" "total" (defArgs sTotal) (defBody sTotal) (defScope sTotal) [] kws f fd) :
    KBinds K fd ["row", "start"] ["start", "row"] (fun us ws => match us, ws with | [], [s, r] => [r, s] | _, _ => []) (fun us ws => match us, ws with | [], [s, r] => [r, s] | _, _ => []) := by
  obtain ⟨oc, od, dV, kV, doc, pm, an, cdv, ct, osl, rfl, lk, hcd, hD, hK⟩ := F.ex
  rcases hD with ⟨_, rfl⟩ | ⟨e, _⟩
  · refine ⟨fun s us ws X hl => ?_, fun {vs us zs ws} r1 r2 => ?_⟩
    · match us, ws, hl with
      | [], [a, b], _ => exact .of_eq rfl
      | [], [], hl => exact absurd hl (by simp)
      | [], [_], hl => exact absurd hl (by simp)
      | [], _ :: _ :: _ :: _, hl => exact absurd hl (by simp)
      | _ :: _, _, hl => exact absurd hl (by simp)
    · cases r1 with
      | nil =>
        cases r2 with
        | nil => exact .nil
        | cons h t =>
          cases t with
          | nil => exact .nil
          | cons h2 t2 =>
            cases t2 with
            | nil => exact .cons h2 (.cons h .nil)
            | cons _ _ => exact .nil
      | cons _ _ => exact .nil
  · exact absurd rfl e
theorem kb_start {K : PySem.W.Frag} {kws : List (Str × V)} {f : Addr} {fd : FuncData} (F : FunD K "total" "total" (defArgs sTotal) (defBody sTotal) (defScope sTotal) [] kws f fd) :
    KBinds K fd ["row", "start"] ["start"] (fun us ws => match us, ws with | [r], [s] => [r, s] | _, _ => []) (fun us ws => match us, ws with | [r], [s] => [r, s] | _, _ => []) := by
  obtain ⟨oc, od, dV, kV, doc, pm, an, cdv, ct, osl, rfl, lk, hcd, hD, hK⟩ := F.ex
  rcases hD with ⟨_, rfl⟩ | ⟨e, _⟩
  · refine ⟨fun s us ws X hl => ?_, fun {vs us zs ws} r1 r2 => ?_⟩
    · match us, ws, hl with
      | [a], [b], _ => exact .of_eq rfl
      | [], _, hl => exact absurd hl (by simp)
      | [_], [], hl => exact absurd hl (by simp)
      | [_], _ :: _ :: _, hl => exact absurd hl (by simp)
      | _ :: _ :: _, _, hl => exact absurd hl (by simp)
    · cases r1 with
      | nil => exact .nil
      | cons h t =>
        cases t with
        | nil =>
          cases r2 with
          | nil => exact .nil
          | cons h2 t2 =>
            cases t2 with
            | nil => exact .cons h (.cons h2 .nil)
            | cons _ _ => exact .nil
        | cons _ _ => exact .nil
  · exact absurd rfl e
theorem all_mk {l : PySem.W.OpenLaw} {w : World} {K : PySem.W.Frag} {h : Heap} {mg : Str → Option Value} {fa : Addr} (X : K.In h) (G : h.Ns mainGlobals mg) (hfa : mg "law" = some (.ref fa))
    (aCommon : FnAt K "common" sCommon) (aPart : FnAtD K "part" sPart [.int 1] []) (aTotal : ∃ T : Addr, FnAtD K "total" sTotal [] [("start", .ref T)] ∧ ∀ H, SqT K H T [.int 0, .int 1])
    (aBag : FnAt K "_law_bag" sBag) (aPull : FnAt K "_law_pull" sPull) (aSame : FnAt K "_law_same" sSame) (aLow : FnAt K "_law_low" sLow) (aPlus : FnAt K "_law_plus" sPlusL) (aSum : FnAt K "_law_sum" sSum) (aDrawn : FnAt K "_law_part" sDrawn) (aLaw : FnAt K "law" sLaw)
    (zabs : PySem.W.nsIn K mainGlobals "abs" = some none) (zisi : PySem.W.nsIn K mainGlobals "isinstance" = some none) (zlst : PySem.W.nsIn K mainGlobals "list" = some none) (ztup : PySem.W.nsIn K mainGlobals "tuple" = some none) (zbol : PySem.W.nsIn K mainGlobals "bool" = some none)
    (zint : PySem.W.nsIn K mainGlobals "int" = some none) (zstr : PySem.W.nsIn K mainGlobals "str" = some none) (zlen : PySem.W.nsIn K mainGlobals "len" = some none) (zall : PySem.W.nsIn K mainGlobals "all" = some none) (zrng : PySem.W.nsIn K mainGlobals "range" = some none) :
    ∃ fd : FuncData, (∀ (s : Shared) (v : Value), BindsTo s fd ⟨[v], []⟩ [("_law_script", v)]) ∧ ∀ base : Heap, K.In base → base.Ns mainGlobals mg → FnOk l.prog w K mg base CX0 5 fa fd ["_law_script"] (spLaw K) := by
  have mA := PySem.W.mg_none_of X G zabs
  have T : Blt mg := ⟨PySem.W.mg_none_of X G zisi, PySem.W.mg_none_of X G zlst, PySem.W.mg_none_of X G ztup, PySem.W.mg_none_of X G zbol, PySem.W.mg_none_of X G zint, PySem.W.mg_none_of X G zstr, PySem.W.mg_none_of X G zlen, PySem.W.mg_none_of X G zall, PySem.W.mg_none_of X G zrng⟩
  obtain ⟨f0, fd0, F0, a0⟩ := aLaw
  have e := hfa.symm.trans (PySem.W.mg_of X G a0)
  cases e
  refine ⟨fd0, ?_, fun base _ _ => ?_⟩
  · obtain ⟨oc, od, kV, doc, pm, an, cdv, ct, osl, rfl, _⟩ := F0.ex
    exact fun s v => .of_eq rfl
  · have cCommon : Cal l.prog w K mg base 1 "common" ["one", "other"] spCommon := cal_of X G aCommon (fun f fd F => ok_common F mA) fun f fd F => F.binds fun _ _ _ _ _ _ us hl => match us, hl with | [_, _], _ => rfl
    have cLow : Cal l.prog w K mg base 1 "_law_low" ["_law_above", "_law_beneath"] spPart := cal_of X G aLow (fun f fd F => ok_low F mA) fun f fd F => F.binds fun _ _ _ _ _ _ us hl => match us, hl with | [_, _], _ => rfl
    have cPull : Cal l.prog w K mg base 1 "_law_pull" ["_law_bag_here", "_law_many"] spPull := cal_of X G aPull (fun f fd F => ok_pull F T.len) fun f fd F => F.binds fun _ _ _ _ _ _ us hl => match us, hl with | [_, _], _ => rfl
    have cBag : Cal l.prog w K mg base 1 "_law_bag" ["_law_script"] (spBag K) := cal_of X G aBag (fun f fd F => ok_bag F T.lst) fun f fd F => F.binds fun _ _ _ _ _ _ us hl => match us, hl with | [_], _ => rfl
    have cSame : Cal l.prog w K mg base 3 "_law_same" ["_law_told", "_law_due"] (spSame K 2) := by
      obtain ⟨f, fd, F, a⟩ := aSame
      have b : Binds K fd ["_law_told", "_law_due"] [] := F.binds fun _ _ _ _ _ _ us hl => match us, hl with | [_, _], _ => rfl
      exact ⟨f, fd, ok_same F T b (PySem.W.mg_of X G a) 2, b, PySem.W.mg_of X G a, F.kp⟩
    have cPlus : Cal l.prog w K mg base 2 "_law_plus" ["_law_one", "_law_other"] (sp2 K (fun q r => q + r) (fun _ _ => True)) := by
      obtain ⟨fl, fdl, FL, bl, gl, kl⟩ := cLow.ex
      exact cal_of X G aPlus (fun f fd F => ok_PlusL F FL bl gl kl) fun f fd F => F.binds fun _ _ _ _ _ _ us hl => match us, hl with | [_, _], _ => rfl
    have cSum : Cal l.prog w K mg base 3 "_law_sum" ["_law_my_row"] (spSum K) := by
      obtain ⟨fl, fdl, FL, bl, gl, kl⟩ := cPlus.ex
      exact cal_of X G aSum (fun f fd F => ok_sum F FL bl gl kl) fun f fd F => F.binds fun _ _ _ _ _ _ us hl => match us, hl with | [_], _ => rfl
    have cDrawn : Cal l.prog w K mg base 2 "_law_part" ["_law_bag_here"] (spDrawn K) := by
      obtain ⟨fl, fdl, FL, bl, gl, kl⟩ := cLow.ex
      obtain ⟨fp, fdp, FP, bp, gp, kp⟩ := cPull.ex
      exact cal_of X G aDrawn (fun f fd F => ok_drawn F FP bp gp kp FL bl gl kl) fun f fd F => F.binds fun _ _ _ _ _ _ us hl => match us, hl with | [_], _ => rfl
    have tot : TotalAt l.prog w K mg base 3 := by
      obtain ⟨aT, ⟨f, fd, F, a⟩, iT⟩ := aTotal
      obtain ⟨fc, fdc, FC, bc, gc, kc⟩ := cCommon.ex
      obtain ⟨fp, fdp, FP, ap⟩ := aPart
      have okp : FnOk l.prog w K mg base CX0 2 fp fdp ["over", "under"] spPart := ok_part FP FC bc gc kc
      have bp := FP.binds1 (ps := ["over", "under"]) 2 1 (by simp) rfl fun T kV doc pm an cdv ct us its hu hi => match us, its, hu, hi with | [_, _], [_], _, _ => ⟨_, rfl, rfl⟩
      refine ⟨f, fd, aT, ok_total F okp bp (PySem.W.mg_of X G ap) FP.kp, PySem.W.mg_of X G a, F.kp, fun H => ⟨aT, rfl, iT H⟩, ?_, ?_, ?_⟩
      · exact F.binds0 1 (by simp) rfl fun D doc pm an cdv ct us ks hu hk => match us, ks, hu, hk with | [_], [_], _, _ => ⟨_, _, _, _, _, _, rfl, rfl, rfl⟩
      · exact kb_names F
      · exact kb_start F
    exact ok_law (k := 3) F0 T (cBag.mono (by decide)) (cPull.mono (by decide)) (cDrawn.mono (by decide)) cSum cSame tot |>.mono (by decide)
end Gap
open PySem PySem.W PyProof.Rows
set_option maxHeartbeats 0 in
theorem PySem.Challenge.cw_gapstone_k03_totals_holds : PySem.Challenge.rw_gapstone_k03_totals.Holds := by
  w_on; o_law; k_head; (case hw => w_witness2)
  k_fill
  refine L2.walk_of (l := PySem.Challenge.rw_gapstone_k03_totals) (n := 63) (k := 5) (x := "_law_script") (CX := fun _ => L2.CX0) (sp := fun w => Gap.spLaw _) rfl (by decide) rfl ⟨rfl, by decide, by decide⟩ (fun w h Y => PySem.W.kIn_of Y) ?F (fun _ _ a ns hl _ hS => ⟨a, ns, rfl, hS, hl, fun _ => rfl⟩) (fun _ _ _ _ _ h => h)
  case F =>
    intro w mg fa h KX G hmg
    refine' Gap.all_mk KX G hmg ?fCommon ?fPart ?fTotal ?fBag ?fPull ?fSame ?fLow ?fPlus ?fSum ?fDrawn ?fLaw ?z1 ?z2 ?z3 ?z4 ?z5 ?z6 ?z7 ?z8 ?z9 ?z10
    (case z1 => k_is); (case z2 => k_is); (case z3 => k_is); (case z4 => k_is); (case z5 => k_is); (case z6 => k_is); (case z7 => k_is); (case z8 => k_is); (case z9 => k_is); (case z10 => k_is)
    case fCommon => (refine' Gap.fnAt ?a ?l ?c ?k; (case a => k_is); (case l => k_is); (case c => k_is); (case k => k_is))
    case fBag => (refine' Gap.fnAt ?a ?l ?c ?k; (case a => k_is); (case l => k_is); (case c => k_is); (case k => k_is))
    case fPull => (refine' Gap.fnAt ?a ?l ?c ?k; (case a => k_is); (case l => k_is); (case c => k_is); (case k => k_is))
    case fSame => (refine' Gap.fnAt ?a ?l ?c ?k; (case a => k_is); (case l => k_is); (case c => k_is); (case k => k_is))
    case fLow => (refine' Gap.fnAt ?a ?l ?c ?k; (case a => k_is); (case l => k_is); (case c => k_is); (case k => k_is))
    case fPlus => (refine' Gap.fnAt ?a ?l ?c ?k; (case a => k_is); (case l => k_is); (case c => k_is); (case k => k_is))
    case fSum => (refine' Gap.fnAt ?a ?l ?c ?k; (case a => k_is); (case l => k_is); (case c => k_is); (case k => k_is))
    case fDrawn => (refine' Gap.fnAt ?a ?l ?c ?k; (case a => k_is); (case l => k_is); (case c => k_is); (case k => k_is))
    case fLaw => (refine' Gap.fnAt ?a ?l ?c ?k; (case a => k_is); (case l => k_is); (case c => k_is); (case k => k_is))
    case fPart => (refine' Gap.fnAtD1 ?a ?l ?c ?k ?d; (case a => k_is); (case l => k_is); (case c => k_is); (case k => k_is); (case d => k_is))
    case fTotal => (refine' Gap.fnAtK1 ?a ?l ?c ?k ?d ?e; (case a => k_is); (case l => k_is); (case c => k_is); (case k => k_is); (case d => k_is); (case e => k_is))
