/-
  The reference's puny: read.
-/
import Derived.Test.YtaakdcelbnghoaaQPunA
import Derived.Test.YtaakdcelbnghoaaQPunDecS
set_option linter.unusedSimpArgs false
set_option linter.unusedVariables false
namespace Go.Proofs.Ytaakdcelbnghoaa
open Go.RowKit
set_option linter.unusedVariables false

/-- What read gives: the number, the index behind it, whether it is in order. -/
def rrdN (b a : Nat) (L : List Int) : Nat × Nat × Bool := match takeD b 0 L with
  | none => (0, 0, false)
  | some (D, _) => (min (pvalS b 0 D) 2147483648, a + D.length, true)

theorem v31a : (Value.int .i64 2147483648 : Value) = .int .i64 ((2147483648 : Nat) : Int) := rfl
theorem v31b {y : Nat} (h : y < 2147483648) : Value.int .i64 (if (y : Int) < 2147483648 then (y : Int) else 2147483648) = .int .i64 (y : Int) := by rw [if_pos (by omega)]
theorem v31c {y : Nat} (h : ¬ y < 2147483648) : Value.int .i64 (if (y : Int) < 2147483648 then (y : Int) else 2147483648) = .int .i64 ((2147483648 : Nat) : Int) := by rw [if_neg (by omega)]; rfl

set_option maxHeartbeats 4000000 in
theorem rread_no (s : ByteArray) (a b : Nat) (w : World) (hs : s.size ≤ 1099511627776) (ha : a ≤ s.size) (hb : b ≤ 70368744177664) (HS : Hid (sizD b 0 ((nums s).drop a) = none)) :
    Calls Try.prog 46 #[.string s, .int .i64 a, .int .i64 b] w fun e w' => e = .returned (.tuple #[.int .i64 0, .int .i64 0, .bool false]) ∧ w' = w := by
  go_enter Try.func46, Try.ntmps46
  go_wp2
  go_loopw [1, 9, 10, 11] (fun ua us uw uj wr => ∃ (p j S W : Nat), ua = .int .i64 p ∧ us = .int .i64 S ∧ uw = .int .i64 W ∧ uj = .int .i64 j ∧ p = a + j ∧ p ≤ s.size ∧ S ≤ 2147483648 ∧ W ≤ 2147483648 ∧ Hid (sizD b j ((nums s).drop p) = none) ∧ wr = w) (fun ua _ _ _ _ => s.size - (intOf ua).toNat)
  case atStart => exact ⟨a, 0, 0, 1, rfl, rfl, rfl, rfl, rfl, ha, by omega, by omega, HS, rfl⟩
  case round =>
    clear HS
    obtain ⟨p, j, S, W, rfl, rfl, rfl, rfl, hpj, hp, hS, hW, hz, rfl⟩ := hrel
    have HPJ := Lib.hid hpj
    have hjb : j ≤ s.size := by omega
    clear hpj
    by_cases hlt : p < s.size
    · have hz2 := hz.out
      rw [pnums_drop s p hlt, sizD] at hz2
      obtain ⟨c, hc⟩ : ∃ c : Int, (s[p].toNat : Int) = c := ⟨_, rfl⟩
      have hc0 : 0 ≤ c := by omega
      have hc1 : c ≤ 255 := by have := s[p].toNat_lt; omega
      rw [hc] at hz2
      have dnp : decide ((s.size : Int) ≤ (p : Int)) = false := decide_eq_false (by omega)
      have dnp2 : decide (s.size ≤ p) = false := decide_eq_false (by omega)
      cases hd : digV c with
      | none =>
        have HD := Lib.hid hd
        clear hd hz hz2
        go_wp2_with (go_at_call 55; refine (rval_at c none _ hc0 hc1 HD).mono ?_; rintro e w1 ⟨rfl, rfl⟩; simp only [rvI])
        go_ret3
        exact ⟨rfl, rfl⟩
      | some d =>
        rw [hd] at hz2
        simp only at hz2
        have HD := Lib.hid hd
        have hd36 := digV_lt hd
        obtain ⟨T, hT⟩ : ∃ T, thr b j = T := ⟨_, rfl⟩
        obtain ⟨ht1, ht2⟩ := thr_bd b j
        rw [hT] at hz2 ht1 ht2
        have HT := Lib.hid hT
        have hdt : ¬ d < T := by
          intro h
          rw [if_pos h] at hz2
          cases hz2
        rw [if_neg hdt] at hz2
        have HZ2 := Lib.hid hz2
        have ddt : decide ((d : Int) < (T : Int)) = false := decide_eq_false (by omega)
        have dd0 : decide ((d : Int) < 0) = false := decide_eq_false (by omega)
        clear hd hz hT hz2
        obtain ⟨f, hf⟩ : ∃ f, 36 - T = f := ⟨_, rfl⟩
        have hfI : (36 : Int) - (T : Int) = (f : Int) := by omega
        have hf36 : f ≤ 36 := by omega
        obtain ⟨x, hx⟩ : ∃ x, d * W = x := ⟨_, rfl⟩
        have hxI : (d : Int) * (W : Int) = (x : Int) := by rw [← hx, Int.natCast_mul]
        have hxb : x ≤ 36 * 2147483648 := by rw [← hx]; exact Nat.mul_le_mul (by omega) hW
        obtain ⟨y, hy⟩ : ∃ y, W * f = y := ⟨_, rfl⟩
        have hyI : (W : Int) * (f : Int) = (y : Int) := by rw [← hy, Int.natCast_mul]
        have hyb : y ≤ 2147483648 * 36 := by rw [← hy]; exact Nat.mul_le_mul hW hf36
        obtain ⟨S2, hS2⟩ : ∃ S2, min 2147483648 (S + x) = S2 := ⟨_, rfl⟩
        obtain ⟨W2, hW2⟩ : ∃ W2, min 2147483648 y = W2 := ⟨_, rfl⟩
        have hS2b : S2 ≤ 2147483648 := by omega
        have hW2b : W2 ≤ 2147483648 := by omega
        clear hf hx hy
        have hcase : (S + x < 2147483648 ∧ S2 = S + x) ∨ (¬ S + x < 2147483648 ∧ S2 = 2147483648) := by omega
        have hcasw : (y < 2147483648 ∧ W2 = y) ∨ (¬ y < 2147483648 ∧ W2 = 2147483648) := by omega
        rcases hcase with ⟨hq1, hq2⟩ | ⟨hq1, hq2⟩
        all_goals
          rcases hcasw with ⟨hr1, hr2⟩ | ⟨hr1, hr2⟩
        all_goals
          have HQ2 := Lib.hid hq2
          have HR2 := Lib.hid hr2
          have hqI : ((S : Int) + (x : Int) < 2147483648) ↔ (S + x < 2147483648) := by omega
          have dq : decide ((S : Int) + (x : Int) < 2147483648) = decide (S + x < 2147483648) := by rw [decide_eq_decide]; exact hqI
          clear hq2 hr2 hS2 hW2 hqI dq
          go_wp2_with (first
            | (go_at_call 55; refine (rval_at c (some d) _ hc0 hc1 HD).mono ?_; rintro e w1 ⟨rfl, rfl⟩; simp only [rvI])
            | (go_at_call 44; refine (rthr_at j b T _ (by omega) hb HT).mono ?_; rintro e w2 ⟨rfl, rfl⟩))
          go_roundw
          case rel => exact ⟨p + 1, j + 1, S2, W2, by go_num, (by obtain rfl := HQ2.out; first | with_reducible exact v31a | with_reducible rfl | go_num), (by obtain rfl := HR2.out; first | with_reducible exact v31a | with_reducible exact v31b hr1 | with_reducible exact v31c hr1 | with_reducible rfl), by go_num, by (have := HPJ.out; omega), by omega, by omega, by omega, HZ2, by first | rfl | trivial⟩
          case measure => simp [intOf]; omega
    · have hge : s.size ≤ p := by omega
      go_wp2
      go_ret3
      exact ⟨rfl, rfl⟩

set_option maxHeartbeats 4000000 in
theorem rread_yes (s : ByteArray) (a b : Nat) (D : List Nat) (r : List Int) (v : Nat) (w : World) (hs : s.size ≤ 1099511627776) (ha : a ≤ s.size) (hb : b ≤ 70368744177664) (ht : takeD b 0 ((nums s).drop a) = some (D, r)) (hv : Hid (min (pvalS b 0 D) 2147483648 = v)) :
    Calls Try.prog 46 #[.string s, .int .i64 a, .int .i64 b] w fun e w' => e = .returned (.tuple #[.int .i64 v, .int .i64 ((a : Int) + D.length), .bool true]) ∧ w' = w := by
  obtain ⟨p1, p2, p3, p4⟩ := takeD_parts b _ 0 D r ht
  rw [List.length_drop, nums_length] at p2
  have HP4 := Lib.hid p4
  have HC : Hid (cmpl b 0 D) := (takeD_some b _ 0 D r ht).1
  clear p4 ht p3
  go_enter Try.func46, Try.ntmps46
  go_wp2
  go_loopw [1, 9, 10, 11] (fun ua us uw uj wr => ∃ (p j S W St Wt : Nat), ua = .int .i64 p ∧ us = .int .i64 S ∧ uw = .int .i64 W ∧ uj = .int .i64 j ∧ p = a + j ∧ j < D.length ∧ S ≤ 2147483648 ∧ W ≤ 2147483648 ∧ Hid (NumSt b D j St Wt) ∧ Hid (KeptR St Wt S W) ∧ Hid (cmpl b j (D.drop j)) ∧ wr = w) (fun _ _ _ uj _ => D.length - (intOf uj).toNat)
  case atStart => exact ⟨a, 0, 0, 1, 0, 1, rfl, rfl, rfl, rfl, rfl, p1, by omega, by omega, NumSt.start b D, ⟨by omega, by omega⟩, HC, rfl⟩
  case round =>
    clear HC
    obtain ⟨p, j, S, W, St, Wt, rfl, rfl, rfl, rfl, hpj, hj, hS, hW, hns, hkr, hcm, rfl⟩ := hrel
    have HPJ := Lib.hid hpj
    have hlt : p < s.size := by omega
    have hjb : j ≤ s.size := by omega
    have hdv := HP4.out j hj
    have e1 : ((nums s).drop a).getD j 0 = (s[p].toNat : Int) := by
      rw [← pnums_getD s p hlt, hpj]; simp [List.getD, List.getElem?_drop]
    rw [e1] at hdv
    obtain ⟨c, hc⟩ : ∃ c : Int, (s[p].toNat : Int) = c := ⟨_, rfl⟩
    have hc0 : 0 ≤ c := by omega
    have hc1 : c ≤ 255 := by have := s[p].toNat_lt; omega
    obtain ⟨d, hd⟩ : ∃ d, D.getD j 0 = d := ⟨_, rfl⟩
    rw [hc, hd] at hdv
    have hd36 := digV_lt hdv
    have HD := Lib.hid hdv
    have HST := Lib.hid (hns.out.step hj)
    rw [hd] at HST
    obtain ⟨T, hT⟩ : ∃ T, thr b j = T := ⟨_, rfl⟩
    obtain ⟨ht1, ht2⟩ := thr_bd b j
    rw [hT] at HST ht1 ht2
    have HT := Lib.hid hT
    have hcm2 := hcm.out
    rw [List.drop_eq_getElem_cons hj] at hcm2
    have hdj : D[j] = d := by rw [← hd]; simp [List.getD, hj]
    rw [hdj, cmpl, hT] at hcm2
    have dnp : decide ((s.size : Int) ≤ (p : Int)) = false := decide_eq_false (by omega)
    have dnp2 : decide (s.size ≤ p) = false := decide_eq_false (by omega)
    have dd0 : decide ((d : Int) < 0) = false := decide_eq_false (by omega)
    have hW1 := hns.out.pos
    have hkn : KeptR (St + d * Wt) (Wt * (36 - T)) (min 2147483648 (S + d * W)) (min 2147483648 (W * (36 - T))) := hkr.out.next hW1 (by omega) hd36
    clear hpj e1 hd hT hdj hdv hns hkr hcm
    obtain ⟨f, hf⟩ : ∃ f, 36 - T = f := ⟨_, rfl⟩
    have hfI : (36 : Int) - (T : Int) = (f : Int) := by omega
    have hf36 : f ≤ 36 := by omega
    obtain ⟨x, hx⟩ : ∃ x, d * W = x := ⟨_, rfl⟩
    have hxI : (d : Int) * (W : Int) = (x : Int) := by rw [← hx, Int.natCast_mul]
    have hxb : x ≤ 36 * 2147483648 := by rw [← hx]; exact Nat.mul_le_mul (by omega) hW
    obtain ⟨y, hy⟩ : ∃ y, W * f = y := ⟨_, rfl⟩
    have hyI : (W : Int) * (f : Int) = (y : Int) := by rw [← hy, Int.natCast_mul]
    have hyb : y ≤ 2147483648 * 36 := by rw [← hy]; exact Nat.mul_le_mul hW hf36
    obtain ⟨S2, hS2⟩ : ∃ S2, min 2147483648 (S + x) = S2 := ⟨_, rfl⟩
    obtain ⟨W2, hW2⟩ : ∃ W2, min 2147483648 y = W2 := ⟨_, rfl⟩
    have hS2b : S2 ≤ 2147483648 := by omega
    have hW2b : W2 ≤ 2147483648 := by omega
    rw [hf, hx, hy, hS2, hW2] at hkn
    rw [hf] at HST
    have HKN := Lib.hid hkn
    clear hf hx hy hkn hW1
    by_cases hdt : d < T
    · rw [if_pos hdt] at hcm2
      have hjl : j + 1 = D.length := by
        have := congrArg List.length hcm2
        rw [List.length_drop] at this
        simp at this
        omega
      have HV : Hid (S2 = v) := by
        unfold Hid
        rw [← hv.out]
        have h1 := HST.out
        rw [hjl] at h1
        rw [HKN.out.sum, ← h1.done]
      have HJL := Lib.hid hjl
      clear hcm2 HST HKN hjl
      have hcase : (S + x < 2147483648 ∧ S2 = S + x) ∨ (¬ S + x < 2147483648 ∧ S2 = 2147483648) := by omega
      have hcasw : (y < 2147483648 ∧ W2 = y) ∨ (¬ y < 2147483648 ∧ W2 = 2147483648) := by omega
      rcases hcase with ⟨hq1, hq2⟩ | ⟨hq1, hq2⟩
      all_goals
        rcases hcasw with ⟨hr1, hr2⟩ | ⟨hr1, hr2⟩
      all_goals
        have HQ2 := Lib.hid hq2
        have HR2 := Lib.hid hr2
        have hqI : ((S : Int) + (x : Int) < 2147483648) ↔ (S + x < 2147483648) := by omega
        have dq : decide ((S : Int) + (x : Int) < 2147483648) = decide (S + x < 2147483648) := by rw [decide_eq_decide]; exact hqI
        clear hq2 hr2 hS2 hW2 hqI dq
        clear hr1 HR2
        go_wp2_with (first
          | (go_at_call 55; refine (rval_at c (some d) _ hc0 hc1 HD).mono ?_; rintro e w1 ⟨rfl, rfl⟩; simp only [rvI])
          | (go_at_call 44; refine (rthr_at j b T _ (by omega) hb HT).mono ?_; rintro e w2 ⟨rfl, rfl⟩))
        go_ret3
        exact ⟨by rw [← HV.out, HQ2.out, ← HJL.out, show ((a : Int) + ((j + 1 : Nat) : Int)) = (p : Int) + 1 by have := HPJ.out; omega]; rfl, rfl⟩
    · rw [if_neg hdt] at hcm2
      have HCM : Hid (cmpl b (j + 1) (D.drop (j + 1))) := hcm2.2
      have hj2 : j + 1 < D.length := by
        rcases Nat.lt_or_ge (j + 1) D.length with h | h
        · exact h
        · have := HCM.out
          rw [List.drop_of_length_le h] at this
          exact this.elim
      have ddt : decide ((d : Int) < (T : Int)) = false := decide_eq_false (by omega)
      clear hcm2
      have hcase : (S + x < 2147483648 ∧ S2 = S + x) ∨ (¬ S + x < 2147483648 ∧ S2 = 2147483648) := by omega
      have hcasw : (y < 2147483648 ∧ W2 = y) ∨ (¬ y < 2147483648 ∧ W2 = 2147483648) := by omega
      rcases hcase with ⟨hq1, hq2⟩ | ⟨hq1, hq2⟩
      all_goals
        rcases hcasw with ⟨hr1, hr2⟩ | ⟨hr1, hr2⟩
      all_goals
        have HQ2 := Lib.hid hq2
        have HR2 := Lib.hid hr2
        have hqI : ((S : Int) + (x : Int) < 2147483648) ↔ (S + x < 2147483648) := by omega
        have dq : decide ((S : Int) + (x : Int) < 2147483648) = decide (S + x < 2147483648) := by rw [decide_eq_decide]; exact hqI
        clear hq2 hr2 hS2 hW2 hqI dq
        go_wp2_with (first
          | (go_at_call 55; refine (rval_at c (some d) _ hc0 hc1 HD).mono ?_; rintro e w1 ⟨rfl, rfl⟩; simp only [rvI])
          | (go_at_call 44; refine (rthr_at j b T _ (by omega) hb HT).mono ?_; rintro e w2 ⟨rfl, rfl⟩))
        go_roundw
        case rel => exact ⟨p + 1, j + 1, S2, W2, _, _, by go_num, (by obtain rfl := HQ2.out; first | with_reducible exact v31a | with_reducible rfl | go_num), (by obtain rfl := HR2.out; first | with_reducible exact v31a | with_reducible exact v31b hr1 | with_reducible exact v31c hr1 | with_reducible rfl), by go_num, by (have := HPJ.out; omega), hj2, by omega, by omega, HST, HKN, HCM, by first | rfl | trivial⟩
        case measure => simp [intOf]; omega

theorem rread_at (s : ByteArray) (a b v m : Nat) (ok : Bool) (w : World) (hs : s.size ≤ 1099511627776) (ha : a ≤ s.size) (hb : b ≤ 70368744177664) (hR : Hid (rrdN b a ((nums s).drop a) = (v, m, ok))) :
    Calls Try.prog 46 #[.string s, .int .i64 a, .int .i64 b] w fun e w' => e = .returned (.tuple #[.int .i64 v, .int .i64 m, .bool ok]) ∧ w' = w := by
  have hR2 := hR.out
  unfold rrdN at hR2
  cases ht : takeD b 0 ((nums s).drop a) with
  | none =>
    rw [ht] at hR2
    injection hR2 with e1 e2
    injection e2 with e2 e3
    subst e1; subst e2; subst e3
    exact rread_no s a b w hs ha hb (by unfold Hid; rw [sizD_take, ht])
  | some X =>
    obtain ⟨D, r⟩ := X
    rw [ht] at hR2
    injection hR2 with e1 e2
    injection e2 with e2 e3
    subst e2; subst e3
    have := rread_yes s a b D r v w hs ha hb ht e1
    rw [show ((a : Int) + (D.length : Int)) = ((a + D.length : Nat) : Int) by omega] at this
    exact this

end Go.Proofs.Ytaakdcelbnghoaa
