/-
  The references of hangul: syllable, Parts, Kind, HangulCompose, HangulDecompose.
-/
import Derived.Test.YtnhldkneeegohaaHanA
namespace Go.Proofs.Ytnhldkneeegohaa
open Go.RowKit
set_option linter.unusedVariables false

set_option maxHeartbeats 400000 in
theorem syl_at (c : Int) (B : Bool) (w : World) (hB : Hid (decide (44032 ≤ c ∧ c ≤ 55203) = B)) :
    Calls Try.prog 22 #[.int .i64 c] w fun e w' => e = .returned (.bool B) ∧ w = w' := by
  by_cases g1 : 44032 ≤ c
  · by_cases g2 : c ≤ 55203
    · have e : B = true := by rw [← hB.out]; exact decide_eq_true ⟨g1, g2⟩
      subst e
      clear hB
      go_enter Try.func22, Try.ntmps22
      go_wp2
      go_ret
      exact ⟨rfl, rfl⟩
    · have e : B = false := by rw [← hB.out]; exact decide_eq_false (fun h => g2 h.2)
      subst e
      have d2 : decide (c ≤ 55203) = false := decide_eq_false g2
      clear hB
      go_enter Try.func22, Try.ntmps22
      go_wp2
      go_ret
      exact ⟨rfl, rfl⟩
  · have e : B = false := by rw [← hB.out]; exact decide_eq_false (fun h => g1 h.1)
    subst e
    have d2 : decide (44032 ≤ c) = false := decide_eq_false g1
    clear hB
    go_enter Try.func22, Try.ntmps22
    go_wp2
    go_ret
    exact ⟨rfl, rfl⟩

set_option maxHeartbeats 1000000 in
theorem rparts_out (c : Int) (w : World) (h : c < 44032 ∨ 55203 < c) :
    Calls Try.prog 10 #[.int .i64 c] w fun e w' => e = .returned (.tuple #[.int .i64 0, .int .i64 0, .int .i64 0, .bool false]) ∧ w = w' := by
  have HB : Hid (decide (44032 ≤ c ∧ c ≤ 55203) = false) := decide_eq_false (by omega)
  clear h
  go_enter Try.func10, Try.ntmps10
  go_wp2
  go_loop [6] (fun i => ∃ n : Nat, n ≤ 19 ∧ i = .int .i64 n) (fun i => 19 - (intOf i).toNat)
  case atStart => exact ⟨0, by omega, rfl⟩
  case round =>
    obtain ⟨n, hn, rfl⟩ := hrel
    by_cases hlt : n < 19
    · go_wp2
      go_loop [7] (fun j => ∃ m : Nat, m ≤ 21 ∧ j = .int .i64 m) (fun j => 21 - (intOf j).toNat)
      case atStart => exact ⟨0, by omega, rfl⟩
      case round =>
        obtain ⟨m, hm, rfl⟩ := hrel
        by_cases hlm : m < 21
        · go_wp2_with fail
          refine (syl_at c false _ HB).mono ?_
          rintro e w' ⟨rfl, rfl⟩
          go_wp2
          go_round
          case rel => exact ⟨m + 1, by omega, by go_num⟩
          case measure => simp [intOf]; omega
        · go_wp2
          go_round
          case rel => exact ⟨n + 1, by omega, by go_num⟩
          case measure => simp [intOf]; omega
    · go_wp2
      try simp only [Exit.inBlock, Exit.then]
      refine bodyPost_ret (results_tmp4 rfl _ _ _) rfl ?_
      exact ⟨rfl, rfl⟩

set_option maxHeartbeats 1000000 in
theorem rparts_in (c i j k : Int) (w : World) (hi0 : 0 ≤ i) (hi1 : i < 19) (hj0 : 0 ≤ j) (hj1 : j < 21) (hk0 : 0 ≤ k) (hk1 : k < 28) (hc : c = 44032 + (21 * i + j) * 28 + k) :
    Calls Try.prog 10 #[.int .i64 c] w fun e w' => e = .returned (.tuple #[.int .i64 i, .int .i64 j, .int .i64 k, .bool true]) ∧ w = w' := by
  have HB : Hid (decide (44032 ≤ c ∧ c ≤ 55203) = true) := decide_eq_true (by omega)
  have c0 : 44032 ≤ c := by omega
  have c1 : c ≤ 55203 := by omega
  have HC := Lib.hid hc
  clear hc
  go_enter Try.func10, Try.ntmps10
  go_wp2
  go_loop [6] (fun q => ∃ n : Nat, n ≤ 19 ∧ q = .int .i64 n ∧ Hid ((n : Int) ≤ i)) (fun q => 19 - (intOf q).toNat)
  case atStart => exact ⟨0, by omega, rfl, by unfold Hid; omega⟩
  case round =>
    obtain ⟨n, hn, rfl, hni⟩ := hrel
    have hlt : n < 19 := by have := hni.out; omega
    go_wp2
    go_loop [7] (fun q => ∃ m : Nat, m ≤ 21 ∧ q = .int .i64 m ∧ Hid ((n : Int) = i → (m : Int) ≤ j)) (fun q => 21 - (intOf q).toNat)
    case atStart => exact ⟨0, by omega, rfl, by unfold Hid; omega⟩
    case round =>
      obtain ⟨m, hm, rfl, hmj⟩ := hrel
      by_cases hlm : m < 21
      · obtain ⟨x, hx⟩ : ∃ x, c - 44032 - (21 * (n : Int) + (m : Int)) * 28 = x := ⟨_, rfl⟩
        have x0 : 0 ≤ x := by have := hni.out; have := hmj.out; have := HC.out; omega
        by_cases hx1 : x < 28
        · have e1 : (n : Int) = i := by have := hni.out; have := hmj.out; have := HC.out; omega
          have e2 : (m : Int) = j := by have := hni.out; have := hmj.out; have := HC.out; omega
          have e3 : x = k := by have := HC.out; omega
          have E1 := Lib.hid e1
          have E2 := Lib.hid e2
          have E3 := Lib.hid e3
          clear e1 e2 e3
          go_wp2_with fail
          refine (syl_at c true _ HB).mono ?_
          rintro e w' ⟨rfl, rfl⟩
          go_wp2
          try simp only [Exit.inBlock, Exit.then]
          refine bodyPost_ret (results_tmp4 rfl _ _ _) rfl ?_
          rw [E1.out, E2.out, E3.out]
          exact ⟨rfl, rfl⟩
        · have d2 : decide (x < 28) = false := decide_eq_false hx1
          have HN : Hid ((n : Int) = i → ((m + 1 : Nat) : Int) ≤ j) := by
            unfold Hid; intro e; have := HC.out; omega
          go_wp2_with fail
          refine (syl_at c true _ HB).mono ?_
          rintro e w' ⟨rfl, rfl⟩
          go_wp2
          go_round
          case rel => exact ⟨m + 1, by omega, by go_num, HN⟩
          case measure => simp [intOf]; omega
      · have HN : Hid (((n + 1 : Nat) : Int) ≤ i) := by
          unfold Hid; have := hni.out; have h2 := hmj.out; by_cases e : (n : Int) = i
          · have := h2 e; omega
          · omega
        go_wp2
        go_round
        case rel => exact ⟨n + 1, by omega, by go_num, HN⟩
        case measure => simp [intOf]; omega

theorem rparts_at (c i j k : Int) (b : Bool) (w : World) (h : Hid (partsS c = (i, j, k, b))) :
    Calls Try.prog 10 #[.int .i64 c] w fun e w' => e = .returned (.tuple #[.int .i64 i, .int .i64 j, .int .i64 k, .bool b]) ∧ w = w' := by
  rcases partsS_cases h.out with ⟨rfl, rfl, rfl, rfl, hc⟩ | ⟨rfl, hi0, hi1, hj0, hj1, hk0, hk1, hc⟩
  · exact rparts_out c w hc
  · exact rparts_in c i j k w hi0 hi1 hj0 hj1 hk0 hk1 hc

set_option maxHeartbeats 1000000 in
theorem rkind_any (c : Int) (w : World) :
    Calls Try.prog 13 #[.int .i64 c] w fun e w' => e = .returned (.int .i64 (kindS c)) ∧ w = w' := by
  have hcases : c < 4352 ∨ (4352 ≤ c ∧ c < 4371) ∨ (4371 ≤ c ∧ c < 4449) ∨ (4449 ≤ c ∧ c < 4470) ∨ (4470 ≤ c ∧ c < 4520) ∨ (4520 ≤ c ∧ c < 4547) ∨ (4547 ≤ c ∧ c < 44032) ∨ (44032 ≤ c ∧ c ≤ 55203) ∨ 55203 < c := by omega
  rcases hcases with h | h | h | h | h | h | h | h | h
  · have HB : Hid (decide (44032 ≤ c ∧ c ≤ 55203) = false) := decide_eq_false (by omega)
    have p1 : decide (4352 ≤ c) = false := decide_eq_false (by omega)
    have p2 : decide (4449 ≤ c) = false := decide_eq_false (by omega)
    have p3 : decide (4520 ≤ c) = false := decide_eq_false (by omega)
    have HK : Hid (kindS c = 0) := kindS_0 (by omega) (by omega) (by omega) (by omega)
    go_enter Try.func13, Try.ntmps13
    go_wp2_with fail
    refine (syl_at c false _ HB).mono ?_
    rintro e w' ⟨rfl, rfl⟩
    go_wp2
    go_ret
    rw [HK.out]
    exact ⟨rfl, rfl⟩
  · have p1 : 4352 ≤ c := by omega
    have q1 : c ≤ 4370 := by omega
    have p2 : decide (4449 ≤ c) = false := decide_eq_false (by omega)
    have p3 : decide (4520 ≤ c) = false := decide_eq_false (by omega)
    have HK : Hid (kindS c = 1) := kindS_1.2 (by omega)
    go_enter Try.func13, Try.ntmps13
    go_wp2
    go_ret
    rw [HK.out]
    exact ⟨rfl, rfl⟩
  · have HB : Hid (decide (44032 ≤ c ∧ c ≤ 55203) = false) := decide_eq_false (by omega)
    have p1 : 4352 ≤ c := by omega
    have q1 : decide (c ≤ 4370) = false := decide_eq_false (by omega)
    have p2 : decide (4449 ≤ c) = false := decide_eq_false (by omega)
    have p3 : decide (4520 ≤ c) = false := decide_eq_false (by omega)
    have HK : Hid (kindS c = 0) := kindS_0 (by omega) (by omega) (by omega) (by omega)
    go_enter Try.func13, Try.ntmps13
    go_wp2_with fail
    refine (syl_at c false _ HB).mono ?_
    rintro e w' ⟨rfl, rfl⟩
    go_wp2
    go_ret
    rw [HK.out]
    exact ⟨rfl, rfl⟩
  · have p1 : 4352 ≤ c := by omega
    have q1 : decide (c ≤ 4370) = false := decide_eq_false (by omega)
    have p2 : 4449 ≤ c := by omega
    have q2 : c ≤ 4469 := by omega
    have p3 : decide (4520 ≤ c) = false := decide_eq_false (by omega)
    have HK : Hid (kindS c = 2) := kindS_2.2 (by omega)
    go_enter Try.func13, Try.ntmps13
    go_wp2
    go_ret
    rw [HK.out]
    exact ⟨rfl, rfl⟩
  · have HB : Hid (decide (44032 ≤ c ∧ c ≤ 55203) = false) := decide_eq_false (by omega)
    have p1 : 4352 ≤ c := by omega
    have q1 : decide (c ≤ 4370) = false := decide_eq_false (by omega)
    have p2 : 4449 ≤ c := by omega
    have q2 : decide (c ≤ 4469) = false := decide_eq_false (by omega)
    have p3 : decide (4520 ≤ c) = false := decide_eq_false (by omega)
    have HK : Hid (kindS c = 0) := kindS_0 (by omega) (by omega) (by omega) (by omega)
    go_enter Try.func13, Try.ntmps13
    go_wp2_with fail
    refine (syl_at c false _ HB).mono ?_
    rintro e w' ⟨rfl, rfl⟩
    go_wp2
    go_ret
    rw [HK.out]
    exact ⟨rfl, rfl⟩
  · have p1 : 4352 ≤ c := by omega
    have q1 : decide (c ≤ 4370) = false := decide_eq_false (by omega)
    have p2 : 4449 ≤ c := by omega
    have q2 : decide (c ≤ 4469) = false := decide_eq_false (by omega)
    have p3 : 4520 ≤ c := by omega
    have q3 : c ≤ 4546 := by omega
    have HK : Hid (kindS c = 3) := kindS_3.2 (by omega)
    go_enter Try.func13, Try.ntmps13
    go_wp2
    go_ret
    rw [HK.out]
    exact ⟨rfl, rfl⟩
  · have HB : Hid (decide (44032 ≤ c ∧ c ≤ 55203) = false) := decide_eq_false (by omega)
    have p1 : 4352 ≤ c := by omega
    have q1 : decide (c ≤ 4370) = false := decide_eq_false (by omega)
    have p2 : 4449 ≤ c := by omega
    have q2 : decide (c ≤ 4469) = false := decide_eq_false (by omega)
    have p3 : 4520 ≤ c := by omega
    have q3 : decide (c ≤ 4546) = false := decide_eq_false (by omega)
    have HK : Hid (kindS c = 0) := kindS_0 (by omega) (by omega) (by omega) (by omega)
    go_enter Try.func13, Try.ntmps13
    go_wp2_with fail
    refine (syl_at c false _ HB).mono ?_
    rintro e w' ⟨rfl, rfl⟩
    go_wp2
    go_ret
    rw [HK.out]
    exact ⟨rfl, rfl⟩
  · have HB : Hid (decide (44032 ≤ c ∧ c ≤ 55203) = true) := decide_eq_true (by omega)
    obtain ⟨x, hx⟩ : ∃ x, c - 44032 = x := ⟨_, rfl⟩
    have x0 : 0 ≤ x := by omega
    have x1 : x < 11172 := by omega
    have p1 : 4352 ≤ c := by omega
    have q1 : decide (c ≤ 4370) = false := decide_eq_false (by omega)
    have p2 : 4449 ≤ c := by omega
    have q2 : decide (c ≤ 4469) = false := decide_eq_false (by omega)
    have p3 : 4520 ≤ c := by omega
    have q3 : decide (c ≤ 4546) = false := decide_eq_false (by omega)
    by_cases hm : x % 28 = 0
    · have e1 : x.tmod 28 = 0 := by rw [tmod_pos _ _ x0]; exact hm
      have HK : Hid (kindS c = 4) := kindS_4.2 (by omega)
      go_enter Try.func13, Try.ntmps13
      go_wp2_with fail
      refine (syl_at c true _ HB).mono ?_
      rintro e w' ⟨rfl, rfl⟩
      go_wp2
      go_ret
      rw [HK.out]
      exact ⟨rfl, rfl⟩
    · have e1 : (x.tmod 28 == 0) = false := by rw [tmod_pos _ _ x0]; simp [hm]
      have e2 : (x % 28 == 0) = false := by simp [hm]
      have HK : Hid (kindS c = 5) := kindS_5.2 (by omega)
      go_enter Try.func13, Try.ntmps13
      go_wp2_with fail
      refine (syl_at c true _ HB).mono ?_
      rintro e w' ⟨rfl, rfl⟩
      go_wp2
      go_ret
      rw [HK.out]
      exact ⟨rfl, rfl⟩
  · have HB : Hid (decide (44032 ≤ c ∧ c ≤ 55203) = false) := decide_eq_false (by omega)
    have p1 : 4352 ≤ c := by omega
    have q1 : decide (c ≤ 4370) = false := decide_eq_false (by omega)
    have p2 : 4449 ≤ c := by omega
    have q2 : decide (c ≤ 4469) = false := decide_eq_false (by omega)
    have p3 : 4520 ≤ c := by omega
    have q3 : decide (c ≤ 4546) = false := decide_eq_false (by omega)
    have HK : Hid (kindS c = 0) := kindS_0 (by omega) (by omega) (by omega) (by omega)
    go_enter Try.func13, Try.ntmps13
    go_wp2_with fail
    refine (syl_at c false _ HB).mono ?_
    rintro e w' ⟨rfl, rfl⟩
    go_wp2
    go_ret
    rw [HK.out]
    exact ⟨rfl, rfl⟩

theorem rkind_at (c k : Int) (w : World) (h : Hid (kindS c = k)) :
    Calls Try.prog 13 #[.int .i64 c] w fun e w' => e = .returned (.int .i64 k) ∧ w = w' := h.out ▸ rkind_any c w

set_option maxHeartbeats 1000000 in
theorem rhdec_at (c : Int) (L : List Int) (w : World) (h : Hid (decS c = L)) :
    Calls Try.prog 16 #[.int .i64 c] w (GivesH L w) := by
  obtain ⟨i, j, k, b, hp⟩ : ∃ i j k b, partsS c = (i, j, k, b) := ⟨_, _, _, _, rfl⟩
  have hd := decS_of hp
  rw [h.out] at hd
  have HP := Lib.hid hp
  clear h
  rcases partsS_cases hp with ⟨rfl, rfl, rfl, rfl, hc⟩ | ⟨rfl, hi0, hi1, hj0, hj1, hk0, hk1, hc⟩
  · have e : L = [] := hd
    subst e
    clear hp hd hc
    go_enter Try.func16, Try.ntmps16
    go_wp2_with fail
    refine (rparts_at c 0 0 0 false _ HP).mono ?_
    rintro e w' ⟨rfl, rfl⟩
    go_wp2
    go_ret
    exact ⟨none, 0, rfl, fun k hk => by simp at hk, Below.refl _ _⟩
  · by_cases hk : k = 0
    · subst hk
      have e : L = [4352 + i, 4449 + j] := hd
      subst e
      clear hp hd hc
      go_enter Try.func16, Try.ntmps16
      go_wp2_with fail
      refine (rparts_at c i j 0 true _ HP).mono ?_
      rintro e w' ⟨rfl, rfl⟩
      go_wp2
      go_ret
      exact ⟨_, _, rfl, ints_lit_at _ _ [4352 + i, 4449 + j] _ rfl, (Below.refl _ _).alloc (Nat.le_refl _) _⟩
    · have e : L = [4352 + i, 4449 + j, 4519 + k] := by rw [hd]; simp [hk]
      subst e
      have hz : (k == 0) = false := by simp [hk]
      clear hp hd hc
      go_enter Try.func16, Try.ntmps16
      go_wp2_with fail
      refine (rparts_at c i j k true _ HP).mono ?_
      rintro e w' ⟨rfl, rfl⟩
      go_wp2
      go_ret
      exact ⟨_, _, rfl, ints_lit_at _ _ [4352 + i, 4449 + j, 4519 + k] _ rfl, (Below.refl _ _).alloc (Nat.le_refl _) _⟩

set_option maxHeartbeats 1000000 in
theorem rhcomp_at (a b x : Int) (o : Bool) (w : World) (h : Hid (compS a b = (x, o))) :
    Calls Try.prog 19 #[.int .i64 a, .int .i64 b] w fun e w' => e = .returned (.tuple #[.int .i64 x, .bool o]) ∧ w = w' := by
  obtain ⟨k1, h1⟩ : ∃ k, Hid (kindS a = k) := ⟨_, rfl⟩
  obtain ⟨k2, h2⟩ : ∃ k, Hid (kindS b = k) := ⟨_, rfl⟩
  by_cases g1 : k1 = 1
  · subst g1
    by_cases g2 : k2 = 2
    · subst g2
      have hx := h.out
      rw [compS_12 h1.out h2.out] at hx
      simp only [Prod.mk.injEq] at hx
      obtain ⟨hx, rfl⟩ := hx
      have a1 := kindS_1.1 h1.out
      have b1 := kindS_2.1 h2.out
      obtain ⟨a0, a1⟩ := a1
      obtain ⟨b0, b1⟩ := b1
      clear h
      go_enter Try.func19, Try.ntmps19
      go_wp2_with fail
      refine (rkind_at a 1 _ h1).mono ?_
      rintro e w' ⟨rfl, rfl⟩
      go_wp2_with fail
      refine (rkind_at b 2 _ h2).mono ?_
      rintro e w' ⟨rfl, rfl⟩
      go_wp2
      go_ret2
      exact ⟨rfl, rfl⟩
    · have hx := h.out
      rw [compS_no (by rw [h2.out]; exact fun h => g2 h.2) (by rw [h1.out]; exact fun h => absurd h.1 (by decide))] at hx
      simp only [Prod.mk.injEq] at hx
      obtain ⟨rfl, rfl⟩ := hx
      have z2 : (k2 == 2) = false := by simp [g2]
      clear h
      go_enter Try.func19, Try.ntmps19
      go_wp2_with fail
      refine (rkind_at a 1 _ h1).mono ?_
      rintro e w' ⟨rfl, rfl⟩
      go_wp2_with fail
      refine (rkind_at b k2 _ h2).mono ?_
      rintro e w' ⟨rfl, rfl⟩
      go_wp2_with fail
      refine (rkind_at a 1 _ h1).mono ?_
      rintro e w' ⟨rfl, rfl⟩
      go_wp2
      go_ret2
      exact ⟨rfl, rfl⟩
  · by_cases g4 : k1 = 4
    · subst g4
      by_cases g3 : k2 = 3
      · subst g3
        have hx := h.out
        rw [compS_43 h1.out h2.out] at hx
        simp only [Prod.mk.injEq] at hx
        obtain ⟨hx, rfl⟩ := hx
        have a1 := kindS_4.1 h1.out
        have b1 := kindS_3.1 h2.out
        obtain ⟨a0, a1, _⟩ := a1
        obtain ⟨b0, b1⟩ := b1
        clear h
        go_enter Try.func19, Try.ntmps19
        go_wp2_with fail
        refine (rkind_at a 4 _ h1).mono ?_
        rintro e w' ⟨rfl, rfl⟩
        go_wp2_with fail
        refine (rkind_at a 4 _ h1).mono ?_
        rintro e w' ⟨rfl, rfl⟩
        go_wp2_with fail
        refine (rkind_at b 3 _ h2).mono ?_
        rintro e w' ⟨rfl, rfl⟩
        go_wp2
        go_ret2
        exact ⟨rfl, rfl⟩
      · have hx := h.out
        rw [compS_no (by rw [h1.out]; exact fun h => absurd h.1 (by decide)) (by rw [h2.out]; exact fun h => g3 h.2)] at hx
        simp only [Prod.mk.injEq] at hx
        obtain ⟨rfl, rfl⟩ := hx
        have z2 : (k2 == 3) = false := by simp [g3]
        clear h
        go_enter Try.func19, Try.ntmps19
        go_wp2_with fail
        refine (rkind_at a 4 _ h1).mono ?_
        rintro e w' ⟨rfl, rfl⟩
        go_wp2_with fail
        refine (rkind_at a 4 _ h1).mono ?_
        rintro e w' ⟨rfl, rfl⟩
        go_wp2_with fail
        refine (rkind_at b k2 _ h2).mono ?_
        rintro e w' ⟨rfl, rfl⟩
        go_wp2
        go_ret2
        exact ⟨rfl, rfl⟩
    · have hx := h.out
      rw [compS_no (by rw [h1.out]; exact fun h => g1 h.1) (by rw [h1.out]; exact fun h => g4 h.1)] at hx
      simp only [Prod.mk.injEq] at hx
      obtain ⟨rfl, rfl⟩ := hx
      have z1 : (k1 == 1) = false := by simp [g1]
      have z2 : (k1 == 4) = false := by simp [g4]
      clear h
      go_enter Try.func19, Try.ntmps19
      go_wp2_with fail
      refine (rkind_at a k1 _ h1).mono ?_
      rintro e w' ⟨rfl, rfl⟩
      go_wp2_with fail
      refine (rkind_at a k1 _ h1).mono ?_
      rintro e w' ⟨rfl, rfl⟩
      go_wp2
      go_ret2
      exact ⟨rfl, rfl⟩

end Go.Proofs.Ytnhldkneeegohaa
