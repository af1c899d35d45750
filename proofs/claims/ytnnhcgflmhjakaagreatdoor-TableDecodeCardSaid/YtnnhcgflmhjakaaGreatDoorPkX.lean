/-
  The reference GetInt.
  The reference GetList.
  The reference GetSpans.
-/
import Derived.Test.YtnnhcgflmhjakaaGreatDoorPkO
set_option linter.unusedSimpArgs false
set_option linter.unusedVariables false
namespace Go.Proofs.YtnnhcgflmhjakaaGreatDoor
open Go.RowKit

theorem u8_and127 (b : Int) (h0 : 0 ≤ b) (h1 : b < 256) : bits .and .u8 b 127 = b % 128 := by
  have hw : ∀ n : Int, 0 ≤ n → n < 2 ^ 8 → IntKind.u8.wrap n = n := by intro n a c; rw [IntKind.wrap_u8]; omega
  have h := bits_mask .u8 8 (by decide) hw 7 (by decide) b h0 (by omega)
  simpa using h

/-- How the reference ends: 'v := int(u >> 1); if u&1 == 1 { v = ^v }'. -/
theorem last_ways (V v : Int) (h0 : 0 ≤ V) (h1 : IsU V) (hv : unzz V = v) :
    ((bits .and .u64 V 1 == 1) = false ∧ wrap64 (V / 2) = v) ∨ ((bits .and .u64 V 1 == 1) = true ∧ bits .xor .i64 (-1) (wrap64 (V / 2)) = v) := by
  by_cases h : V % 2 = 0
  · exact .inl ⟨even_test V h0 h1 h, by rw [unzz_words_even V h0 h1 h, hv]⟩
  · exact .inr ⟨odd_test V h0 h1 h, by rw [unzz_words_odd V h0 h1 h, hv]⟩

def RGetPost (v i er : Int) (w : World) (e : Ending) (w' : World) : Prop :=
  e = .returned (.tuple #[.int .i64 v, .int .i64 i, .int .i64 er]) ∧ w = w'

set_option maxHeartbeats 400000 in
theorem rgetInt_out (s : ByteArray) (a v i er : Int) (w : World) (hs : s.size ≤ maxLen) (h : a < 0 ∨ (s.size : Int) < a) (hE : Hid (getS s a = (v, i, er))) :
    Calls Tryz.prog 82 #[.string s, .int .i64 a] w (RGetPost v i er w) := by
  unfold maxLen at hs
  have hE' := hE.out
  rw [getS_out h] at hE'
  injection hE' with e1 e2
  injection e2 with e2 e3
  subst e1; subst e2; subst e3
  by_cases h0 : a < 0
  · clear h
    go_enter Tryz.func82, Tryz.ntmps82
    go_wp2
    go_ret3
    exact ⟨rfl, rfl⟩
  · have h1 : (s.size : Int) < a := by omega
    have h2 : decide (a < 0) = false := decide_eq_false h0
    clear h
    go_enter Tryz.func82, Tryz.ntmps82
    go_wp2
    go_ret3
    exact ⟨rfl, rfl⟩

set_option maxRecDepth 100000 in
set_option maxHeartbeats 4000000 in
theorem rgetInt_in (s : ByteArray) (a : Nat) (v i er : Int) (w : World) (hs : s.size ≤ maxLen) (h : a ≤ s.size) (hE : Hid (getS s a = (v, i, er))) :
    Calls Tryz.prog 82 #[.string s, .int .i64 a] w (RGetPost v i er w) := by
  unfold maxLen at hs
  have h2 : decide ((a : Int) < 0) = false := by simp
  have HZ : Hid (s.size + 20 ≤ 9223372036854775807 ∨ True) := .inr trivial
  go_enter Tryz.func82, Tryz.ntmps82
  go_wp2
  go_loop [7, 8] (fun uu kv => ∃ (k : Nat) (U : Int), k ≤ 9 ∧ a + k ≤ s.size ∧ kv = .int .i64 k ∧ uu = .int .u64 U ∧ 0 ≤ U ∧ Hid (U < p7 k) ∧ Hid (getR 0 0 ((nums s).drop a) = getR k U ((nums s).drop (a + k)))) (fun _ kv => 10 - (intOf kv).toNat)
  case atStart => exact ⟨0, 0, by omega, by omega, rfl, rfl, by omega, by unfold Hid; decide, rfl⟩
  case round =>
    obtain ⟨k, U, hk9, hks, rfl, rfl, hU0, hU, hR⟩ := hrel
    obtain ⟨p, hp⟩ : ∃ p, a + k = p := ⟨_, rfl⟩
    rw [hp] at hR hks
    have hpi : (a : Int) + (k : Int) = (p : Int) := by omega
    have HP := Lib.hid hp
    clear hp h2
    by_cases hlt : p < s.size
    · have hnd := nums_drop s p hlt
      obtain ⟨b, hb⟩ : ∃ b : Int, (s[p].toNat : Int) = b := ⟨_, rfl⟩
      have hb0 : 0 ≤ b := by omega
      have hb1 : b ≤ 255 := by have := s[p].toNat_lt; omega
      have hR2 := hR.out
      rw [hnd, hb] at hR2
      have HR := Lib.hid hR2
      clear hnd hR hR2
      obtain ⟨c, hc⟩ : ∃ c, b % 128 = c := ⟨_, rfl⟩
      have hc0 : 0 ≤ c := by omega
      have hc1 : c ≤ 127 := by omega
      have hmask := u8_and127 b hb0 (by omega)
      rw [hc] at hmask
      by_cases hA : k = 9 ∧ b ≠ 1
      · have hf := HR.out
        rw [getR_form (.inl hA) hb0 hk9] at hf
        have hE' := hE.out
        rw [getS_err h hf (by omega)] at hE'
        injection hE' with e1 e2
        injection e2 with e2 e3
        subst e1; subst e2; subst e3
        have hb1' : ((k : Int) == 9) = true := by simp; omega
        by_cases hA2 : 1 < b
        · clear hA HR hf hc hmask
          go_wp2
          go_ret3
          exact ⟨rfl, rfl⟩
        · obtain rfl : b = 0 := by omega
          obtain rfl : c = 0 := by omega
          have hd : decide ((1 : Int) < 0) = false := rfl
          have hor : bits .or .u64 U (IntKind.u64.wrap (0 * 2 ^ (7 * k))) = U + 0 * p7 k := or_step U 0 k hU0 hU.out (by omega) (by omega) hk9 (by omega)
          have hk0 : 0 < k := by omega
          have hd2 : decide (0 < k) = true := by simp; omega
          obtain ⟨V, hV⟩ : ∃ V, U + 0 * p7 k = V := ⟨_, rfl⟩
          rw [hV] at hor
          clear hA HR hf hc hA2 hV
          go_wp2
          go_ret3
          exact ⟨rfl, rfl⟩
      · have hor : bits .or .u64 U (IntKind.u64.wrap (c * 2 ^ (7 * k))) = U + c * p7 k := or_step U c k hU0 hU.out hc0 hc1 hk9 (by omega)
        obtain ⟨V0, V1⟩ := acc_u hU0 hU.out hc0 hc1 hk9 (by omega)
        have hbd : U + c * p7 k < p7 (k + 1) := acc_bd hU.out hc1
        by_cases hB : 128 ≤ b
        · have hk : k ≠ 9 := by omega
          have hk8 : k ≤ 8 := by omega
          have hb1' : ((k : Int) == 9) = false := by simp; omega
          have hd : decide (b < 128) = false := decide_eq_false (by omega)
          have hm := HR.out
          rw [getR_more hk hB, show b - 128 = c by omega] at hm
          obtain ⟨V, hV⟩ : ∃ V, U + c * p7 k = V := ⟨_, rfl⟩
          rw [hV] at hor V0 V1 hm hbd
          rw [show p + 1 = a + (k + 1) by have := HP.out; omega] at hm
          have HM := Lib.hid hm
          have HBD := Lib.hid hbd
          have hak : a + (k + 1) ≤ s.size := by have := HP.out; omega
          clear hA HR hm hbd hV V1 hk
          go_wp2
          go_round
          case rel => exact ⟨k + 1, V, by omega, hak, by go_num, rfl, V0, HBD, HM⟩
          case measure => simp [intOf]; omega
        · have hB2 : b < 128 := by omega
          obtain rfl : b = c := by omega
          by_cases hC : 0 < k ∧ b = 0
          · have hb1' : ((k : Int) == 9) = false := by simp; omega
            have hb2' : (b == 0) = true := by simp [hC.2]
            have hb3' : decide (0 < k) = true := by simp [hC.1]
            have hf := HR.out
            rw [getR_form (.inr hC) hb0 hk9] at hf
            have hE' := hE.out
            rw [getS_err h hf (by omega)] at hE'
            injection hE' with e1 e2
            injection e2 with e2 e3
            subst e1; subst e2; subst e3
            obtain ⟨hC1, hC2⟩ := hC
            obtain ⟨V, hV⟩ : ∃ V, U + b * p7 k = V := ⟨_, rfl⟩
            rw [hV] at hor
            clear hA HR hf hc hC2 V0 V1 hbd hV
            go_wp2
            go_ret3
            exact ⟨rfl, rfl⟩
          · have hl := HR.out
            rw [getR_last hA hB2 hC hb0] at hl
            have hE' := hE.out
            rw [getS_ok h hl] at hE'
            injection hE' with e1 e2
            injection e2 with e2 e3
            subst e3
            have HI : Hid ((p : Int) + 1 = i) := by have := HP.out; unfold Hid; omega
            obtain ⟨V, hV⟩ : ∃ V, U + b * p7 k = V := ⟨_, rfl⟩
            rw [hV] at hor V0 V1 e1
            have hways := last_ways V v V0 V1 e1
            have hcase : (((k : Int) == 9) = false ∨ (((k : Int) == 9) = true ∧ decide (1 < b) = false)) ∧ (decide (0 < k) = false ∨ (decide (0 < k) = true ∧ (b == 0) = false)) := by
              constructor
              · by_cases h9 : k = 9
                · exact .inr ⟨by simp; omega, by simp; omega⟩
                · exact .inl (by simp; omega)
              · by_cases h0 : 0 < k
                · exact .inr ⟨by simp [h0], by simp; omega⟩
                · exact .inl (by simp; omega)
            clear hA hC HR hl hc hbd hV e1 e2
            obtain ⟨hca, hcb⟩ := hcase
            rcases hways with ⟨ht, hx⟩ | ⟨ht, hx⟩
            · rcases hca with hca | ⟨hca, hca2⟩ <;> rcases hcb with hcb | ⟨hcb, hcb2⟩
              all_goals
                go_wp2
                go_ret3
                rw [HI.out]
                exact ⟨rfl, rfl⟩
            · have hsg : IntKind.i64.signed = true := rfl
              rcases hca with hca | ⟨hca, hca2⟩ <;> rcases hcb with hcb | ⟨hcb, hcb2⟩
              all_goals
                go_wp2
                go_ret3
                rw [HI.out]
                exact ⟨rfl, rfl⟩
    · obtain rfl : p = s.size := by omega
      have HE : Hid ((0, (a : Int), 5) = (v, i, er)) := by
        have h5 := hR.out
        have hd : (nums s).drop s.size = [] := List.drop_of_length_le (by rw [nums_length]; exact Nat.le_refl _)
        rw [hd] at h5
        unfold Hid
        rw [← hE.out, getS_err h h5 (by omega)]
      clear hR
      go_wp2
      have hE' := HE.out
      injection hE' with e1 e2
      injection e2 with e2 e3
      subst e1; subst e2; subst e3
      go_ret3
      exact ⟨rfl, rfl⟩

theorem rgetInt_any (s : ByteArray) (a v i er : Int) (w : World) (hs : s.size ≤ maxLen) (hE : Hid (getS s a = (v, i, er))) :
    Calls Tryz.prog 82 #[.string s, .int .i64 a] w (RGetPost v i er w) := by
  by_cases h : a < 0 ∨ (s.size : Int) < a
  · exact rgetInt_out s a v i er w hs h hE
  · obtain ⟨n, rfl⟩ : ∃ n : Nat, a = n := ⟨a.toNat, by omega⟩
    exact rgetInt_in s n v i er w hs (by omega) hE

end Go.Proofs.YtnnhcgflmhjakaaGreatDoor

namespace Go.Proofs.YtnnhcgflmhjakaaGreatDoor
open Go.RowKit

set_option maxRecDepth 100000 in
set_option maxHeartbeats 4000000 in
theorem rgetList_own (s : ByteArray) (a : Int) (L : List Int) (i er : Int) (w : World) (hs : s.size ≤ maxLen) (hE : Hid (getListS s a = (L, i, er))) :
    Calls Tryz.prog 81 #[.string s, .int .i64 a] w (RetO L i er w) := by
  have HS := Lib.hid hs
  clear hs
  obtain ⟨i0, hi, hz0, hz1, hz2⟩ := info_parts Tryz.info3
  obtain ⟨v, j, e1, hn⟩ : ∃ v j e1, getS s a = (v, j, e1) := ⟨_, _, _, rfl⟩
  have hE' := hE.out
  rw [getListS, hn] at hE'
  simp only at hE'
  have HN := Lib.hid hn
  clear hn
  by_cases h1 : e1 ≠ 0
  · rw [if_pos h1] at hE'
    injection hE' with x1 x2
    injection x2 with x2 x3
    subst x1; subst x2; subst x3
    have hd : (e1 != 0) = true := by simp [h1]
    clear h1
    go_enter Tryz.func81, Tryz.ntmps81
    go_wp2_with fail
    refine (rgetInt_any s a v j e1 _ HS.out HN).mono ?_
    rintro e w1 ⟨rfl, rfl⟩
    go_wp2
    go_ret3
    exact RetO.of (Nat.le_refl _) (Ints.nil _ _) (Below.refl _ _)
  obtain rfl : e1 = 0 := by omega
  have hd0 : ((0 : Int) != 0) = false := rfl
  rw [if_neg h1] at hE'
  by_cases h2 : v < 0 ∨ 4096 < v
  · rw [if_pos h2] at hE'
    injection hE' with x1 x2
    injection x2 with x2 x3
    subst x1; subst x2; subst x3
    have hcase : decide (v < 0) = true ∨ (decide (v < 0) = false ∧ decide (4096 < v) = true) := by
      by_cases h : v < 0
      · exact .inl (decide_eq_true h)
      · exact .inr ⟨decide_eq_false h, decide_eq_true (by omega)⟩
    clear h1 h2
    rcases hcase with hc | ⟨hc, hc2⟩
    all_goals
      go_enter Tryz.func81, Tryz.ntmps81
      go_wp2_with fail
      refine (rgetInt_any s a v j 0 _ HS.out HN).mono ?_
      rintro e w1 ⟨rfl, rfl⟩
      go_wp2
      go_ret3
      exact RetO.of (Nat.le_refl _) (Ints.nil _ _) (Below.refl _ _)
  rw [if_neg h2] at hE'
  obtain ⟨n, rfl⟩ : ∃ n : Nat, v = n := ⟨v.toNat, by omega⟩
  have hn2 : n ≤ 4096 := by omega
  have HE0 : Hid (getLF s a (n - 0) j 0 [] = (L, i, er)) := by unfold Hid; rw [← hE', Int.toNat_natCast]; rfl
  have hc1 : decide ((n : Int) < 0) = false := by simp
  clear h1 h2 hE'
  go_enter Tryz.func81, Tryz.ntmps81
  go_wp2_with fail
  refine (rgetInt_any s a n j 0 _ HS.out HN).mono ?_
  rintro e w1 ⟨rfl, rfl⟩
  go_wp2
  clear hc1
  go_loopw [8, 10, 11, 12] (fun jv vv lv kv wr => ∃ (k : Nat) (last j : Int) (out : List Int), k ≤ n ∧ kv = .int .i64 k ∧ jv = .int .i64 j ∧ lv = .int .i64 last ∧ -1073741824 ≤ last ∧ last ≤ 1073741824 ∧ out.length ≤ k ∧ Hid (getLF s a (n - k) j last out = (L, i, er)) ∧ Hid (Ints wr w.heap.size vv out) ∧ Hid (Below w.heap.size w wr)) (fun _ _ _ kv _ => n - (intOf kv).toNat)
  case atStart => exact ⟨0, 0, j, [], Nat.zero_le _, rfl, rfl, rfl, by omega, by omega, Nat.zero_le _, HE0, Ints.nil _ _, Below.refl _ _⟩
  case round =>
    clear HE0
    obtain ⟨k, last, j, out, hk, rfl, rfl, rfl, hl0, hl1, hol, hEq, ho, hbel⟩ := hrel
    by_cases hlt : k < n
    · obtain ⟨m, hm⟩ : ∃ m, n - k = m + 1 := ⟨n - k - 1, by omega⟩
      obtain ⟨v, j2, e2, hg⟩ : ∃ v j2 e2, getS s j = (v, j2, e2) := ⟨_, _, _, rfl⟩
      have hEq2 := hEq.out
      rw [hm, getLF, hg] at hEq2
      simp only at hEq2
      have HG := Lib.hid hg
      have HM := Lib.hid hm
      clear hg hm hEq
      by_cases h1 : e2 ≠ 0
      · rw [if_pos h1] at hEq2
        injection hEq2 with x1 x2
        injection x2 with x2 x3
        subst x1; subst x2; subst x3
        have hd : (e2 != 0) = true := by simp [h1]
        clear h1
        go_wp2_with fail
        refine (rgetInt_any s j v j2 e2 _ HS.out HG).mono ?_
        rintro e w2 ⟨rfl, rfl⟩
        go_wp2
        go_ret3
        exact RetO.of (Nat.le_refl _) (Ints.nil _ _) hbel.out
      · obtain rfl : e2 = 0 := by omega
        rw [if_neg h1] at hEq2
        by_cases h2 : v < -2147483648 ∨ 2147483648 < v ∨ modB (last + v) = false
        · rw [if_pos h2] at hEq2
          injection hEq2 with x1 x2
          injection x2 with x2 x3
          subst x1; subst x2; subst x3
          have hcase : decide (v < -2147483648) = true ∨ (decide (v < -2147483648) = false ∧ decide (2147483648 < v) = true) ∨ (-2147483648 ≤ v ∧ v ≤ 2147483648 ∧ Hid (modB (last + v) = false)) := by
            by_cases h : v < -2147483648
            · exact .inl (decide_eq_true h)
            · by_cases h' : 2147483648 < v
              · exact .inr (.inl ⟨decide_eq_false h, decide_eq_true h'⟩)
              · refine .inr (.inr ⟨by omega, by omega, ?_⟩)
                rcases h2 with h2 | h2 | h2
                · omega
                · omega
                · exact h2
          clear h1 h2
          rcases hcase with hc | ⟨hc, hc2⟩ | ⟨hv0, hv1, HMF⟩
          · go_wp2_with fail
            refine (rgetInt_any s j v j2 0 _ HS.out HG).mono ?_
            rintro e w2 ⟨rfl, rfl⟩
            go_wp2
            go_ret3
            exact RetO.of (Nat.le_refl _) (Ints.nil _ _) hbel.out
          · go_wp2_with fail
            refine (rgetInt_any s j v j2 0 _ HS.out HG).mono ?_
            rintro e w2 ⟨rfl, rfl⟩
            go_wp2
            go_ret3
            exact RetO.of (Nat.le_refl _) (Ints.nil _ _) hbel.out
          · have hc : decide (v < -2147483648) = false := decide_eq_false (by omega)
            have hc2 : decide (2147483648 < v) = false := decide_eq_false (by omega)
            go_wp2_with fail
            refine (rgetInt_any s j v j2 0 _ HS.out HG).mono ?_
            rintro e w2 ⟨rfl, rfl⟩
            go_wp2_with fail
            refine (moderate_at (last + v) false _ HMF).mono ?_
            rintro e w2 ⟨rfl, rfl⟩
            go_wp2
            go_ret3
            exact RetO.of (Nat.le_refl _) (Ints.nil _ _) hbel.out
        · rw [if_neg h2] at hEq2
          have hc : decide (v < -2147483648) = false := decide_eq_false (by omega)
          have hc2 : decide (2147483648 < v) = false := decide_eq_false (by omega)
          have hv0 : -2147483648 ≤ v := by omega
          have hv1 : v ≤ 2147483648 := by omega
          have hmt : modB (last + v) = true := by
            cases hx : modB (last + v) with
            | true => rfl
            | false => exact absurd (.inr (.inr hx)) h2
          obtain ⟨b0, b1⟩ := modB_iff.1 hmt
          have HMT := Lib.hid hmt
          have HQ : Hid (getLF s a (n - (k + 1)) j2 (last + v) (out ++ [last + v]) = (L, i, er)) := by
            have := HM.out
            unfold Hid; rw [show n - (k + 1) = m by omega]; exact hEq2
          clear h1 h2 hEq2 hmt
          go_wp2_with fail
          refine (rgetInt_any s j v j2 0 _ HS.out HG).mono ?_
          rintro e w2 ⟨rfl, rfl⟩
          go_wp2_with fail
          refine (moderate_at (last + v) true _ HMT).mono ?_
          rintro e w2 ⟨rfl, rfl⟩
          go_wp2_with (at_builtin; refine wpList_append_own _ rfl _ _ 22 rfl w.heap.size 3 i0 (.int .i64 0) 1 8 Tryz.underlying22 hi hz0 hz1 hz2 rfl (by decide) _ _ _ rfl (ho.out.alloc _) ⟨_, 0, none⟩ 1 1 [.int .i64 (last + v)] rfl rfl (cell_one_new _ _ _) ?c2 ?c3 ?c4 ?c5 ?_)
          case c2 => intro u hu; simp at hu; subst hu; rfl
          case c3 => unfold maxLen; omega
          case c4 => omega
          case c5 => have := hbel.out.size; simp; omega
          intro v3 w3 hown3 hg3 _
          have HO3 : Hid (Ints w3 w.heap.size v3 (out ++ [last + v])) := by unfold Hid Ints; simpa using hown3
          have HB3 := Lib.hid ((hbel.out.alloc hbel.out.size _).grown hg3 (by have := hbel.out.size; simp; omega) ho.out.pkBase)
          clear hown3 hg3
          go_wp2
          go_roundw
          case rel => exact ⟨k + 1, last + v, j2, out ++ [last + v], by omega, by go_num, rfl, rfl, by omega, by omega, by simp; omega, HQ, HO3, HB3⟩
          case measure => simp [intOf]; omega
    · obtain rfl : k = n := by omega
      have hEq2 := hEq.out
      rw [Nat.sub_self, getLF] at hEq2
      injection hEq2 with x1 x2
      injection x2 with x2 x3
      subst x1; subst x2; subst x3
      clear hEq
      go_wp2
      go_ret3
      exact RetO.of (by omega) ho.out hbel.out

theorem rgetList_any (s : ByteArray) (a : Int) (L : List Int) (i er : Int) (w : World) (hs : s.size ≤ maxLen) (hE : Hid (getListS s a = (L, i, er))) :
    Calls Tryz.prog 81 #[.string s, .int .i64 a] w (RetL L i er w) :=
  (rgetList_own s a L i er w hs hE).mono fun _ _ h => h.toL

end Go.Proofs.YtnnhcgflmhjakaaGreatDoor

namespace Go.Proofs.YtnnhcgflmhjakaaGreatDoor
open Go.RowKit

/-- Behind the From of a span: its To is next. -/
def getS2 (s : ByteArray) (a : Int) (m : Nat) (i f t : Int) (out : List Sp) : List Sp × Int × Int :=
  if (getS s i).2.2 ≠ 0 then ([], a, (getS s i).2.2)
  else if modB (getS s i).1 = false then ([], a, 4)
  else getSF s a m false (getS s i).2.1 t (out ++ [(f, t, (getS s i).1)])

def getS1 (s : ByteArray) (a : Int) (m : Nat) (i f : Int) (out : List Sp) : List Sp × Int × Int :=
  if (getS s i).2.2 ≠ 0 then ([], a, (getS s i).2.2)
  else if (getS s i).1 < 0 ∨ 1114111 - f < (getS s i).1 then ([], a, 4)
  else getS2 s a m (getS s i).2.1 f (f + (getS s i).1) out

theorem getSF_one (s : ByteArray) (a : Int) (m : Nat) (first : Bool) (i last : Int) (out : List Sp) :
    getSF s a (m + 1) first i last out = if (getS s i).2.2 ≠ 0 then ([], a, (getS s i).2.2)
      else if (getS s i).1 < 0 ∨ 1114111 - last < (getS s i).1 ∨ (first = false ∧ (getS s i).1 = 0) then ([], a, 4)
      else getS1 s a m (getS s i).2.1 (last + (getS s i).1) out := rfl

/-- Where the reference stands behind k numbers. -/
def AtK (s : ByteArray) (a : Int) (n : Nat) (R : List Sp × Int × Int) (B : Nat) (k : Nat) (j last : Int) (vv : Value) (wr : World) : Prop :=
  ∃ (q : Nat) (out : List Sp), out.length = q ∧
    ((k = 3 * q ∧ getSF s a (n - q) (decide (k = 0)) j last out = R ∧ Spans wr B vv out) ∨
     (k = 3 * q + 1 ∧ ∃ f, 0 ≤ f ∧ f ≤ 1114111 ∧ getS1 s a (n - (q + 1)) j f out = R ∧ Spans wr B vv (out ++ [(f, 0, 0)])) ∨
     (k = 3 * q + 2 ∧ ∃ f, last ≤ 1114111 ∧ getS2 s a (n - (q + 1)) j f last out = R ∧ Spans wr B vv (out ++ [(f, last, 0)])))

theorem cellsS_set2 (i : List Sp) (p : Sp) (t : Int) : (cellsS (i ++ [p])).set (i.length * 3 + 2) (.int .i64 t) = cellsS (i ++ [(p.1, p.2.1, t)]) := by
  rw [cellsS_append, cellsS_append, List.set_append_right _ _ (by rw [cellsS_length]; omega)]
  congr 1
  rw [cellsS_length, show i.length * 3 + 2 - i.length * 3 = 2 by omega]
  rfl

theorem Spans.setVal {w : World} {B : Nat} {i : List Sp} {p : Sp} {g n cap : Nat} (h : Spans w B (.slice (some ⟨g, 0, none⟩) n cap) (i ++ [p])) (hn : n = i.length + 1) (t : Int) :
    Spans (w.setCell ⟨g, i.length * 3 + 2, none⟩ (.int .i64 t)) B (.slice (some ⟨g, 0, none⟩) n cap) (i ++ [(p.1, p.2.1, t)]) := by
  subst hn
  unfold Spans at h ⊢
  rw [← cellsS_set2]
  simp only [List.length_append, List.length_cons, List.length_nil] at h ⊢
  exact (World.ownsRow.stored h _ _).1

theorem Spans.frozen {w : World} {B : Nat} {g n cap : Nat} {l : List Sp} (h : Spans w B (.slice (some ⟨g, 0, none⟩) n cap) l) (hn : n = l.length) (o : Nat) : w.frozen? ⟨g, o, none⟩ = false := by
  subst hn
  exact World.ownsRow.frozenAt (g := g) (cap := cap) (n := l.length) h o

theorem triple_eq {α β γ : Type} {a a' : α} {b b' : β} {c c' : γ} (h : (a, b, c) = (a', b', c')) : a = a' ∧ b = b' ∧ c = c' := by
  injection h with h1 h2
  injection h2 with h2 h3
  exact ⟨h1, h2, h3⟩

set_option maxRecDepth 100000 in
set_option maxHeartbeats 8000000 in
theorem rgetSpans_own (s : ByteArray) (a : Int) (L : List Sp) (i er : Int) (w : World) (hs : s.size ≤ maxLen) (hE : Hid (getSpansS s a = (L, i, er))) :
    Calls Tryz.prog 79 #[.string s, .int .i64 a] w (RetT L i er w) := by
  have HS := Lib.hid hs
  clear hs
  obtain ⟨v, j, e1, hn⟩ : ∃ v j e1, getS s a = (v, j, e1) := ⟨_, _, _, rfl⟩
  have hE' := hE.out
  rw [getSpansS, hn] at hE'
  simp only at hE'
  have HN := Lib.hid hn
  clear hn
  by_cases h1 : e1 ≠ 0
  · rw [if_pos h1] at hE'
    obtain ⟨x1, x2, x3⟩ := triple_eq hE'
    subst x1; subst x2; subst x3
    have hd : (e1 != 0) = true := by simp [h1]
    clear h1 hE'
    go_enter Tryz.func79, Tryz.ntmps79
    go_wp2_with fail
    refine (rgetInt_any s a v j e1 _ HS.out HN).mono ?_
    rintro e w1 ⟨rfl, rfl⟩
    go_wp2
    go_ret3
    exact RetT.of (Nat.le_refl _) (Spans.nil _ _) (Below.refl _ _)
  obtain rfl : e1 = 0 := by omega
  have hd0 : ((0 : Int) != 0) = false := rfl
  rw [if_neg h1] at hE'
  by_cases h2 : v < 0 ∨ 256 < v
  · rw [if_pos h2] at hE'
    obtain ⟨x1, x2, x3⟩ := triple_eq hE'
    subst x1; subst x2; subst x3
    have hcase : decide (v < 0) = true ∨ (decide (v < 0) = false ∧ decide (256 < v) = true) := by
      by_cases h : v < 0
      · exact .inl (decide_eq_true h)
      · exact .inr ⟨decide_eq_false h, decide_eq_true (by omega)⟩
    clear h1 h2 hE'
    rcases hcase with hc | ⟨hc, hc2⟩
    all_goals
      go_enter Tryz.func79, Tryz.ntmps79
      go_wp2_with fail
      refine (rgetInt_any s a v j 0 _ HS.out HN).mono ?_
      rintro e w1 ⟨rfl, rfl⟩
      go_wp2
      go_ret3
      exact RetT.of (Nat.le_refl _) (Spans.nil _ _) (Below.refl _ _)
  rw [if_neg h2] at hE'
  obtain ⟨n, rfl⟩ : ∃ n : Nat, v = n := ⟨v.toNat, by omega⟩
  have hn2 : n ≤ 256 := by omega
  have HA0 : Hid (AtK s a n (L, i, er) w.heap.size 0 j 0 (.slice none 0 0) w) := ⟨0, [], rfl, .inl ⟨rfl, by rw [Int.toNat_natCast] at hE'; exact hE', Spans.nil _ _⟩⟩
  have hc1 : decide ((n : Int) < 0) = false := by simp
  clear h1 h2 hE'
  go_enter Tryz.func79, Tryz.ntmps79
  go_wp2_with fail
  refine (rgetInt_any s a n j 0 _ HS.out HN).mono ?_
  rintro e w1 ⟨rfl, rfl⟩
  go_wp2
  clear hc1
  go_loopw [8, 10, 11, 12] (fun jv vv lv kv wr => ∃ (k : Nat) (last j : Int), k ≤ 3 * n ∧ kv = .int .i64 k ∧ jv = .int .i64 j ∧ lv = .int .i64 last ∧ 0 ≤ last ∧ last ≤ 1114111 ∧ Hid (AtK s a n (L, i, er) w.heap.size k j last vv wr) ∧ Hid (Below w.heap.size w wr)) (fun _ _ _ kv _ => 3 * n - (intOf kv).toNat)
  case atStart => exact ⟨0, 0, j, Nat.zero_le _, rfl, rfl, rfl, by omega, by omega, HA0, Below.refl _ _⟩
  case round =>
    clear HA0
    obtain ⟨k, last, j, hk, rfl, rfl, rfl, hl0, hl1, hAt, hbel⟩ := hrel
    by_cases hlt : k < 3 * n
    · obtain ⟨v, j2, e2, hg⟩ : ∃ v j2 e2, getS s j = (v, j2, e2) := ⟨_, _, _, rfl⟩
      have HG := Lib.hid hg
      clear hg
      obtain ⟨q, out, hql, hst⟩ := hAt.out
      have HQL := Lib.hid hql
      clear hAt hql
      rcases hst with ⟨hkq, hEq, ho⟩ | ⟨hkq, f, hf0, hf1, hEq, ho⟩ | ⟨hkq, f, hl2, hEq, ho⟩
      · -- the From of a span
        obtain ⟨m, hm⟩ : ∃ m, n - q = m + 1 := ⟨n - q - 1, by omega⟩
        rw [hm, getSF_one, HG.out] at hEq
        simp only at hEq
        have hk0 : (k : Int) % 3 = 0 := by omega
        have HO := Lib.hid ho
        have HM := Lib.hid hm
        have HKQ := Lib.hid hkq
        clear ho hm hkq
        by_cases h1 : e2 ≠ 0
        · rw [if_pos h1] at hEq
          obtain ⟨x1, x2, x3⟩ := triple_eq hEq
          subst x1; subst x2; subst x3
          have hd : (e2 != 0) = true := by simp [h1]
          clear h1 hEq hk0
          go_wp2_with fail
          refine (rgetInt_any s j v j2 e2 _ HS.out HG).mono ?_
          rintro e w2 ⟨rfl, rfl⟩
          go_wp2
          go_ret3
          exact RetT.of (Nat.le_refl _) (Spans.nil _ _) hbel.out
        · obtain rfl : e2 = 0 := by omega
          rw [if_neg h1] at hEq
          have hk9 : (k : Int).tmod 3 = 0 := by rw [Int.tmod_eq_emod_of_nonneg (by omega)]; exact hk0
          by_cases h2 : v < 0 ∨ 1114111 - last < v ∨ (decide (k = 0) = false ∧ v = 0)
          · rw [if_pos h2] at hEq
            obtain ⟨x1, x2, x3⟩ := triple_eq hEq
            subst x1; subst x2; subst x3
            have hcase : decide (v < 0) = true ∨ (decide (v < 0) = false ∧ decide (1114111 - last < v) = true) ∨ (decide (v < 0) = false ∧ decide (1114111 - last < v) = false ∧ decide (0 < k) = true ∧ (v == 0) = true) := by
              by_cases h : v < 0
              · exact .inl (decide_eq_true h)
              · by_cases h' : 1114111 - last < v
                · exact .inr (.inl ⟨decide_eq_false h, decide_eq_true h'⟩)
                · refine .inr (.inr ⟨decide_eq_false h, decide_eq_false h', ?_⟩)
                  rcases h2 with h2 | h2 | ⟨h2, h3⟩
                  · omega
                  · omega
                  · have := of_decide_eq_false h2
                    exact ⟨decide_eq_true (by omega), by simp [h3]⟩
            clear h1 h2 hEq
            rcases hcase with hc | ⟨hc, hc2⟩ | ⟨hc, hc2, hc3, hc4⟩
            all_goals
              go_wp2_with fail
              refine (rgetInt_any s j v j2 0 _ HS.out HG).mono ?_
              rintro e w2 ⟨rfl, rfl⟩
              go_wp2
              go_ret3
              exact RetT.of (Nat.le_refl _) (Spans.nil _ _) hbel.out
          · rw [if_neg h2] at hEq
            have hc : decide (v < 0) = false := decide_eq_false (by omega)
            have hc2 : decide (1114111 - last < v) = false := decide_eq_false (by omega)
            have hv0 : 0 ≤ v := by omega
            have hv1 : last + v ≤ 1114111 := by omega
            have hc3 : decide (0 < k) = false ∨ (decide (0 < k) = true ∧ (v == 0) = false) := by
              by_cases h : 0 < k
              · refine .inr ⟨by simp [h], ?_⟩
                rw [beq_eq_false_iff_ne]
                intro hv
                exact h2 (.inr (.inr ⟨by simp; omega, hv⟩))
              · exact .inl (by simp; omega)
            have HQ := Lib.hid hEq
            have hql : out.length ≤ 1099511627775 := by have := HQL.out; have := HKQ.out; omega
            clear h1 h2 hEq
            rcases hc3 with hc3 | ⟨hc3, hc4⟩
            all_goals
              go_wp2_with fail
              refine (rgetInt_any s j v j2 0 _ HS.out HG).mono ?_
              rintro e w2 ⟨rfl, rfl⟩
              go_wp2_with (at_builtin; refine wpList_append_span (.tmp 85) (.tmp 90) rfl rfl w.heap.size _ out rfl HO.out (last + v, 0, 0) 1 _ rfl rfl (by omega) hbel.out.size ?_; intro v5 w5 ho5 hg5)
              have HB5 := Lib.hid (hbel.out.grown hg5 hbel.out.size HO.out.base)
              have HA5 : Hid (AtK s a n (L, i, er) w.heap.size (k + 1) j2 last v5 w5) := by
                have h1 := HKQ.out
                have h2 := HM.out
                exact ⟨q, out, HQL.out, .inr (.inl ⟨by omega, last + v, by omega, hv1, by rw [show n - (q + 1) = m by omega]; exact HQ.out, ho5⟩)⟩
              clear ho5 hg5
              go_wp2
              go_roundw
              case rel => exact ⟨k + 1, last, j2, by omega, by go_num, rfl, rfl, hl0, hl1, HA5, HB5⟩
              case measure => simp [intOf]; omega
      · -- the To of a span
        rw [getS1, HG.out] at hEq
        simp only at hEq
        obtain ⟨g, cap, rfl, hg1, hg2, q1, q2, q3, q4⟩ := ho.last
        simp only at q1 q2 q3
        have hk0 : (k : Int) % 3 = 1 := by omega
        have hk9 : (k : Int).tmod 3 = 1 := by rw [Int.tmod_eq_emod_of_nonneg (by omega)]; exact hk0
        have HO := Lib.hid ho
        have HG1 := Lib.hid hg1
        have HKQ := Lib.hid hkq
        have hlen : out.length ≤ 256 := by have := HQL.out; omega
        clear ho hkq hg1
        by_cases h1 : e2 ≠ 0
        · rw [if_pos h1] at hEq
          obtain ⟨x1, x2, x3⟩ := triple_eq hEq
          subst x1; subst x2; subst x3
          have hd : (e2 != 0) = true := by simp [h1]
          clear h1 hEq hk0
          go_wp2_with fail
          refine (rgetInt_any s j v j2 e2 _ HS.out HG).mono ?_
          rintro e w2 ⟨rfl, rfl⟩
          go_wp2
          go_ret3
          exact RetT.of (Nat.le_refl _) (Spans.nil _ _) hbel.out
        · obtain rfl : e2 = 0 := by omega
          rw [if_neg h1] at hEq
          by_cases h2 : v < 0 ∨ 1114111 - f < v
          · rw [if_pos h2] at hEq
            obtain ⟨x1, x2, x3⟩ := triple_eq hEq
            subst x1; subst x2; subst x3
            have hcase : decide (v < 0) = true ∨ (decide (v < 0) = false ∧ decide (1114111 - f < v) = true) := by
              by_cases h : v < 0
              · exact .inl (decide_eq_true h)
              · exact .inr ⟨decide_eq_false h, decide_eq_true (by omega)⟩
            clear h1 h2 hEq
            rcases hcase with hc | ⟨hc, hc2⟩
            all_goals
              go_wp2_with fail
              refine (rgetInt_any s j v j2 0 _ HS.out HG).mono ?_
              rintro e w2 ⟨rfl, rfl⟩
              go_wp2
              go_ret3
              exact RetT.of (Nat.le_refl _) (Spans.nil _ _) hbel.out
          · rw [if_neg h2] at hEq
            have hc : decide (v < 0) = false := decide_eq_false (by omega)
            have hc2 : decide (1114111 - f < v) = false := decide_eq_false (by omega)
            have hv0 : 0 ≤ v := by omega
            have hv1 : f + v ≤ 1114111 := by omega
            have HQ := Lib.hid hEq
            clear h1 h2 hEq
            go_wp2_with fail
            refine (rgetInt_any s j v j2 0 _ HS.out HG).mono ?_
            rintro e w2 ⟨rfl, rfl⟩
            go_wp2
            have HB5 := Lib.hid (hbel.out.setCell (p := ⟨g, out.length * 3 + 1, none⟩) HG1.out (.int .i64 (f + v)))
            have HA5 : Hid (AtK s a n (L, i, er) w.heap.size (k + 1) j2 (f + v) (.slice (some ⟨g, 0, none⟩) (out.length + 1) cap) (wr.setCell ⟨g, out.length * 3 + 1, none⟩ (.int .i64 (f + v)))) := by
              have h1 := HKQ.out
              exact ⟨q, out, HQL.out, .inr (.inr ⟨by omega, f, hv1, HQ.out, HO.out.setTo rfl (f + v)⟩)⟩
            go_roundw
            case rel => exact ⟨k + 1, f + v, j2, by omega, by go_num, rfl, rfl, by omega, hv1, HA5, HB5⟩
            case measure => simp [intOf]; omega
      · -- the Value of a span
        rw [getS2, HG.out] at hEq
        simp only at hEq
        obtain ⟨g, cap, rfl, hg1, hg2, q1, q2, q3, q4⟩ := ho.last
        simp only at q1 q2 q3
        have q5 := ho.frozen (by simp) (out.length * 3 + 2)
        have hk0 : (k : Int) % 3 = 2 := by omega
        have hk9 : (k : Int).tmod 3 = 2 := by rw [Int.tmod_eq_emod_of_nonneg (by omega)]; exact hk0
        have HO := Lib.hid ho
        have HG1 := Lib.hid hg1
        have HKQ := Lib.hid hkq
        have hlen : out.length ≤ 256 := by have := HQL.out; omega
        clear ho hkq hg1
        by_cases h1 : e2 ≠ 0
        · rw [if_pos h1] at hEq
          obtain ⟨x1, x2, x3⟩ := triple_eq hEq
          subst x1; subst x2; subst x3
          have hd : (e2 != 0) = true := by simp [h1]
          clear h1 hEq hk0
          go_wp2_with fail
          refine (rgetInt_any s j v j2 e2 _ HS.out HG).mono ?_
          rintro e w2 ⟨rfl, rfl⟩
          go_wp2
          go_ret3
          exact RetT.of (Nat.le_refl _) (Spans.nil _ _) hbel.out
        · obtain rfl : e2 = 0 := by omega
          rw [if_neg h1] at hEq
          cases hm : modB v with
          | false =>
            rw [if_pos hm] at hEq
            obtain ⟨x1, x2, x3⟩ := triple_eq hEq
            subst x1; subst x2; subst x3
            have HMF := Lib.hid hm
            clear h1 hm hEq
            go_wp2_with fail
            refine (rgetInt_any s j v j2 0 _ HS.out HG).mono ?_
            rintro e w2 ⟨rfl, rfl⟩
            go_wp2_with fail
            refine (moderate_at v false _ HMF).mono ?_
            rintro e w2 ⟨rfl, rfl⟩
            go_wp2
            go_ret3
            exact RetT.of (Nat.le_refl _) (Spans.nil _ _) hbel.out
          | true =>
            rw [if_neg (by rw [hm]; simp)] at hEq
            have HMT := Lib.hid hm
            have HQ := Lib.hid hEq
            clear h1 hm hEq
            go_wp2_with fail
            refine (rgetInt_any s j v j2 0 _ HS.out HG).mono ?_
            rintro e w2 ⟨rfl, rfl⟩
            go_wp2_with fail
            refine (moderate_at v true _ HMT).mono ?_
            rintro e w2 ⟨rfl, rfl⟩
            go_wp2
            have HB5 := Lib.hid (hbel.out.setCell (p := ⟨g, out.length * 3 + 2, none⟩) HG1.out (.int .i64 v))
            have HA5 : Hid (AtK s a n (L, i, er) w.heap.size (k + 1) j2 last (.slice (some ⟨g, 0, none⟩) (out.length + 1) cap) (wr.setCell ⟨g, out.length * 3 + 2, none⟩ (.int .i64 v))) := by
              have h1 := HKQ.out
              refine ⟨q + 1, out ++ [(f, last, v)], by have := HQL.out; simp; omega, .inl ⟨by omega, ?_, HO.out.setVal rfl v⟩⟩
              have h3 : decide (k + 1 = 0) = false := by simp
              rw [h3]; exact HQ.out
            go_roundw
            case rel => exact ⟨k + 1, last, j2, by omega, by go_num, rfl, rfl, hl0, hl1, HA5, HB5⟩
            case measure => simp [intOf]; omega
    · obtain rfl : k = 3 * n := by omega
      obtain ⟨q, out, hql, hst⟩ := hAt.out
      rcases hst with ⟨hkq, hEq, ho⟩ | ⟨hkq, _⟩ | ⟨hkq, _⟩
      · have hq : n - q = 0 := by omega
        rw [hq, getSF] at hEq
        obtain ⟨x1, x2, x3⟩ := triple_eq hEq
        subst x1; subst x2; subst x3
        have HO := Lib.hid ho
        have hlt' : ¬ (((3 * n : Nat) : Int) < 3 * (n : Int)) := by omega
        clear hEq hAt ho hkq hq hql hlt
        go_wp2
        go_ret3
        exact RetT.of (by omega) HO.out hbel.out
      · exfalso; omega
      · exfalso; omega

theorem rgetSpans_any (s : ByteArray) (a : Int) (L : List Sp) (i er : Int) (w : World) (hs : s.size ≤ maxLen) (hE : Hid (getSpansS s a = (L, i, er))) :
    Calls Tryz.prog 79 #[.string s, .int .i64 a] w (RetS L i er w) :=
  (rgetSpans_own s a L i er w hs hE).mono fun _ _ h => h.toS

end Go.Proofs.YtnnhcgflmhjakaaGreatDoor
