/-
  The reference GetList.
-/
import Derived.Test.YtimabgaobhfiaaaPakRefB
import Derived.Test.YtimabgaobhfiaaaPakG
namespace Go.Proofs.Ytimabgaobhfiaaa
open Go.RowKit

set_option maxRecDepth 100000 in
set_option maxHeartbeats 4000000 in
theorem rgetList_any (s : ByteArray) (a : Int) (L : List Int) (i er : Int) (w : World) (hs : s.size ≤ maxLen) (hE : Hid (getListS s a = (L, i, er))) :
    Calls Try.prog 29 #[.string s, .int .i64 a] w (RetL L i er w) := by
  have HS := Lib.hid hs
  clear hs
  obtain ⟨i0, hi, hz0, hz1, hz2⟩ := info_parts Try.info3
  obtain ⟨v, j, e1, hn⟩ : ∃ v j e1, getS s a = (v, j, e1) := ⟨_, _, _, rfl⟩
  have hE' := hE.out
  rw [getListS, hn] at hE'
  simp only at hE'
  have HN := Lib.hid hn
  clear hn
  by_cases h1 : e1 ≠ 0
  · rw [if_pos h1] at hE'
    injection hE' with x1 x2
    injection x2 with x2 x3
    subst x1; subst x2; subst x3
    have hd : (e1 != 0) = true := by simp [h1]
    clear h1
    go_enter Try.func29, Try.ntmps29
    go_wp2_with fail
    refine (rgetInt_any s a v j e1 _ HS.out HN).mono ?_
    rintro e w1 ⟨rfl, rfl⟩
    go_wp2
    go_ret3
    exact RetL.of (Ints.nil _ 0) (Below.refl _ _)
  obtain rfl : e1 = 0 := by omega
  have hd0 : ((0 : Int) != 0) = false := rfl
  rw [if_neg h1] at hE'
  by_cases h2 : v < 0 ∨ 4096 < v
  · rw [if_pos h2] at hE'
    injection hE' with x1 x2
    injection x2 with x2 x3
    subst x1; subst x2; subst x3
    have hcase : decide (v < 0) = true ∨ (decide (v < 0) = false ∧ decide (4096 < v) = true) := by
      by_cases h : v < 0
      · exact .inl (decide_eq_true h)
      · exact .inr ⟨decide_eq_false h, decide_eq_true (by omega)⟩
    clear h1 h2
    rcases hcase with hc | ⟨hc, hc2⟩
    all_goals
      go_enter Try.func29, Try.ntmps29
      go_wp2_with fail
      refine (rgetInt_any s a v j 0 _ HS.out HN).mono ?_
      rintro e w1 ⟨rfl, rfl⟩
      go_wp2
      go_ret3
      exact RetL.of (Ints.nil _ 0) (Below.refl _ _)
  rw [if_neg h2] at hE'
  obtain ⟨n, rfl⟩ : ∃ n : Nat, v = n := ⟨v.toNat, by omega⟩
  have hn2 : n ≤ 4096 := by omega
  have HE0 : Hid (getLF s a (n - 0) j 0 [] = (L, i, er)) := by unfold Hid; rw [← hE', Int.toNat_natCast]; rfl
  have hc1 : decide ((n : Int) < 0) = false := by simp
  clear h1 h2 hE'
  go_enter Try.func29, Try.ntmps29
  go_wp2_with fail
  refine (rgetInt_any s a n j 0 _ HS.out HN).mono ?_
  rintro e w1 ⟨rfl, rfl⟩
  go_wp2
  clear hc1
  go_loopw [8, 10, 11, 12] (fun jv vv lv kv wr => ∃ (k : Nat) (last j : Int) (out : List Int), k ≤ n ∧ kv = .int .i64 k ∧ jv = .int .i64 j ∧ lv = .int .i64 last ∧ -1073741824 ≤ last ∧ last ≤ 1073741824 ∧ out.length ≤ k ∧ Hid (getLF s a (n - k) j last out = (L, i, er)) ∧ Hid (Ints wr w.heap.size vv out) ∧ Hid (Below w.heap.size w wr)) (fun _ _ _ kv _ => n - (intOf kv).toNat)
  case atStart => exact ⟨0, 0, j, [], Nat.zero_le _, rfl, rfl, rfl, by omega, by omega, Nat.zero_le _, HE0, Ints.nil _ _, Below.refl _ _⟩
  case round =>
    clear HE0
    obtain ⟨k, last, j, out, hk, rfl, rfl, rfl, hl0, hl1, hol, hEq, ho, hbel⟩ := hrel
    by_cases hlt : k < n
    · obtain ⟨m, hm⟩ : ∃ m, n - k = m + 1 := ⟨n - k - 1, by omega⟩
      obtain ⟨v, j2, e2, hg⟩ : ∃ v j2 e2, getS s j = (v, j2, e2) := ⟨_, _, _, rfl⟩
      have hEq2 := hEq.out
      rw [hm, getLF, hg] at hEq2
      simp only at hEq2
      have HG := Lib.hid hg
      have HM := Lib.hid hm
      clear hg hm hEq
      by_cases h1 : e2 ≠ 0
      · rw [if_pos h1] at hEq2
        injection hEq2 with x1 x2
        injection x2 with x2 x3
        subst x1; subst x2; subst x3
        have hd : (e2 != 0) = true := by simp [h1]
        clear h1
        go_wp2_with fail
        refine (rgetInt_any s j v j2 e2 _ HS.out HG).mono ?_
        rintro e w2 ⟨rfl, rfl⟩
        go_wp2
        go_ret3
        exact RetL.of (Ints.nil _ 0) hbel.out
      · obtain rfl : e2 = 0 := by omega
        rw [if_neg h1] at hEq2
        by_cases h2 : v < -2147483648 ∨ 2147483648 < v ∨ modB (last + v) = false
        · rw [if_pos h2] at hEq2
          injection hEq2 with x1 x2
          injection x2 with x2 x3
          subst x1; subst x2; subst x3
          have hcase : decide (v < -2147483648) = true ∨ (decide (v < -2147483648) = false ∧ decide (2147483648 < v) = true) ∨ (-2147483648 ≤ v ∧ v ≤ 2147483648 ∧ Hid (modB (last + v) = false)) := by
            by_cases h : v < -2147483648
            · exact .inl (decide_eq_true h)
            · by_cases h' : 2147483648 < v
              · exact .inr (.inl ⟨decide_eq_false h, decide_eq_true h'⟩)
              · refine .inr (.inr ⟨by omega, by omega, ?_⟩)
                rcases h2 with h2 | h2 | h2
                · omega
                · omega
                · exact h2
          clear h1 h2
          rcases hcase with hc | ⟨hc, hc2⟩ | ⟨hv0, hv1, HMF⟩
          · go_wp2_with fail
            refine (rgetInt_any s j v j2 0 _ HS.out HG).mono ?_
            rintro e w2 ⟨rfl, rfl⟩
            go_wp2
            go_ret3
            exact RetL.of (Ints.nil _ 0) hbel.out
          · go_wp2_with fail
            refine (rgetInt_any s j v j2 0 _ HS.out HG).mono ?_
            rintro e w2 ⟨rfl, rfl⟩
            go_wp2
            go_ret3
            exact RetL.of (Ints.nil _ 0) hbel.out
          · have hc : decide (v < -2147483648) = false := decide_eq_false (by omega)
            have hc2 : decide (2147483648 < v) = false := decide_eq_false (by omega)
            go_wp2_with fail
            refine (rgetInt_any s j v j2 0 _ HS.out HG).mono ?_
            rintro e w2 ⟨rfl, rfl⟩
            go_wp2_with fail
            refine (moderate_at (last + v) false _ HMF).mono ?_
            rintro e w2 ⟨rfl, rfl⟩
            go_wp2
            go_ret3
            exact RetL.of (Ints.nil _ 0) hbel.out
        · rw [if_neg h2] at hEq2
          have hc : decide (v < -2147483648) = false := decide_eq_false (by omega)
          have hc2 : decide (2147483648 < v) = false := decide_eq_false (by omega)
          have hv0 : -2147483648 ≤ v := by omega
          have hv1 : v ≤ 2147483648 := by omega
          have hmt : modB (last + v) = true := by
            cases hx : modB (last + v) with
            | true => rfl
            | false => exact absurd (.inr (.inr hx)) h2
          obtain ⟨b0, b1⟩ := modB_iff.1 hmt
          have HMT := Lib.hid hmt
          have HQ : Hid (getLF s a (n - (k + 1)) j2 (last + v) (out ++ [last + v]) = (L, i, er)) := by
            have := HM.out
            unfold Hid; rw [show n - (k + 1) = m by omega]; exact hEq2
          clear h1 h2 hEq2 hmt
          go_wp2_with fail
          refine (rgetInt_any s j v j2 0 _ HS.out HG).mono ?_
          rintro e w2 ⟨rfl, rfl⟩
          go_wp2_with fail
          refine (moderate_at (last + v) true _ HMT).mono ?_
          rintro e w2 ⟨rfl, rfl⟩
          go_wp2_with (at_builtin; refine wpList_append_own _ rfl _ _ 27 rfl w.heap.size 3 i0 (.int .i64 0) 1 8 Try.underlying27 hi hz0 hz1 hz2 rfl (by decide) _ _ _ rfl (ho.out.alloc _) ⟨_, 0, none⟩ 1 1 [.int .i64 (last + v)] rfl rfl (cell_one_new _ _ _) ?c2 ?c3 ?c4 ?c5 ?_)
          case c2 => intro u hu; simp at hu; subst hu; rfl
          case c3 => unfold maxLen; omega
          case c4 => omega
          case c5 => have := hbel.out.size; simp; omega
          intro v3 w3 hown3 hg3 _
          have HO3 : Hid (Ints w3 w.heap.size v3 (out ++ [last + v])) := by unfold Hid Ints; simpa using hown3
          have HB3 := Lib.hid ((hbel.out.alloc hbel.out.size _).grown hg3 (by have := hbel.out.size; simp; omega) ho.out.base)
          clear hown3 hg3
          go_wp2
          go_roundw
          case rel => exact ⟨k + 1, last + v, j2, out ++ [last + v], by omega, by go_num, rfl, rfl, by omega, by omega, by simp; omega, HQ, HO3, HB3⟩
          case measure => simp [intOf]; omega
    · obtain rfl : k = n := by omega
      have hEq2 := hEq.out
      rw [Nat.sub_self, getLF] at hEq2
      injection hEq2 with x1 x2
      injection x2 with x2 x3
      subst x1; subst x2; subst x3
      clear hEq
      go_wp2
      go_ret3
      exact RetL.of ho.out hbel.out

end Go.Proofs.Ytimabgaobhfiaaa
