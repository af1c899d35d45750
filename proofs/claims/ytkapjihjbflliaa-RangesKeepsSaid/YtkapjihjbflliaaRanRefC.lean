/-
  The references of ranges: before, after.
-/
import Derived.Test.YtkapjihjbflliaaRanRefB
namespace Go.Proofs.Ytkapjihjbflliaa
open Go.RowKit

set_option maxRecDepth 100000 in
set_option maxHeartbeats 2000000 in
theorem before_any (p : Option Addr) (n cp : Nat) (l : List Sp) (c : Int) (w : World) (hl : l.length = n) (hin : SpIn w p l) (hn : n ≤ 1114112) (hc0 : 0 ≤ c) (hc1 : c ≤ 1114111) :
    Calls Try.prog 40 #[.slice p n cp, .int .i64 c] w (OwnPost (beforeS c l) w) := by
  have HI := Lib.hid hin
  have HL := Lib.hid hl
  clear hin hl
  go_enter Try.func40, Try.ntmps40
  go_wp2
  go_loopw [5, 10] (fun v i wr => ∃ k : Nat, k ≤ n ∧ i = .int .i64 k ∧ Hid (Spans wr w.heap.size v (beforeS c (l.take k))) ∧ Hid (Below w.heap.size w wr)) (fun _ i _ => n - (intOf i).toNat)
  case atStart => exact ⟨0, Nat.zero_le _, rfl, Spans.nil _ _, Below.refl _ _⟩
  case round =>
    obtain ⟨k, hk, rfl, ho, hbel⟩ := hrel
    by_cases hlt : k < n
    · have hkl : k < l.length := by rw [HL.out]; exact hlt
      obtain ⟨b, off, rfl, d1, d2, d3⟩ := (HI.out.below hbel.out) k hkl
      obtain ⟨⟨f, t, v⟩, hs⟩ : ∃ s, l.getD k sp0 = s := ⟨_, rfl⟩
      rw [hs] at d1 d2 d3
      simp only at d1 d2 d3
      have HJ : Hid (beforeS c (l.take (k + 1)) = beforeS c (l.take k) ++ if f < c then [(f, min t (c - 1), v)] else []) := by unfold Hid; rw [take_snoc_sp l k hkl, hs, before_snoc]
      have HK := Lib.hid (Nat.le_trans (before_length c (l.take k)) (List.length_take_le k l))
      clear hs
      by_cases hfc : f < c
      · rw [if_pos hfc, show min t (c - 1) = if c - 1 < t then c - 1 else t by split <;> omega] at HJ
        go_wp2_with (at_builtin; refine wpList_append_span (.tmp 18) (.tmp 29) rfl rfl w.heap.size u5 _ rfl (ho.out.alloc _) (f, if c - 1 < t then c - 1 else t, v) 1 _ rfl (by simp) (by have := HK.out; omega) (by have := hbel.out.size; simp; omega) ?_; intro v1 w1 ho1 hg1)
        have HO := Lib.hid ho1
        have HB := Lib.hid ((hbel.out.alloc hbel.out.size _).grown hg1 (by have := hbel.out.size; simp; omega) ho.out.base)
        clear ho1 hg1
        go_wp2
        go_roundw
        case rel => exact ⟨k + 1, by omega, by go_num, by rw [HJ.out]; exact HO, HB⟩
        case measure => simp [intOf]; omega
      · rw [if_neg hfc, List.append_nil] at HJ
        go_wp2
        go_roundw
        case rel => exact ⟨k + 1, by omega, by go_num, by rw [HJ.out]; exact ho.out.alloc _, hbel.out.alloc hbel.out.size _⟩
        case measure => simp [intOf]; omega
    · obtain rfl : k = n := by omega
      have HJ : Hid (l.take k = l) := by unfold Hid; rw [List.take_of_length_le (Nat.le_of_eq HL.out)]
      go_wp2
      go_ret
      exact ⟨_, rfl, by rw [HJ.out] at ho; exact ho.out, hbel.out⟩

set_option maxRecDepth 100000 in
set_option maxHeartbeats 2000000 in
theorem after_any (p : Option Addr) (n cp : Nat) (l : List Sp) (c : Int) (w : World) (hl : l.length = n) (hin : SpIn w p l) (hn : n ≤ 1114112) (hc0 : 0 ≤ c) (hc1 : c ≤ 1114111) :
    Calls Try.prog 41 #[.slice p n cp, .int .i64 c] w (OwnPost (afterS c l) w) := by
  have HI := Lib.hid hin
  have HL := Lib.hid hl
  clear hin hl
  go_enter Try.func41, Try.ntmps41
  go_wp2
  go_loopw [5, 10] (fun v i wr => ∃ k : Nat, k ≤ n ∧ i = .int .i64 k ∧ Hid (Spans wr w.heap.size v (afterS c (l.take k))) ∧ Hid (Below w.heap.size w wr)) (fun _ i _ => n - (intOf i).toNat)
  case atStart => exact ⟨0, Nat.zero_le _, rfl, Spans.nil _ _, Below.refl _ _⟩
  case round =>
    obtain ⟨k, hk, rfl, ho, hbel⟩ := hrel
    by_cases hlt : k < n
    · have hkl : k < l.length := by rw [HL.out]; exact hlt
      obtain ⟨b, off, rfl, d1, d2, d3⟩ := (HI.out.below hbel.out) k hkl
      obtain ⟨⟨f, t, v⟩, hs⟩ : ∃ s, l.getD k sp0 = s := ⟨_, rfl⟩
      rw [hs] at d1 d2 d3
      simp only at d1 d2 d3
      have HJ : Hid (afterS c (l.take (k + 1)) = afterS c (l.take k) ++ if c < t then [(max f (c + 1), t, v)] else []) := by unfold Hid; rw [take_snoc_sp l k hkl, hs, after_snoc]
      have HK := Lib.hid (Nat.le_trans (after_length c (l.take k)) (List.length_take_le k l))
      clear hs
      by_cases hfc : c < t
      · rw [if_pos hfc, show max f (c + 1) = if f < c + 1 then c + 1 else f by split <;> omega] at HJ
        go_wp2_with (at_builtin; refine wpList_append_span (.tmp 18) (.tmp 29) rfl rfl w.heap.size u5 _ rfl (ho.out.alloc _) (if f < c + 1 then c + 1 else f, t, v) 1 _ rfl (by simp) (by have := HK.out; omega) (by have := hbel.out.size; simp; omega) ?_; intro v1 w1 ho1 hg1)
        have HO := Lib.hid ho1
        have HB := Lib.hid ((hbel.out.alloc hbel.out.size _).grown hg1 (by have := hbel.out.size; simp; omega) ho.out.base)
        clear ho1 hg1
        go_wp2
        go_roundw
        case rel => exact ⟨k + 1, by omega, by go_num, by rw [HJ.out]; exact HO, HB⟩
        case measure => simp [intOf]; omega
      · rw [if_neg hfc, List.append_nil] at HJ
        go_wp2
        go_roundw
        case rel => exact ⟨k + 1, by omega, by go_num, by rw [HJ.out]; exact ho.out.alloc _, hbel.out.alloc hbel.out.size _⟩
        case measure => simp [intOf]; omega
    · obtain rfl : k = n := by omega
      have HJ : Hid (l.take k = l) := by unfold Hid; rw [List.take_of_length_le (Nat.le_of_eq HL.out)]
      go_wp2
      go_ret
      exact ⟨_, rfl, by rw [HJ.out] at ho; exact ho.out, hbel.out⟩

end Go.Proofs.Ytkapjihjbflliaa
