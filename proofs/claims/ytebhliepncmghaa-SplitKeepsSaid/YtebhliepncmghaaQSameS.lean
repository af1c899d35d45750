/-
  keep.Same at string, keep.SameLists at int: of equal lists.
-/
import Derived.Test.YtebhliepncmghaaQLs
import Derived.Test.YtebhliepncmghaaQSame
set_option linter.unusedSimpArgs false
set_option linter.unusedVariables false
namespace Go.Proofs.Ytebhliepncmghaa
open Go.RowKit
set_option linter.unusedVariables false

set_option maxHeartbeats 1000000 in
theorem sames_at (p q : Option Addr) (c d n m : Nat) (xs : List ByteArray) (w : World) (hx : StrIn w p xs) (hy : StrIn w q xs) (hn : Hid (xs.length = n)) (hm : Hid (xs.length = m)) (hl : n ≤ maxLen) :
    Calls Try.prog 17 #[.slice p n c, .slice q m d] w fun e w' => e = .returned (.bool true) ∧ Below w.heap.size w w' := by
  unfold maxLen at hl
  have e := hn.out.symm.trans hm.out
  subst e
  clear hm
  have HX := Lib.hid hx
  have HY := Lib.hid hy
  have hne : ((n : Int) != (n : Int)) = false := by simp
  clear hx hy
  go_enter Try.func17, Try.ntmps17
  go_wp2
  go_loopw [13] (fun i wr => ∃ k : Nat, k ≤ n ∧ i = .int .i64 k ∧ Below w.heap.size w wr) (fun i _ => n - (intOf i).toNat)
  case atStart => exact ⟨0, Nat.zero_le _, rfl, Below.refl _ _⟩
  case round =>
    obtain ⟨k, hk, rfl, hbel⟩ := hrel
    by_cases hlt : k < n
    · have hkl : k < xs.length := by rw [hn.out]; exact hlt
      obtain ⟨b1, o1, rfl, hc1⟩ := (HX.out.below hbel) k hkl
      obtain ⟨b2, o2, rfl, hc2⟩ := (HY.out.below hbel) k hkl
      obtain ⟨x, hxx⟩ : ∃ x, xs.getD k ByteArray.empty = x := ⟨_, rfl⟩
      rw [hxx] at hc1 hc2
      have hb : (x.toList == x.toList) = true := by simp
      have hb2 : (x.toList != x.toList) = false := by simp
      clear hxx hkl
      go_wp2
      go_quiet (fail)
      go_wp2
      go_roundw
      case rel => exact ⟨k + 1, by omega, by go_num, below_drewN hbel _⟩
      case measure => simp [intOf]; omega
    · obtain rfl : k = n := by omega
      go_wp2
      go_ret
      exact ⟨rfl, hbel⟩

set_option maxHeartbeats 1000000 in
/-- Same of equal lists draws, and does nothing else. -/
theorem sameq_at (p q : Option Addr) (c d n m : Nat) (xs : List Int) (w : World) (hx : IntsIn w p xs) (hy : IntsIn w q xs) (hn : Hid (xs.length = n)) (hm : Hid (xs.length = m)) (hl : n ≤ 9223372036854775807) :
    Calls Try.prog 14 #[.slice p n c, .slice q m d] w fun e w' => e = .returned (.bool true) ∧ ∃ z, w' = w.drewN z := by
  have e := hn.out.symm.trans hm.out
  subst e
  clear hm
  have HX := Lib.hid hx
  have HY := Lib.hid hy
  have hne : ((n : Int) != (n : Int)) = false := by simp
  clear hx hy
  go_enter Try.func14, Try.ntmps14
  go_wp2
  go_loopw [13] (fun i wr => ∃ k : Nat, k ≤ n ∧ i = .int .i64 k ∧ ∃ z, wr = w.drewN z) (fun i _ => n - (intOf i).toNat)
  case atStart => exact ⟨0, Nat.zero_le _, rfl, 0, rfl⟩
  case round =>
    obtain ⟨k, hk, rfl, z, hz⟩ := hrel
    have hbel : Below w.heap.size w wr := by rw [hz]; exact below_drewN (Below.refl _ _) z
    have HZ := Lib.hid hz
    clear hz
    by_cases hlt : k < n
    · have hkl : k < xs.length := by rw [hn.out]; exact hlt
      obtain ⟨b1, o1, rfl, hc1⟩ := (HX.out.below hbel) k hkl
      obtain ⟨b2, o2, rfl, hc2⟩ := (HY.out.below hbel) k hkl
      obtain ⟨x, hxx⟩ : ∃ x, xs.getD k 0 = x := ⟨_, rfl⟩
      rw [hxx] at hc1 hc2
      have hb : (x != x) = false := by simp
      clear hxx hkl
      go_wp2
      go_quiet (fail)
      go_wp2
      go_roundw
      case rel => exact ⟨k + 1, by omega, by go_num, _, by rw [HZ.out, World.drewN_drewN]⟩
      case measure => simp [intOf]; omega
    · obtain rfl : k = n := by omega
      go_wp2
      go_ret
      exact ⟨rfl, z, HZ.out⟩

theorem sameI_at (p q : Option Addr) (c d n m : Nat) (xs : List Int) (w : World) (hx : IntsIn w p xs) (hy : IntsIn w q xs) (hl : xs.length ≤ maxLen) (hn : xs.length = n) (hm : xs.length = m) :
    Calls Try.prog 14 #[.slice p n c, .slice q m d] w fun e w' => e = .returned (.bool true) ∧ Below w.heap.size w w' := by
  subst hn; subst hm
  have := same_any p q c d xs xs w hx hy hl hl
  rwa [show (xs == xs) = true by simp] at this

theorem RowIn.drewN {t : IntKind} {w : World} {p : Option Addr} {zs : List Int} (h : RowIn t w p zs) (m : Nat) : RowIn t (w.drewN m) p zs := h.below (below_drewN (Below.refl _ _) m)

set_option maxHeartbeats 1000000 in
theorem samels_at (p q : Option Addr) (c d n m : Nat) (L : List (List Int)) (w : World) (hx : LsIn w p L) (hy : LsIn w q L) (hn : Hid (L.length = n)) (hm : Hid (L.length = m)) (hl : n ≤ maxLen) (hall : Hid (∀ k, k < n → (L.getD k []).length ≤ maxLen)) :
    Calls Try.prog 11 #[.slice p n c, .slice q m d] w fun e w' => e = .returned (.bool true) ∧ Below w.heap.size w w' := by
  unfold maxLen at hl
  have e := hn.out.symm.trans hm.out
  subst e
  clear hm
  have HX := Lib.hid hx
  have HY := Lib.hid hy
  have hne : ((n : Int) != (n : Int)) = false := by simp
  clear hx hy
  go_enter Try.func11, Try.ntmps11
  go_wp2
  go_loopw [13] (fun i wr => ∃ k : Nat, k ≤ n ∧ i = .int .i64 k ∧ Below w.heap.size w wr) (fun i _ => n - (intOf i).toNat)
  case atStart => exact ⟨0, Nat.zero_le _, rfl, Below.refl _ _⟩
  case round =>
    obtain ⟨k, hk, rfl, hbel⟩ := hrel
    by_cases hlt : k < n
    · have hkl : k < L.length := by rw [hn.out]; exact hlt
      obtain ⟨b1, o1, q1, c1, rfl, hc1, _, hi1⟩ := (HX.out.below hbel) k hkl
      obtain ⟨b2, o2, q2, c2, rfl, hc2, _, hi2⟩ := (HY.out.below hbel) k hkl
      obtain ⟨x, hxx⟩ : ∃ x, L.getD k [] = x := ⟨_, rfl⟩
      rw [hxx] at hc1 hc2 hi1 hi2
      obtain ⟨nx, hnx⟩ : ∃ nx, x.length = nx := ⟨_, rfl⟩
      rw [hnx] at hc1 hc2
      have HI1 := Lib.hid hi1
      have HI2 := Lib.hid hi2
      have HNX := Lib.hid hnx
      have HML : Hid (x.length ≤ maxLen) := by rw [← hxx]; exact hall.out k hlt
      have hml : nx ≤ 9223372036854775807 := by have := HML.out; rw [hnx] at this; exact this
      clear hxx hkl hi1 hi2 hnx
      go_wp2
      go_quiet ((go_at_call 14; exact Calls.quiet_of (sameq_at q1 q2 c1 c2 nx nx x _ (HI1.out.drewN _) (HI2.out.drewN _) HNX HNX hml)))
      go_wp2
      go_roundw
      case rel => exact ⟨k + 1, by omega, by go_num, below_drewN hbel _⟩
      case measure => simp [intOf]; omega
    · obtain rfl : k = n := by omega
      go_wp2
      go_ret
      exact ⟨rfl, hbel⟩

end Go.Proofs.Ytebhliepncmghaa
