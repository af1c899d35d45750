/-
  The contract of keep.Same at int.
-/
import Derived.Test.YtebhliepncmghaaPkA
import Derived.Deep.QuietTactic
import Derived.BigQuiet
set_option linter.unusedSimpArgs false
set_option linter.unusedVariables false
namespace Go.Proofs.Ytebhliepncmghaa
open Go.RowKit

theorem beq_take_snoc (xs ys : List Int) (k : Nat) (hx : k < xs.length) (hy : k < ys.length) (h : xs.take k = ys.take k) (he : xs.getD k 0 = ys.getD k 0) : xs.take (k + 1) = ys.take (k + 1) := by
  rw [take_snoc_int xs k hx, take_snoc_int ys k hy, h, he]

theorem ne_of_getD (xs ys : List Int) (k : Nat) (he : xs.getD k 0 ≠ ys.getD k 0) : (xs == ys) = false := by
  simp only [beq_eq_false_iff_ne, ne_eq]
  rintro rfl
  exact he rfl

set_option maxHeartbeats 1000000 in
theorem same_any (p q : Option Addr) (c d : Nat) (xs ys : List Int) (w : World) (hx : IntsIn w p xs) (hy : IntsIn w q ys) (hxl : xs.length ≤ maxLen) (hyl : ys.length ≤ maxLen) :
    Calls Try.prog 14 #[.slice p xs.length c, .slice q ys.length d] w fun e w' => e = .returned (.bool (xs == ys)) ∧ Below w.heap.size w w' := by
  unfold maxLen at hxl hyl
  by_cases hl : xs.length = ys.length
  · have hne : ((xs.length : Int) != (ys.length : Int)) = false := by simp [hl]
    have HX := Lib.hid hx
    have HY := Lib.hid hy
    have HL := Lib.hid hl
    clear hl hx hy
    go_enter Try.func14, Try.ntmps14
    go_wp2
    go_loopw [13] (fun i wr => ∃ k : Nat, k ≤ xs.length ∧ i = .int .i64 k ∧ Hid (xs.take k = ys.take k) ∧ Below w.heap.size w wr) (fun i _ => xs.length - (intOf i).toNat)
    case atStart => exact ⟨0, Nat.zero_le _, rfl, rfl, Below.refl _ _⟩
    case round =>
      obtain ⟨k, hk, rfl, ht, hbel⟩ := hrel
      by_cases hlt : k < xs.length
      · obtain ⟨b1, o1, rfl, hc1⟩ := (HX.out.below hbel) k hlt
        obtain ⟨b2, o2, rfl, hc2⟩ := (HY.out.below hbel) k (by rw [← HL.out]; exact hlt)
        have hlt2 : k < ys.length := by rw [← HL.out]; exact hlt
        obtain ⟨x, hxx⟩ : ∃ x, xs.getD k 0 = x := ⟨_, rfl⟩
        obtain ⟨y, hyy⟩ : ∃ y, ys.getD k 0 = y := ⟨_, rfl⟩
        rw [hxx] at hc1
        rw [hyy] at hc2
        by_cases hxy : x = y
        · have hb : (x != y) = false := by simp [hxy]
          have HS : Hid (xs.take (k + 1) = ys.take (k + 1)) := beq_take_snoc xs ys k hlt hlt2 ht.out (by rw [hxx, hyy, hxy])
          clear hxx hyy hxy
          go_wp2
          go_quiet (fail)
          go_wp2
          go_roundw
          case rel => exact ⟨k + 1, by omega, by go_num, HS, below_drewN hbel _⟩
          case measure => simp [intOf]; omega
        · have hb : (x != y) = true := by simp [hxy]
          have HS : Hid ((xs == ys) = false) := ne_of_getD xs ys k (by rw [hxx, hyy]; exact hxy)
          clear hxx hyy hxy
          go_wp2
          go_quiet (fail)
          go_wp2
          go_ret
          rw [HS.out]
          exact ⟨rfl, below_drewN hbel _⟩
      · obtain rfl : k = xs.length := by omega
        have HS : Hid ((xs == ys) = true) := by
          have := ht.out
          rw [List.take_length, HL.out, List.take_length] at this
          simp [Hid, this]
        go_wp2
        go_ret
        rw [HS.out]
        exact ⟨rfl, hbel⟩
  · have hne : ((xs.length : Int) != (ys.length : Int)) = true := by simp; omega
    have HE : Hid ((xs == ys) = false) := by
      simp only [Hid, beq_eq_false_iff_ne, ne_eq]
      rintro rfl
      exact hl rfl
    clear hl hx hy
    go_enter Try.func14, Try.ntmps14
    go_wp2
    go_ret
    rw [HE.out]
    exact ⟨rfl, Below.refl _ _⟩

end Go.Proofs.Ytebhliepncmghaa
