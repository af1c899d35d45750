/-
  ranges: isValid.
-/
import Derived.Test.YtmkaclfjekjabaaDoorRanOwn
namespace Go.Proofs.YtmkaclfjekjabaaDoor
open Go.RowKit

set_option maxHeartbeats 1000000 in
theorem isValid_any (p : Option Addr) (n c : Nat) (l : List Sp) (w : World) (hl : l.length = n) (hn : n ≤ maxLen) (hin : SpIn w p l) :
    Calls Tryd.prog 93 #[.slice p n c] w fun e w' => e = .returned (.bool (validS l)) ∧ Below w.heap.size w w' := by
  unfold maxLen at hn
  have HI := Lib.hid hin
  have HL := Lib.hid hl
  clear hin hl
  by_cases hbig : 256 < n
  · have HV : Hid (validS l = false) := by unfold Hid validS; rw [HL.out, decide_eq_false (by omega)]; rfl
    go_enter Tryd.func93, Tryd.ntmps93
    go_wp2
    go_ret
    rw [HV.out]
    exact ⟨rfl, Below.refl _ _⟩
  · go_enter Tryd.func93, Tryd.ntmps93
    go_wp2
    go_loopw [3, 11] (fun v i wr => ∃ k : Nat, k ≤ n ∧ i = .int .i64 k ∧ (∃ e : Int, 0 ≤ e ∧ e ≤ 1114112 ∧ v = .int .i64 e ∧ Hid (ends 0 (l.take k) = e)) ∧ Hid (ascB 0 (l.take k) = true) ∧ Below w.heap.size w wr) (fun _ i _ => n - (intOf i).toNat)
    case atStart => exact ⟨0, Nat.zero_le _, rfl, ⟨0, by omega, by omega, rfl, rfl⟩, rfl, Below.refl _ _⟩
    case round =>
      obtain ⟨k, hk, rfl, ⟨e, he0, he1, rfl, hee⟩, ha, hbel⟩ := hrel
      by_cases hlt : k < n
      · have hkl : k < l.length := by rw [HL.out]; exact hlt
        obtain ⟨b, off, rfl, hc1, hc2, hc3⟩ := (HI.out.below hbel) k hkl
        have HB := Lib.hid hbel
        obtain ⟨⟨f, t, v⟩, hs⟩ : ∃ s, l.getD k sp0 = s := ⟨_, rfl⟩
        rw [hs] at hc1 hc2 hc3
        have HS := Lib.hid hs
        clear hs hbel
        by_cases hok : e ≤ f ∧ f ≤ t ∧ t ≤ 1114111
        · obtain ⟨ho1, ho2, ho3⟩ := hok
          have HA : Hid (ascB 0 (l.take (k + 1)) = true) := by
            unfold Hid; rw [take_snoc_sp l k hkl, asc_snoc_iff, HS.out, hee.out]; exact ⟨ha.out, ho1, ho2, ho3⟩
          have HE : Hid (ends 0 (l.take (k + 1)) = t + 1) := by
            unfold Hid; rw [take_snoc_sp l k hkl, ends_append, HS.out]; rfl
          go_wp2
          go_roundw
          case rel => exact ⟨k + 1, by omega, by go_num, ⟨t + 1, by omega, by omega, rfl, HE⟩, HA, HB.out.alloc HB.out.size _⟩
          case measure => simp [intOf]; omega
        · have HN := Lib.hid hok
          have HV : Hid (validS l = false) := by
            unfold Hid validS
            rw [asc_prefix (k + 1), Bool.and_false]
            rw [← Bool.not_eq_true, take_snoc_sp l k hkl, asc_snoc_iff, HS.out, hee.out]
            exact fun h => HN.out h.2
          clear hok
          go_wp2
          all_goals first
            | (exfalso; have := HN.out; omega)
            | (go_ret; rw [HV.out]; exact ⟨rfl, HB.out.alloc HB.out.size _⟩)
      · obtain rfl : k = n := by omega
        have HV : Hid (validS l = true) := by
          unfold Hid validS
          have := ha.out
          rw [List.take_of_length_le (Nat.le_of_eq HL.out)] at this
          rw [this, HL.out, decide_eq_true (by omega)]; rfl
        have HB := Lib.hid hbel
        clear hbel
        go_wp2
        go_ret
        rw [HV.out]
        exact ⟨rfl, HB.out⟩

end Go.Proofs.YtmkaclfjekjabaaDoor
