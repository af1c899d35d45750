/-
  split: contracts of the references Join, CheckLabels, Name.
-/
import Derived.Test.YtebhliepncmghaaQSplR
set_option linter.unusedSimpArgs false
set_option linter.unusedVariables false
namespace Go.Proofs.Ytebhliepncmghaa
open Go.RowKit
set_option linter.unusedVariables false

theorem joinD_take : ∀ (L : List (List Int)) (k : Nat), (joinD (L.take k)).length ≤ (joinD L).length
  | [], k => by simp
  | x :: t, 0 => by simp [joinD]
  | x :: t, k + 1 => by
    rw [List.take_succ_cons]
    by_cases h : t.take k = []
    · rw [h]
      cases t with
      | nil => exact Nat.le_refl _
      | cons y r => rw [joinD_cons x (t := y :: r) (by simp)]; simp [joinD]
    · have ht : t ≠ [] := fun e => h (by rw [e]; simp)
      have := joinD_take t k
      rw [joinD_cons x h, joinD_cons x ht]
      simp; omega

/-- What Join leaves. -/
def JoiPost (X : List Int) (w : World) (e : Ending) (w' : World) : Prop := ∃ v, e = .returned v ∧ Ints w' w.heap.size v X ∧ Below w.heap.size w w'

set_option maxRecDepth 100000 in
set_option maxHeartbeats 4000000 in
theorem rjoin_at (p : Option Addr) (n cap : Nat) (L : List (List Int)) (X : List Int) (w : World) (hin : LsIn w p L) (hn : Hid (L.length = n)) (hn2 : n ≤ 1099511627776) (hX : Hid (joinD L = X)) (hl : Hid (X.length ≤ 1099511627776)) :
    Calls Try.prog 16 #[.slice p n cap] w (JoiPost X w) := by
  have HI := Lib.hid hin
  clear hin
  go_enter Try.func16, Try.ntmps16
  go_wp2
  go_loopw [3, 8] (fun u i wr => ∃ (k : Nat) (Y : List Int), k ≤ n ∧ i = .int .i64 k ∧ Hid (joinD (L.take k) = Y) ∧ Hid (Ints wr w.heap.size u Y) ∧ Hid (Below w.heap.size w wr)) (fun _ i _ => n - (intOf i).toNat)
  case atStart => exact ⟨0, [], Nat.zero_le _, rfl, by simp [Hid, joinD], Ints.nil _ _, Below.refl _ _⟩
  case round =>
    obtain ⟨k, Y, hk, rfl, hY, ho, hbel⟩ := hrel
    by_cases hlt : k < n
    · have hkl : k < L.length := by rw [hn.out]; exact hlt
      obtain ⟨b, off, q, c, rfl, hck0, _, hi0⟩ := HI.out k hkl
      obtain ⟨x, hx⟩ : ∃ x, L.getD k [] = x := ⟨_, rfl⟩
      rw [hx] at hck0 hi0
      obtain ⟨nx, hnx⟩ : ∃ nx, x.length = nx := ⟨_, rfl⟩
      rw [hnx] at hck0
      have hck := (hbel.out.cell (p := ⟨b, off + k, none⟩) (World.block_lt_of_cell? w _ hck0)).trans hck0
      have HQ0 := Lib.hid hi0
      have HQ := Lib.hid (hi0.below hbel.out)
      have HNX := Lib.hid hnx
      have HNXT : Hid (L.take (k + 1) = L.take k ++ [x]) := by unfold Hid; rw [take_snocL L k hkl, hx]
      have hle : (joinD (L.take (k + 1))).length ≤ 1099511627776 := by
        have h1 := joinD_take L (k + 1)
        have h2 := hl.out
        rw [← hX.out] at h2
        omega
      have HLE := Lib.hid hle
      have HSZ := Lib.hid hbel.out.size
      clear hx hi0 hck0 hnx hkl hle
      by_cases h0 : k = 0
      · have HY0 : Hid (Y = []) := by unfold Hid; rw [← hY.out, h0]; simp [joinD]
        have HZ : Hid (joinD (L.take (k + 1)) = Y ++ x) := by unfold Hid; rw [HNXT.out, HY0.out, h0]; simp [joinD]
        have hk0 : ¬ 0 < k := by omega
        have dk0 : decide (0 < k) = false := decide_eq_false hk0
        clear h0
        have HLN : Hid (Y.length + x.length ≤ 1099511627776) := by have := HLE.out; rw [HZ.out, List.length_append] at this; exact this
        go_wp2_with (at_builtin; refine wpList_append_ints (.tmp 18) (.tmp 19) rfl rfl w.heap.size _ Y (by rfl) ho.out q nx c x HNX.out (by rfl) HQ.out (by have := HLN.out; omega) HSZ.out ?_; intro v5 w5 ho5 hg5)
        have HO5 := Lib.hid ho5
        have HB5 : Hid (Below w.heap.size w w5) := hbel.out.grown hg5 HSZ.out (fun j hj => (World.ownsRow.lt ho.out j hj).1)
        clear ho5 hg5
        go_wp2
        go_roundw
        case rel => exact ⟨k + 1, Y ++ x, by omega, by go_num, HZ, HO5, HB5⟩
        case measure => simp [intOf]; omega
      · have hk0 : 0 < k := by omega
        have HZ : Hid (joinD (L.take (k + 1)) = (Y ++ [46]) ++ x) := by
          unfold Hid
          rw [HNXT.out, joinD_snoc, if_neg (by
            intro e
            have h1 : (L.take k).length = k := by rw [List.length_take, hn.out]; omega
            rw [e] at h1
            simp at h1; omega), hY.out]
          simp
        have HLN : Hid (Y.length + 1 + x.length ≤ 1099511627776) := by have := HLE.out; rw [HZ.out, List.length_append, List.length_append] at this; exact this
        clear h0
        go_wp2_with (at_builtin; first
          | (refine wpList_append_ints (.tmp 15) (.tmp 16) rfl rfl w.heap.size _ Y (by rfl) (World.ownsRow.alloc ho.out _) (some ⟨wr.heap.size, 0, none⟩) 1 1 [46] rfl (by rfl) (ints_oneS wr 46) (by have := HLN.out; simp; omega) (by have := HSZ.out; simp; omega) ?_
             intro v4 w4 ho4 hg4
             have HO4 := Lib.hid ho4
             have HB4 : Hid (Below w.heap.size w w4) := (hbel.out.alloc HSZ.out _).grown hg4 (by have := HSZ.out; simp; omega) (fun j hj => (World.ownsRow.lt ho.out j hj).1)
             have HQ4 := Lib.hid (HQ0.out.below HB4.out)
             have HSZ4 := Lib.hid HB4.out.size
             clear ho4 hg4)
          | (refine wpList_append_ints (.tmp 18) (.tmp 19) rfl rfl w.heap.size v4 (Y ++ [46]) (by rfl) HO4.out q nx c x HNX.out (by rfl) HQ4.out (by have := HLN.out; simp; omega) HSZ4.out ?_
             intro v5 w5 ho5 hg5
             have HO5 := Lib.hid ho5
             have HB5 : Hid (Below w.heap.size w w5) := HB4.out.grown hg5 HSZ4.out (fun j hj => (World.ownsRow.lt HO4.out j hj).1)
             clear ho5 hg5))
        go_roundw
        case rel => exact ⟨k + 1, (Y ++ [46]) ++ x, by omega, by go_num, HZ, HO5, HB5⟩
        case measure => simp [intOf]; omega
    · obtain rfl : k = n := by omega
      have HE : Hid (Y = X) := by
        have := hY.out
        rw [List.take_of_length_le (by rw [hn.out]; exact Nat.le_refl _)] at this
        unfold Hid; rw [← this, hX.out]
      have HO5 : Hid (Ints wr w.heap.size u3 X) := by rw [← HE.out]; exact ho
      go_wp2
      go_ret
      exact ⟨_, rfl, HO5.out, hbel.out⟩

end Go.Proofs.Ytebhliepncmghaa
