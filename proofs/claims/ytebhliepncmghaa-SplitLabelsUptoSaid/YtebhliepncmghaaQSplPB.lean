/-
  split: the contracts of Join and Strings.
-/
import Derived.Test.YtebhliepncmghaaQSplPA
set_option linter.unusedSimpArgs false
set_option linter.unusedVariables false
namespace Go.Proofs.Ytebhliepncmghaa
open Go.RowKit
set_option linter.unusedVariables false

set_option maxRecDepth 100000 in
set_option maxHeartbeats 4000000 in
theorem join_at (p : Option Addr) (n cap : Nat) (L : List (List Int)) (X : List Int) (w : World) (hin : LsIn w p L) (hn : Hid (L.length = n)) (hcap : n ≤ cap) (hn2 : n ≤ 1099511627776) (hX : Hid (joinD L = X)) (hl : Hid (X.length ≤ 1099511627776)) :
    Calls Try.prog 15 #[.slice p n cap] w (JoiPost X w) := by
  have HI := Lib.hid hin
  clear hin
  go_enter Try.func15, Try.ntmps15
  go_wp2
  go_loopw [3, 8] (fun u i wr => ∃ (k : Nat) (Y : List Int), k ≤ n ∧ i = .int .i64 k ∧ Hid (joinD (L.take k) = Y) ∧ Hid (Ints wr w.heap.size u Y) ∧ Hid (Below w.heap.size w wr)) (fun _ i _ => n - (intOf i).toNat)
  case atStart => exact ⟨0, [], Nat.zero_le _, rfl, by simp [Hid, joinD], Ints.nil _ _, Below.refl _ _⟩
  case round =>
    obtain ⟨k, Y, hk, rfl, hY, ho, hbel⟩ := hrel
    by_cases hlt : k < n
    · have hkl : k < L.length := by rw [hn.out]; exact hlt
      obtain ⟨b, off, q, c, rfl, hck0, _, hi0⟩ := HI.out k hkl
      obtain ⟨x, hx⟩ : ∃ x, L.getD k [] = x := ⟨_, rfl⟩
      rw [hx] at hck0 hi0
      obtain ⟨nx, hnx⟩ : ∃ nx, x.length = nx := ⟨_, rfl⟩
      rw [hnx] at hck0
      have hck := (hbel.out.cell (p := ⟨b, off + k, none⟩) (World.block_lt_of_cell? w _ hck0)).trans hck0
      have HQ0 := Lib.hid hi0
      have HQ := Lib.hid (hi0.below hbel.out)
      have HNX := Lib.hid hnx
      have HNXT : Hid (L.take (k + 1) = L.take k ++ [x]) := by unfold Hid; rw [take_snocL L k hkl, hx]
      have hle : (joinD (L.take (k + 1))).length ≤ 1099511627776 := by
        have h1 := joinD_take L (k + 1)
        have h2 := hl.out
        rw [← hX.out] at h2
        omega
      have HLE := Lib.hid hle
      have HSZ := Lib.hid hbel.out.size
      clear hx hi0 hck0 hnx hkl hle
      by_cases h0 : k = 0
      · have HY0 : Hid (Y = []) := by unfold Hid; rw [← hY.out, h0]; simp [joinD]
        have HZ : Hid (joinD (L.take (k + 1)) = Y ++ x) := by unfold Hid; rw [HNXT.out, HY0.out, h0]; simp [joinD]
        have hk0 : ¬ 0 < k := by omega
        have dk0 : decide (0 < k) = false := decide_eq_false hk0
        clear h0
        have HLN : Hid (Y.length + x.length ≤ 1099511627776) := by have := HLE.out; rw [HZ.out, List.length_append] at this; exact this
        go_wp2_with (at_builtin; refine wpList_append_ints (.tmp 18) (.tmp 19) rfl rfl w.heap.size _ Y (by rfl) ho.out q nx c x HNX.out (by rfl) HQ.out (by have := HLN.out; omega) HSZ.out ?_; intro v5 w5 ho5 hg5)
        have HO5 := Lib.hid ho5
        have HB5 : Hid (Below w.heap.size w w5) := hbel.out.grown hg5 HSZ.out (fun j hj => (World.ownsRow.lt ho.out j hj).1)
        clear ho5 hg5
        go_wp2
        go_roundw
        case rel => exact ⟨k + 1, Y ++ x, by omega, by go_num, HZ, HO5, HB5⟩
        case measure => simp [intOf]; omega
      · have hk0 : 0 < k := by omega
        have HZ : Hid (joinD (L.take (k + 1)) = (Y ++ [46]) ++ x) := by
          unfold Hid
          rw [HNXT.out, joinD_snoc, if_neg (by
            intro e
            have h1 : (L.take k).length = k := by rw [List.length_take, hn.out]; omega
            rw [e] at h1
            simp at h1; omega), hY.out]
          simp
        have HLN : Hid (Y.length + 1 + x.length ≤ 1099511627776) := by have := HLE.out; rw [HZ.out, List.length_append, List.length_append] at this; exact this
        clear h0
        go_wp2_with (at_builtin; first
          | (refine wpList_append_ints (.tmp 15) (.tmp 16) rfl rfl w.heap.size _ Y (by rfl) (World.ownsRow.alloc ho.out _) (some ⟨wr.heap.size, 0, none⟩) 1 1 [46] rfl (by rfl) (ints_oneS wr 46) (by have := HLN.out; simp; omega) (by have := HSZ.out; simp; omega) ?_
             intro v4 w4 ho4 hg4
             have HO4 := Lib.hid ho4
             have HB4 : Hid (Below w.heap.size w w4) := (hbel.out.alloc HSZ.out _).grown hg4 (by have := HSZ.out; simp; omega) (fun j hj => (World.ownsRow.lt ho.out j hj).1)
             have HQ4 := Lib.hid (HQ0.out.below HB4.out)
             have HSZ4 := Lib.hid HB4.out.size
             clear ho4 hg4)
          | (refine wpList_append_ints (.tmp 18) (.tmp 19) rfl rfl w.heap.size v4 (Y ++ [46]) (by rfl) HO4.out q nx c x HNX.out (by rfl) HQ4.out (by have := HLN.out; simp; omega) HSZ4.out ?_
             intro v5 w5 ho5 hg5
             have HO5 := Lib.hid ho5
             have HB5 : Hid (Below w.heap.size w w5) := HB4.out.grown hg5 HSZ4.out (fun j hj => (World.ownsRow.lt HO4.out j hj).1)
             clear ho5 hg5))
        go_roundw
        case rel => exact ⟨k + 1, (Y ++ [46]) ++ x, by omega, by go_num, HZ, HO5, HB5⟩
        case measure => simp [intOf]; omega
    · obtain rfl : k = n := by omega
      have HE : Hid (Y = X) := by
        have := hY.out
        rw [List.take_of_length_le (by rw [hn.out]; exact Nat.le_refl _)] at this
        unfold Hid; rw [← this, hX.out]
      have HO5 : Hid (Ints wr w.heap.size u3 X) := by rw [← HE.out]; exact ho
      go_wp2
      go_ret
      exact ⟨_, rfl, HO5.out, hbel.out⟩

/-- 'string(part)'. -/
theorem conv_part {w : World} {v : Value} {x : List Int} (h : Part .u8 w v x) : (convert 43 9 v).run Try.prog w = .ok (.string (strOfNums x)) w := by
  obtain ⟨q, c, rfl, hl, hi⟩ := h
  cases x with
  | nil =>
    rw [List.length_nil, run_convert_bytes_string w _ _ _ _ 0 c Try.underlying43 Try.underlying5 Try.underlying9]
    cases q <;> simp [Conv.bytesToString, loadCells, strOfNums]
    all_goals rfl
  | cons a r =>
    obtain ⟨b, off, rfl, _⟩ := hi 0 (by simp)
    refine run_convert_bytes_arg w _ _ Try.underlying43 Try.underlying5 b off _ c (a :: r) rfl ?_ _ Try.underlying9
    intro j hj
    obtain ⟨b', off', e, hc⟩ := hi j hj
    cases e
    exact hc

set_option maxRecDepth 100000 in
set_option maxHeartbeats 4000000 in
theorem strings_at (s : ByteArray) (L : List ByteArray) (w : World) (hs : s.size ≤ 1099511627776) (hL : Hid (strsD s = L)) :
    Calls Try.prog 18 #[.string s] w (StsPost L w) := by
  obtain ⟨i0, hi, hz0, hz1, hz2⟩ := info_parts Try.info9
  obtain ⟨v0, W0, hcv, hob, hb0⟩ := conv_bytes_own w s (by unfold maxLen; omega)
  obtain ⟨g0, c0, cur0, fz0, rfl, hg0, hh0, _, hl0, _, _, ht0⟩ := hob
  rw [nums_length] at hl0 ht0
  have hin : RowIn .u8 W0 (some ⟨g0, 0, none⟩) (nums s) := by
    intro k hk
    refine ⟨g0, 0, rfl, ?_⟩
    rw [cell_of_row W0 g0 (0 + k) cur0 _ fz0 hh0, Nat.zero_add]
    have e : (cur0.toList.take s.size)[k]? = ((nums s).map (Value.int .u8))[k]? := by rw [ht0]
    rw [List.getElem?_take, if_pos (by rw [← nums_length]; exact hk)] at e
    simpa [List.getD, List.getElem?_eq_getElem hk] using e
  have HI := Lib.hid hin
  have HNS : Hid ((nums s).length = s.size) := nums_length s
  have HB0 := Lib.hid hb0
  obtain ⟨D, hD⟩ : ∃ D, cutD (nums s) = D := ⟨_, rfl⟩
  have hnum := cutD_num (nums s)
  have hne := cutD_ne (nums s)
  rw [hD, nums_length] at hnum
  rw [hD] at hne
  have HLD : Hid (D.map strOfNums = L) := by unfold Hid; rw [← hL.out, strsD, hD]
  obtain ⟨m, hm⟩ : ∃ m, D.length = m := ⟨_, rfl⟩
  have hm1 : 1 ≤ m := by rw [← hm]; exact List.length_pos_iff.2 hne
  rw [hm] at hnum
  have HM := Lib.hid hm
  have HLM : Hid (L.length = m) := by unfold Hid; rw [← HLD.out]; simp [hm]
  have HD := Lib.hid hD
  rw [nums_length] at hcv
  clear hin hb0 hD hne hm hg0 hh0 ht0 hL
  go_enter Try.func18, Try.ntmps18
  go_wp2_with fail
  refine (divB_at (some ⟨g0, 0, none⟩) s.size c0 (nums s) _ HI.out HNS hl0 hs).mono ?_
  rintro e w1 ⟨gp, cp, Vp, rfl, hcp, hpp, hb1⟩
  rw [HD.out] at hcp hpp ⊢
  rw [HM.out] at hcp hpp ⊢
  have hown1 := hpp.own
  rw [HM.out] at hown1
  have HOWN := Lib.hid hown1
  have HPP := Lib.hid hpp
  have HB1 := Lib.hid hb1
  have HBT := Lib.hid (HB0.out.trans (hb1.mono HB0.out.size))
  clear hown1 hpp hb1 hcv
  go_wp2_with (at_make; refine wpList_make_full _ rfl _ _ 31 rfl w1.heap.size 9 i0 (.string ByteArray.empty) 1 Try.underlying31 hi hz0 hz1 .i64 .i64 _ _ m rfl rfl rfl rfl (by rw [hz2]; omega) (by unfold maxLen; omega) (Nat.le_refl _) ?_; intro w2 hown2 hgrow2)
  have hrow : w2.ownsRow w1.heap.size 9 1 (.slice (some ⟨w1.heap.size, 0, none⟩) m m) m ((padB L 0).map Value.string) := by
    have e : (madeCells (Value.string ByteArray.empty).cells (m * 1)).toList = List.replicate (m * 1) (.string ByteArray.empty) := toList_madeCells_one _ _
    rw [e] at hown2
    rw [padB_zero, HLM.out]
    simpa using hown2
  have HROW := Lib.hid hrow
  have HB2 : Hid (Below w1.heap.size w1 w2) := (Below.refl _ _).grown hgrow2 (Nat.le_refl _) (by intro j e; cases e)
  clear hown2 hgrow2 hrow
  go_wp2
  go_loopw [15] (fun i wr => ∃ k : Nat, k ≤ m ∧ i = .int .i64 k ∧ Hid (wr.ownsRow w1.heap.size 9 1 (.slice (some ⟨w1.heap.size, 0, none⟩) m m) m ((padB L k).map Value.string)) ∧ Hid (Below w1.heap.size w1 wr)) (fun i _ => m - (intOf i).toNat)
  case atStart => exact ⟨0, Nat.zero_le _, rfl, HROW, HB2⟩
  case round =>
    clear HROW HB2
    obtain ⟨k, hk, rfl, ho, hbel⟩ := hrel
    by_cases hlt : k < m
    · have hkl : k < D.length := by rw [HM.out]; exact hlt
      have hkL : k < L.length := by rw [HLM.out]; exact hlt
      have hpt := (HPP.out.part k hkl).below (HB1.out.trans (hbel.out.mono HB1.out.size))
      have hcp2 := conv_part hpt
      obtain ⟨q, c, hv, hxc, hxi⟩ := hpt
      rw [hv] at hcp2
      obtain ⟨nx, hnx⟩ : ∃ nx, (D.getD k []).length = nx := ⟨_, rfl⟩
      rw [hnx] at hcp2 hv
      obtain ⟨X, hX⟩ : ∃ X, L.getD k ByteArray.empty = X := ⟨_, rfl⟩
      have hXD : strOfNums (D.getD k []) = X := by rw [← hX, ← HLD.out]; simp [List.getD, hkl]
      rw [hXD] at hcp2
      have hvl : Vp.length = m := by have := HPP.out.len; rw [HM.out] at this; exact this
      have hown := ownsRow_below HOWN.out hbel.out
      have hcell : wr.cell? ⟨gp, k, none⟩ = some (.slice q nx c) := by
        rw [World.ownsRow.cellAt hown k (by omega), ← hv]
        simp [List.getD, hvl, hlt]
      have hcm := ho.out.cellAt k (by omega)
      rw [padB_at L k hkL] at hcm
      have hfm := ho.out.frozenAt k
      have hst := ho.out.stored k (.string X)
      rw [← List.map_set, ← hX, padB_set L k hkL, hX] at hst
      have HA2 := Lib.hid hst.1
      have HB3 := Lib.hid (hbel.out.setCell (p := ⟨w1.heap.size, k, none⟩) (Nat.le_refl _) (.string X))
      clear hst ho hbel hkl hkL hv hxc hxi hnx hX hXD hvl hown
      go_wp2
      go_roundw
      case rel => exact ⟨k + 1, by omega, by go_num, HA2, HB3⟩
      case measure => simp [intOf]; omega
    · obtain rfl : k = m := by omega
      have hrow := ho.out
      rw [← HLM.out, padB_full, HLM.out] at hrow
      have HS : Hid (Strs wr w.heap.size (.slice (some ⟨w1.heap.size, 0, none⟩) k k) L) := by
        unfold Hid Strs
        rw [HLM.out]
        exact ownsRow_mono hrow HBT.out.size
      have HBE := Lib.hid (HBT.out.trans (hbel.out.mono HBT.out.size))
      clear ho hbel hrow
      go_wp2
      go_ret
      exact ⟨_, rfl, HS.out, HBE.out⟩

end Go.Proofs.Ytebhliepncmghaa
