/-
  split: contracts of the references Strings, CheckLabels, Name.
-/
import Derived.Test.YtebhliepncmghaaQSplRB
import Derived.StillTailTactics
set_option linter.unusedSimpArgs false
set_option linter.unusedVariables false
namespace Go.Proofs.Ytebhliepncmghaa
open Go.RowKit
set_option linter.unusedVariables false

def StsPost (L : List ByteArray) (w : World) (e : Ending) (w' : World) : Prop := ∃ v, e = .returned v ∧ Strs w' w.heap.size v L ∧ Below w.heap.size w w'

theorem one_byteS (s : ByteArray) (k : Nat) (h : k < s.size) (c : Int) (hc : (s[k].toNat : Int) = c) (cur : List Int) : strOfNums (cur ++ [c]) = strOfNums cur ++ s.extract k (k + 1) := by
  rw [sstr_append, ← hc, ← nums_oneN s k h, sOfN]

set_option maxRecDepth 100000 in
set_option maxHeartbeats 4000000 in
theorem rstrings_at (s : ByteArray) (L : List ByteArray) (w : World) (hs : s.size ≤ 1099511627776) (hL : Hid (strsD s = L)) :
    Calls Try.prog 19 #[.string s] w (StsPost L w) := by
  obtain ⟨i0, hi, hz0, hz1, hz2⟩ := info_parts Try.info9
  have hs0 : Strs (w.alloc (.cells #[.string ByteArray.empty] 9)) w.heap.size (.slice (some ⟨w.heap.size, 0, none⟩) 1 1) ([[]].map strOfNums) := World.ownsRow_lit w #[.string ByteArray.empty] 1 (Nat.le_refl _) (by unfold maxLen; omega) rfl
  have HS0 := Lib.hid hs0
  have HB0 := Lib.hid ((Below.refl w.heap.size w).alloc (Nat.le_refl _) (.cells #[.string ByteArray.empty] 9))
  clear hs0
  go_enter Try.func19, Try.ntmps19
  go_wp2
  go_loopw [3, 4] (fun u i wr => ∃ (k dn : Nat) (D : List (List Int)) (cur : List Int) (g cp : Nat), k ≤ s.size ∧ i = .int .i64 k ∧ u = .slice (some ⟨g, 0, none⟩) (dn + 1) cp ∧ Hid (D.length = dn) ∧ dn ≤ k ∧ cur.length ≤ k ∧ Hid (cutG D cur ((nums s).drop k) = cutD (nums s)) ∧ Hid (Strs wr w.heap.size (.slice (some ⟨g, 0, none⟩) (dn + 1) cp) ((D ++ [cur]).map strOfNums)) ∧ Hid (Below w.heap.size w wr)) (fun _ i _ => s.size - (intOf i).toNat)
  case atStart => exact ⟨0, 0, [], [], w.heap.size, 1, Nat.zero_le _, rfl, rfl, rfl, Nat.le_refl _, Nat.le_refl _, rfl, HS0, HB0⟩
  case round =>
    clear HS0 HB0
    obtain ⟨k, dn, D, cur, g, cp, hk, rfl, rfl, HDN, hD, hcur, hcut, hst, hbel⟩ := hrel
    have hown := hst.out
    unfold Strs at hown
    have hml : ((D ++ [cur]).map strOfNums).length = dn + 1 := by simp [HDN.out]
    rw [hml] at hown
    have HOWN := Lib.hid hown
    have hgB := (World.ownsRow.lt hown g rfl).1
    have HSZ := Lib.hid hbel.out.size
    clear hown hml hst
    by_cases hlt : k < s.size
    · have hkl : k < (nums s).length := by rw [nums_length]; exact hlt
      have hgd := nums_getN2 s k hlt
      obtain ⟨c, hc⟩ : ∃ c : Int, (s[k].toNat : Int) = c := ⟨_, rfl⟩
      rw [hc] at hgd
      by_cases e : c = 46
      · have d1 : (c == 46) = true := by simp [e]
        have HC : Hid (cutG (D ++ [cur]) [] ((nums s).drop (k + 1)) = cutD (nums s)) := by unfold Hid; rw [← cut_dot hkl (by rw [hgd]; exact e)]; exact hcut.out
        clear hkl hgd e hcut
        go_wp2_with (at_builtin; refine wpList_append_own_at _ rfl _ _ 31 rfl w.heap.size 9 i0 (.string ByteArray.empty) 1 16 Try.underlying31 hi hz0 hz1 hz2 rfl (by decide) (.slice (some ⟨g, 0, none⟩) (dn + 1) cp) (dn + 1) _ rfl (World.ownsRow.alloc HOWN.out (.cells #[.string ByteArray.empty] 9)) ⟨_, 0, none⟩ 1 1 [.string ByteArray.empty] rfl rfl (cell_one_new _ _ _) (by intro u hu; simp at hu; subst hu; rfl) (by unfold maxLen; omega) (by omega) (by have := HSZ.out; simp; omega) ?_; intro v5 w5 ho5 hg5 _ _)
        have hS5 : Strs w5 w.heap.size v5 (((D ++ [cur]) ++ [[]]).map strOfNums) := by
          unfold Strs
          have hl5 : (((D ++ [cur]) ++ [[]]).map strOfNums).length = dn + 1 + 1 := by simp [HDN.out]
          rw [hl5]
          have e : (((D ++ [cur]) ++ [[]]).map strOfNums).map Value.string = ((D ++ [cur]).map strOfNums).map Value.string ++ [.string ByteArray.empty] := by
            rw [List.map_append, List.map_append]; rfl
          rw [e]
          exact ho5
        have HB5 : Hid (Below w.heap.size w w5) := (hbel.out.alloc hbel.out.size _).grown hg5 (by have := HSZ.out; simp; omega) (by rintro j ⟨⟩; exact hgB)
        have HDN5 : Hid ((D ++ [cur]).length = dn + 1) := by simp [Hid, HDN.out]
        obtain ⟨g5, c5, e5⟩ : ∃ g5 c5, v5 = .slice (some ⟨g5, 0, none⟩) (dn + 1 + 1) c5 := by
          rcases ho5.2 with ⟨_, h⟩ | ⟨g5, c5, cur5, h, _⟩
          · omega
          · exact ⟨g5, c5, h⟩
        subst e5
        have HS5 := Lib.hid hS5
        clear hS5 ho5 hg5 HOWN
        go_wp2
        go_roundw
        case rel => exact ⟨k + 1, dn + 1, D ++ [cur], [], g5, c5, by omega, by go_num, rfl, HDN5, by omega, by simp, HC, HS5, HB5⟩
        case measure => simp [intOf]; omega
      · have d1 : (c == 46) = false := by simp [e]
        have HC : Hid (cutG D (cur ++ [c]) ((nums s).drop (k + 1)) = cutD (nums s)) := by unfold Hid; rw [← cut_no hkl hgd e]; exact hcut.out
        obtain ⟨S, hS⟩ : ∃ S, strOfNums cur = S := ⟨_, rfl⟩
        obtain ⟨X, hX⟩ : ∃ X, s.extract k (k + 1) = X := ⟨_, rfl⟩
        have HX : Hid (strOfNums (cur ++ [c]) = S ++ X) := by unfold Hid; rw [one_byteS s k hlt c hc, hS, hX]
        have hSs : S.size = cur.length := by rw [← hS, strOfNums_size]
        have hXs : X.size = 1 := by rw [← hX, ByteArray.size_extract]; omega
        have hcell := World.ownsRow.cellAt HOWN.out dn (by omega)
        have hcell2 : wr.cell? ⟨g, dn, none⟩ = some (.string S) := by
          rw [hcell, ← hS, ← HDN.out]; simp
        have hfz := World.ownsRow.frozenAt HOWN.out dn
        have hod : wr.ownsRow w.heap.size 9 1 (.slice (some ⟨g, 0, none⟩) (dn + 1) cp) (dn + 1) (((D ++ [cur]).map strOfNums).map Value.string) := HOWN.out
        have hst := World.ownsRow.stored hod dn (.string (S ++ X))
        have hset : (((D ++ [cur]).map strOfNums).map Value.string).set dn (.string (S ++ X)) = ((D ++ [cur ++ [c]]).map strOfNums).map Value.string := by
          rw [← HX.out, ← HDN.out]
          simp
        rw [hset] at hst
        have HST : Hid (Strs (wr.setCell ⟨g, dn, none⟩ (.string (S ++ X))) w.heap.size (.slice (some ⟨g, 0, none⟩) (dn + 1) cp) ((D ++ [cur ++ [c]]).map strOfNums)) := by
          unfold Hid Strs
          rw [show ((D ++ [cur ++ [c]]).map strOfNums).length = dn + 1 by simp [HDN.out]]
          exact hst.1
        have HB6 := Lib.hid (hbel.out.setCell (p := ⟨g, dn, none⟩) hgB (.string (S ++ X)))
        have hw1 : IntKind.i64.wrap ((dn : Int) + 1 - 1) = dn := by rw [IntWalk.i64_in _ (by omega)]; omega
        have hw2 : IntKind.i64.wrap (dn : Int) = dn := IntWalk.i64_in _ (by omega)
        obtain ⟨k1, hk1⟩ : ∃ k1, k + 1 = k1 := ⟨_, rfl⟩
        have i1 : (k : Int) + 1 = (k1 : Int) := by omega
        have w1 : IntKind.i64.wrap (k1 : Int) = (k1 : Int) := IntWalk.i64_in _ (by omega)
        have hk1s : k1 ≤ s.size := by omega
        have hkk1 : k ≤ k1 := by omega
        rw [hk1] at hX
        have HK1 := Lib.hid hk1
        have HSX := Lib.hid hSs
        clear hkl hgd e hcut hcell hset hst hod hk1 hS
        go_wp2
        go_region
        go_wp2
        go_roundw
        case rel => exact ⟨k + 1, dn, D, cur ++ [c], g, cp, by omega, by go_num, rfl, HDN, by omega, by simp; omega, HC, HST.out, HB6.out.drew⟩
        case measure => simp [intOf]; omega
    · obtain rfl : k = s.size := by omega
      have HE : Hid ((D ++ [cur]).map strOfNums = L) := by
        have := hcut.out
        rw [cut_end (by rw [nums_length]; exact Nat.le_refl _)] at this
        unfold Hid; rw [this]; exact hL.out
      have HO : Hid (Strs wr w.heap.size (.slice (some ⟨g, 0, none⟩) (dn + 1) cp) L) := by
        unfold Hid Strs
        rw [← HE.out, show ((D ++ [cur]).map strOfNums).length = dn + 1 by simp [HDN.out]]
        exact HOWN.out
      clear hcut HOWN
      go_wp2
      go_ret
      exact ⟨_, rfl, HO.out, hbel.out⟩

end Go.Proofs.Ytebhliepncmghaa
