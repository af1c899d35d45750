/-
  The laws of decoding: what every walk carries; one byte changed.
-/
import Derived.Test.YtnnhcgflmhjakaaGreatDoorQEncR
import Derived.Test.YtnnhcgflmhjakaaGreatDoorQDecE
import Derived.Test.YtnnhcgflmhjakaaGreatDoorQDecU
import Derived.Test.YtnnhcgflmhjakaaGreatDoorQSameU
set_option linter.unusedSimpArgs false
set_option linter.unusedVariables false
namespace Go.Proofs.YtnnhcgflmhjakaaGreatDoor
open Go Go.RowKit
set_option linter.unusedVariables false

def CapD (x : TV) : Prop := ∀ p n c, x.a9 = .slice p n c → n ≤ c

/-- The tables T lie in x, x in block g. -/
structure DEnv (w0 : World) (g : Nat) (x : TV) (T : Tb) (w : World) : Prop where
  tab : TabV w x T
  box : BoxT w g x
  bel : Below w0.heap.size w0 w
theorem DEnv.step {w0 w w' : World} {g : Nat} {x : TV} {T : Tb} (h : DEnv w0 g x T w) (hb : Below w.heap.size w w') : DEnv w0 g x T w' :=
  ⟨h.tab.below hb, h.box.below hb, h.bel.trans (hb.mono h.bel.size)⟩

theorem pickD_at (v n q : Int) (w : World) (h0 : 1 ≤ n) (h1 : n ≤ 1125899906842624) (hq : Hid (pickS v n = q)) :
    Calls Tryz.prog 9 #[.int .i64 v, .int .i64 n] w fun e w' => e = .returned (.int .i64 q) ∧ w = w' := hq.out ▸ pickL_any v n w h0 h1
theorem pickD_nm (v : Int) (n : Nat) (h : 1 ≤ n) : ∃ k : Nat, Hid (pickS v n = k) ∧ k < n := by
  have := pickS_bd v n (by omega)
  exact ⟨(pickS v n).toNat, by unfold Hid; omega, by omega⟩

/-- One byte of X changed. -/
def damB (X : ByteArray) (k z : Nat) : ByteArray := X.extract 0 k ++ strOfNums [(z : Int)] ++ X.extract (k + 1) X.size

theorem nums_pre (X : ByteArray) (k : Nat) : nums (X.extract 0 k) = (nums X).take k := by
  unfold nums
  rw [ByteArray.data_extract, Array.toList_extract, List.extract_eq_take_drop, List.drop_zero, Nat.sub_zero, List.map_take]
theorem nums_suf (X : ByteArray) (k : Nat) : nums (X.extract k X.size) = (nums X).drop k := by
  have hs : X.size = X.data.toList.length := (Array.length_toList (xs := X.data)).symm
  unfold nums
  rw [ByteArray.data_extract, Array.toList_extract, hs, List.extract_eq_take_drop, List.take_of_length_le (by simp), List.map_drop]

theorem nums_dam (X : ByteArray) (k z : Nat) (hz : z < 256) : nums (damB X k z) = (nums X).take k ++ (z : Int) :: (nums X).drop (k + 1) := by
  unfold damB
  rw [nums_append, nums_append, nums_pre, nums_suf, nums_of _ (by simp; omega)]
  simp

theorem dam_same {X : ByteArray} {k z : Nat} (hk : k < X.size) (hz : z < 256) (h : (nums X).getD k 0 = (z : Int)) : damB X k z = X := by
  apply nums_inj
  have hl : k < (nums X).length := by rw [nums_length]; exact hk
  rw [nums_dam X k z hz, ← h]
  have : (nums X).getD k 0 = (nums X)[k] := by simp [hl]
  rw [this, ← List.drop_eq_getElem_cons hl, List.take_append_drop]

theorem dam_ne {X : ByteArray} {k z : Nat} (hk : k < X.size) (hz : z < 256) (h : (nums X).getD k 0 ≠ (z : Int)) : damB X k z ≠ X := by
  intro e
  apply h
  have hl : k < (nums X).length := by rw [nums_length]; exact hk
  rw [← e, nums_dam X k z hz]
  have ht : ((nums X).take k).length = k := by simp; omega
  simp only [List.getD_eq_getElem?_getD]
  rw [List.getElem?_append_right (by omega), ht]
  simp

theorem dam_size {X : ByteArray} {k z : Nat} (hk : k < X.size) (hz : z < 256) : (damB X k z).size = X.size := by
  rw [← nums_length, nums_dam X k z hz]
  have : (nums X).length = X.size := nums_length X
  simp
  omega

/-- Other tables, or none. -/
theorem dam_dec {T U : Tb} {X : ByteArray} {k z : Nat} (hX : encT T = (X, 0)) (hc : checkT T = 0) (hk : k < X.size) (hz : z < 256) (h : (nums X).getD k 0 ≠ (z : Int)) (hd : decT (damB X k z) = (U, 0)) : U ≠ T := by
  intro e
  subst e
  have h1 := dec_uni hd
  have h2 := dec_uni (dec_enc hc hX)
  exact dam_ne hk hz h (h1.trans h2.symm)

end Go.Proofs.YtnnhcgflmhjakaaGreatDoor
