/-
  packed: appendInt, PutInt, PutList, PutSpans.
-/
import Derived.Test.YtimabgaobhfiaaaPakApp
import Derived.Test.YtimabgaobhfiaaaRanChk
namespace Go.Proofs.Ytimabgaobhfiaaa
open Go.RowKit

/-- What appendInt leaves. -/
def PutPost (B : Nat) (v : Value) (ys : List Int) (w : World) (e : Ending) (w' : World) : Prop :=
  ∃ v', e = .returned v' ∧ OwnB w' B v' ys ∧ w.grownBy w' v.ownBlock ∧ ∀ b, b < w.heap.size → v.ownBlock ≠ some b → v'.ownBlock ≠ some b

theorem pk_grownBy_refl (w : World) (row : Option Nat) : w.grownBy w row := ⟨rfl, rfl, rfl, Nat.le_refl _, fun _ _ _ => rfl⟩

/-- Two steps, of which the second may write in a block that the first has made. -/
theorem grownBy_step {w w1 w2 : World} {row row2 : Option Nat} (h : w.grownBy w1 row) (k : w1.grownBy w2 row2) (hr : ∀ b, b < w.heap.size → row ≠ some b → row2 ≠ some b) : w.grownBy w2 row :=
  ⟨k.os.trans h.os, k.tape.trans h.tape, k.output.trans h.output, Nat.le_trans h.size k.size, fun i hi hne =>
    (k.block i (Nat.lt_of_lt_of_le hi h.size) (fun e => hr i hi (fun e2 => hne e2.symm) e.symm)).trans (h.block i hi hne)⟩

/-- Which block a row may lie in behind two steps. -/
theorem off_step {a b c : Option Nat} {m n : Nat} (h : ∀ i, i < m → a ≠ some i → b ≠ some i) (k : ∀ i, i < n → b ≠ some i → c ≠ some i) (hmn : m ≤ n) : ∀ i, i < m → a ≠ some i → c ≠ some i :=
  fun i hi hne => k i (Nat.lt_of_lt_of_le hi hmn) (h i hi hne)

theorem zz_u (z : Int) (h : IsI z) : 0 ≤ zz z ∧ zz z < 2 * p7 9 := zz_lt z h.1 h.2

theorem cod_len (u : Int) : (cod u).length ≤ 10 := (codF_length 9 u).2

set_option maxHeartbeats 1000000 in
theorem appendInt_any (B : Nat) (v : Value) (xs : List Int) (z : Int) (w : World) (hB : B ≤ w.heap.size) (hown : OwnB w B v xs) (hn : xs.length ≤ 140737490452000) (hz : IsI z) :
    Calls Try.prog 32 #[v, .int .i64 z] w (PutPost B v (xs ++ cod (zz z)) w) := by
  obtain ⟨u0, hu0⟩ : ∃ u, zz z = u := ⟨_, rfl⟩
  have hu := zz_u z hz
  rw [hu0] at hu ⊢
  have HU0 := Lib.hid hu0
  have HU : Hid (u0 < 2 * p7 9) := hu.2
  have hu00 := hu.1
  obtain ⟨U, hU⟩ : ∃ U, cod u0 = U := ⟨_, rfl⟩
  have HE : Hid ([] ++ codF 9 u0 = U) := hU
  have HUl : Hid (U.length ≤ 10) := by rw [← hU]; exact cod_len u0
  rw [hU]
  clear hu hu0 hU
  go_enter Try.func32, Try.ntmps32
  go_wp2_with (go_at_call 40; refine (unsigned_at _ _ _ hz HU0).mono ?_; rintro e w1 ⟨rfl, rfl⟩)
  go_loopw [0, 5] (fun vv uu wr => ∃ (f : Nat) (u : Int) (ys : List Int), uu = .int .u64 u ∧ 0 ≤ u ∧ Hid (u < 2 * p7 f) ∧ Hid (ys ++ codF f u = U) ∧ Hid (OwnB wr B vv (xs ++ ys)) ∧ Hid (w.grownBy wr v.ownBlock) ∧ Hid (∀ b, b < w.heap.size → v.ownBlock ≠ some b → vv.ownBlock ≠ some b)) (fun _ uu _ => (intOf uu).toNat)
  case atStart => exact ⟨9, u0, [], rfl, hu00, HU, HE, by rw [List.append_nil]; exact hown, pk_grownBy_refl _ _, fun _ _ h => h⟩
  case round =>
    clear HU HE hown hu00 HU0
    obtain ⟨f, u, ys, rfl, h0, hlt, hEq, ho, hbel, hoff⟩ := hrel
    have HN : Hid (xs.length + ys.length + 1 ≤ 140737490452480) := by
      have h1 := HUl.out
      rw [← hEq.out, List.length_append] at h1
      unfold Hid; omega
    have HBB : Hid (B ≤ wr.heap.size) := Nat.le_trans hB hbel.out.size
    by_cases hbig : 128 ≤ u
    · obtain ⟨k, rfl⟩ : ∃ k, f = k + 1 := by
        cases f with
        | zero => have := hlt.out; simp only [p7] at this; omega
        | succ k => exact ⟨k, rfl⟩
      have HL : Hid (u / 128 < 2 * p7 k) := div_lt k u hlt.out
      have HE2 : Hid ((ys ++ [u % 128 + 128]) ++ codF k (u / 128) = U) := by
        unfold Hid; rw [← hEq.out, codF_big (by omega)]; simp
      clear hEq hlt
      go_wp2_with (at_builtin; refine wpList_append_byte rfl _ _ rfl B _ (xs ++ ys) rfl ho.out (u % 128 + 128) 1 _ rfl rfl (by rw [List.length_append]; exact HN.out) HBB.out ?_; intro v1 w1 ho1 hg1 hf1)
      have HO : Hid (OwnB w1 B v1 (xs ++ (ys ++ [u % 128 + 128]))) := by rw [← List.append_assoc]; exact ho1
      have HB1 : Hid (w.grownBy w1 v.ownBlock) := grownBy_step hbel.out hg1 hoff.out
      have HF1 : Hid (∀ b, b < w.heap.size → v.ownBlock ≠ some b → v1.ownBlock ≠ some b) := off_step hoff.out hf1 hbel.out.size
      clear ho1 hg1 hf1
      go_wp2
      go_roundw
      case rel => exact ⟨k, u / 128, ys ++ [u % 128 + 128], by go_num, by omega, HL, HE2, HO, HB1, HF1⟩
      case measure => simp [intOf]; omega
    · have HE2 : Hid (ys ++ [u] = U) := by unfold Hid; rw [← hEq.out, codF_small (by omega)]
      have hd : decide (128 ≤ u) = false := decide_eq_false hbig
      have hlt' : u < 128 := by omega
      clear hEq hlt hbig
      go_wp2_with (at_builtin; refine wpList_append_byte rfl _ _ rfl B _ (xs ++ ys) rfl ho.out u 1 _ rfl rfl (by rw [List.length_append]; exact HN.out) HBB.out ?_; intro v1 w1 ho1 hg1 hf1)
      have HO : Hid (OwnB w1 B v1 (xs ++ U)) := by rw [← HE2.out, ← List.append_assoc]; exact ho1
      have HB1 : Hid (w.grownBy w1 v.ownBlock) := grownBy_step hbel.out hg1 hoff.out
      have HF1 : Hid (∀ b, b < w.heap.size → v.ownBlock ≠ some b → v1.ownBlock ≠ some b) := off_step hoff.out hf1 hbel.out.size
      clear ho1 hg1 hf1
      go_wp2
      go_ret
      exact ⟨_, rfl, HO.out, HB1.out, HF1.out⟩

theorem strOf_append (a b : List Int) : strOfNums (a ++ b) = strOfNums a ++ strOfNums b := by
  apply ByteArray.ext; simp [strOfNums]

theorem strOf_nums (s : ByteArray) : strOfNums (nums s) = s := by
  apply ByteArray.ext
  apply Array.ext'
  have e : ((fun n : Int => UInt8.ofNat n.toNat) ∘ fun b : UInt8 => (b.toNat : Int)) = id := by funext b; simp
  simp [strOfNums, nums, e]

theorem put_str (b : ByteArray) (v : Int) (h : IsI v) : strOfNums (nums b ++ cod (zz v)) = b ++ putB v := by
  rw [← putB_nums v h.1 h.2, ← nums_append, strOf_nums]

set_option maxHeartbeats 1000000 in
theorem putInt_any (b X : ByteArray) (z : Int) (w : World) (hs : b.size ≤ 140737490452000) (hz : IsI z) (hX : Hid (b ++ putB z = X)) :
    Calls Try.prog 18 #[.string b, .int .i64 z] w fun e w' => e = .returned (.string X) ∧ Below w.heap.size w w' := by
  obtain ⟨v0, W0, hcv, ho, hb⟩ := conv_bytes_own w b (by unfold maxLen; omega)
  have HO := Lib.hid ho
  have HB := Lib.hid hb
  have HS : Hid ((nums b).length ≤ 140737490452000) := by unfold Hid; rw [nums_length]; exact hs
  clear ho hb
  go_enter Try.func18, Try.ntmps18
  go_wp2_with fail
  clear hcv
  refine (appendInt_any w.heap.size _ (nums b) z _ HB.out.size HO.out HS.out hz).mono ?_
  rintro e w1 ⟨v1, rfl, ho1, hb1, _⟩
  have hcv1 := conv_ownB ho1
  rw [put_str b z hz, hX.out] at hcv1
  have HB1 := Lib.hid (HB.out.grown hb1 HB.out.size HO.out.base)
  clear hb1 ho1
  go_wp2
  go_ret
  exact ⟨rfl, HB1.out⟩

end Go.Proofs.Ytimabgaobhfiaaa
