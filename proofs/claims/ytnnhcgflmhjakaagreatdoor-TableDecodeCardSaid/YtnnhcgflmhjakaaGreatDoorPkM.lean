/-
  The references of ranges: valid.
  The contract of keep.Same at spans.
  The references PutInt and Sum; packed.Sum.
  The references PutList and PutSpans.
-/
import Derived.Test.YtnnhcgflmhjakaaGreatDoorQRanRefChk
import Derived.Test.YtnnhcgflmhjakaaGreatDoorPkA
import Derived.Test.YtnnhcgflmhjakaaGreatDoorPkL
import Derived.Test.YtnnhcgflmhjakaaGreatDoorPkO
set_option linter.unusedSimpArgs false
set_option linter.unusedVariables false
namespace Go.Proofs.YtnnhcgflmhjakaaGreatDoor
open Go.RowKit
set_option linter.unusedVariables false

set_option maxHeartbeats 400000 in
theorem rvalid_at (p : Option Addr) (n c : Nat) (l : List Sp) (B : Bool) (w : World) (hl : Hid (l.length = n)) (hn : n ≤ maxLen) (hin : SpIn w p l) (hB : Hid (validS l = B)) :
    Calls Tryz.prog 63 #[.slice p n c] w fun e w' => e = .returned (.bool B) ∧ Below w.heap.size w w' := by
  have HI := Lib.hid hin
  have HC : Hid (checkS l 0 1114111 = B) := by unfold Hid; rw [check_all, hB.out]
  clear hin
  go_enter Tryz.func63, Tryz.ntmps63
  go_wp2_with fail
  refine (rcheck_at p n c l 0 1114111 B _ hl hn HI.out HC).mono ?_
  rintro e w1 ⟨rfl, hb1⟩
  have HB1 := Lib.hid hb1
  clear hb1
  go_wp2
  go_ret
  exact ⟨rfl, HB1.out⟩

end Go.Proofs.YtnnhcgflmhjakaaGreatDoor

namespace Go.Proofs.YtnnhcgflmhjakaaGreatDoor
open Go.RowKit

theorem sp_beq_take_snoc (xs ys : List Sp) (k : Nat) (hx : k < xs.length) (hy : k < ys.length) (h : xs.take k = ys.take k) (he : xs.getD k sp0 = ys.getD k sp0) : xs.take (k + 1) = ys.take (k + 1) := by
  rw [take_snoc_sp xs k hx, take_snoc_sp ys k hy, h, he]

theorem sp_ne_of_getD (xs ys : List Sp) (k : Nat) (he : xs.getD k sp0 ≠ ys.getD k sp0) : decide (xs = ys) = false := by
  rw [decide_eq_false_iff_not]
  rintro rfl
  exact he rfl

theorem drewN_below_sp {B : Nat} {a w : World} (h : Below B a w) (n : Nat) : Below B a (w.drewN n) := ⟨h.os, h.tape, h.output, h.size, h.block⟩

set_option maxHeartbeats 2000000 in
theorem sameS_any (p q : Option Addr) (c d n m : Nat) (xs ys : List Sp) (w : World) (hx : SpIn w p xs) (hy : SpIn w q ys) (hl1 : xs.length = n) (hl2 : ys.length = m) (hn : n ≤ maxLen) (hm : m ≤ maxLen) :
    Calls Tryz.prog 43 #[.slice p n c, .slice q m d] w fun e w' => e = .returned (.bool (decide (xs = ys))) ∧ Below w.heap.size w w' := by
  unfold maxLen at hn hm
  have HX := Lib.hid hx
  have HY := Lib.hid hy
  have HL1 := Lib.hid hl1
  have HL2 := Lib.hid hl2
  clear hx hy hl1 hl2
  by_cases hl : n = m
  · subst hl
    have hne : ((n : Int) != (n : Int)) = false := by simp
    go_enter Tryz.func43, Tryz.ntmps43
    go_wp2
    go_loopw [13] (fun i wr => ∃ k : Nat, k ≤ n ∧ i = .int .i64 k ∧ Hid (xs.take k = ys.take k) ∧ Below w.heap.size w wr) (fun i _ => n - (intOf i).toNat)
    case atStart => exact ⟨0, Nat.zero_le _, rfl, rfl, Below.refl _ _⟩
    case round =>
      obtain ⟨k, hk, rfl, ht, hbel⟩ := hrel
      by_cases hlt : k < n
      · have hk1 : k < xs.length := by rw [HL1.out]; exact hlt
        have hk2 : k < ys.length := by rw [HL2.out]; exact hlt
        obtain ⟨b1, o1, rfl, c1, c2, c3⟩ := (HX.out.below hbel) k hk1
        obtain ⟨b2, o2, rfl, d1, d2, d3⟩ := (HY.out.below hbel) k hk2
        obtain ⟨⟨xf, xt, xv⟩, hxx⟩ : ∃ x, xs.getD k sp0 = x := ⟨_, rfl⟩
        obtain ⟨⟨yf, yt, yv⟩, hyy⟩ : ∃ y, ys.getD k sp0 = y := ⟨_, rfl⟩
        rw [hxx] at c1 c2 c3
        rw [hyy] at d1 d2 d3
        simp only at c1 c2 c3 d1 d2 d3
        by_cases hxy : xf = yf ∧ xt = yt ∧ xv = yv
        · obtain ⟨rfl, rfl, rfl⟩ := hxy
          have HS : Hid (xs.take (k + 1) = ys.take (k + 1)) := sp_beq_take_snoc xs ys k hk1 hk2 ht.out (by rw [hxx, hyy])
          clear hxx hyy
          go_wp2
          go_quiet (fail)
          go_wp2
          go_roundw
          case rel => exact ⟨k + 1, by omega, by go_num, HS, drewN_below_sp hbel _⟩
          case measure => simp [intOf]; omega
        · have HS : Hid (decide (xs = ys) = false) := sp_ne_of_getD xs ys k (by rw [hxx, hyy]; intro h; injection h with h1 h2; injection h2 with h2 h3; exact hxy ⟨h1, h2, h3⟩)
          clear hxx hyy
          have hcase : (xf == yf) = false ∨ (xf = yf ∧ (xt == yt) = false) ∨ (xf = yf ∧ xt = yt ∧ (xv == yv) = false) := by
            by_cases h1 : xf = yf
            · by_cases h2 : xt = yt
              · exact .inr (.inr ⟨h1, h2, by simp; exact fun h3 => hxy ⟨h1, h2, h3⟩⟩)
              · exact .inr (.inl ⟨h1, by simp [h2]⟩)
            · exact .inl (by simp [h1])
          clear hxy
          rcases hcase with h1 | ⟨rfl, h1⟩ | ⟨rfl, rfl, h1⟩
          all_goals
            go_wp2
            go_quiet (fail)
            go_wp2
            go_ret
            rw [HS.out]
            exact ⟨rfl, drewN_below_sp hbel _⟩
      · obtain rfl : k = n := by omega
        have HS : Hid (decide (xs = ys) = true) := by
          have := ht.out
          rw [List.take_of_length_le (Nat.le_of_eq HL1.out), List.take_of_length_le (Nat.le_of_eq HL2.out)] at this
          simp [Hid, this]
        go_wp2
        go_ret
        rw [HS.out]
        exact ⟨rfl, hbel⟩
  · have hne : ((n : Int) != (m : Int)) = true := by simp; omega
    have HE : Hid (decide (xs = ys) = false) := by
      unfold Hid
      rw [decide_eq_false_iff_not]
      rintro rfl
      exact hl (HL1.out.symm.trans HL2.out)
    clear hl
    go_enter Tryz.func43, Tryz.ntmps43
    go_wp2
    go_ret
    rw [HE.out]
    exact ⟨rfl, Below.refl _ _⟩

theorem sameS_at (p q : Option Addr) (c d n m : Nat) (xs : List Sp) (w : World) (hx : SpIn w p xs) (hy : SpIn w q xs) (hl1 : Hid (xs.length = n)) (hl2 : Hid (xs.length = m)) (hn : xs.length ≤ maxLen) :
    Calls Tryz.prog 43 #[.slice p n c, .slice q m d] w fun e w' => e = .returned (.bool true) ∧ Below w.heap.size w w' := by
  have := sameS_any p q c d n m xs xs w hx hy hl1.out hl2.out (by rw [← hl1.out]; exact hn) (by rw [← hl2.out]; exact hn)
  simpa using this

theorem sp_lit_new (w : World) (C : Array Value) (xs : List Sp) (t : TypeId) (h : C.toList = cellsS xs) : SpIn (w.alloc (.cells C t)) (some ⟨w.heap.size, 0, none⟩) xs := by
  intro k hk
  obtain ⟨c1, c2, c3⟩ := cellsS_at xs k hk
  rw [← h] at c1 c2 c3
  simp only [Array.getElem?_toList] at c1 c2 c3
  refine ⟨_, _, rfl, ?_, ?_, ?_⟩
  · rw [Nat.zero_add, World.cell?_alloc_new]; exact c1
  · rw [Nat.zero_add, World.cell?_alloc_new]; exact c2
  · rw [Nat.zero_add, World.cell?_alloc_new]; exact c3

end Go.Proofs.YtnnhcgflmhjakaaGreatDoor

namespace Go.Proofs.YtnnhcgflmhjakaaGreatDoor
open Go.RowKit

/-- The loop of the reference PutInt, in whatever frame. -/
theorem codF_str_big {f : Nat} {u : Int} (h : 127 < u) : strOfNums (codF (f + 1) u) = strOfNums [u % 128 + 128] ++ strOfNums (codF f (u / 128)) := by
  rw [codF_big h, ← strOf_append]; rfl
theorem codF_str_small {f : Nat} {u : Int} (h : u ≤ 127) : strOfNums (codF f u) = strOfNums [u] := by rw [codF_small h]

set_option maxRecDepth 100000 in
set_option maxHeartbeats 2000000 in
theorem rputInt_any (b X : ByteArray) (z : Int) (w : World) (hs : b.size ≤ 140737490452000) (hz : IsI z) (hX : Hid (b ++ putB z = X)) :
    Calls Tryz.prog 11 #[.string b, .int .i64 z] w fun e w' => e = .returned (.string X) ∧ Below w.heap.size w w' := by
  obtain ⟨u0, hu0⟩ : ∃ u, zz z = u := ⟨_, rfl⟩
  have hu := zz_u z hz
  have hX' := hX.out
  rw [putB, hu0] at hX'
  rw [hu0] at hu
  have HU : Hid (u0 < 2 * p7 9) := hu.2
  have hu00 := hu.1
  have HX : Hid (b ++ strOfNums (codF 9 u0) = X) := hX'
  have HXs : Hid (X.size ≤ 140737490452010) := by
    have := (codF_length 9 u0).2
    unfold Hid; rw [← HX.out, ByteArray.size_append, strOfNums_size]; omega
  clear hu hX'
  have hcase : (0 ≤ z ∧ IntKind.u64.wrap (IntKind.u64.wrap z * 2) = u0) ∨ (z < 0 ∧ IntKind.u64.signed = false ∧ bits .xor .u64 IntKind.u64.max (IntKind.u64.wrap (IntKind.u64.wrap z * 2)) = u0) := by
    by_cases h0 : 0 ≤ z
    · exact .inl ⟨h0, by rw [zz_words_pos z h0 hz]; exact hu0⟩
    · exact .inr ⟨by omega, rfl, by rw [zz_words_neg z (by omega) hz]; exact hu0⟩
  clear hu0
  rcases hcase with ⟨h0, hw⟩ | ⟨h0, hsg, hw⟩
  all_goals
    go_enter Tryz.func11, Tryz.ntmps11
    go_wp2
    clear hw
    go_loopw [0, 5] (fun bv uu wr => ∃ (f : Nat) (u : Int) (B : ByteArray), f ≤ 9 ∧ uu = .int .u64 u ∧ bv = .string B ∧ 0 ≤ u ∧ Hid (u < 2 * p7 f) ∧ Hid (B ++ strOfNums (codF f u) = X) ∧ Hid (Below w.heap.size w wr)) (fun _ uu _ => (intOf uu).toNat)
    case atStart => exact ⟨9, u0, b, by omega, rfl, rfl, hu00, HU, HX, Below.refl _ _⟩
    case round =>
      clear HX HU hu00
      obtain ⟨f, u, B, hf9, rfl, rfl, hu0, hu, hEq, hbel⟩ := hrel
      have hBs : B.size ≤ 140737490452010 := by
        have h1 := HXs.out
        rw [← hEq.out, ByteArray.size_append] at h1; omega
      by_cases hbig : 127 < u
      · obtain ⟨k, rfl⟩ : ∃ k, f = k + 1 := by
          cases f with
          | zero => have := hu.out; simp only [p7] at this; omega
          | succ k => exact ⟨k, rfl⟩
        have hdiv : IntKind.u64.wrap (u.tdiv 128) = u / 128 := by
          have h1 := hu.out
          have h2 := p7_mono hf9
          rw [Int.tdiv_eq_ediv_of_nonneg hu0, IntKind.wrap_u64]
          omega
        have HL : Hid (u / 128 < 2 * p7 k) := div_lt k u hu.out
        have hcv := conv_lit wr #[.int .u8 (u % 128 + 128)] [u % 128 + 128] 1 rfl rfl
        have hE2 := hEq.out
        rw [codF_str_big hbig] at hE2
        have hYs : (strOfNums [u % 128 + 128]).size ≤ 1 := by rw [strOfNums_size]; simp
        obtain ⟨Y, hY⟩ : ∃ Y, strOfNums [u % 128 + 128] = Y := ⟨_, rfl⟩
        rw [hY] at hcv hE2 hYs
        rw [← str_assoc] at hE2
        have HE2 := Lib.hid hE2
        clear hE2 hY hEq hu
        go_wp2
        go_roundw
        case rel => exact ⟨k, u / 128, B ++ Y, by omega, by go_num, rfl, by omega, HL, HE2, hbel.out.alloc hbel.out.size _⟩
        case measure => simp [intOf]; omega
      · have hd : decide (127 < u) = false := decide_eq_false hbig
        have hcv := conv_lit wr #[.int .u8 u] [u] 1 rfl rfl
        have hE2 := hEq.out
        rw [codF_str_small (by omega)] at hE2
        have hYs : (strOfNums [u]).size ≤ 1 := by rw [strOfNums_size]; simp
        obtain ⟨Y, hY⟩ : ∃ Y, strOfNums [u] = Y := ⟨_, rfl⟩
        rw [hY] at hcv hE2 hYs
        have HE2 := Lib.hid hE2
        have hu128 : u < 128 := by omega
        clear hE2 hY hEq hu hbig
        go_wp2
        go_ret
        rw [HE2.out]
        exact ⟨rfl, hbel.out.alloc hbel.out.size _⟩

/-! ### Sum -/

theorem nums_at (s : ByteArray) (k : Nat) (h : k < s.size) : (nums s).take (k + 1) = (nums s).take k ++ [(s[k].toNat : Int)] := by
  have hl : k < (nums s).length := by rw [nums_length]; exact h
  rw [List.take_succ_eq_append_getElem hl]
  congr 2
  simp [nums]
  rfl

def sumS (s : ByteArray) : Int := sumL 2166136261 (nums s)

theorem sumS_bd (s : ByteArray) : 0 ≤ sumS s ∧ sumS s < 4294967296 := sumL_bd _ _ (by omega) (by omega)

set_option maxHeartbeats 1000000 in
theorem sum_any (s : ByteArray) (X : Int) (w : World) (hs : s.size ≤ maxLen) (hX : Hid (sumS s = X)) :
    Calls Tryz.prog 138 #[.string s] w fun e w' => e = .returned (.int .i64 X) ∧ w = w' := by
  unfold maxLen at hs
  go_enter Tryz.func138, Tryz.ntmps138
  go_wp2
  go_loop [3, 7] (fun x i => ∃ (k : Nat) (y : Int), k ≤ s.size ∧ i = .int .i64 k ∧ x = .int .u32 y ∧ 0 ≤ y ∧ y < 4294967296 ∧ Hid (sumL 2166136261 ((nums s).take k) = y)) (fun _ i => s.size - (intOf i).toNat)
  case atStart => exact ⟨0, 2166136261, Nat.zero_le _, rfl, rfl, by omega, by omega, rfl⟩
  case round =>
    obtain ⟨k, y, hk, rfl, rfl, hy0, hy1, hE⟩ := hrel
    by_cases hlt : k < s.size
    · have hnd := nums_at s k hlt
      obtain ⟨b, hb⟩ : ∃ b : Int, (s[k].toNat : Int) = b := ⟨_, rfl⟩
      have hb0 : 0 ≤ b := by omega
      have hb1 : b ≤ 255 := by have := s[k].toNat_lt; omega
      rw [hb] at hnd
      have hst := u32_sum y b hy0 hy1 hb0 (by omega)
      have HE : Hid (sumL 2166136261 ((nums s).take (k + 1)) = sumStep y b) := by unfold Hid; rw [hnd, sumL_snoc, hE.out]
      obtain ⟨z0, z1⟩ := sumStep_bd y b
      obtain ⟨z, hz⟩ : ∃ z, sumStep y b = z := ⟨_, rfl⟩
      rw [hz] at hst HE z0 z1
      clear hz hnd hE
      go_wp2
      go_round
      case rel => exact ⟨k + 1, z, by omega, by go_num, rfl, z0, z1, HE⟩
      case measure => simp [intOf]; omega
    · obtain rfl : k = s.size := by omega
      have HE : Hid (y = X) := by
        unfold Hid
        rw [← hE.out, ← hX.out, List.take_of_length_le (by rw [nums_length]; exact Nat.le_refl _)]; rfl
      clear hE
      go_wp2
      go_ret
      rw [← HE.out]
      exact ⟨rfl, rfl⟩

set_option maxHeartbeats 1000000 in
theorem rsum_any (s : ByteArray) (X : Int) (w : World) (hs : s.size ≤ maxLen) (hX : Hid (sumS s = X)) :
    Calls Tryz.prog 12 #[.string s] w fun e w' => e = .returned (.int .i64 X) ∧ w = w' := by
  unfold maxLen at hs
  go_enter Tryz.func12, Tryz.ntmps12
  go_wp2
  go_loop [3, 4] (fun x i => ∃ (k : Nat) (y : Int), k ≤ s.size ∧ i = .int .i64 k ∧ x = .int .u32 y ∧ 0 ≤ y ∧ y < 4294967296 ∧ Hid (sumL 2166136261 ((nums s).take k) = y)) (fun _ i => s.size - (intOf i).toNat)
  case atStart => exact ⟨0, 2166136261, Nat.zero_le _, rfl, rfl, by omega, by omega, rfl⟩
  case round =>
    obtain ⟨k, y, hk, rfl, rfl, hy0, hy1, hE⟩ := hrel
    by_cases hlt : k < s.size
    · have hnd := nums_at s k hlt
      obtain ⟨b, hb⟩ : ∃ b : Int, (s[k].toNat : Int) = b := ⟨_, rfl⟩
      have hb0 : 0 ≤ b := by omega
      have hb1 : b ≤ 255 := by have := s[k].toNat_lt; omega
      rw [hb] at hnd
      have hst := u32_sum y b hy0 hy1 hb0 (by omega)
      have HE : Hid (sumL 2166136261 ((nums s).take (k + 1)) = sumStep y b) := by unfold Hid; rw [hnd, sumL_snoc, hE.out]
      obtain ⟨z0, z1⟩ := sumStep_bd y b
      obtain ⟨z, hz⟩ : ∃ z, sumStep y b = z := ⟨_, rfl⟩
      rw [hz] at hst HE z0 z1
      clear hz hnd hE
      go_wp2
      go_round
      case rel => exact ⟨k + 1, z, by omega, by go_num, rfl, z0, z1, HE⟩
      case measure => simp [intOf]; omega
    · obtain rfl : k = s.size := by omega
      have HE : Hid (y = X) := by
        unfold Hid
        rw [← hE.out, ← hX.out, List.take_of_length_le (by rw [nums_length]; exact Nat.le_refl _)]; rfl
      clear hE
      go_wp2
      go_ret
      rw [← HE.out]
      exact ⟨rfl, rfl⟩

end Go.Proofs.YtnnhcgflmhjakaaGreatDoor

namespace Go.Proofs.YtnnhcgflmhjakaaGreatDoor
open Go.RowKit

theorem put_size (b : ByteArray) (z : Int) : (b ++ putB z).size ≤ b.size + 10 := by
  have := (putB_size z).2
  rw [ByteArray.size_append]; omega

set_option maxRecDepth 100000 in
set_option maxHeartbeats 4000000 in
theorem rputList_any (b : ByteArray) (p : Option Addr) (n c : Nat) (l : List Int) (X : ByteArray) (er : Int) (w : World) (hs : b.size ≤ 140737488351232) (hl : l.length = n) (hn : n ≤ maxLen) (hin : IntsIn w p l) (hX : Hid (putListS b l = (X, er))) :
    Calls Tryz.prog 25 #[.string b, .slice p n c] w fun e w' => e = .returned (.tuple #[.string X, .int .i64 er]) ∧ Below w.heap.size w w' := by
  unfold maxLen at hn
  have HI := Lib.hid hin
  have HL := Lib.hid hl
  clear hin hl
  by_cases hbig : 4096 < n
  · have hE := hX.out
    rw [putList_long (by rw [HL.out]; exact hbig)] at hE
    injection hE with e1 e2
    subst e1; subst e2
    go_enter Tryz.func25, Tryz.ntmps25
    go_wp2
    go_ret2
    exact ⟨rfl, Below.refl _ _⟩
  have hn2 : n ≤ 4096 := by omega
  have HK : Hid (IsI (n : Int)) := isI_small (by omega) (by omega)
  have HQ0 : Hid (putLF (b ++ putB (n : Int)) 0 (l.drop 0) = (X, er)) := by
    have := hX.out
    rw [putListS, if_neg (by rw [HL.out]; omega), HL.out] at this
    exact this
  have hS0 := put_size b (n : Int)
  obtain ⟨S0, hS⟩ : ∃ S, b ++ putB (n : Int) = S := ⟨_, rfl⟩
  rw [hS] at HQ0 hS0
  have HS0 := Lib.hid hS
  clear hbig hS
  go_enter Tryz.func25, Tryz.ntmps25
  go_wp2_with fail
  refine (rputInt_any b S0 (n : Int) _ (by omega) HK.out HS0).mono ?_
  rintro e w1 ⟨rfl, hb1⟩
  have HB1 := Lib.hid hb1
  clear hb1
  go_wp2
  go_loopw [6, 7, 19] (fun sv lv i wr => ∃ (j : Nat) (last : Int) (S : ByteArray), j ≤ n ∧ i = .int .i64 j ∧ sv = .string S ∧ lv = .int .i64 last ∧ -1073741824 ≤ last ∧ last ≤ 1073741824 ∧ S.size ≤ b.size + 10 + 10 * j ∧ Hid (putLF S last (l.drop j) = (X, er)) ∧ Hid (Below w.heap.size w wr)) (fun _ _ i _ => n - (intOf i).toNat)
  case atStart => exact ⟨0, 0, S0, Nat.zero_le _, rfl, rfl, rfl, by omega, by omega, by omega, HQ0, HB1⟩
  case round =>
    clear HQ0 HB1 hS0 HS0
    obtain ⟨j, last, S, hj, rfl, rfl, rfl, hl0, hl1, hS, hEq, hbel⟩ := hrel
    by_cases hlt : j < n
    · have hjl : j < l.length := by rw [HL.out]; exact hlt
      obtain ⟨g, off, rfl, hc⟩ := (HI.out.below hbel.out) j hjl
      have hdr := pk_drop_cons_int l j hjl
      obtain ⟨v, hv⟩ : ∃ v, l.getD j 0 = v := ⟨_, rfl⟩
      rw [hv] at hc hdr
      have hEq2 := hEq.out
      rw [hdr, putLF] at hEq2
      cases hm : modB v with
      | true =>
        rw [if_pos hm] at hEq2
        obtain ⟨hv0, hv1⟩ := modB_iff.1 hm
        have HM := Lib.hid hm
        have HV : Hid (IsI (v - last)) := isI_small (by omega) (by omega)
        have hS2 := put_size S (v - last)
        obtain ⟨S2, hS3⟩ : ∃ S2, S ++ putB (v - last) = S2 := ⟨_, rfl⟩
        rw [hS3] at hEq2 hS2
        have HQ := Lib.hid hEq2
        have HS3 := Lib.hid hS3
        clear hm hv hdr hEq hEq2 hS3
        go_wp2_with fail
        refine (moderate_at v true _ HM).mono ?_
        rintro e w2 ⟨rfl, rfl⟩
        go_wp2_with fail
        refine (rputInt_any S S2 (v - last) _ (by omega) HV.out HS3).mono ?_
        rintro e w2 ⟨rfl, hb2⟩
        have HB2 := Lib.hid (hbel.out.trans (hb2.mono hbel.out.size))
        clear hb2
        go_wp2
        go_roundw
        case rel => exact ⟨j + 1, v, S2, by omega, by go_num, rfl, rfl, hv0, hv1, by omega, HQ, HB2⟩
        case measure => simp [intOf]; omega
      | false =>
        rw [if_neg (by rw [hm]; simp)] at hEq2
        injection hEq2 with e1 e2
        subst e1; subst e2
        have HM := Lib.hid hm
        clear hm hv hdr hEq
        go_wp2_with fail
        refine (moderate_at v false _ HM).mono ?_
        rintro e w2 ⟨rfl, rfl⟩
        go_wp2
        go_ret2
        exact ⟨rfl, hbel.out⟩
    · obtain rfl : j = n := by omega
      have hEq2 := hEq.out
      rw [List.drop_of_length_le (Nat.le_of_eq HL.out), putLF] at hEq2
      injection hEq2 with e1 e2
      subst e1; subst e2
      clear hEq
      go_wp2
      go_ret2
      exact ⟨rfl, hbel.out⟩

theorem three_below {w w' : World} {g : Nat} {a b c : Value} (h : w.cell? ⟨g, 0, none⟩ = some a ∧ w.cell? ⟨g, 1, none⟩ = some b ∧ w.cell? ⟨g, 2, none⟩ = some c) (hb : Below w.heap.size w w') :
    w'.cell? ⟨g, 0, none⟩ = some a ∧ w'.cell? ⟨g, 1, none⟩ = some b ∧ w'.cell? ⟨g, 2, none⟩ = some c := by
  obtain ⟨h1, h2, h3⟩ := h
  have hlt := World.block_lt_of_cell? w _ h1
  exact ⟨(hb.cell (p := ⟨g, 0, none⟩) hlt).trans h1, (hb.cell (p := ⟨g, 1, none⟩) hlt).trans h2, (hb.cell (p := ⟨g, 2, none⟩) hlt).trans h3⟩

set_option maxRecDepth 100000 in
set_option maxHeartbeats 4000000 in
theorem rputSpans_any (b : ByteArray) (p : Option Addr) (n c : Nat) (l : List Sp) (X : ByteArray) (er : Int) (w : World) (hs : b.size ≤ 140737488351232) (hl : l.length = n) (hn : n ≤ maxLen) (hin : SpIn w p l) (hX : Hid (putSpansS b l = (X, er))) :
    Calls Tryz.prog 23 #[.string b, .slice p n c] w fun e w' => e = .returned (.tuple #[.string X, .int .i64 er]) ∧ Below w.heap.size w w' := by
  have HI := Lib.hid hin
  have HL := Lib.hid hl
  clear hin hl
  cases hv : validS l with
  | false =>
    have hE := hX.out
    rw [putSpans_inv hv] at hE
    injection hE with e1 e2
    subst e1; subst e2
    have HC := Lib.hid hv
    clear hv
    go_enter Tryz.func23, Tryz.ntmps23
    go_wp2_with fail
    refine (rvalid_at p n c l false _ HL hn HI.out HC).mono ?_
    rintro e w1 ⟨rfl, hb1⟩
    have HB1 := Lib.hid hb1
    clear hb1
    go_wp2
    go_ret2
    exact ⟨rfl, HB1.out⟩
  | true =>
  have hn2 : n ≤ 256 := by rw [← HL.out]; exact valid_len hv
  have HC := Lib.hid hv
  have HAsc := Lib.hid (valid_asc hv)
  have HK : Hid (IsI (n : Int)) := isI_small (by omega) (by omega)
  have HQ0 : Hid (putSF (b ++ putB (n : Int)) 0 (l.drop 0) = (X, er)) := by
    have := hX.out
    rw [putSpansS, if_pos hv, HL.out] at this
    exact this
  have hS0 := put_size b (n : Int)
  obtain ⟨S0, hS⟩ : ∃ S, b ++ putB (n : Int) = S := ⟨_, rfl⟩
  rw [hS] at HQ0 hS0
  have HS0 := Lib.hid hS
  clear hv hS
  go_enter Tryz.func23, Tryz.ntmps23
  go_wp2_with fail
  refine (rvalid_at p n c l true _ HL hn HI.out HC).mono ?_
  rintro e w1 ⟨rfl, hb1⟩
  have HB1 := Lib.hid hb1
  clear hb1
  go_wp2_with fail
  refine (rputInt_any b S0 (n : Int) _ (by omega) HK.out HS0).mono ?_
  rintro e w2 ⟨rfl, hb2⟩
  have HB2 := Lib.hid (HB1.out.trans (hb2.mono HB1.out.size))
  clear hb2 HB1
  go_wp2
  go_loopw [6, 7, 19] (fun sv lv i wr => ∃ (j : Nat) (last : Int) (S : ByteArray), j ≤ n ∧ i = .int .i64 j ∧ sv = .string S ∧ lv = .int .i64 last ∧ 0 ≤ last ∧ last ≤ 1114111 ∧ S.size ≤ b.size + 10 + 30 * j ∧ Hid (putSF S last (l.drop j) = (X, er)) ∧ Hid (Below w.heap.size w wr)) (fun _ _ i _ => n - (intOf i).toNat)
  case atStart => exact ⟨0, 0, S0, Nat.zero_le _, rfl, rfl, rfl, by omega, by omega, by omega, HQ0, HB2⟩
  case round =>
    clear HQ0 HB2 hS0 HS0
    obtain ⟨j, last, S, hj, rfl, rfl, rfl, hl0, hl1, hS, hEq, hbel⟩ := hrel
    by_cases hlt : j < n
    · have hjl : j < l.length := by rw [HL.out]; exact hlt
      obtain ⟨g, off, rfl, hc1, hc2, hc3⟩ := (HI.out.below hbel.out) j hjl
      have hdr := drop_cons_sp l j hjl
      obtain ⟨a1, a2, a3⟩ := asc_getD HAsc.out j hjl
      obtain ⟨⟨f, t, v⟩, hv⟩ : ∃ s, l.getD j sp0 = s := ⟨_, rfl⟩
      rw [hv] at hc1 hc2 hc3 hdr a1 a2 a3
      simp only at hc1 hc2 hc3 a1 a2 a3
      have hEq2 := hEq.out
      rw [hdr, putSF] at hEq2
      simp only at hEq2
      cases hm : modB v with
      | true =>
        rw [if_pos hm] at hEq2
        obtain ⟨hv0, hv1⟩ := modB_iff.1 hm
        have HM := Lib.hid hm
        have HV1 : Hid (IsI (f - last)) := isI_small (by omega) (by omega)
        have HV2 : Hid (IsI (t - f)) := isI_small (by omega) (by omega)
        have HV3 : Hid (IsI v) := isI_small (by omega) (by omega)
        have hs2 := put_size S (f - last)
        obtain ⟨S2, hS2⟩ : ∃ S2, S ++ putB (f - last) = S2 := ⟨_, rfl⟩
        rw [hS2] at hEq2 hs2
        have hs3 := put_size S2 (t - f)
        obtain ⟨S3, hS3⟩ : ∃ S3, S2 ++ putB (t - f) = S3 := ⟨_, rfl⟩
        rw [hS3] at hEq2 hs3
        have hs4 := put_size S3 v
        obtain ⟨S4, hS4⟩ : ∃ S4, S3 ++ putB v = S4 := ⟨_, rfl⟩
        rw [hS4] at hEq2 hs4
        have HQ := Lib.hid hEq2
        have HS2 := Lib.hid hS2
        have HS3 := Lib.hid hS3
        have HS4 := Lib.hid hS4
        have hB0 := hbel.out.alloc hbel.out.size (.cells #[.int .i64 f, .int .i64 t, .int .i64 v] 65)
        have hC0 := Cur.new wr f t v 65
        clear hm hv hdr hEq hEq2 hS2 hS3 hS4
        go_wp2_with fail
        refine (moderate_at v true _ HM).mono ?_
        rintro e w2 ⟨rfl, rfl⟩
        go_wp2
        generalize wr.alloc (.cells #[.int .i64 f, .int .i64 t, .int .i64 v] 65) = W0 at hB0 hC0 ⊢
        generalize wr.heap.size = g0 at hC0 ⊢
        have HB0 := Lib.hid hB0
        obtain ⟨k0, k1, k2, _, kz⟩ := hC0
        have hw1 : IntKind.i64.wrap (f - last) = f - last := IntWalk.i64_in _ (by omega)
        have hw2 : IntKind.i64.wrap (t - f) = t - f := IntWalk.i64_in _ (by omega)
        clear hB0 hc1 hc2 hc3 hbel
        go_region_held3 (fun w' => w'.cell? ⟨g0, 0, none⟩ = some (.int .i64 f) ∧ w'.cell? ⟨g0, 1, none⟩ = some (.int .i64 t) ∧ w'.cell? ⟨g0, 2, none⟩ = some (.int .i64 v))
          (first
            | go_keep
            | (refine three_below ?_ hb5; assumption)
            | (refine three_below ?_ hb4; assumption)
            | (refine three_below ?_ hb3; assumption))
          (first
            | (go_at_call 11; (with_reducible refine (rputInt_any S S2 (f - last) _ (by omega) HV1.out HS2).mono ?_); rintro e w3 ⟨rfl, hb3⟩)
            | (go_at_call 11; (with_reducible refine (rputInt_any S2 S3 (t - f) _ (by omega) HV2.out HS3).mono ?_); rintro e w4 ⟨rfl, hb4⟩)
            | (go_at_call 11; (with_reducible refine (rputInt_any S3 S4 v _ (by omega) HV3.out HS4).mono ?_); rintro e w5 ⟨rfl, hb5⟩))
        have hB3 := (below_drewN_sp HB0.out 1).trans (hb3.mono HB0.out.size)
        have hB4 := hB3.trans (hb4.mono hB3.size)
        have hB5 := hB4.trans (hb5.mono hB4.size)
        have HB5 := Lib.hid hB5
        have k1z : w5.cell? ⟨g0, 1, none⟩ = some (.int .i64 t) := (three_below (three_below (three_below (w := W0.drew) ⟨k0, k1, k2⟩ hb3) hb4) hb5).2.1
        clear hb3 hb4 hb5 hB3 hB4 hB5 k0 k1 k2 kz hw1 hw2 HB0
        go_wp2
        go_roundw
        case rel => exact ⟨j + 1, t, S4, by omega, by go_num, rfl, rfl, by omega, a3, by omega, HQ, HB5⟩
        case measure => simp [intOf]; omega
      | false =>
        rw [if_neg (by rw [hm]; simp)] at hEq2
        injection hEq2 with e1 e2
        subst e1; subst e2
        have HM := Lib.hid hm
        clear hm hv hdr hEq
        go_wp2_with fail
        refine (moderate_at v false _ HM).mono ?_
        rintro e w2 ⟨rfl, rfl⟩
        go_wp2
        go_ret2
        exact ⟨rfl, hbel.out.alloc hbel.out.size _⟩
    · obtain rfl : j = n := by omega
      have hEq2 := hEq.out
      rw [List.drop_of_length_le (Nat.le_of_eq HL.out), putSF] at hEq2
      injection hEq2 with e1 e2
      subst e1; subst e2
      clear hEq
      go_wp2
      go_ret2
      exact ⟨rfl, hbel.out⟩

end Go.Proofs.YtnnhcgflmhjakaaGreatDoor
