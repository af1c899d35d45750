/-
  The walk of PackedSum.
-/
import Derived.Test.YtimabgaobhfiaaaPakLaw
import Derived.Deep.RegionHeld3
import Derived.Deep.RegionWith
namespace Go.Proofs.Ytimabgaobhfiaaa.packedSumW
open Go.RowKit

theorem conv_lit_drew (w : World) (y : Int) :
    (convert 22 9 (.slice (some ⟨w.heap.size, 0, none⟩) 1 1)).run Try.prog ((w.alloc (.cells #[.int .u8 y] 5)).drew) = .ok (.string (strOfNums [y])) ((w.alloc (.cells #[.int .u8 y] 5)).drew) := by
  refine run_convert_bytes_arg _ _ _ Try.underlying22 Try.underlying5 w.heap.size 0 1 1 [y] rfl ?_ _ Try.underlying9
  intro i hi
  obtain rfl : i = 0 := by omega
  show (w.alloc (.cells #[.int .u8 y] 5)).cell? _ = _
  rw [World.cell?_alloc_new]
  rfl

theorem nums_take (b : ByteArray) (k : Nat) : nums (b.extract 0 k) = (nums b).take k := by
  simp [nums, List.map_take]
theorem nums_dropE (b : ByteArray) (k : Nat) : nums (b.extract k b.size) = (nums b).drop k := by
  have : b.data.toList.length = b.size := rfl
  simp [nums, List.map_drop, List.take_of_length_le]

theorem one_num (y : Int) (h0 : 0 ≤ y) (h1 : y < 256) : nums (strOfNums [y]) = [y] := nums_of [y] (by intro x hx; rw [List.mem_singleton] at hx; subst hx; exact ⟨h0, h1⟩)

theorem sum_facts (s : ByteArray) (k : Nat) (y c : Int) (hk : k < s.size) (hc : (s[k].toNat : Int) = c) (h0 : 0 ≤ y) (h1 : y < 256) :
    sumS s = sumS (s.extract 0 k ++ strOfNums [y] ++ s.extract (k + 1) s.size) ↔ y = c := by
  have hs : nums s = (nums s).take k ++ c :: (nums s).drop (k + 1) := by
    rw [← hc, ← nums_drop s k hk, List.take_append_drop]
  have ht : nums (s.extract 0 k ++ strOfNums [y] ++ s.extract (k + 1) s.size) = (nums s).take k ++ y :: (nums s).drop (k + 1) := by
    rw [nums_append, nums_append, nums_take, nums_dropE, one_num y h0 h1]; simp
  have hb := s[k].toNat_lt
  have := sum_changed ((nums s).take k) ((nums s).drop (k + 1)) c y 2166136261 (by omega) (by omega) (by omega) (by omega) h0 h1 (fun z hz => nums_bytes s z (List.mem_of_mem_drop hz))
  unfold sumS
  have e1 : sumL 2166136261 (nums s) = sumL 2166136261 ((nums s).take k ++ c :: (nums s).drop (k + 1)) := congrArg _ hs
  rw [ht, e1, this]
  exact eq_comm

set_option maxRecDepth 100000 in
set_option maxHeartbeats 4000000 in
theorem walk (s : ByteArray) (at' v : Int) (w0 : s.size ≤ 140737488351232) (_ : (Lit.int .i64 at').wf = true) (_ : (Lit.int .i64 v).wf = true) (w : World) :
    Calls Try.prog 10 #[.string s, .int .i64 at', .int .i64 v] w fun e w' => e = .returned (.bool true) ∧ Below w.heap.size w w' := by
  by_cases h0 : s.size = 0
  · have hd : ((s.size : Int) == 0) = true := by rw [beq_iff_eq]; omega
    clear h0
    go_enter Try.func10, Try.ntmps10
    go_wp2_with fail
    refine (awake_any _).mono ?_
    rintro e w1 ⟨rfl, hb1⟩
    have HB1 := Lib.hid hb1
    clear hb1
    go_wp2
    go_ret
    exact ⟨rfl, HB1.out⟩
  · have hd : ((s.size : Int) == 0) = false := by rw [beq_eq_false_iff_ne]; omega
    obtain ⟨k', HK, hk0, hk1⟩ := pick_name at' s.size (by omega)
    obtain ⟨k, rfl⟩ : ∃ k : Nat, k' = k := ⟨k'.toNat, by omega⟩
    obtain ⟨y, HY, hy0, hy1⟩ := pick_name v 256 (by omega)
    have hks : k < s.size := by omega
    obtain ⟨c, hc⟩ : ∃ c : Int, (s[k].toNat : Int) = c := ⟨_, rfl⟩
    have hsf := sum_facts s k y c hks hc hy0 hy1
    have hYs : (strOfNums [y]).size ≤ 1 := by rw [strOfNums_size]; simp
    have hcv := conv_lit w #[.int .u8 y] [y] 1 rfl rfl
    have hcv2 := conv_lit_drew w y
    obtain ⟨Y, hY⟩ : ∃ Y, strOfNums [y] = Y := ⟨_, rfl⟩
    rw [hY] at hcv hcv2 hYs hsf
    have hwk : IntKind.i64.wrap ((k : Int) + 1) = (k : Int) + 1 := IntWalk.i64_in _ (by omega)
    have hkl : (k : Int) ≤ s.size := by omega
    have hkl2 : (k : Int) + 1 ≤ s.size := by omega
    have hk00 : (0 : Int) ≤ (k : Int) + 1 := by omega
    have hkn : ((k : Int) + 1).toNat = k + 1 := by omega
    have HSF := Lib.hid hsf
    clear hsf hY h0
    go_enter Try.func10, Try.ntmps10
    go_wp2_with fail
    refine (pickP_at _ _ k _ (by omega) (by omega) HK).mono ?_
    rintro e w1 ⟨rfl, rfl⟩
    go_wp2_with fail
    refine (pickP_at _ _ y _ (by omega) (by omega) HY).mono ?_
    rintro e w1 ⟨rfl, rfl⟩
    go_upto_region 5 with (fail)
    go_region_with (fail)
    all_goals
      generalize hT : (s.extract 0 k ++ Y ++ s.extract (k + 1) s.size) = T
      have hTs : T.size ≤ maxLen := by
        rw [← hT, ByteArray.size_append, ByteArray.size_append, ByteArray.size_extract, ByteArray.size_extract]; unfold maxLen; omega
      rw [hT] at HSF
      have HTs := Lib.hid hTs
      have HS : Hid (s.size ≤ maxLen) := by unfold Hid maxLen; omega
      obtain ⟨X, hX⟩ : ∃ X, sumS s = X := ⟨_, rfl⟩
      obtain ⟨hx0, hx1⟩ := sumS_bd s
      rw [hX] at hx0 hx1
      have hsf := HSF.out
      rw [hX] at hsf
      have HX := Lib.hid hX
      have HB := Lib.hid (pk_below_drewN ((Below.refl w.heap.size w).alloc (Nat.le_refl _) (.cells #[.int .u8 y] 5)) 1)
      clear hT hTs hX HSF hcv hcv2 hYs
      by_cases hyc : y = c
      · have HXT : Hid (sumS T = X) := (hsf.2 hyc).symm
        have hb : (y == c) = true := by simp [hyc]
        clear hsf hyc
        go_wp2_with fail
        refine (sum_any s X _ HS.out HX).mono ?_
        rintro e w2 ⟨rfl, rfl⟩
        go_upto_region 7 with (fail)
        go_region_held3 (fun _ => True) (first | trivial | go_keep) (first
          | (go_at_call 11; (with_reducible refine (awake_any _).mono ?_); rintro e w5 ⟨rfl, hb5⟩)
          | (go_at_call 20; (with_reducible refine (sum_any T X _ HTs.out HXT).mono ?_); rintro e w6 ⟨rfl, rfl⟩))
        all_goals
          go_wp2
          go_ret
          exact ⟨rfl, (pk_below_drewN HB.out 1).trans (hb5.mono HB.out.size)⟩
      · obtain ⟨XT, hXT⟩ : ∃ XT, sumS T = XT := ⟨_, rfl⟩
        rw [hXT] at hsf
        have HXT := Lib.hid hXT
        have hb : (y == c) = false := by simp [hyc]
        have hb2 : (X == XT) = false := by rw [beq_eq_false_iff_ne]; exact fun h => hyc (hsf.1 h)
        clear hsf hyc hXT
        go_wp2_with fail
        refine (sum_any s X _ HS.out HX).mono ?_
        rintro e w2 ⟨rfl, rfl⟩
        go_upto_region 7 with (fail)
        go_region_held3 (fun _ => True) (first | trivial | go_keep) (first
          | (go_at_call 11; (with_reducible refine (awake_any _).mono ?_); rintro e w5 ⟨rfl, hb5⟩)
          | (go_at_call 20; (with_reducible refine (sum_any T XT _ HTs.out HXT).mono ?_); rintro e w6 ⟨rfl, rfl⟩))
        all_goals
          go_wp2
          go_ret
          exact ⟨rfl, (pk_below_drewN HB.out 1).trans (hb5.mono HB.out.size)⟩

end Go.Proofs.Ytimabgaobhfiaaa.packedSumW
