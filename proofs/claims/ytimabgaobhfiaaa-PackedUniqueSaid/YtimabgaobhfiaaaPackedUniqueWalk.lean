/-
  The walk of PackedUnique.
-/
import Derived.Test.YtimabgaobhfiaaaPakLaw
import Derived.Deep.RegionHeld3
namespace Go.Proofs.Ytimabgaobhfiaaa.packedUniqueW
open Go.RowKit

theorem empty_append (b : ByteArray) : (⟨#[]⟩ : ByteArray) ++ b = b := by
  apply ByteArray.ext; simp

theorem nums_extract (b : ByteArray) (k : Nat) : nums (b.extract 0 k) = (nums b).take k := by
  simp [nums, List.map_take]

theorem nums_inj {a b : ByteArray} (h : nums a = nums b) : a = b := by
  rw [← strOf_nums a, ← strOf_nums b, h]

set_option maxRecDepth 100000 in
set_option maxHeartbeats 4000000 in
theorem walk (s : ByteArray) (a1 : Option Addr) (len1 cap1 : Nat) (z1 : List Int) (w : World) (w0 : s.size ≤ 140737488351232) (w1 : IsRow .u8 w a1 len1 cap1 z1) :
    Calls Try.prog 8 #[.string s, .slice a1 len1 cap1] w fun e w' => e = .returned (.bool true) ∧ Below w.heap.size w w' := by
  obtain ⟨xs, rfl, hxl, hxs, hwf⟩ := w1.inn
  simp only [IntKind.bits] at hxl
  have HX := Lib.hid hxs
  have HW := Lib.hid hwf
  clear hxs w1 hwf
  go_enter Try.func8, Try.ntmps8
  go_wp2
  go_loopw [5, 6] (fun t i wr => ∃ k : Nat, ∃ T : ByteArray, k ≤ 12 ∧ i = .int .i64 k ∧ t = .string T ∧ T.size ≤ k ∧ Hid (Below w.heap.size w wr)) (fun _ i _ => 12 - (intOf i).toNat)
  case atStart => exact ⟨0, ByteArray.empty, by omega, rfl, rfl, by simp, Below.refl _ _⟩
  case round =>
    obtain ⟨k, T, hk, rfl, rfl, hT, hbel⟩ := hrel
    by_cases hlt : k < xs.length ∧ k < 12
    · obtain ⟨hlt1, hlt2⟩ := hlt
      obtain ⟨b, off, rfl, hck⟩ := (HX.out.below hbel.out) k hlt1
      obtain ⟨y, hy⟩ : ∃ y, xs.getD k 0 = y := ⟨_, rfl⟩
      rw [hy] at hck
      have hcv := conv_lit wr #[.int .u8 y] [y] 1 rfl rfl
      have hYs : (strOfNums [y]).size ≤ 1 := by rw [strOfNums_size]; simp
      obtain ⟨Y, hY⟩ : ∃ Y, strOfNums [y] = Y := ⟨_, rfl⟩
      rw [hY] at hcv hYs
      have hTY : (T ++ Y).size ≤ k + 1 := by rw [ByteArray.size_append]; omega
      clear hy hY
      go_wp2
      go_roundw
      case rel => exact ⟨k + 1, T ++ Y, by omega, by go_num, rfl, hTY, hbel.out.alloc hbel.out.size _⟩
      case measure => simp [intOf]; omega
    · have hout : xs.length ≤ k ∨ (k < xs.length ∧ 12 ≤ k) := by omega
      have hTT : (T ++ s).size = T.size + s.size := ByteArray.size_append
      have HM : Hid ((T ++ s).size ≤ maxLen) := by unfold Hid maxLen; omega
      obtain ⟨v, at', er, hg⟩ : ∃ v i er, getS (T ++ s) 0 = (v, i, er) := ⟨_, _, _, rfl⟩
      have HG := Lib.hid hg
      clear hlt hTT
      by_cases he : er = 0
      · subst he
        obtain ⟨h0, h1, h2⟩ := get_unique (T ++ s) v at' hg
        obtain ⟨n, rfl⟩ : ∃ n : Nat, at' = n := ⟨at'.toNat, by omega⟩
        rw [Int.toNat_natCast, ← nums_extract] at h2
        have hv : IsI v := getS_isI hg
        have hq := nums_inj h2
        rw [← empty_append (putB v)] at hq
        have HI := Lib.hid hv
        have HQ := Lib.hid hq
        have hd : ((0 : Int) != 0) = false := rfl
        have hn0 : decide (0 < n) = true := decide_eq_true (by omega)
        have hn0' : 0 < n := by omega
        have L3 : Hid ((⟨#[]⟩ : ByteArray).size ≤ 140737490452000) := by unfold Hid; decide +kernel
        clear hg h2 hv hq
        obtain ⟨TT, hTT⟩ : ∃ TT, T ++ s = TT := ⟨_, rfl⟩
        rw [hTT] at HG HQ HM h1
        have hn1 : n ≤ TT.size := by omega
        rcases hout with ho | ⟨ho, ho2⟩
        all_goals
          go_wp2_with fail
          refine (getInt_any TT 0 v n 0 _ HM.out HG).mono ?_
          rintro e w3 ⟨rfl, m3, rfl⟩
          have HB3 := Lib.hid (pk_below_drewN hbel.out m3)
          generalize wr.drewN m3 = W at HB3 ⊢
          clear hTT
          go_wp2
          go_region_held3 (fun _ => True) (first | trivial | go_keep) (first
            | (go_at_call 11; (with_reducible refine (awake_any _).mono ?_); rintro e w5 ⟨rfl, hb5⟩)
            | (go_at_call 18; (with_reducible refine (putInt_any _ (TT.extract 0 n) v _ L3.out HI.out HQ).mono ?_); rintro e w6 ⟨rfl, hb6⟩))
          have hB5 := (pk_below_drewN HB3.out 1).trans (hb5.mono HB3.out.size)
          have hB6 := hB5.trans (hb6.mono hB5.size)
          go_wp2
          go_ret
          exact ⟨rfl, hB6⟩
      · have hge : getS (T ++ s) 0 = (0, 0, 5) ∨ getS (T ++ s) 0 = (0, 0, 4) := get_err (T ++ s) 0 (by rw [hg]; exact he) (by omega) (by omega)
        have hcase : v = 0 ∧ at' = 0 ∧ ((er == 5) = true ∨ ((er == 5) = false ∧ (er == 4) = true)) := by
          rcases hge with h | h
          · rw [hg] at h
            injection h with e1 e2
            injection e2 with e2 e3
            exact ⟨e1, e2, .inl (by simp [e3])⟩
          · rw [hg] at h
            injection h with e1 e2
            injection e2 with e2 e3
            exact ⟨e1, e2, .inr ⟨by simp [e3], by simp [e3]⟩⟩
        obtain ⟨rfl, rfl, hc⟩ := hcase
        have hd : (er != 0) = true := by simp [he]
        clear hg hge he
        obtain ⟨TT, hTT⟩ : ∃ TT, T ++ s = TT := ⟨_, rfl⟩
        rw [hTT] at HG HM
        rcases hout with ho | ⟨ho, ho2⟩ <;> rcases hc with hc | ⟨hc, hc2⟩
        all_goals
          go_wp2_with fail
          refine (getInt_any TT 0 0 0 er _ HM.out HG).mono ?_
          rintro e w3 ⟨rfl, m3, rfl⟩
          have HB3 := Lib.hid (pk_below_drewN hbel.out m3)
          generalize wr.drewN m3 = W at HB3 ⊢
          go_wp2_with fail
          refine (awake_any _).mono ?_
          rintro e w5 ⟨rfl, hb5⟩
          have HB5 := Lib.hid (HB3.out.trans (hb5.mono HB3.out.size))
          clear hb5
          go_wp2
          go_ret
          exact ⟨rfl, HB5.out⟩

end Go.Proofs.Ytimabgaobhfiaaa.packedUniqueW
