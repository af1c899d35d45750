/-
  The walk of AlabelUnique.
-/
import Derived.Test.YtmnnpfohjffniaaPkZZF
import Derived.OpenShut
set_option linter.unusedSimpArgs false
set_option linter.unusedVariables false
namespace Go.Proofs.Ytmnnpfohjffniaa.alabelUniqueW
open Go.RowKit

theorem apick_at (v n q : Int) (w : World) (h0 : 1 ≤ n) (h1 : n ≤ 1073741824) (hq : Hid (pickS v n = q)) :
    Calls Try.prog 9 #[.int .i64 v, .int .i64 n] w fun e w' => e = .returned (.int .i64 q) ∧ w = w' := hq.out ▸ pick_any v n w h0 h1

def frL (q : Nat) : ByteArray := if q = 0 then ByteArray.mk #[120, 110, 45, 45] else ByteArray.mk #[88, 78, 45, 45]
theorem isX_fr (q : Nat) (T : ByteArray) : isX (nums (frL q ++ T)) = true := by
  have h : lowS (nums (frL q)) = xnS ∧ (nums (frL q)).length = 4 := by
    unfold frL; split
    · constructor <;> decide +kernel
    · constructor <;> decide +kernel
  unfold isX
  rw [nums_append, List.take_left' h.2, h.1, List.length_append, h.2]
  simp

set_option maxRecDepth 100000 in
set_option maxHeartbeats 4000000 in
theorem walk (a0 : Option Addr) (len0 cap0 : Nat) (z0 : List Int) (a1 : Int) (w : World) (w0 : IsRow .u8 w a0 len0 cap0 z0) (w1 : (Lit.int .i64 a1).wf = true) :
    Calls Try.prog 5 #[.slice a0 len0 cap0, .int .i64 a1] w fun e w' => e = .returned (.bool true) ∧ Below w.heap.size w w' := by
  obtain ⟨xs, rfl, hxl, hxs, hwf⟩ := w0.inn
  simp only [IntKind.bits] at hxl
  have HX := Lib.hid hxs
  have HW := Lib.hid hwf
  obtain ⟨q0, HQ0, hq00, hq01⟩ : ∃ q : Nat, Hid (pickS a1 2 = (q : Int)) ∧ 0 ≤ q ∧ q < 2 := by
    obtain ⟨h0, h1⟩ := pickS_bd a1 2 (by omega)
    exact ⟨(pickS a1 2).toNat, by unfold Hid; omega, by omega, by omega⟩
  clear hxs w0 hwf w1
  go_enter Try.func5, Try.ntmps5
  go_wp2
  go_loopw [5, 6] (fun t i wr => ∃ k : Nat, ∃ T : ByteArray, k ≤ 40 ∧ i = .int .i64 k ∧ t = .string T ∧ T.size ≤ k ∧ Hid (Below w.heap.size w wr)) (fun _ i _ => 40 - (intOf i).toNat)
  case atStart => exact ⟨0, ByteArray.empty, by omega, rfl, rfl, by simp, Below.refl _ _⟩
  case round =>
    obtain ⟨k, T, hk, rfl, rfl, hT, hbel⟩ := hrel
    by_cases hlt : k < xs.length ∧ k < 40
    · obtain ⟨hlt1, hlt2⟩ := hlt
      obtain ⟨b, off, rfl, hck⟩ := (HX.out.below hbel.out) k hlt1
      have hx := bounds_u8 (HW.out _ (List.getElem_mem hlt1))
      obtain ⟨x, hxx⟩ : ∃ x, xs.getD k 0 = x := ⟨_, rfl⟩
      have hxe : x = xs[k] := by rw [← hxx]; simp [hlt1]
      rw [← hxe] at hx
      obtain ⟨hx0, hx1⟩ := hx
      clear hxe
      rw [hxx] at hck
      obtain ⟨q, hq⟩ : ∃ q : Nat, x % 21 = (q : Int) := ⟨(x % 21).toNat, by omega⟩
      have hq1 : q < 21 := by omega
      obtain ⟨X, hX⟩ : ∃ X, (ByteArray.mk #[97, 98, 107, 122, 48, 57, 45, 65, 90, 121, 120, 57, 45, 97, 97, 97, 98, 99, 100, 101, 102]).extract q (q + 1) = X := ⟨_, rfl⟩
      have hXs : X.size ≤ 1 := by rw [← hX, ByteArray.size_extract]; omega
      have hsz : (T ++ X).size ≤ k + 1 := by rw [ByteArray.size_append]; omega
      have HS := Lib.hid hsz
      clear hsz hxx
      go_upto_region 5 with (fail)
      go_quiet (fail)
      go_wp2
      go_roundw
      case rel => exact ⟨k + 1, T ++ X, by omega, by go_num, rfl, HS.out, below_drewN hbel.out _⟩
      case measure => simp [intOf]; omega
    · have hout : xs.length ≤ k ∨ (k < xs.length ∧ 40 ≤ k) := by omega
      clear hlt
      obtain ⟨F, hF⟩ : ∃ F, frL q0 = F := ⟨_, rfl⟩
      have hFs : F.size = 4 := by rw [← hF]; unfold frL; split <;> rfl
      obtain ⟨s, hs⟩ : ∃ s, F ++ T = s := ⟨_, rfl⟩
      have hss : s.size ≤ 44 := by rw [← hs, ByteArray.size_append]; omega
      have hsX : isX (nums s) = true := by rw [← hs, ← hF]; exact isX_fr q0 T
      obtain ⟨out, er, hE⟩ : ∃ out er, ptsS (nums s) = (out, er) := ⟨_, _, rfl⟩
      have hcase : (er = 0 ∧ labS out = (lowS (nums s), 0) ∧ ascQ out = false) ∨ (er ≠ 0 ∧ out = []) := by
        by_cases h : er = 0
        · subst h
          obtain ⟨h1, h2⟩ := ala_uniq hsX hE
          exact .inl ⟨rfl, h1, h2⟩
        · have := ptsS_err (s := nums s) (by rw [hE]; exact h)
          rw [hE] at this
          exact .inr ⟨h, this⟩
      have hlit : ∀ W : World, (W.alloc (.cells #[.string (ByteArray.mk #[120, 110, 45, 45]), .string (ByteArray.mk #[88, 78, 45, 45])] 9)).cell? ⟨W.heap.size, q0, none⟩ = some (.string F) := by
        intro W
        rw [World.cell?_alloc_new, ← hF]
        rcases (show q0 = 0 ∨ q0 = 1 by omega) with rfl | rfl
        · rfl
        · rfl
      have hl1 := hlit wr
      have HE := Lib.hid hE
      have HSS := Lib.hid hs
      obtain ⟨u, hu⟩ : ∃ u, lowB s = u := ⟨_, rfl⟩
      have HU := Lib.hid hu
      have HUS : Hid (strOfNums (lowS (nums s)) = u) := hu
      have hqu : (u.toList == u.toList) = true := by simp
      have HB := Lib.hid (hbel.out.alloc hbel.out.size (.cells #[.string (ByteArray.mk #[120, 110, 45, 45]), .string (ByteArray.mk #[88, 78, 45, 45])] 9))
      have HOL : Hid (out.length ≤ 2048) := by
        unfold Hid
        rcases hcase with ⟨rfl, h1, h2⟩ | ⟨_, rfl⟩
        · have h3 := HE.out
          unfold ptsS at h3
          split at h3
          · injection h3 with h3 _; rw [← h3]; simp
          · split at h3
            · injection h3 with h3 _; rw [← h3]; simp
            · split at h3
              · injection h3 with h3 _; rw [← h3]; simp
              · rw [if_neg (by rw [hsX]; simp)] at h3
                unfold ptsX at h3
                split at h3
                · injection h3 with h3 _; rw [← h3]; simp
                · split at h3
                  · injection h3 with h3 _; rw [← h3]; simp
                  · injection h3 with h3 _
                    rw [← h3]
                    exact (decP_out (Prod.ext rfl rfl : decP (lowS ((nums s).drop 4)) = (_, _))).1
        · simp
      clear hE hbel hF hs hu hlit hsX
      rcases hout with ho | ⟨ho, ho2⟩
      all_goals
        go_wp2_with (go_at_call 9; refine (apick_at a1 2 q0 _ (by omega) (by omega) HQ0).mono ?_; rintro e w2 ⟨rfl, rfl⟩)
        go_wp2_with fail
        rw [HSS.out]
        refine (adecode_at s out er _ (by omega) HE).mono ?_
        rintro e w2 ⟨v2, rfl, hi2, hb2⟩
        have HB2 := Lib.hid (HB.out.trans (hb2.mono HB.out.size))
        obtain ⟨p2, c2, rfl, hin2, hc2⟩ := ints_capA hi2
        have HI2 := Lib.hid hin2
        clear hb2 hi2 hin2
        rcases hcase with ⟨rfl, h1, h2⟩ | ⟨hne, rfl⟩
        · have HN := Lib.hid h1
          have HA := Lib.hid h2
          obtain ⟨n, hn⟩ : ∃ n, out.length = n := ⟨_, rfl⟩
          have HL := Lib.hid hn
          have hnl := HOL.out
          rw [hn] at hc2 hnl
          rw [hn]
          clear h1 hn h2
          go_wp2_with fail
          refine (alab_at p2 n c2 out (lowS (nums s)) 0 u _ HI2.out HL hc2 (by omega) HN HUS).mono ?_
          rintro e w3 ⟨rfl, hb3⟩
          replace HB2 := Lib.hid (HB2.out.trans (hb3.mono HB2.out.size))
          replace HI2 := Lib.hid (HI2.out.below hb3)
          clear hb3
          go_wp2_with fail
          refine (awake11_any _).mono ?_
          rintro e w4 ⟨rfl, hb4⟩
          replace HB2 := Lib.hid (HB2.out.trans (hb4.mono HB2.out.size))
          replace HI2 := Lib.hid (HI2.out.below hb4)
          clear hb4
          go_wp2_with fail
          refine (rlower_at s u _ (by omega) HU).mono ?_
          rintro e w5 ⟨rfl, hb5⟩
          replace HB2 := Lib.hid (HB2.out.trans (hb5.mono HB2.out.size))
          replace HI2 := Lib.hid (HI2.out.below hb5)
          clear hb5
          go_wp2_with fail
          refine (rascii_at p2 n c2 out false _ HI2.out HL (by omega) HA).mono ?_
          rintro e w6 ⟨rfl, rfl⟩
          go_wp2
          go_ret
          exact ⟨rfl, HB2.out⟩
        · have d1 : (er != 0) = true := by simp [hne]
          clear hne
          go_wp2_with fail
          refine (awake11_any _).mono ?_
          rintro e w4 ⟨rfl, hb4⟩
          replace HB2 := Lib.hid (HB2.out.trans (hb4.mono HB2.out.size))
          clear hb4
          go_wp2
          go_ret
          exact ⟨rfl, HB2.out⟩

end Go.Proofs.Ytmnnpfohjffniaa.alabelUniqueW
