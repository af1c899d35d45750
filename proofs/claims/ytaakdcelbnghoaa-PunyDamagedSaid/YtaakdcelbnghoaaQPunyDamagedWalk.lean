/-
  The walk of PunyDamaged.
-/
import Derived.Test.YtaakdcelbnghoaaQPunEnv
import Derived.Test.YtaakdcelbnghoaaPkG
import Derived.Deep.RegionWith
set_option linter.unusedSimpArgs false
set_option linter.unusedVariables false
namespace Go.Proofs.Ytaakdcelbnghoaa.punyDamagedW
open Go.RowKit

theorem pick_at (v n q : Int) (w : World) (h0 : 1 ≤ n) (h1 : n ≤ 1073741824) (hq : Hid (pickS v n = q)) :
    Calls Try.prog 15 #[.int .i64 v, .int .i64 n] w fun e w' => e = .returned (.int .i64 q) ∧ w = w' := hq.out ▸ pick_any v n w h0 h1

theorem ByteArray_toList_len (S : ByteArray) : S.toList.length = S.size := by rw [ByteArray.toList_eq, Array.length_toList]; rfl

set_option maxRecDepth 100000 in
set_option maxHeartbeats 8000000 in
theorem walk (a0 : Option Addr) (len0 cap0 : Nat) (z0 : List Int) (at_ v : Int) (w : World) (w0 : IsRow .i64 w a0 len0 cap0 z0) (_ : (Lit.int .i64 at_).wf = true) (_ : (Lit.int .i64 v).wf = true) :
    Calls Try.prog 4 #[.slice a0 len0 cap0, .int .i64 at_, .int .i64 v] w fun e w' => e = .returned (.bool true) ∧ Below w.heap.size w w' := by
  obtain ⟨zs, hlen, hzl, hzs, _⟩ := w0.inn
  simp only [IntKind.bits] at hzl
  have HZ := Lib.hid hzs
  have HL0 : Hid (zs.length = len0) := hlen.symm
  have hb0 : len0 ≤ 17592186043904 := by omega
  obtain ⟨xs, hX⟩ : ∃ xs, ptsF zs = xs := ⟨_, rfl⟩
  have hl11 : xs.length ≤ 11 := by rw [← hX]; exact ptsF_len zs
  have hsc : xs.all scpB = true := by rw [← hX]; exact ptsF_sc zs
  obtain ⟨X, S, HE, HS, hXl, HD⟩ := encP_ok hsc hl11
  have hSs : S.size ≤ 2048 := by rw [← HS.out, strOfNums_size]; exact hXl
  have HX := Lib.hid hX
  obtain ⟨n, hn⟩ : ∃ n, xs.length = n := ⟨_, rfl⟩
  have hn11 : n ≤ 11 := by omega
  have HL := Lib.hid hn
  obtain ⟨m, hm⟩ : ∃ m, S.size = m := ⟨_, rfl⟩
  clear hX hsc hXl HD hl11 hzs hlen hzl w0
  go_enter Try.func4, Try.ntmps4
  go_wp2_with fail
  refine (pts_at a0 len0 cap0 zs xs _ HZ.out HL0 hb0 HX).mono ?_
  rintro e w1 ⟨p1, c1, rfl, hi1, hc1, hb1⟩
  rw [hn]
  have HI1 := Lib.hid hi1
  have HB1 := Lib.hid hb1
  clear hi1 hb1 hc1 HZ
  go_wp2_with fail
  refine (rencode_at p1 n c1 xs X 0 S _ HI1.out HL (by omega) HE HS).mono ?_
  rintro e w2 ⟨rfl, hb2⟩
  have HB2 := Lib.hid (HB1.out.trans (hb2.mono HB1.out.size))
  clear hb2 HI1 HB1 HE HS HL hn
  by_cases h0 : m = 0
  · have hem : S.toList.isEmpty = true := by
      have : S.toList.length = 0 := by rw [ByteArray_toList_len]; omega
      rw [List.length_eq_zero_iff.1 this]; rfl
    go_wp2_with fail
    refine (awake10_any _).mono ?_
    rintro e w3 ⟨rfl, hb3⟩
    have HB3 := Lib.hid (HB2.out.trans (hb3.mono HB2.out.size))
    clear hb3
    go_wp2
    go_ret
    exact ⟨rfl, HB3.out⟩
  · have hem : S.toList.isEmpty = false := by
      have : S.toList.length = m := by rw [ByteArray_toList_len]; exact hm
      cases hl : S.toList with
      | nil => rw [hl] at this; simp at this; omega
      | cons _ _ => rfl
    obtain ⟨k, hk⟩ : ∃ k : Nat, pickS at_ m = k := ⟨(pickS at_ m).toNat, by have := pickS_bd at_ m (by omega); omega⟩
    have hkm : k < m := by have := pickS_bd at_ m (by omega); omega
    obtain ⟨q, hq⟩ : ∃ q : Nat, pickS v 10 = q := ⟨(pickS v 10).toNat, by have := pickS_bd v 10 (by omega); omega⟩
    have hq10 : q < 10 := by have := pickS_bd v 10 (by omega); omega
    have HK := Lib.hid hk
    have HQ := Lib.hid hq
    have HM := Lib.hid hm
    obtain ⟨C, hC⟩ : ∃ C, (ByteArray.mk #[97, 122, 48, 57, 45, 65, 90, 57, 127, 255]).extract q (q + 1) = C := ⟨_, rfl⟩
    have hCs : C.size ≤ 1 := by rw [← hC, ByteArray.size_extract]; omega
    clear hk hq
    go_wp2_with fail
    refine (pick_at _ _ k _ (by omega) (by omega) HK).mono ?_
    rintro e w' ⟨rfl, rfl⟩
    go_wp2_with fail
    refine (pick_at _ _ q _ (by omega) (by omega) HQ).mono ?_
    rintro e w' ⟨rfl, rfl⟩
    go_wp2_with fail
    refine (pick_at _ _ q _ (by omega) (by omega) HQ).mono ?_
    rintro e w' ⟨rfl, rfl⟩
    obtain ⟨K1, hK⟩ : ∃ K1, k + 1 = K1 := ⟨_, rfl⟩
    have i1 : (k : Int) + 1 = (K1 : Int) := by omega
    have wk1 : IntKind.i64.wrap (K1 : Int) = (K1 : Int) := IntWalk.i64_in _ (by omega)
    have hkm1 : k ≤ m := by omega
    have hK1m : K1 ≤ m := by omega
    clear hK
    have HBc : Hid (Below w.heap.size w w2.drew) := below_drewN HB2.out 1
    clear HB2
    go_upto_region 6 with (fail)
    refine wp_region_any (by kernel_rfl) ?_
    try (change wpAny _ _ _ _ _ _ _ (World.drew _))
    refine wpAny_ready (rs := [0]) (by kernel_rfl) (by simp) ?_
    refine AllReady.cons rfl (fun K hK => ?_) ?_
    rotate_left
    (focus exact AllReady.nil)
    go_simp
    go_wp2_with (go_at_call 14; refine (awake10_any _).mono ?_; rintro e w3 ⟨rfl, hb3⟩; replace HBc := Lib.hid (HBc.out.trans (hb3.mono HBc.out.size)); clear hb3)
    refine wpAny_take (i := 1) (v := ?_) rfl (by kernel_rfl) (by kernel_rfl) (by kernel_rfl) (fun _ _ _ h => h) (Or.inl ⟨by rfl, ?_⟩) ?_
    rotate_left
    (focus (intro wz; go_simp; first | done | with_reducible rfl | (rw [if_neg (by first | omega | (simp only [ByteArray.size_append, ByteArray.size_extract]; omega))])))
    go_simp
    refine wpAny_take (i := 2) (v := ?_) rfl (by kernel_rfl) (by kernel_rfl) (by kernel_rfl) (fun _ _ _ h => h) (Or.inl ⟨by rfl, ?_⟩) ?_
    rotate_left
    (focus (intro wz; go_simp; first | done | with_reducible rfl | (rw [if_neg (by first | omega | (simp only [ByteArray.size_append, ByteArray.size_extract]; omega))])))
    go_simp
    refine wpAny_take (i := 3) (v := ?_) rfl (by kernel_rfl) (by kernel_rfl) (by kernel_rfl) (fun _ _ _ h => h) (Or.inl ⟨by rfl, ?_⟩) ?_
    rotate_left
    (focus (intro wz; go_simp; first | done | with_reducible rfl | (rw [if_neg (by first | omega | (simp only [ByteArray.size_append, ByteArray.size_extract]; omega))])))
    go_simp
    refine wpAny_take (i := 4) (v := ?_) rfl (by kernel_rfl) (by kernel_rfl) (by kernel_rfl) (fun _ _ _ h => h) (Or.inl ⟨by rfl, ?_⟩) ?_
    rotate_left
    (focus (intro wz; go_simp; first | done | with_reducible rfl | (rw [if_neg (by first | omega | (simp only [ByteArray.size_append, ByteArray.size_extract]; omega))])))
    go_simp
    refine wpAny_take (i := 5) (v := ?_) rfl (by kernel_rfl) (by kernel_rfl) (by kernel_rfl) (fun _ _ _ h => h) (Or.inl ⟨by rfl, ?_⟩) ?_
    rotate_left
    (focus (intro wz; go_simp; first | done | with_reducible rfl | (rw [if_neg (by first | omega | (simp only [ByteArray.size_append, ByteArray.size_extract]; omega))])))
    go_simp
    refine wpAny_take (i := 6) (v := ?_) rfl (by kernel_rfl) (by kernel_rfl) (by kernel_rfl) (fun _ _ _ h => h) (Or.inl ⟨by rfl, ?_⟩) ?_
    rotate_left
    (focus (intro wz; go_simp; first | done | with_reducible rfl | (rw [if_neg (by first | omega | (simp only [ByteArray.size_append, ByteArray.size_extract]; omega))])))
    go_simp
    refine wpAny_take (i := 7) (v := ?_) rfl (by kernel_rfl) (by kernel_rfl) (by kernel_rfl) (fun _ _ _ h => h) (Or.inl ⟨by rfl, ?_⟩) ?_
    rotate_left
    (focus (intro wz; go_simp; first | done | with_reducible rfl | (rw [if_neg (by first | omega | (simp only [ByteArray.size_append, ByteArray.size_extract]; omega))])))
    go_simp
    refine wpAny_take (i := 8) (v := ?_) rfl (by kernel_rfl) (by kernel_rfl) (by kernel_rfl) (fun _ _ _ h => h) (Or.inl ⟨by rfl, ?_⟩) ?_
    rotate_left
    (focus (intro wz; go_simp; first | done | with_reducible rfl | (rw [if_neg (by first | omega | (simp only [ByteArray.size_append, ByteArray.size_extract]; omega))])))
    go_simp
    refine wpAny_take (i := 9) (v := ?_) rfl (by kernel_rfl) (by kernel_rfl) (by kernel_rfl) (fun _ _ _ h => h) (Or.inl ⟨by rfl, ?_⟩) ?_
    rotate_left
    (focus (intro wz; go_simp; first | done | with_reducible rfl | (rw [if_neg (by first | omega | (simp only [ByteArray.size_append, ByteArray.size_extract]; omega))])))
    go_simp
    refine wpAny_take (i := 10) (v := ?_) rfl (by kernel_rfl) (by kernel_rfl) (by kernel_rfl) (fun _ _ _ h => h) (Or.inl ⟨by rfl, ?_⟩) ?_
    rotate_left
    (focus (intro wz; go_simp; first | done | with_reducible rfl | (rw [if_neg (by first | omega | (simp only [ByteArray.size_append, ByteArray.size_extract]; omega))])))
    go_simp
    refine wpAny_take (i := 11) (v := ?_) rfl (by kernel_rfl) (by kernel_rfl) (by kernel_rfl) (fun _ _ _ h => h) (Or.inl ⟨by rfl, ?_⟩) ?_
    rotate_left
    (focus (intro wz; go_simp; first | done | with_reducible rfl | (rw [if_neg (by first | omega | (simp only [ByteArray.size_append, ByteArray.size_extract]; omega))])))
    go_simp
    refine wpAny_ready (rs := [12]) (by kernel_rfl) (by simp) ?_
    refine AllReady.cons rfl (fun K hK => ?_) ?_
    rotate_left
    (focus exact AllReady.nil)
    go_simp
    go_wp2_with (go_at_call 16; refine (agrees10_at _ _ (by simp only [ByteArray.size_append, ByteArray.size_extract]; omega)).mono ?_; rintro e w4 ⟨rfl, hb4⟩; replace HBc := Lib.hid (HBc.out.trans (hb4.mono HBc.out.size)); clear hb4)
    refine wpAny_take (i := 13) (v := ?_) rfl (by kernel_rfl) (by kernel_rfl) (by kernel_rfl) (fun _ _ _ h => h) (Or.inl ⟨by rfl, ?_⟩) ?_
    rotate_left
    (focus (intro wz; go_simp; first | done | with_reducible rfl | (rw [if_neg (by first | omega | (simp only [ByteArray.size_append, ByteArray.size_extract]; omega))])))
    go_simp
    refine wpAny_take (i := 14) (v := ?_) rfl (by kernel_rfl) (by kernel_rfl) (by kernel_rfl) (fun _ _ _ h => h) (Or.inl ⟨by rfl, ?_⟩) ?_
    rotate_left
    (focus (intro wz; go_simp; first | done | with_reducible rfl | (rw [if_neg (by first | omega | (simp only [ByteArray.size_append, ByteArray.size_extract]; omega))])))
    go_simp
    refine wpAny_take (i := 15) (v := ?_) rfl (by kernel_rfl) (by kernel_rfl) (by kernel_rfl) (fun _ _ _ h => h) (Or.inl ⟨by rfl, ?_⟩) ?_
    rotate_left
    (focus (intro wz; go_simp; first | done | with_reducible rfl | (rw [if_neg (by first | omega | (simp only [ByteArray.size_append, ByteArray.size_extract]; omega))])))
    go_simp
    refine wpAny_take (i := 16) (v := ?_) rfl (by kernel_rfl) (by kernel_rfl) (by kernel_rfl) (fun _ _ _ h => h) (Or.inl ⟨by rfl, ?_⟩) ?_
    rotate_left
    (focus (intro wz; go_simp; first | done | with_reducible rfl | (rw [if_neg (by first | omega | (simp only [ByteArray.size_append, ByteArray.size_extract]; omega))])))
    go_simp
    refine wpAny_take (i := 17) (v := ?_) rfl (by kernel_rfl) (by kernel_rfl) (by kernel_rfl) (fun _ _ _ h => h) (Or.inl ⟨by rfl, ?_⟩) ?_
    rotate_left
    (focus (intro wz; go_simp; first | done | with_reducible rfl | (rw [if_neg (by first | omega | (simp only [ByteArray.size_append, ByteArray.size_extract]; omega))])))
    go_simp
    refine wpAny_ready (rs := [18]) (by kernel_rfl) (by simp) ?_
    refine AllReady.cons rfl (fun K hK => ?_) ?_
    rotate_left
    (focus exact AllReady.nil)
    go_simp
    go_wp2_with (go_at_call 16; refine (agrees10_at _ _ (by simp only [ByteArray.size_append, ByteArray.size_extract]; omega)).mono ?_; rintro e w4 ⟨rfl, hb4⟩; replace HBc := Lib.hid (HBc.out.trans (hb4.mono HBc.out.size)); clear hb4)
    refine wpAny_take (i := 19) (v := ?_) rfl (by kernel_rfl) (by kernel_rfl) (by kernel_rfl) (fun _ _ _ h => h) (Or.inl ⟨by rfl, ?_⟩) ?_
    rotate_left
    (focus (intro wz; go_simp; first | done | with_reducible rfl | (rw [if_neg (by first | omega | (simp only [ByteArray.size_append, ByteArray.size_extract]; omega))])))
    go_simp
    refine wpAny_take (i := 20) (v := ?_) rfl (by kernel_rfl) (by kernel_rfl) (by kernel_rfl) (fun _ _ _ h => h) (Or.inl ⟨by rfl, ?_⟩) ?_
    rotate_left
    (focus (intro wz; go_simp; first | done | with_reducible rfl | (rw [if_neg (by first | omega | (simp only [ByteArray.size_append, ByteArray.size_extract]; omega))])))
    go_simp
    refine wpAny_take (i := 21) (v := ?_) rfl (by kernel_rfl) (by kernel_rfl) (by kernel_rfl) (fun _ _ _ h => h) (Or.inl ⟨by rfl, ?_⟩) ?_
    rotate_left
    (focus (intro wz; go_simp; first | done | with_reducible rfl | (rw [if_neg (by first | omega | (simp only [ByteArray.size_append, ByteArray.size_extract]; omega))])))
    go_simp
    refine wpAny_take (i := 22) (v := ?_) rfl (by kernel_rfl) (by kernel_rfl) (by kernel_rfl) (fun _ _ _ h => h) (Or.inl ⟨by rfl, ?_⟩) ?_
    rotate_left
    (focus (intro wz; go_simp; first | done | with_reducible rfl | (rw [if_neg (by first | omega | (simp only [ByteArray.size_append, ByteArray.size_extract]; omega))])))
    go_simp
    refine wpAny_take (i := 23) (v := ?_) rfl (by kernel_rfl) (by kernel_rfl) (by kernel_rfl) (fun _ _ _ h => h) (Or.inl ⟨by rfl, ?_⟩) ?_
    rotate_left
    (focus (intro wz; go_simp; first | done | with_reducible rfl | (rw [if_neg (by first | omega | (simp only [ByteArray.size_append, ByteArray.size_extract]; omega))])))
    go_simp
    refine wpAny_ready (rs := [24]) (by kernel_rfl) (by simp) ?_
    refine AllReady.cons rfl (fun K hK => ?_) ?_
    rotate_left
    (focus exact AllReady.nil)
    go_simp
    go_wp2_with (go_at_call 16; refine (agrees10_at _ _ (by simp only [ByteArray.size_append, ByteArray.size_extract]; omega)).mono ?_; rintro e w4 ⟨rfl, hb4⟩; replace HBc := Lib.hid (HBc.out.trans (hb4.mono HBc.out.size)); clear hb4)
    refine wpAny_take (i := 25) (v := ?_) rfl (by kernel_rfl) (by kernel_rfl) (by kernel_rfl) (fun _ _ _ h => h) (Or.inl ⟨by rfl, ?_⟩) ?_
    rotate_left
    (focus (intro wz; go_simp; first | done | with_reducible rfl | (rw [if_neg (by first | omega | (simp only [ByteArray.size_append, ByteArray.size_extract]; omega))])))
    go_simp
    refine wpAny_take (i := 26) (v := ?_) rfl (by kernel_rfl) (by kernel_rfl) (by kernel_rfl) (fun _ _ _ h => h) (Or.inl ⟨by rfl, ?_⟩) ?_
    rotate_left
    (focus (intro wz; go_simp; first | done | with_reducible rfl | (rw [if_neg (by first | omega | (simp only [ByteArray.size_append, ByteArray.size_extract]; omega))])))
    go_simp
    refine wpAny_done (by kernel_rfl) ?_ _
    go_wp2_with fail
    go_ret
    exact ⟨rfl, HBc.out⟩

end Go.Proofs.Ytaakdcelbnghoaa.punyDamagedW
