/-
  The walk of PunyCase.
-/
import Derived.Test.YtaakdcelbnghoaaQPunCaseA
import Derived.Test.YtaakdcelbnghoaaPkG
import Derived.Laws.RangeString
import Derived.Deep.LoopGhost
set_option linter.unusedSimpArgs false
set_option linter.unusedVariables false
namespace Go.Proofs.Ytaakdcelbnghoaa.punyCaseW
open Go.RowKit

theorem pick_at (v n q : Int) (w : World) (h0 : 1 ≤ n) (h1 : n ≤ 1073741824) (hq : Hid (pickS v n = q)) :
    Calls Try.prog 15 #[.int .i64 v, .int .i64 n] w fun e w' => e = .returned (.int .i64 q) ∧ w = w' := hq.out ▸ pick_any v n w h0 h1

set_option maxRecDepth 100000 in
set_option maxHeartbeats 4000000 in
theorem walk (a0 : Option Addr) (len0 cap0 : Nat) (z0 : List Int) (at_ : Int) (w : World) (w0 : IsRow .i64 w a0 len0 cap0 z0) (_ : (Lit.int .i64 at_).wf = true) :
    Calls Try.prog 9 #[.slice a0 len0 cap0, .int .i64 at_] w fun e w' => e = .returned (.bool true) ∧ Below w.heap.size w w' := by
  obtain ⟨zs, hlen, hzl, hzs, _⟩ := w0.inn
  simp only [IntKind.bits] at hzl
  have HZ := Lib.hid hzs
  have HL0 : Hid (zs.length = len0) := hlen.symm
  have hb0 : len0 ≤ 17592186043904 := by omega
  obtain ⟨xs, hX⟩ : ∃ xs, ptsF zs = xs := ⟨_, rfl⟩
  have hl11 : xs.length ≤ 11 := by rw [← hX]; exact ptsF_len zs
  have hsc : xs.all scpB = true := by rw [← hX]; exact ptsF_sc zs
  obtain ⟨X, S, HE, HS, hXl, HD⟩ := encP_ok hsc hl11
  obtain ⟨n, hn⟩ : ∃ n, xs.length = n := ⟨_, rfl⟩
  obtain ⟨m, hm⟩ : ∃ m, S.size = m := ⟨_, rfl⟩
  have hnS : nums S = X := by rw [← HS.out]; exact nums_of X (scp_int HE.out)
  have hXm : X.length = m := by rw [← hm, ← HS.out, strOfNums_size]
  have hm2 : m ≤ 2048 := by omega
  have hn11 : n ≤ 11 := by omega
  have HXM := Lib.hid hXm
  have HBY := Lib.hid (scp_int HE.out)
  have HAS : Hid (∀ j (h : j < S.size), (S[j].toNat : Int) = X.getD j 0 ∧ S[j].toNat < 128) := by
    intro j h
    have e := nums_getC S j h
    rw [hnS] at e
    have hj : j < X.length := by omega
    have e2 : X.getD j 0 = X[j] := by simp [hj]
    have := enc_ascii HE.out _ (List.getElem_mem hj)
    exact ⟨e.symm, by rw [← e2, e] at this; omega⟩
  have HX := Lib.hid hX
  have HL := Lib.hid hn
  have HNS := Lib.hid hnS
  clear hX hsc hXl hl11 hzs hlen hzl w0 hnS hXm hn
  go_enter Try.func9, Try.ntmps9
  go_wp2_with fail
  refine (pts_at a0 len0 cap0 zs xs _ HZ.out HL0 hb0 HX).mono ?_
  rintro e w1 ⟨p1, c1, rfl, hi1, hc1, hb1⟩
  rw [HL.out] at hc1
  rw [HL.out]
  have HI1 := Lib.hid hi1
  have HB1 := Lib.hid hb1
  clear hi1 hb1 HZ
  go_wp2_with fail
  refine (rencode_at p1 n c1 xs X 0 S _ HI1.out HL (by omega) HE HS).mono ?_
  rintro e w2 ⟨rfl, hb2⟩
  have HI2 := Lib.hid (HI1.out.below hb2)
  have HB2 := Lib.hid (HB1.out.trans (hb2.mono HB1.out.size))
  clear hb2 HI1 HB1 HE HS
  go_wp2
  go_loopg [8] m (fun g vk wr => ∃ (j kj : Nat), g + j = m ∧ vk = .int .i64 kj ∧ kj ≤ j ∧ Hid (lastH X j = kj) ∧ wr = w2.iter S j)
  case atStart => exact ⟨0, 0, by omega, rfl, Nat.le_refl _, rfl, rfl⟩
  case round =>
    obtain ⟨j, kj, hgj, rfl, hkj, hlast, rfl⟩ := hrel
    by_cases hlt : j < m
    · have hjs : j < S.size := by omega
      obtain ⟨ha1, ha2⟩ := HAS.out j hjs
      have hnx := fun ty => run_next_ascii (P := Try.prog) w2 S j ty hjs ha2
      by_cases hc : X.getD j 0 = 45
      · have HL2 : Hid (lastH X (j + 1) = j + 1) := by unfold Hid; rw [lastH, if_pos hc]
        rw [hc] at ha1
        clear hc
        go_wp2
        go_roundg (m - (j + 1))
        case measure => omega
        case rel => exact ⟨j + 1, j + 1, by omega, by go_num, Nat.le_refl _, HL2, rfl⟩
      · have HL2 : Hid (lastH X (j + 1) = kj) := by unfold Hid; rw [lastH, if_neg hc]; exact hlast.out
        obtain ⟨c, hcc⟩ : ∃ c, X.getD j 0 = c := ⟨_, rfl⟩
        rw [hcc] at ha1 hc
        clear hcc
        go_wp2
        go_roundg (m - (j + 1))
        case measure => omega
        case rel => exact ⟨j + 1, kj, by omega, rfl, by omega, HL2, rfl⟩
    · obtain rfl : j = m := by omega
      have hnx := fun ty => run_next_end (P := Try.prog) w2 S j ty (by omega)
      have HBW : Hid (Below w.heap.size w (w2.iter S j)) := HB2.out.alloc HB2.out.size _
      have HIW : Hid (IntsIn (w2.iter S j) p1 xs) := HI2.out.below ((Below.refl _ _).alloc (Nat.le_refl _) _)
      clear HB2 HI2
      generalize w2.iter S j = Wi at hnx HBW HIW ⊢
      obtain ⟨vb, W1, hcv, hob, hbb⟩ := conv_bytes_own Wi S (by unfold maxLen; omega)
      obtain ⟨gb, cb, rfl, hBg, _, _⟩ := hob.bytes
      rw [HNS.out] at hob hcv
      rw [HXM.out] at hob hcv
      have HOB := Lib.hid hob
      have HBB := Lib.hid hbb
      have HC0 : Hid (CapR kj X X) := ⟨rfl, fun i _ => .inl rfl⟩

      have HKK : Hid (∀ i, kj ≤ i → i < X.length → X.getD i 0 ≠ 45) := by
        intro i h1 h2
        exact lastH_no X j i (by rw [hlast.out]; exact h1) (by rw [← HXM.out]; exact h2)
      clear hob hbb hlast
      go_wp2
      go_loopw [11] (fun u wx => ∃ (t : Nat) (Y : List Int), u = .int .i64 t ∧ kj ≤ t ∧ t ≤ j ∧ Hid (CapR kj X Y) ∧ Hid (∀ i, t ≤ i → Y.getD i 0 = X.getD i 0) ∧ Hid (OwnB wx Wi.heap.size (.slice (some ⟨gb, 0, none⟩) j cb) Y) ∧ Hid (Below Wi.heap.size Wi wx)) (fun u _ => j - (intOf u).toNat)
      case atStart => exact ⟨kj, X, rfl, Nat.le_refl _, hkj, HC0, (by unfold Hid; intros; rfl), HOB, HBB⟩
      case round =>
        clear HC0 HOB HBB hcv hnx
        obtain ⟨t, Y, rfl, hk1, hk2, hcap, heq, hob, hbe⟩ := hrel
        have hYl : Y.length = j := by rw [hcap.out.1, HXM.out]
        by_cases hlt2 : t < j
        · obtain ⟨g', cap', e, hBg', hcell, hfr, hset⟩ := hob.out.setb (k := t) (by omega)
          have e1 : gb = g' ∧ cb = cap' := by
            have e' : gb = g' ∧ j = Y.length ∧ cb = cap' := by simpa using e
            exact ⟨e'.1, e'.2.2⟩
          obtain ⟨rfl, rfl⟩ := e1
          rw [heq.out t (Nat.le_refl _)] at hcell
          obtain ⟨c, hcc⟩ : ∃ c, X.getD t 0 = c := ⟨_, rfl⟩
          rw [hcc] at hcell
          have HCC := Lib.hid hcc
          have HEQ2 : Hid (∀ i, t + 1 ≤ i → Y.getD i 0 = X.getD i 0) := fun i hi => heq.out i (by omega)
          have hcs : c < 97 ∨ 122 < c ∨ (97 ≤ c ∧ c ≤ 122) := by omega
          have hset2 := hset (c - 32)
          rw [hYl] at hset2
          have HSET := Lib.hid hset2
          have HBS := Lib.hid (hbe.out.setCell (p := ⟨gb, t, none⟩) hBg (.int .u8 (c - 32)))
          have HCAP2 : Hid ((97 ≤ c ∧ c ≤ 122) → CapR kj X (Y.set t (c - 32))) := by
            rintro ⟨h1, h2⟩
            have := capR_set hcap.out hk1 (by rw [hcc]; exact h1) (by rw [hcc]; exact h2)
            rwa [hcc] at this
          have HEQ3 : Hid (∀ i, t + 1 ≤ i → (Y.set t (c - 32)).getD i 0 = X.getD i 0) := by
            intro i hi
            rw [List.getD_eq_getElem?_getD, List.getElem?_set_ne (by omega), ← List.getD_eq_getElem?_getD]
            exact heq.out i (by omega)
          clear hcc hset hset2 e heq hYl
          rcases hcs with h1 | h1 | ⟨h1, h2⟩
          · go_wp2
            go_roundw
            case rel => exact ⟨t + 1, Y, by go_num, by omega, by omega, hcap, HEQ2, hob, hbe⟩
            case measure => simp [intOf]; omega
          · go_wp2
            go_roundw
            case rel => exact ⟨t + 1, Y, by go_num, by omega, by omega, hcap, HEQ2, hob, hbe⟩
            case measure => simp [intOf]; omega
          · obtain ⟨V, hV⟩ : ∃ V, IntKind.i64.wrap (at_ + (t : Int)) = V := ⟨_, rfl⟩
            obtain ⟨z, HZ, hz0, hz1⟩ : ∃ z, Hid (pickS V 2 = z) ∧ 0 ≤ z ∧ z < 2 := ⟨_, rfl, pickS_bd _ _ (by omega)⟩
            have hw8 : IntKind.u8.wrap (c - 32) = c - 32 := by rw [IntKind.wrap_u8]; omega
            have HCAP3 : Hid (CapR kj X (Y.set t (c - 32))) := HCAP2.out ⟨h1, h2⟩
            clear HCAP2
            have hz2 : z = 0 ∨ z = 1 := by omega
            clear hz0 hz1
            rcases hz2 with rfl | rfl
            · go_wp2_with (go_at_call 15; refine (pick_at V 2 0 _ (by omega) (by omega) HZ).mono ?_; rintro e w' ⟨rfl, rfl⟩)
              go_roundw
              case rel => exact ⟨t + 1, _, by go_num, by omega, by omega, HCAP3, HEQ3, HSET, HBS⟩
              case measure => simp [intOf]; omega
            · go_wp2_with (go_at_call 15; refine (pick_at V 2 1 _ (by omega) (by omega) HZ).mono ?_; rintro e w' ⟨rfl, rfl⟩)
              go_roundw
              case rel => exact ⟨t + 1, Y, by go_num, by omega, by omega, hcap, HEQ2, hob, hbe⟩
              case measure => simp [intOf]; omega
        · have htj : j ≤ t := by omega
          have hcv2 := conv_ownB hob.out
          obtain ⟨R, hR⟩ : ∃ R, strOfNums Y = R := ⟨_, rfl⟩
          rw [hR] at hcv2
          have hRs : R.size ≤ 2048 := by rw [← hR, strOfNums_size]; omega
          have HDR : Hid (decP (nums R) = (xs, 0)) := by
            unfold Hid
            rw [← hR, nums_of Y (capR_byte hcap.out HBY.out), capR_dec hcap.out HKK.out]
            exact HD.out
          have HBE : Hid (Below w.heap.size w _) := HBW.out.trans (hbe.out.mono HBW.out.size)
          have HIE := Lib.hid (HIW.out.below hbe.out)
          clear hR hob hcap heq hbe
          go_wp2_with fail
          refine (pdecode_at R xs 0 _ (by omega) HDR).mono ?_
          rintro e w5 ⟨v5, rfl, hi5, hb5⟩
          obtain ⟨p5, c5, rfl, hin5⟩ := hi5.inn
          have HI5 := Lib.hid hin5
          have HI6 := Lib.hid (HIE.out.below hb5)
          have HB5 := Lib.hid (HBE.out.trans (hb5.mono HBE.out.size))
          clear hi5 hin5 hb5 HIE HBE
          go_wp2_with fail
          refine (awake10_any _).mono ?_
          rintro e w6 ⟨rfl, hb6⟩
          have HI7 := Lib.hid (HI5.out.below hb6)
          have HI8 := Lib.hid (HI6.out.below hb6)
          have HB6 := Lib.hid (HB5.out.trans (hb6.mono HB5.out.size))
          clear hb6 HI5 HI6 HB5
          go_wp2_with fail
          refine (same10_at _ _ _ _ _ _ xs _ HI7.out HI8.out (by rw [HL.out]; unfold maxLen; omega) rfl HL.out).mono ?_
          rintro e w7 ⟨rfl, hb7⟩
          have HB7 := Lib.hid (HB6.out.trans (hb7.mono HB6.out.size))
          clear hb7
          go_wp2
          go_ret
          exact ⟨rfl, HB7.out⟩

end Go.Proofs.Ytaakdcelbnghoaa.punyCaseW
