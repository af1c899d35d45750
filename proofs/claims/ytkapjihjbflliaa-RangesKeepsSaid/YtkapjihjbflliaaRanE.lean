/-
  ranges: interleave.
-/
import Derived.Test.YtkapjihjbflliaaRanD
namespace Go.Proofs.Ytkapjihjbflliaa
open Go.RowKit

theorem inter_app {a b : List Sp} {k nx : Nat} (hk : k < a.length) (hn : nx < b.length) (h : (b.getD nx sp0).1 < (a.getD k sp0).1) :
    interS (a.drop k) (b.drop nx) = b.getD nx sp0 :: interS (a.drop k) (b.drop (nx + 1)) := by
  rw [drop_cons_sp a k hk, drop_cons_sp b nx hn, inter_step h]

theorem inter_next {a b : List Sp} {k nx : Nat} (hk : k < a.length) (h : nx < b.length → (a.getD k sp0).1 ≤ (b.getD nx sp0).1) :
    interS (a.drop k) (b.drop nx) = a.getD k sp0 :: interS (a.drop (k + 1)) (b.drop nx) := by
  rw [drop_cons_sp a k hk, inter_stop]
  intro x r e
  by_cases hlt : nx < b.length
  · rw [drop_cons_sp b nx hlt] at e
    injection e with e1 _
    subst e1
    exact h hlt
  · rw [List.drop_of_length_le (by omega)] at e; cases e

theorem SpIn.dropAt {w : World} {b off : Nat} {l : List Sp} (h : SpIn w (some ⟨b, off, none⟩) l) (n : Nat) : SpIn w (some ⟨b, off + n * 3, none⟩) (l.drop n) := by
  intro k hk
  rw [List.length_drop] at hk
  obtain ⟨b', off', e, h1, h2, h3⟩ := h (n + k) (by omega)
  injection e with e
  injection e with e1 e2
  subst e1; subst e2
  have hd : (l.drop n).getD k sp0 = l.getD (n + k) sp0 := by simp [List.getD]
  refine ⟨b, off + n * 3, rfl, ?_, ?_, ?_⟩
  · rw [hd, ← h1, show off + n * 3 + k * 3 = off + (n + k) * 3 by omega]
  · rw [hd, ← h2, show off + n * 3 + k * 3 + 1 = off + (n + k) * 3 + 1 by omega]
  · rw [hd, ← h3, show off + n * 3 + k * 3 + 2 = off + (n + k) * 3 + 2 by omega]

set_option maxRecDepth 100000 in
set_option maxHeartbeats 4000000 in
theorem interleave_any (p q : Option Addr) (n m c d : Nat) (a b : List Sp) (w : World) (hl : a.length = n) (hm : b.length = m) (hd : m ≤ d) (hqd : q = none → d = 0) (hin : SpIn w p a) (hin2 : SpIn w q b) (hn : n ≤ 1114112) (hmm : m ≤ 1114112) (hU : (interS a b).length ≤ 4000000) :
    Calls Try.prog 43 #[.slice p n c, .slice q m d] w (OwnPost (interS a b) w) := by
  have hmk := run_make_spans (n + m) (by omega)
  simp only [Int.natCast_add] at hmk
  obtain ⟨U, hUe⟩ : ∃ U, interS a b = U := ⟨_, rfl⟩
  rw [hUe] at hU ⊢
  have HU := Lib.hid hU
  have HE : Hid ([] ++ interS (a.drop 0) (b.drop 0) = U) := hUe
  have HI := Lib.hid hin
  have HJ := Lib.hid hin2
  have HL := Lib.hid hl
  have HM := Lib.hid hm
  clear hin hin2 hl hm hU hUe
  go_enter Try.func43, Try.ntmps43
  go_wp2
  go_loopw [5, 6, 17] (fun v nxv i wr => ∃ (k nx : Nat) (P : List Sp), k ≤ n ∧ nx ≤ m ∧ i = .int .i64 k ∧ nxv = .int .i64 nx ∧ Hid (Spans wr w.heap.size v P) ∧ Hid (P ++ interS (a.drop k) (b.drop nx) = U) ∧ Hid (Below w.heap.size w wr)) (fun _ _ i _ => n - (intOf i).toNat)
  case atStart => exact ⟨0, 0, [], Nat.zero_le _, Nat.zero_le _, rfl, rfl, Spans.made w _ _ (Nat.le_refl _) (by omega), HE, (Below.refl _ _).alloc (Nat.le_refl _) _⟩
  case round =>
    obtain ⟨k, nx0, P0, hk, hnx0, rfl, rfl, ho, hEq, hbel⟩ := hrel
    obtain ⟨wo, rfl⟩ : ∃ wo : World, wo = wr := ⟨_, rfl⟩
    by_cases hlt : k < n
    · have hkl : k < a.length := by rw [HL.out]; exact hlt
      obtain ⟨b1, off, rfl, hc1, hc2, hc3⟩ := (HI.out.below hbel.out) k hkl
      obtain ⟨⟨f0, t, v⟩, hs⟩ : ∃ s, a.getD k sp0 = s := ⟨_, rfl⟩
      rw [hs] at hc1 hc2 hc3
      simp only at hc1 hc2 hc3
      have HS := Lib.hid hs
      clear hs
      go_wp2
      have hC := Cur.new wo f0 t v 42
      have hO := ho.out.alloc (.cells #[.int .i64 f0, .int .i64 t, .int .i64 v] 42)
      have hBl := hbel.out.alloc hbel.out.size (.cells #[.int .i64 f0, .int .i64 t, .int .i64 v] 42)
      have hgw : w.heap.size ≤ wo.heap.size := hbel.out.size
      have HNE : Hid (Value.ownBlock u5 ≠ some wo.heap.size) := fun e => Nat.lt_irrefl _ (World.ownsRow.lt ho.out _ e).2
      generalize wo.alloc (.cells #[.int .i64 f0, .int .i64 t, .int .i64 v] 42) = W0 at hC hO hBl ⊢
      generalize wo.heap.size = g at hC HNE hgw ⊢
      have HC := Lib.hid hC
      have HO := Lib.hid hO
      have HBl := Lib.hid hBl
      clear hC hO hBl hgw hc1 hc2 hc3 ho hbel
      go_loopw [5, 6] (fun vv nxv wr => ∃ (nx : Nat) (P : List Sp), nx ≤ m ∧ nxv = .int .i64 nx ∧ Hid (Spans wr w.heap.size vv P) ∧ Hid (P ++ interS (a.drop k) (b.drop nx) = U) ∧ Hid (Below w.heap.size w wr) ∧ Hid (Cur wr g f0 t v) ∧ Hid (Value.ownBlock vv ≠ some g)) (fun _ nxv _ => m - (intOf nxv).toNat)
      case atStart => exact ⟨nx0, P0, hnx0, rfl, HO, hEq, HBl, HC, HNE⟩
      case round =>
        clear HO HBl HC hEq hnx0 HNE
        obtain ⟨nx, P, hnx, rfl, ho, hEq, hbel, hcur, hne⟩ := hrel
        have HL2 : Hid (P.length ≤ 4000000) := len_of_app hEq.out HU.out
        go_upto_region 6 with (fail)
        go_cut [34] (fun cc wx => ∃ B : Bool, cc = .bool B ∧ Hid (B = true ↔ nx < m ∧ (b.getD nx sp0).1 < f0) ∧ Hid (Spans wx w.heap.size u5 P) ∧ Hid (Below w.heap.size w wx) ∧ Hid (Cur wx g f0 t v))
        case first =>
          obtain ⟨k0, k1, k2, kf, kz⟩ := hcur.out
          by_cases hnm : nx < m
          · have hnb : nx < b.length := by rw [HM.out]; exact hnm
            obtain ⟨b2, off2, rfl, d1, d2, d3⟩ := (HJ.out.below hbel.out) nx hnb
            obtain ⟨⟨xf, xt, xv⟩, hx⟩ : ∃ s, b.getD nx sp0 = s := ⟨_, rfl⟩
            rw [hx] at d1 d2 d3
            simp only at d1 d2 d3
            have HX := Lib.hid hx
            clear hx kf
            by_cases hto : xf < f0
            · go_quiet (fail)
              go_wp2_with fail
              go_meet
              exact ⟨true, rfl, by unfold Hid; rw [HX.out]; simp [hnm, hto], ho, below_drewN_sp hbel.out _, hcur.out.drewN _⟩
            · have hd : decide (xf < f0) = false := decide_eq_false hto
              go_quiet (fail)
              go_wp2_with fail
              go_meet
              exact ⟨false, rfl, by unfold Hid; rw [HX.out]; simp [hto], ho, below_drewN_sp hbel.out _, hcur.out.drewN _⟩
          · have hd : decide (nx < m) = false := decide_eq_false hnm
            go_quiet (fail)
            go_wp2_with fail
            go_meet
            exact ⟨false, rfl, by unfold Hid; simp [hnm], ho, below_drewN_sp hbel.out _, hcur.out.drewN _⟩
        case rest =>
          clear ho hbel hcur
          obtain ⟨B, rfl, hBB, ho, hbel, hcur⟩ := hcut
          generalize wc = wz at ho hbel hcur ⊢
          cases B
          · have hcont : ¬ (nx < m ∧ (b.getD nx sp0).1 < f0) := fun h => by have := hBB.out.2 h; cases this
            have HE2 : Hid ((P ++ [(f0, t, v)]) ++ interS (a.drop (k + 1)) (b.drop nx) = U) := by
              unfold Hid; rw [← hEq.out, inter_next hkl (fun h => by rw [HS.out]; simp only; rw [HM.out] at h; omega), HS.out]; simp
            clear hcont hEq hBB
            obtain ⟨k0, k1, k2, kf, kz⟩ := hcur.out
            go_wp2_with (at_builtin; refine wpList_append_span (.tmp 44) (.tmp 46) rfl rfl w.heap.size u5 P rfl ho.out (f0, t, v) 1 _ rfl (by simp) (by have := HL2.out; omega) (by have := hbel.out.size; omega) ?_; intro v1 w1 ho1 hg1)
            have HO := Lib.hid ho1
            have HB5 := Lib.hid (hbel.out.grown hg1 hbel.out.size ho.out.base)
            clear ho1 hg1
            go_wp2
            go_roundw
            case rel => exact ⟨k + 1, nx, P ++ [(f0, t, v)], by omega, hnx, by go_num, rfl, HO, HE2, HB5⟩
            case measure => simp [intOf]; omega
          · obtain ⟨hnm, hto⟩ := hBB.out.1 rfl
            have hnb : nx < b.length := by rw [HM.out]; exact hnm
            have HE2 : Hid ((P ++ [b.getD nx sp0]) ++ interS (a.drop k) (b.drop (nx + 1)) = U) := by
              unfold Hid; rw [← hEq.out, inter_app hkl hnb (by rw [HS.out]; exact hto)]; simp
            obtain ⟨b2, off2, rfl, d1, d2, d3⟩ := (HJ.out.below hbel.out) nx hnb
            obtain ⟨⟨xf, xt, xv⟩, hx⟩ : ∃ s, b.getD nx sp0 = s := ⟨_, rfl⟩
            rw [hx] at d1 d2 d3 HE2
            simp only at d1 d2 d3
            clear hto hBB hEq hx
            go_wp2_with (at_builtin; refine wpList_append_span_at (.tmp 35) (.tmp 40) rfl rfl w.heap.size u5 P rfl ho.out (xf, xt, xv) 1 _ rfl (by simp) (by have := HL2.out; omega) (by have := hbel.out.size; omega) ?_; intro v1 w1 ho1 hg1 hn1)
            have HO := Lib.hid ho1
            have HB5 := Lib.hid (hbel.out.grown hg1 hbel.out.size ho.out.base)
            have HC5 := Lib.hid (Cur.grown hcur.out hg1 hne.out)
            have HN5 := Lib.hid (hn1 g hcur.out.2.2.2.2 hne.out)
            clear ho1 hg1 hn1
            go_wp2
            go_roundw
            case rel => exact ⟨nx + 1, P ++ [(xf, xt, xv)], by omega, by go_num, HO, HE2, HB5, HC5, HN5⟩
            case measure => simp [intOf]; omega
    · obtain rfl : k = n := by omega
      have HU2 : Hid (P0 ++ b.drop nx0 = U) := by
        unfold Hid; rw [← hEq.out, List.drop_of_length_le (Nat.le_of_eq HL.out)]; simp [interS]
      have HL2 : Hid (P0.length ≤ 4000000) := len_of_app hEq.out HU.out
      have hnd : nx0 ≤ d := by omega
      clear hEq
      have HQD := Lib.hid hqd
      clear hqd
      by_cases hdn : d = nx0
      · have HDR : Hid (b.drop nx0 = []) := by unfold Hid; rw [List.drop_of_length_le (by rw [HM.out]; omega)]
        go_wp2_with (at_builtin; refine wpList_append_spans (.tmp 49) (.tmp 52) rfl rfl w.heap.size u5 P0 rfl ho.out _ _ _ (b.drop nx0) (by rw [List.length_drop, HM.out]) rfl (by rw [HDR.out]; exact fun k hk => by simp at hk) (by rw [HDR.out]; have := HL2.out; simp; omega) hbel.out.size ?_; intro v1 w1 ho1 hg1)
        have HO := Lib.hid ho1
        have HB5 := Lib.hid (hbel.out.grown hg1 hbel.out.size ho.out.base)
        clear ho1 hg1
        go_wp2
        go_ret
        exact ⟨_, rfl, by rw [← HU2.out]; exact HO.out, HB5.out⟩
      · have hdi : ((d : Int) == (nx0 : Int)) = false := by simp; omega
        by_cases hm0 : 0 < m
        · obtain ⟨bb, oo, rfl, _⟩ := HJ.out 0 (by rw [HM.out]; exact hm0)
          have HLm : Hid ((b.drop nx0).length ≤ 1114112) := by unfold Hid; rw [List.length_drop, HM.out]; omega
          go_wp2_with (at_builtin; refine wpList_append_spans (.tmp 49) (.tmp 52) rfl rfl w.heap.size u5 P0 rfl ho.out (some ⟨bb, oo + nx0 * 3, none⟩) (m - nx0) (d - nx0) (b.drop nx0) (by rw [List.length_drop, HM.out]) rfl ((HJ.out.below hbel.out).dropAt nx0) (by have := HL2.out; have := HLm.out; omega) hbel.out.size ?_; intro v1 w1 ho1 hg1)
          have HO := Lib.hid ho1
          have HB5 := Lib.hid (hbel.out.grown hg1 hbel.out.size ho.out.base)
          clear ho1 hg1
          go_wp2
          go_ret
          exact ⟨_, rfl, by rw [← HU2.out]; exact HO.out, HB5.out⟩
        · obtain rfl : m = 0 := by omega
          obtain rfl : nx0 = 0 := by omega
          have HDR : Hid (b = []) := List.eq_nil_of_length_eq_zero HM.out
          cases q with
          | none => exfalso; have := HQD.out rfl; omega
          | some ad =>
            obtain ⟨bb, oo, ss⟩ := ad
            go_wp2_with (at_builtin; refine wpList_append_spans (.tmp 49) (.tmp 52) rfl rfl w.heap.size u5 P0 rfl ho.out _ _ _ (b.drop 0) (by rw [HDR.out]; rfl) rfl (by rw [HDR.out]; exact fun k hk => by simp at hk) (by rw [HDR.out]; have := HL2.out; simp; omega) hbel.out.size ?_; intro v1 w1 ho1 hg1)
            have HO := Lib.hid ho1
            have HB5 := Lib.hid (hbel.out.grown hg1 hbel.out.size ho.out.base)
            clear ho1 hg1
            go_wp2
            go_ret
            exact ⟨_, rfl, by rw [← HU2.out]; exact HO.out, HB5.out⟩

end Go.Proofs.Ytkapjihjbflliaa
