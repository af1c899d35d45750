/-
  The references of ranges: merged, Normal, before, after.
-/
import Derived.Test.YtkapjihjbflliaaRanRefA
namespace Go.Proofs.Ytkapjihjbflliaa
open Go.RowKit

set_option maxRecDepth 100000 in
set_option maxHeartbeats 2000000 in
theorem merged_any (p : Option Addr) (n c : Nat) (l : List Sp) (w : World) (hl : l.length = n) (hin : SpIn w p l) (ha : ascB 0 l = true) :
    Calls Try.prog 42 #[.slice p n c] w (OwnPost (joinS l) w) := by
  have hn : n ≤ 1114112 := by rw [← hl]; exact asc_length ha
  have HI := Lib.hid hin
  have HL := Lib.hid hl
  have HA := Lib.hid ha
  clear hin hl ha
  go_enter Try.func42, Try.ntmps42
  go_wp2
  go_loopw [3, 9] (fun v i wr => ∃ k : Nat, k ≤ n ∧ i = .int .i64 k ∧ Hid (Spans wr w.heap.size v (joinS (l.take k))) ∧ Hid (Below w.heap.size w wr)) (fun _ i _ => n - (intOf i).toNat)
  case atStart => exact ⟨0, Nat.zero_le _, rfl, Spans.nil _ _, Below.refl _ _⟩
  case round =>
    obtain ⟨k, hk, rfl, ho, hbel⟩ := hrel
    by_cases hlt : k < n
    · have hkl : k < l.length := by rw [HL.out]; exact hlt
      obtain ⟨b, off, rfl, hc1, hc2, hc3⟩ := (HI.out.below hbel.out) k hkl
      obtain ⟨a1, a2, a3⟩ := asc_getD HA.out k hkl
      obtain ⟨⟨f, t, v⟩, hs⟩ : ∃ s, l.getD k sp0 = s := ⟨_, rfl⟩
      rw [hs] at hc1 hc2 hc3 a1 a2 a3
      simp only at hc1 hc2 hc3 a1 a2 a3
      have HJ : Hid (joinS (l.take (k + 1)) = jstep (joinS (l.take k)) (f, t, v)) := by unfold Hid; rw [take_snoc_sp l k hkl, hs, joinS_snoc]
      have HK := Lib.hid (join_take_length l k)
      have hJA := join_asc (asc_take k HA.out)
      clear hs
      rcases List.eq_nil_or_concat (joinS (l.take k)) with hJ | ⟨ii, q, hJ⟩
      · rw [hJ] at ho HJ
        rw [jstep_nil] at HJ
        clear HK hJ hJA
        obtain ⟨g, cap, rfl, _⟩ := ho.out.inn
        simp only [List.length_nil] at ho ⊢
        go_wp2
        go_quiet (fail)
        go_wp2_with (at_builtin; refine wpList_append_span (.tmp 45) (.tmp 47) rfl rfl w.heap.size (.slice g 0 cap) [] rfl ((ho.out.alloc _).drewN _) (f, t, v) 1 _ rfl (by simp) (by simp) ?c2 ?_; rotate_left; intro v1 w1 ho1 hg1)
        case c2 => have := hbel.out.size; show _ ≤ (wr.alloc _).heap.size; simp; omega
        have HO := Lib.hid ho1
        have HB := Lib.hid (below_app hbel.out ⟨_, _, rfl⟩ ho.out (Nat.le_refl _) hg1)
        clear ho1 hg1
        go_wp2
        go_roundw
        case rel => exact ⟨k + 1, by omega, by go_num, by rw [HJ.out]; exact HO, HB⟩
        case measure => simp [intOf]; omega
      · rw [hJ, List.concat_eq_append] at ho HJ HK hJA
        clear hJ
        obtain ⟨g, cap, rfl, hg1, hg2, q1, q2, q3, q4⟩ := ho.out.last
        have hk1 := HK.out
        simp only [List.length_append, List.length_cons, List.length_nil] at hk1
        have hq := asc_mem hJA (s := q) (by simp)
        clear HK hJA
        obtain ⟨qf, qt, qv⟩ := q
        simp only at q1 q2 q3 hq
        obtain ⟨j1, j2, j3, _⟩ := hq
        have hwr : IntKind.i64.wrap (qt + 1) = qt + 1 := IntWalk.i64_in _ (by omega)
        rw [jstep_snoc] at HJ
        by_cases htc : touch (qf, qt, qv) (f, t, v) = true
        · rw [if_pos htc] at HJ
          simp only [touch, Bool.and_eq_true, decide_eq_true_eq] at htc
          have hb1 : (qv == v) = true := by simp [htc.2]
          have hb2 : (qt + 1 == f) = true := by simp; omega
          clear htc
          have HG1 := Lib.hid hg1
          clear hg1
          go_wp2
          go_quiet (fail)
          go_wp2
          go_roundw
          case rel =>
            refine ⟨k + 1, by omega, by go_num, by rw [HJ.out]; exact Spans.setTo ((ho.out.alloc _).drewN _) rfl t, ?_⟩
            exact (below_drewN_sp (hbel.out.alloc hbel.out.size _) _).setCell HG1.out _
          case measure => simp [intOf]; omega
        · rw [if_neg htc] at HJ
          have hcase : ((qt + 1 == f) = true ∧ (qv == v) = false) ∨ (qt + 1 == f) = false := by
            by_cases h : qt + 1 = f
            · refine .inl ⟨by simp [h], ?_⟩
              simp only [touch, Bool.and_eq_true, decide_eq_true_eq] at htc
              simp; omega
            · exact .inr (by simp [h])
          clear htc
          rcases hcase with ⟨hb1, hb2⟩ | hb1
          all_goals
            go_wp2
            go_quiet (fail)
            go_wp2_with (at_builtin; refine wpList_append_span (.tmp 45) (.tmp 47) rfl rfl w.heap.size _ (ii ++ [(qf, qt, qv)]) rfl ((ho.out.alloc _).drewN _) (f, t, v) 1 _ rfl (by simp) (by simp; omega) ?_ ?_; rotate_left; intro v1 w1 ho1 hg1; rotate_left)
            · have := hbel.out.size; show _ ≤ (wr.alloc _).heap.size; simp; omega
            have HO := Lib.hid ho1
            have HB := Lib.hid (below_app hbel.out ⟨_, _, rfl⟩ ho.out (Nat.le_refl _) hg1)
            clear ho1 hg1
            go_wp2
            go_roundw
            case rel => exact ⟨k + 1, by omega, by go_num, by rw [HJ.out]; exact HO, HB⟩
            case measure => simp [intOf]; omega
    · obtain rfl : k = n := by omega
      have HJ : Hid (l.take k = l) := by unfold Hid; rw [List.take_of_length_le (Nat.le_of_eq HL.out)]
      go_wp2
      go_ret
      exact ⟨_, rfl, by rw [HJ.out] at ho; exact ho.out, hbel.out⟩

set_option maxHeartbeats 1000000 in
theorem rnormal_any (p : Option Addr) (n cp : Nat) (l : List Sp) (w : World) (hl : l.length = n) (hn : n ≤ maxLen) (hin : SpIn w p l) :
    Calls Try.prog 28 #[.slice p n cp] w (OwnPost (normS l) w) := by
  have HI := Lib.hid hin
  have HL := Lib.hid hl
  clear hin hl
  cases hv : validS l with
  | false =>
    have HF : Hid (normS l = []) := by unfold Hid normS; rw [if_neg (by simp [hv])]
    have HV := Lib.hid hv
    clear hv
    go_enter Try.func28, Try.ntmps28
    go_wp2_with fail
    refine (rvalid_at p n cp l false _ HL hn HI.out HV).mono ?_
    rintro e w1 ⟨rfl, hb1⟩
    have HB := Lib.hid hb1
    clear hb1
    go_wp2
    go_ret
    rw [HF.out]
    exact ⟨_, rfl, Spans.nil _ _, HB.out⟩
  | true =>
    have HF : Hid (normS l = joinS l) := by unfold Hid normS; rw [if_pos hv]
    have HA := Lib.hid (valid_asc hv)
    have HV := Lib.hid hv
    clear hv
    go_enter Try.func28, Try.ntmps28
    go_wp2_with fail
    refine (rvalid_at p n cp l true _ HL hn HI.out HV).mono ?_
    rintro e w1 ⟨rfl, hb1⟩
    have HB := Lib.hid hb1
    clear hb1
    go_wp2_with fail
    refine (merged_any p n cp l _ HL.out (HI.out.below HB.out) HA.out).mono ?_
    rintro e w2 ⟨v2, rfl, ho2, hb2⟩
    have HO := Lib.hid (ho2.mono HB.out.size)
    have HB2 := Lib.hid (HB.out.trans (hb2.mono HB.out.size))
    clear ho2 hb2
    go_wp2
    go_ret
    rw [HF.out]
    exact ⟨_, rfl, HO.out, HB2.out⟩

end Go.Proofs.Ytkapjihjbflliaa
