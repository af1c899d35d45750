/-
  ranges: join.
-/
import Derived.Test.YtkapjihjbflliaaRanApp
namespace Go.Proofs.Ytkapjihjbflliaa
open Go.RowKit

/-- A new slice of spans is returned. -/
def OwnPost (xs : List Sp) (w : World) (e : Ending) (w' : World) : Prop :=
  ∃ v, e = .returned v ∧ Spans w' w.heap.size v xs ∧ Below w.heap.size w w'

theorem asc_getD {l : List Sp} (h : ascB 0 l = true) (k : Nat) (hk : k < l.length) : 0 ≤ (l.getD k sp0).1 ∧ (l.getD k sp0).1 ≤ (l.getD k sp0).2.1 ∧ (l.getD k sp0).2.1 ≤ 1114111 := by
  have := asc_mem h (getD_mem l k hk)
  omega

theorem join_take_length (l : List Sp) (k : Nat) : (joinS (l.take k)).length ≤ k := Nat.le_trans (join_length _) (List.length_take_le _ _)

set_option maxRecDepth 100000 in
set_option maxHeartbeats 1000000 in
theorem join_any (p : Option Addr) (n c : Nat) (l : List Sp) (w : World) (hl : l.length = n) (hin : SpIn w p l) (ha : ascB 0 l = true) :
    Calls Try.prog 35 #[.slice p n c] w (OwnPost (joinS l) w) := by
  have hn : n ≤ 1114112 := by rw [← hl]; exact asc_length ha
  have hmk := run_make_spans n (by omega)
  have HI := Lib.hid hin
  have HL := Lib.hid hl
  have HA := Lib.hid ha
  clear hin hl ha
  go_enter Try.func35, Try.ntmps35
  go_wp2
  go_loopw [3, 12] (fun v i wr => ∃ k : Nat, k ≤ n ∧ i = .int .i64 k ∧ Hid (Spans wr w.heap.size v (joinS (l.take k))) ∧ Hid (Below w.heap.size w wr)) (fun _ i _ => n - (intOf i).toNat)
  case atStart => exact ⟨0, Nat.zero_le _, rfl, Spans.made w _ n (Nat.le_refl _) (by omega), (Below.refl _ _).alloc (Nat.le_refl _) _⟩
  case round =>
    obtain ⟨k, hk, rfl, ho, hbel⟩ := hrel
    by_cases hlt : k < n
    · have hkl : k < l.length := by rw [HL.out]; exact hlt
      obtain ⟨b, off, rfl, hc1, hc2, hc3⟩ := (HI.out.below hbel.out) k hkl
      obtain ⟨a1, a2, a3⟩ := asc_getD HA.out k hkl
      obtain ⟨⟨f, t, v⟩, hs⟩ : ∃ s, l.getD k sp0 = s := ⟨_, rfl⟩
      rw [hs] at hc1 hc2 hc3 a1 a2 a3
      simp only at hc1 hc2 hc3 a1 a2 a3
      have HJ : Hid (joinS (l.take (k + 1)) = jstep (joinS (l.take k)) (f, t, v)) := by unfold Hid; rw [take_snoc_sp l k hkl, hs, joinS_snoc]
      have HK := Lib.hid (join_take_length l k)
      clear hs
      rcases List.eq_nil_or_concat (joinS (l.take k)) with hJ | ⟨ii, q, hJ⟩
      · rw [hJ] at ho HJ
        rw [jstep_nil] at HJ
        clear HK hJ
        obtain ⟨g, cap, rfl, _⟩ := ho.out.inn
        simp only [List.length_nil] at ho ⊢
        go_wp2
        go_quiet (fail)
        go_wp2_with (at_builtin; refine wpList_append_span (.tmp 48) (.tmp 50) rfl rfl w.heap.size (.slice g 0 cap) [] rfl ((ho.out.alloc _).drewN _) (f, t, v) 1 _ rfl (by simp) (by simp) ?c2 ?_; rotate_left; intro v1 w1 ho1 hg1)
        case c2 => have := hbel.out.size; show _ ≤ (wr.alloc _).heap.size; simp; omega
        have HO := Lib.hid ho1
        have HB := Lib.hid (below_app hbel.out ⟨_, _, rfl⟩ ho.out (Nat.le_refl _) hg1)
        clear ho1 hg1
        go_wp2
        go_roundw
        case rel => exact ⟨k + 1, by omega, by go_num, by rw [HJ.out]; exact HO, HB⟩
        case measure => simp [intOf]; omega
      · rw [hJ, List.concat_eq_append] at ho HJ HK
        clear hJ
        obtain ⟨g, cap, rfl, hg1, hg2, q1, q2, q3, q4⟩ := ho.out.last
        have hk1 := HK.out
        simp only [List.length_append, List.length_cons, List.length_nil] at hk1
        clear HK
        obtain ⟨qf, qt, qv⟩ := q
        simp only at q1 q2 q3
        rw [jstep_snoc] at HJ
        by_cases htc : touch (qf, qt, qv) (f, t, v) = true
        · rw [if_pos htc] at HJ
          simp only [touch, Bool.and_eq_true, decide_eq_true_eq] at htc
          have hb1 : (qv == v) = true := by simp [htc.2]
          have hb2 : (qt == f - 1) = true := by simp; omega
          clear htc
          have HG1 := Lib.hid hg1
          clear hg1
          go_wp2
          go_quiet (fail)
          go_wp2
          go_roundw
          case rel =>
            refine ⟨k + 1, by omega, by go_num, by rw [HJ.out]; exact Spans.setTo ((ho.out.alloc _).drewN _) rfl t, ?_⟩
            exact (below_drewN_sp (hbel.out.alloc hbel.out.size _) _).setCell HG1.out _
          case measure => simp [intOf]; omega
        · rw [if_neg htc] at HJ
          have hcase : ((qv == v) = true ∧ (qt == f - 1) = false) ∨ (qv == v) = false := by
            by_cases h : qv = v
            · refine .inl ⟨by simp [h], ?_⟩
              simp only [touch, Bool.and_eq_true, decide_eq_true_eq] at htc
              simp; omega
            · exact .inr (by simp [h])
          clear htc
          rcases hcase with ⟨hb1, hb2⟩ | hb1
          all_goals
            go_wp2
            go_quiet (fail)
            go_wp2_with (at_builtin; refine wpList_append_span (.tmp 48) (.tmp 50) rfl rfl w.heap.size _ (ii ++ [(qf, qt, qv)]) rfl ((ho.out.alloc _).drewN _) (f, t, v) 1 _ rfl (by simp) (by simp; omega) ?_ ?_; rotate_left; intro v1 w1 ho1 hg1; rotate_left)
            · have := hbel.out.size; show _ ≤ (wr.alloc _).heap.size; simp; omega
            have HO := Lib.hid ho1
            have HB := Lib.hid (below_app hbel.out ⟨_, _, rfl⟩ ho.out (Nat.le_refl _) hg1)
            clear ho1 hg1
            go_wp2
            go_roundw
            case rel => exact ⟨k + 1, by omega, by go_num, by rw [HJ.out]; exact HO, HB⟩
            case measure => simp [intOf]; omega
    · obtain rfl : k = n := by omega
      have HJ : Hid (l.take k = l) := by unfold Hid; rw [List.take_of_length_le (Nat.le_of_eq HL.out)]
      go_wp2
      go_ret
      exact ⟨_, rfl, by rw [HJ.out] at ho; exact ho.out, hbel.out⟩

end Go.Proofs.Ytkapjihjbflliaa
