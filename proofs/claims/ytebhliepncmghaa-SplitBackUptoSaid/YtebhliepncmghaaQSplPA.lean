/-
  split: lists that a loop fills; the contract of Labels.
-/
import Derived.Test.YtebhliepncmghaaQSplD
import Derived.Test.YtebhliepncmghaaQBld
set_option linter.unusedSimpArgs false
set_option linter.unusedVariables false
namespace Go.Proofs.Ytebhliepncmghaa
open Go.RowKit
set_option linter.unusedVariables false

/-! ### lists that a loop fills -/
def padL (L : List (List Int)) (k : Nat) : List (List Int) := L.take k ++ List.replicate (L.length - k) []
theorem padL_len (L : List (List Int)) (k : Nat) (h : k ≤ L.length) : (padL L k).length = L.length := by simp [padL]; omega
theorem padL_zero (L : List (List Int)) : padL L 0 = List.replicate L.length [] := by simp [padL]
theorem padL_full (L : List (List Int)) : padL L L.length = L := by simp [padL]
theorem padL_set (L : List (List Int)) (k : Nat) (h : k < L.length) : (padL L k).set k (L.getD k []) = padL L (k + 1) := by
  unfold padL
  have hk : (L.take k).length = k := by simp; omega
  rw [List.set_append, if_neg (by omega), hk, Nat.sub_self, take_snocL L k h]
  obtain ⟨m, hm⟩ : ∃ m, L.length - k = m + 1 := ⟨L.length - k - 1, by omega⟩
  rw [hm, List.replicate_succ, List.set_cons_zero, show L.length - (k + 1) = m by omega]
  simp
def padB (L : List ByteArray) (k : Nat) : List ByteArray := L.take k ++ List.replicate (L.length - k) ByteArray.empty
theorem padB_len (L : List ByteArray) (k : Nat) (h : k ≤ L.length) : (padB L k).length = L.length := by simp [padB]; omega
theorem padB_zero (L : List ByteArray) : padB L 0 = List.replicate L.length ByteArray.empty := by simp [padB]
theorem padB_full (L : List ByteArray) : padB L L.length = L := by simp [padB]
theorem padB_at (L : List ByteArray) (k : Nat) (h : k < L.length) : ((padB L k).map Value.string)[k]? = some (.string ByteArray.empty) := by
  unfold padB
  have hk : (L.take k).length = k := by simp; omega
  obtain ⟨m, hm⟩ : ∃ m, L.length - k = m + 1 := ⟨L.length - k - 1, by omega⟩
  rw [hm, List.getElem?_map, List.getElem?_append_right (by omega), hk]
  simp
theorem padB_set (L : List ByteArray) (k : Nat) (h : k < L.length) : (padB L k).set k (L.getD k ByteArray.empty) = padB L (k + 1) := by
  unfold padB
  have hk : (L.take k).length = k := by simp; omega
  rw [List.set_append, if_neg (by omega), hk, Nat.sub_self, take_snocB L k h]
  obtain ⟨m, hm⟩ : ∃ m, L.length - k = m + 1 := ⟨L.length - k - 1, by omega⟩
  rw [hm, List.replicate_succ, List.set_cons_zero, show L.length - (k + 1) = m by omega]
  simp

/-- One of the labels is another. -/
theorem Labs.putAt {w w6 : World} {B g cap n i : Nat} {v6 : Value} {L : List (List Int)} {x : List Int} {Vs : List Value} (h : Labs w B (.slice (some ⟨g, 0, none⟩) n cap) L Vs) (hi : i < L.length)
    (h6 : Ints w6 w.heap.size v6 x) (hg6 : w.grownBy w6 none) (hB : B ≤ w.heap.size) :
    Labs (w6.setCell ⟨g, i, none⟩ v6) B (.slice (some ⟨g, 0, none⟩) n cap) (L.set i x) (Vs.set i v6) := by
  have hgl : g < w.heap.size := (World.ownsRow.lt h.own g rfl).2
  have hlen : Vs.length = L.length := h.len
  have ho6 : w6.ownsRow B 22 1 (.slice (some ⟨g, 0, none⟩) n cap) L.length Vs := World.ownsRow.kept h.own hg6 (by simp [Value.ownBlock])
  have hnn : n = L.length := by
    rcases h.own.2 with ⟨h1, _⟩ | ⟨g', cap', cur', h1, _⟩
    · cases h1
    · injection h1 with _ e _
  subst hnn
  have hst := ho6.stored i v6
  have hl6 := Lab.ofInts h6
  refine ⟨by simpa using hst.1, by simp [hlen], fun k hk => ?_, fun k b hk hb => ?_⟩
  · by_cases e : k = i
    · subst e
      rw [getD_set_eq _ _ _ _ hi, getD_set_eq _ _ _ _ (by omega)]
      refine (hl6.1.mono hB).kept hst.2 (fun b hb e2 => ?_)
      have h1 := (hl6.1.lt hb).1
      simp only [Option.some.injEq] at e2
      subst e2
      exact absurd hgl (by omega)
    · have hk2 : k < L.length := by simpa using hk
      rw [getD_set_ne _ _ _ _ _ (fun e2 => e e2.symm), getD_set_ne _ _ _ _ _ (fun e2 => e e2.symm)]
      refine ((h.lab k hk2).kept hg6 (fun b _ e2 => by cases e2)).kept hst.2 (fun b hb e2 => ?_)
      cases e2
      exact h.off k g hk2 hb rfl
  · by_cases e : k = i
    · subst e
      rw [getD_set_eq _ _ _ _ (by omega)] at hb
      have h1 := (hl6.1.lt hb).1
      intro e2
      simp only [Value.ownBlock, Option.some.injEq] at e2
      subst e2
      exact absurd hgl (by omega)
    · have hk2 : k < L.length := by simpa using hk
      rw [getD_set_ne _ _ _ _ _ (fun e2 => e e2.symm)] at hb
      exact h.off k b hk2 hb
theorem Labs.made {w w0 : World} {m : Nat} (h : w0.ownsRow w.heap.size 22 1 (.slice (some ⟨w.heap.size, 0, none⟩) m m) m (madeCells (Value.slice none 0 0).cells (m * 1)).toList) :
    Labs w0 w.heap.size (.slice (some ⟨w.heap.size, 0, none⟩) m m) (List.replicate m []) (List.replicate m (.slice none 0 0)) := by
  have e : (madeCells (Value.slice none 0 0).cells (m * 1)).toList = List.replicate (m * 1) (.slice none 0 0) := toList_madeCells_one _ _
  rw [e, Nat.mul_one] at h
  have hz : ∀ k, (List.replicate m (Value.slice none 0 0)).getD k (.slice none 0 0) = .slice none 0 0 := by
    intro k
    by_cases hk : k < m
    · simp [List.getD, hk]
    · simp [List.getD, List.getElem?_eq_none (l := List.replicate m (Value.slice none 0 0)) (i := k) (by simp; omega)]
  refine ⟨by simpa using h, by simp, fun k hk => ?_, fun k b hk hb => ?_⟩
  · have hk2 : k < m := by simpa using hk
    rw [hz]
    simp only [List.getD, List.getElem?_replicate, if_pos hk2, Option.getD_some]
    exact Lab.nil _ _
  · rw [hz] at hb
    cases hb

theorem grown_lit {w w6 : World} {o : Obj} (h : (w.alloc o).grownBy w6 (some w.heap.size)) : w.grownBy w6 none := grownBy_off (World.grownBy_alloc w o none) h (fun j hj => by cases hj; exact Nat.le_refl _)

/-! ### Labels -/
set_option maxRecDepth 100000 in
set_option maxHeartbeats 4000000 in
theorem labels_at (p : Option Addr) (n cap : Nat) (l : List Int) (w : World) (hin : IntsIn w p l) (hn : Hid (l.length = n)) (hcap : n ≤ cap) (hn2 : n ≤ 1099511627776) :
    Calls Try.prog 12 #[.slice p n cap] w (LabPost (cutD l) w) := by
  have HI := Lib.hid hin
  clear hin
  obtain ⟨i0, hi, hz0, hz1, hz2⟩ := info_parts Try.info22
  have hlab := cutD_lab l
  have hnum := cutD_num l
  have hne := cutD_ne l
  rw [hn.out] at hlab hnum
  obtain ⟨L, hL⟩ : ∃ L, cutD l = L := ⟨_, rfl⟩
  rw [hL] at hlab hnum hne
  obtain ⟨m, hm⟩ : ∃ m, L.length = m := ⟨_, rfl⟩
  have hm1 : 1 ≤ m := by rw [← hm]; exact List.length_pos_iff.2 hne
  rw [hm] at hnum
  have HLAB := Lib.hid hlab
  have HNE := Lib.hid hne
  have HM := Lib.hid hm
  have HL := Lib.hid hL
  clear hlab hne hL
  go_enter Try.func12, Try.ntmps12
  go_wp2_with fail
  refine (divI_at p n cap l _ HI.out hn hcap hn2).mono ?_
  rintro e w1 ⟨gp, cp, Vp, rfl, hcp, hpp, hb1⟩
  rw [HL.out] at hcp hpp ⊢
  rw [hm] at hcp hpp ⊢
  have hown1 := hpp.own
  rw [hm] at hown1
  have HOWN := Lib.hid hown1
  have HPP := Lib.hid hpp
  have HB1 := Lib.hid hb1
  clear hown1 hpp hb1 hm
  go_wp2_with (at_make; refine wpList_make_full _ rfl _ _ 23 rfl w1.heap.size 22 i0 (.slice none 0 0) 1 Try.underlying23 hi hz0 hz1 .i64 .i64 _ _ m rfl rfl rfl rfl (by rw [hz2]; omega) (by unfold maxLen; omega) (Nat.le_refl _) ?_; intro w0 hown0 hgrow0)
  have hl0 := Labs.made hown0
  have HL0 : Hid (Labs w0 w1.heap.size (.slice (some ⟨w1.heap.size, 0, none⟩) m m) (padL L 0) (List.replicate m (.slice none 0 0))) := by
    unfold Hid; rw [padL_zero, HM.out]; exact hl0
  have HB0 : Hid (Below w1.heap.size w1 w0) := (Below.refl _ _).grown hgrow0 (Nat.le_refl _) (by intro j e; cases e)
  clear hown0 hgrow0 hl0
  go_wp2
  go_loopw [14] (fun i wr => ∃ (k : Nat) (Vs : List Value), k ≤ m ∧ i = .int .i64 k ∧ Hid (Labs wr w1.heap.size (.slice (some ⟨w1.heap.size, 0, none⟩) m m) (padL L k) Vs) ∧ Hid (Below w1.heap.size w1 wr)) (fun i _ => m - (intOf i).toNat)
  case atStart => exact ⟨0, _, Nat.zero_le _, rfl, HL0, HB0⟩
  case round =>
    clear HL0 HB0
    obtain ⟨k, Vs, hk, rfl, hls, hbel⟩ := hrel
    have HSZ := Lib.hid hbel.out.size
    by_cases hlt : k < m
    · have hkl : k < L.length := by rw [HM.out]; exact hlt
      obtain ⟨q, c, hv, hxc, hxi⟩ := HPP.out.part k hkl
      obtain ⟨x, hx⟩ : ∃ x, L.getD k [] = x := ⟨_, rfl⟩
      have hxl : x.length ≤ n := HLAB.out x (by rw [← hx]; simp [List.getD, hkl])
      rw [hx] at hv hxc hxi
      obtain ⟨nx, hnx⟩ : ∃ nx, x.length = nx := ⟨_, rfl⟩
      rw [hnx] at hv hxc hxl
      have hvl : Vp.length = m := by have := HPP.out.len; rw [HM.out] at this; exact this
      have hown := ownsRow_below HOWN.out hbel.out
      have hcell : wr.cell? ⟨gp, k, none⟩ = some (.slice q nx c) := by
        rw [World.ownsRow.cellAt hown k (by omega), ← hv]
        simp [List.getD, hvl, hlt]
      have hq := hxi.below (HB1.out.trans (hbel.out.mono HB1.out.size))
      have HQ : Hid (IntsIn (wr.alloc (.cells #[] 3)) q x) := hq.alloc _
      have HNX := Lib.hid hnx
      have HX := Lib.hid hx
      have hi0 : Ints (wr.alloc (.cells #[] 3)) wr.heap.size (.slice (some ⟨wr.heap.size, 0, none⟩) 0 0) [] := World.ownsRow_lit wr #[] 0 (Nat.le_refl _) (by unfold maxLen; omega) rfl
      have HI0 := Lib.hid hi0
      have hoM := hls.out.own
      rw [padL_len L k (by omega), HM.out] at hoM
      have hgl := (World.ownsRow.lt hoM _ rfl).2
      have hcm := World.ownsRow.cellAt hoM k (by omega)
      have hfm := World.ownsRow.frozenAt hoM k
      have hvm : Vs.length = m := by have := hls.out.len; rw [padL_len L k (by omega), HM.out] at this; exact this
      obtain ⟨vk, hvk⟩ : ∃ vk, Vs[k]? = some vk := ⟨Vs[k]'(by omega), by simp [hvm, hlt]⟩
      rw [hvk] at hcm
      have HCM := Lib.hid hcm
      have HFM := Lib.hid hfm
      have HGL := Lib.hid hgl
      have HKL := Lib.hid hkl
      clear hkl hv hxi hx hnx hvl hown hq hi0 hoM hgl hcm hfm hvm hvk
      go_wp2_with (at_builtin; first
        | (refine wpList_append_ints (.tmp 21) (.tmp 22) rfl rfl wr.heap.size (.slice (some ⟨wr.heap.size, 0, none⟩) 0 0) [] (by rfl) HI0.out q nx c x HNX.out (by rfl) HQ.out (by rw [HNX.out]; simp; omega) (by simp) ?_
           intro v6 w6 ho6 hg6
           have hg6b : wr.grownBy w6 none := grown_lit hg6
           have hcx : w6.cell? ⟨w1.heap.size, k, none⟩ = some vk := hg6b.cell HCM.out (by simp)
           have hfx : w6.frozen? ⟨w1.heap.size, k, none⟩ = false := (World.frozen?_of_block (hg6b.block w1.heap.size HGL.out (by simp))).trans HFM.out
           have HG6 := Lib.hid hg6b
           have ho6b : Ints w6 wr.heap.size v6 x := ho6
           obtain ⟨p6, c6, rfl, _, _⟩ := ints_capL ho6b
           have HO6 := Lib.hid ho6b
           obtain ⟨n6, hn6⟩ : ∃ n6, x.length = n6 := ⟨_, rfl⟩
           rw [hn6] at HO6 ⊢
           clear hn6 ho6 hg6 hg6b ho6b))
      have HP : Hid (Labs (w6.setCell ⟨w1.heap.size, k, none⟩ (.slice p6 n6 c6)) w1.heap.size (.slice (some ⟨w1.heap.size, 0, none⟩) m m) (padL L (k + 1)) (Vs.set k (.slice p6 n6 c6))) := by
        have := hls.out.putAt (i := k) (x := x) (v6 := .slice p6 n6 c6) (w6 := w6) (by rw [padL_len L k (by rw [HM.out]; omega)]; exact HKL.out) (by simpa using HO6.out) HG6.out HSZ.out
        rw [← HX.out, padL_set L k HKL.out] at this
        exact this
      have HB6 : Hid (Below w1.heap.size w1 (w6.setCell ⟨w1.heap.size, k, none⟩ (.slice p6 n6 c6))) :=
        (hbel.out.grown HG6.out HSZ.out (by intro j e; cases e)).setCell (p := ⟨w1.heap.size, k, none⟩) (Nat.le_refl _) (.slice p6 n6 c6)
      clear hcx hfx hcell
      go_roundw
      case rel => exact ⟨k + 1, _, by omega, by go_num, HP, HB6⟩
      case measure => simp [intOf]; omega
    · obtain rfl : k = m := by omega
      have hls2 := hls.out
      rw [← HM.out, padL_full] at hls2
      obtain ⟨g2, cp2, e, hnew⟩ := hls2.new HNE.out
      injection e with e1 e2 e3
      injection e1 with e1
      injection e1 with e1
      subst e1; subst e3
      rw [HM.out] at hnew
      have HNEW := Lib.hid (hnew.mono HB1.out.size)
      have HBE := Lib.hid (HB1.out.trans (hbel.out.mono HB1.out.size))
      clear hls hnew e2 hls2
      go_wp2
      go_ret
      exact ⟨w1.heap.size, k, by rw [HL.out, HM.out]; rfl, by rw [HL.out]; exact HNEW.out, HBE.out⟩

end Go.Proofs.Ytebhliepncmghaa
