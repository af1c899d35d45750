/-
  split: contracts of the references Labels, Join, Strings, CheckLabels, Name.
-/
import Derived.Test.YtebhliepncmghaaQLs
import Derived.Test.YtebhliepncmghaaQSplFact
import Derived.Test.YtebhliepncmghaaQAppend
import Derived.Deep.QuietTactic
import Derived.BigQuiet
import Derived.BigRegion
set_option linter.unusedSimpArgs false
set_option linter.unusedVariables false
namespace Go.Proofs.Ytebhliepncmghaa
open Go.RowKit
set_option linter.unusedVariables false

theorem Labs.start (w : World) (B : Nat) (hB : B ≤ w.heap.size) : Labs (w.alloc (.cells #[.slice none 0 0] 22)) B (.slice (some ⟨w.heap.size, 0, none⟩) 1 1) [[]] [.slice none 0 0] where
  own := World.ownsRow_lit w #[.slice none 0 0] 1 hB (by unfold maxLen; omega) rfl
  len := rfl
  lab := fun k hk => by
    have : k = 0 := by simp at hk; exact hk
    subst this
    exact Lab.nil _ _
  off := fun k b hk h => by
    have : k = 0 := by simp at hk; exact hk
    subst this
    cases h

theorem getD_app_lt {α : Type} (l r : List α) (k : Nat) (d : α) (h : k < l.length) : (l ++ r).getD k d = l.getD k d := by
  simp [List.getD, List.getElem?_append_left h]
theorem getD_app_at {α : Type} (l : List α) (x d : α) : (l ++ [x]).getD l.length d = x := by
  simp [List.getD]
theorem getD_set_ne {α : Type} (l : List α) (i k : Nat) (x d : α) (h : i ≠ k) : (l.set i x).getD k d = l.getD k d := by
  simp [List.getD, List.getElem?_set_ne h]
theorem getD_set_eq {α : Type} (l : List α) (i : Nat) (x d : α) (h : i < l.length) : (l.set i x).getD i d = x := by
  simp [List.getD, h]

/-- One empty label more. -/
theorem Labs.push {w w1 w4 : World} {B : Nat} {u v' : Value} {L : List (List Int)} {Vs : List Value} (h : Labs w B u L Vs) (ha : w.grownBy w1 none)
    (ho : w4.ownsRow B 22 1 v' (L.length + 1) (Vs ++ [.slice none 0 0])) (hg : w1.grownBy w4 u.ownBlock) (hv : v'.ownBlock = u.ownBlock ∨ v'.ownBlock = some w1.heap.size) :
    Labs w4 B v' (L ++ [[]]) (Vs ++ [.slice none 0 0]) := by
  have hlab : ∀ k, k < L.length → Lab w4 B (Vs.getD k (.slice none 0 0)) (L.getD k []) := fun k hk =>
    ((h.lab k hk).kept ha (fun b _ e => by cases e)).kept hg (fun b hb => h.off k b hk hb)
  refine ⟨by simpa using ho, by simp [h.len], fun k hk => ?_, fun k b hk hb => ?_⟩
  · by_cases e : k = L.length
    · subst e
      rw [getD_app_at, ← h.len, getD_app_at]
      exact Lab.nil _ _
    · have hk2 : k < L.length := by simp at hk; omega
      rw [getD_app_lt _ _ _ _ hk2, getD_app_lt _ _ _ _ (by rw [h.len]; exact hk2)]
      exact hlab k hk2
  · by_cases e : k = L.length
    · subst e
      rw [← h.len, getD_app_at] at hb
      cases hb
    · have hk2 : k < L.length := by simp at hk; omega
      rw [getD_app_lt _ _ _ _ (by rw [h.len]; exact hk2)] at hb
      rcases hv with hv | hv
      · rw [hv]; exact h.off k b hk2 hb
      · rw [hv]
        intro e2
        cases e2
        have h1 := ((h.lab k hk2).lt hb).2
        have h2 := ha.size
        omega

/-- The last label is another. -/
theorem Labs.put {w w6 : World} {B g cap n : Nat} {v6 : Value} {D : List (List Int)} {cur x : List Int} {Vs : List Value} (h : Labs w B (.slice (some ⟨g, 0, none⟩) n cap) (D ++ [cur]) Vs)
    (h6 : Ints w6 w.heap.size v6 x) (hg6 : w.grownBy w6 none) (hB : B ≤ w.heap.size) :
    Labs (w6.setCell ⟨g, D.length, none⟩ v6) B (.slice (some ⟨g, 0, none⟩) n cap) (D ++ [x]) (Vs.set D.length v6) := by
  have hgl : g < w.heap.size := (World.ownsRow.lt h.own g rfl).2
  have hlen : Vs.length = D.length + 1 := by have := h.len; simpa using this
  have ho6 : w6.ownsRow B 22 1 (.slice (some ⟨g, 0, none⟩) n cap) (D ++ [cur]).length Vs := World.ownsRow.kept h.own hg6 (by simp [Value.ownBlock])
  have hnn : n = (D ++ [cur]).length := by
    rcases h.own.2 with ⟨h1, _⟩ | ⟨g', cap', cur', h1, _⟩
    · cases h1
    · injection h1 with _ e _
  subst hnn
  have hst := ho6.stored D.length v6
  have hl6 := Lab.ofInts h6
  refine ⟨by simpa using hst.1, by simp [hlen], fun k hk => ?_, fun k b hk hb => ?_⟩
  · by_cases e : k = D.length
    · subst e
      rw [getD_app_at, getD_set_eq _ _ _ _ (by omega)]
      refine (hl6.1.mono hB).kept hst.2 (fun b hb e2 => ?_)
      have h1 := (hl6.1.lt hb).1
      simp only [Option.some.injEq] at e2
      subst e2
      exact absurd hgl (by omega)
    · have hk2 : k < D.length := by simp at hk; omega
      have h1 := h.lab k (by simp; omega)
      rw [getD_app_lt _ _ _ _ hk2] at h1
      rw [getD_app_lt _ _ _ _ hk2, getD_set_ne _ _ _ _ _ (by omega)]
      refine (h1.kept hg6 (fun b _ e2 => by cases e2)).kept hst.2 (fun b hb e2 => ?_)
      cases e2
      exact h.off k g (by simp; omega) hb rfl
  · by_cases e : k = D.length
    · subst e
      rw [getD_set_eq _ _ _ _ (by omega)] at hb
      have h1 := (hl6.1.lt hb).1
      intro e2
      simp only [Value.ownBlock, Option.some.injEq] at e2
      subst e2
      exact absurd hgl (by omega)
    · have hk2 : k < D.length := by simp at hk; omega
      rw [getD_set_ne _ _ _ _ _ (by omega)] at hb
      exact h.off k b (by simp; omega) hb

theorem grownBy_off {a b c : World} {row : Option Nat} (h : a.grownBy b none) (k : b.grownBy c row) (hr : ∀ j, row = some j → a.heap.size ≤ j) : a.grownBy c none :=
  ⟨k.os.trans h.os, k.tape.trans h.tape, k.output.trans h.output, Nat.le_trans h.size k.size, fun i hi hne => (k.block i (Nat.lt_of_lt_of_le hi h.size) (fun e => by have := hr i e.symm; omega)).trans (h.block i hi hne)⟩
theorem ints_oneS (w : World) (c : Int) : IntsIn (w.alloc (.cells #[.int .i64 c] 3)) (some ⟨w.heap.size, 0, none⟩) [c] := by
  intro k hk
  have : k = 0 := by simp at hk; exact hk
  subst this
  exact ⟨_, _, rfl, by simp [World.cell?_alloc_new]⟩

/-- What Labels leaves. -/
def LabPost (L : List (List Int)) (w : World) (e : Ending) (w' : World) : Prop :=
  ∃ g cap, e = .returned (.slice (some ⟨g, 0, none⟩) L.length cap) ∧ LsNew w' w.heap.size g cap L ∧ Below w.heap.size w w'

set_option maxRecDepth 100000 in
set_option maxHeartbeats 4000000 in
theorem rlabels_at (p : Option Addr) (n cap : Nat) (l : List Int) (w : World) (hin : IntsIn w p l) (hn : Hid (l.length = n)) (hn2 : n ≤ 1099511627776) :
    Calls Try.prog 13 #[.slice p n cap] w (LabPost (cutD l) w) := by
  have HI := Lib.hid hin
  clear hin
  obtain ⟨i0, hi, hz0, hz1, hz2⟩ := info_parts Try.info22
  have HS0 := Lib.hid (Labs.start w w.heap.size (Nat.le_refl _))
  have HB0 := Lib.hid ((Below.refl w.heap.size w).alloc (Nat.le_refl _) (.cells #[.slice none 0 0] 22))
  go_enter Try.func13, Try.ntmps13
  go_wp2
  go_loopw [3, 10] (fun u i wr => ∃ (k : Nat) (D : List (List Int)) (cur : List Int) (Vs : List Value), k ≤ n ∧ i = .int .i64 k ∧ D.length ≤ k ∧ cur.length ≤ k ∧ Hid (cutG D cur (l.drop k) = cutD l) ∧ Hid (Labs wr w.heap.size u (D ++ [cur]) Vs) ∧ Hid (Below w.heap.size w wr)) (fun _ i _ => n - (intOf i).toNat)
  case atStart => exact ⟨0, [], [], _, Nat.zero_le _, rfl, Nat.le_refl _, Nat.le_refl _, rfl, HS0, HB0⟩
  case round =>
    clear HS0 HB0
    obtain ⟨k, D, cur, Vs, hk, rfl, hD, hcur, hcut, hls, hbel⟩ := hrel
    obtain ⟨g, cp, rfl, hgB, hgl⟩ := hls.out.opened (by simp)
    have hlD : (D ++ [cur]).length = D.length + 1 := by simp
    rw [hlD] at hls ⊢
    obtain ⟨dn, hdn⟩ : ∃ dn, D.length = dn := ⟨_, rfl⟩
    have HDN := Lib.hid hdn
    have HLS := Lib.hid hls.out
    have hown := hls.out.own
    rw [hlD, hdn] at hown
    have HOWN := Lib.hid hown
    have HBE := Lib.hid hbel.out
    have HSZ := Lib.hid hbel.out.size
    rw [hdn] at hD HLS ⊢
    clear hls hbel hlD hown
    by_cases hlt : k < n
    · have hkl : k < l.length := by rw [hn.out]; exact hlt
      obtain ⟨b, off, rfl, hck⟩ := (HI.out.below HBE.out) k hkl
      obtain ⟨c, hc⟩ : ∃ c, l.getD k 0 = c := ⟨_, rfl⟩
      rw [hc] at hck
      by_cases e : c = 46
      · subst e
        have HC : Hid (cutG (D ++ [cur]) [] (l.drop (k + 1)) = cutD l) := by unfold Hid; rw [← cut_dot hkl hc]; exact hcut.out
        clear hc hkl hcut hdn
        go_wp2_with (at_builtin; refine wpList_append_own_at _ rfl _ _ 23 rfl w.heap.size 22 i0 (.slice none 0 0) 1 24 Try.underlying23 hi hz0 hz1 hz2 rfl (by decide) (.slice (some ⟨g, 0, none⟩) (dn + 1) cp) (dn + 1) Vs rfl (World.ownsRow.alloc HOWN.out (.cells #[.slice none 0 0] 22)) ⟨_, 0, none⟩ 1 1 [.slice none 0 0] rfl rfl (cell_one_new _ _ _) (by intro u hu; simp at hu; subst hu; rfl) (by unfold maxLen; omega) (by omega) (by have := HSZ.out; simp; omega) ?_; intro v5 w5 ho5 hg5 _ hv5)
        have HL5 : Hid (Labs w5 w.heap.size v5 ((D ++ [cur]) ++ [[]]) (Vs ++ [.slice none 0 0])) :=
          HLS.out.push (World.grownBy_alloc _ _ _) (by rw [show (D ++ [cur]).length = dn + 1 by simp [HDN.out]]; exact ho5) hg5 hv5
        have HB5 : Hid (Below w.heap.size w w5) := (HBE.out.alloc HBE.out.size _).grown hg5 (by have := HSZ.out; simp; omega) (by rintro j ⟨⟩; exact hgB)
        clear ho5 hg5 hv5 HOWN HLS
        go_wp2
        go_roundw
        case rel => exact ⟨k + 1, D ++ [cur], [], _, by omega, by go_num, by simp [HDN.out]; omega, by simp, HC, HL5, HB5⟩
        case measure => simp [intOf]; omega
      · have d1 : (c == 46) = false := by simp [e]
        have HC : Hid (cutG D (cur ++ [c]) (l.drop (k + 1)) = cutD l) := by unfold Hid; rw [← cut_no hkl hc e]; exact hcut.out
        have hlb := HLS.out.lab dn (by rw [← hdn]; simp)
        rw [← hdn, getD_app_at, hdn] at hlb
        have hcell := World.ownsRow.cellAt HOWN.out dn (by omega)
        have hvl : Vs.length = dn + 1 := by have := HLS.out.len; rw [← hdn]; simpa using this
        have hfz := World.ownsRow.frozenAt HOWN.out dn
        obtain ⟨q, cq, hq, hql, hqi, _⟩ := hlb
        have hcell2 : wr.cell? ⟨g, dn, none⟩ = some (.slice q cur.length cq) := by
          rw [hcell, ← hq]; simp [List.getD, hvl]
        obtain ⟨nc, hnc⟩ : ∃ nc, cur.length = nc := ⟨_, rfl⟩
        rw [hnc] at hcell2 hcur
        have HNC := Lib.hid hnc
        have HQI := Lib.hid hqi
        have hw1 : IntKind.i64.wrap ((dn : Int) + 1 - 1) = dn := by rw [IntWalk.i64_in _ (by omega)]; omega
        have HG := Lib.hid hgl
        have HFZ := Lib.hid hfz
        clear hc hkl hcut hcell hq hql hqi hnc hvl hdn e hfz
        go_wp2_with (at_builtin; first
          | (refine wpList_append_ints (.const (.slice none 0 0)) (.tmp 27) rfl rfl wr.heap.size (.slice none 0 0) [] (by rfl) (Ints.nil _ _) q nc cq cur HNC.out (by rfl) HQI.out (by rw [HNC.out]; simp; omega) (Nat.le_refl _) ?_
             intro v5 w5 ho5 hg5
             have HO5 := Lib.hid ho5
             have HG5 := Lib.hid hg5
             have HZ5 := Lib.hid hg5.size)
          | (refine wpList_append_ints (.tmp 28) (.tmp 30) rfl rfl wr.heap.size v5 ([] ++ cur) (by rfl) (World.ownsRow.alloc HO5.out _) (some ⟨w5.heap.size, 0, none⟩) 1 1 [c] rfl (by rfl) (ints_oneS w5 c) (by simp only [List.nil_append, List.length_singleton]; rw [HNC.out]; omega) (by have := HZ5.out; simp; omega) ?_
             intro v6 w6 ho6 hg6
             obtain ⟨p6, c6, rfl, _, _⟩ := ints_capL ho6
             obtain ⟨n6, hn6⟩ : ∃ n6, (([] ++ cur) ++ [c]).length = n6 := ⟨_, rfl⟩
             rw [hn6] at ho6 ⊢
             have HO6 := Lib.hid ho6
             clear hn6
             have HG6 : Hid (wr.grownBy w6 none) := grownBy_off (HG5.out.trans (World.grownBy_alloc w5 _ none)) hg6 (fun j hj => (World.ownsRow.lt HO5.out j hj).1)
             have hcx : w6.cell? ⟨g, dn, none⟩ = some (.slice q nc cq) := HG6.out.cell hcell2 (by simp)
             have hfx : w6.frozen? ⟨g, dn, none⟩ = false := (World.frozen?_of_block (HG6.out.block g HG.out (by simp))).trans HFZ.out
             clear ho6 hg6 ho5 hg5))
        have HP : Hid (Labs (w6.setCell ⟨g, dn, none⟩ (.slice p6 n6 c6)) w.heap.size (.slice (some ⟨g, 0, none⟩) (dn + 1) cp) (D ++ [cur ++ [c]]) (Vs.set dn (.slice p6 n6 c6))) := by
          have := HLS.out.put (x := cur ++ [c]) (v6 := .slice p6 n6 c6) (w6 := w6) (by simpa using HO6.out) HG6.out HSZ.out
          rw [HDN.out] at this
          exact this
        have HB6 : Hid (Below w.heap.size w (w6.setCell ⟨g, dn, none⟩ (.slice p6 n6 c6))) :=
          (HBE.out.grown HG6.out HSZ.out (by intro j e; cases e)).setCell (p := ⟨g, dn, none⟩) hgB (.slice p6 n6 c6)
        clear hcx hfx hcell2
        go_roundw
        case rel => exact ⟨k + 1, D, cur ++ [c], _, by omega, by go_num, by rw [HDN.out]; omega, by simp; rw [HNC.out]; omega, HC, HP, HB6⟩
        case measure => simp [intOf]; omega
    · obtain rfl : k = n := by omega
      have HE : Hid (D ++ [cur] = cutD l) := by
        have := hcut.out
        rwa [cut_end (by rw [hn.out]; exact Nat.le_refl _)] at this
      obtain ⟨g2, cp2, e, hnew⟩ := HLS.out.new (by simp)
      injection e with e1 e2 e3
      injection e1 with e1
      injection e1 with e1
      subst e1; subst e3
      have HNEW := Lib.hid hnew
      have HLE : Hid ((cutD l).length = dn + 1) := by unfold Hid; rw [← HE.out]; simp [HDN.out]
      clear hcut e2 hnew hdn
      go_wp2
      go_ret
      refine ⟨g, cp, by rw [HLE.out]; rfl, ?_, HBE.out⟩
      rw [← HE.out]
      exact HNEW.out

end Go.Proofs.Ytebhliepncmghaa
