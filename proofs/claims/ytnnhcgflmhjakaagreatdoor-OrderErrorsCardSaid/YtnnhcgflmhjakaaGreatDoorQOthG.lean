/-
  keep.Other: case 9 (genO.py).
-/
import Derived.Test.YtnnhcgflmhjakaaGreatDoorPkH
set_option linter.unusedSimpArgs false
set_option linter.unusedVariables false
namespace Go.Proofs.YtnnhcgflmhjakaaGreatDoor
open Go.RowKit
set_option linter.unusedVariables false

/-- What slot 152 + j holds once its operation is done. -/
def R9 (W : World) (tb : Nat) (p9 : Option Addr) (n9 q9 : Nat) (Q : List Mq) (vv aa : Int) (z z' : Nat) (y y' : Int) : Nat → Value → World → Prop
  | 0, v, w => v = .pointer (some ⟨tb, 9, none⟩)
  | 1, v, w => v = .slice p9 n9 q9
  | 2, v, w => RowQ w W.heap.size v Q
  | 3, v, w => ∃ b, v = .slice (some ⟨b, 0, none⟩) 3 3 ∧ IntsIn w (some ⟨b, 0, none⟩) [769, 776, 803]
  | 4, v, w => v = .int .i64 vv
  | 5, v, w => v = .int .i64 z
  | 6, v, w => ∃ b, v = .pointer (some ⟨b, z, none⟩) ∧ w.cell? ⟨b, z, none⟩ = some (.int .i64 y)
  | 7, v, w => v = .int .i64 y
  | 8, v, w => ∃ b, v = .slice (some ⟨b, 0, none⟩) 2 2 ∧ W.heap.size ≤ b ∧ Blk w b #[.int .i64 97, .int .i64 y]
  | 9, v, w => ∃ b, v = .agg #[.int .i64 131072, .slice (some ⟨b, 0, none⟩) 2 2] ∧ W.heap.size ≤ b ∧ Blk w b #[.int .i64 97, .int .i64 y]
  | 10, v, w => ∃ b, v = .slice (some ⟨b, 0, none⟩) 3 3 ∧ IntsIn w (some ⟨b, 0, none⟩) [769, 776, 803]
  | 11, v, w => v = .int .i64 aa
  | 12, v, w => v = .int .i64 z'
  | 13, v, w => ∃ b, v = .pointer (some ⟨b, z', none⟩) ∧ w.cell? ⟨b, z', none⟩ = some (.int .i64 y')
  | 14, v, w => v = .int .i64 y'
  | 15, v, w => ∃ b, v = .slice (some ⟨b, 0, none⟩) 2 2 ∧ W.heap.size ≤ b ∧ Blk w b #[.int .i64 97, .int .i64 y']
  | 16, v, w => ∃ b, v = .agg #[.int .i64 131073, .slice (some ⟨b, 0, none⟩) 2 2] ∧ W.heap.size ≤ b ∧ Blk w b #[.int .i64 97, .int .i64 y']
  | 17, v, w => ∃ b b1 b2, v = .slice (some ⟨b, 0, none⟩) 2 2 ∧ MqIn w (some ⟨b, 0, none⟩) [((131072, [97, y]), .slice (some ⟨b1, 0, none⟩) 2 2), ((131073, [97, y']), .slice (some ⟨b2, 0, none⟩) 2 2)] ∧ W.heap.size ≤ b1 ∧ W.heap.size ≤ b2 ∧ Blk w b1 #[.int .i64 97, .int .i64 y] ∧ Blk w b2 #[.int .i64 97, .int .i64 y']
  | _, _, _ => True

theorem MqIn.keepsF {w w' : World} {p : Option Addr} {Q : List Mq} (h : MqIn w p Q) (hb : Keeps w w' (fun _ => False)) : MqIn w' p Q :=
  h.below (hb.below (Nat.le_refl _) (fun _ _ e => e.elim))

theorem R9.mono {W : World} {tb : Nat} {p9 : Option Addr} {n9 q9 : Nat} {Q : List Mq} {vv aa : Int} {z z' : Nat} {y y' : Int} {j : Nat} {v : Value} {w w' : World} (h : R9 W tb p9 n9 q9 Q vv aa z z' y y' j v w) (hk : Keeps w w' (fun _ => False)) : R9 W tb p9 n9 q9 Q vv aa z z' y y' j v w' := by
  rcases Nat.lt_or_ge j 18 with hj | hj
  · have hjs : j = 0 ∨ j = 1 ∨ j = 2 ∨ j = 3 ∨ j = 4 ∨ j = 5 ∨ j = 6 ∨ j = 7 ∨ j = 8 ∨ j = 9 ∨ j = 10 ∨ j = 11 ∨ j = 12 ∨ j = 13 ∨ j = 14 ∨ j = 15 ∨ j = 16 ∨ j = 17 := by omega
    rcases hjs with rfl | rfl | rfl | rfl | rfl | rfl | rfl | rfl | rfl | rfl | rfl | rfl | rfl | rfl | rfl | rfl | rfl | rfl
    · exact h
    · exact h
    · exact hk.owns h (fun k hk e => e)
    · obtain ⟨b, e, h1⟩ := h; exact ⟨b, e, h1.keeps hk (fun _ _ _ e => e)⟩
    · exact h
    · exact h
    · obtain ⟨b, e, h1⟩ := h; exact ⟨b, e, hk.cell h1 (fun e => e)⟩
    · exact h
    · obtain ⟨b, e, h0, h1⟩ := h; exact ⟨b, e, h0, h1.keeps hk (fun e => e)⟩
    · obtain ⟨b, e, h0, h1⟩ := h; exact ⟨b, e, h0, h1.keeps hk (fun e => e)⟩
    · obtain ⟨b, e, h1⟩ := h; exact ⟨b, e, h1.keeps hk (fun _ _ _ e => e)⟩
    · exact h
    · exact h
    · obtain ⟨b, e, h1⟩ := h; exact ⟨b, e, hk.cell h1 (fun e => e)⟩
    · exact h
    · obtain ⟨b, e, h0, h1⟩ := h; exact ⟨b, e, h0, h1.keeps hk (fun e => e)⟩
    · obtain ⟨b, e, h0, h1⟩ := h; exact ⟨b, e, h0, h1.keeps hk (fun e => e)⟩
    · obtain ⟨b, b1, b2, e, h0, h1, h2, h3, h4⟩ := h
      exact ⟨b, b1, b2, e, h0.keepsF hk, h1, h2, h3.keeps hk (fun e => e), h4.keeps hk (fun e => e)⟩
  · obtain ⟨k, rfl⟩ : ∃ k, j = k + 18 := ⟨j - 18, by omega⟩
    exact trivial

def J9 (a0 : Act) (W : World) (tb : Nat) (p9 : Option Addr) (n9 q9 : Nat) (Q : List Mq) (vv aa : Int) (z z' : Nat) (y y' : Int) (d : Nat → Bool) (a : Act) (w : World) : Prop :=
  ∃ xs : List Value, xs.length = 18 ∧ a = putsA a0 152 xs ∧ Keeps W w (fun _ => False) ∧ ∀ j, j < 18 → d j = true → R9 W tb p9 n9 q9 Q vv aa z z' y y' j (xs.getD j undef) w

section
variable {a0 : Act} {W : World} {tb : Nat} {p9 : Option Addr} {n9 q9 : Nat} {Q : List Mq} {vv aa : Int} {z z' : Nat} {y y' : Int} {d : Nat → Bool} {w w' : World} {xs : List Value}

theorem J9.next (hx : xs.length = 18) (hk : Keeps W w (fun _ => False)) (hR : ∀ j, j < 18 → d j = true → R9 W tb p9 n9 q9 Q vv aa z z' y y' j (xs.getD j undef) w) (j : Nat) (hj : j < 18) {v : Value} (hkw : Keeps w w' (fun _ => False)) (hv : R9 W tb p9 n9 q9 Q vv aa z z' y y' j v w') :
    J9 a0 W tb p9 n9 q9 Q vv aa z z' y y' (setB d j) ((putsA a0 152 xs).put (some (152 + j)) v) w' := by
  refine ⟨xs.set j v, by simpa using hx, putsA_set _ _ _ _ _ (by omega), hk.trans hkw (fun _ _ e => e) (fun _ _ e => e), fun k hk2 hd => ?_⟩
  by_cases e : k = j
  · subst e
    rw [List.getD_eq_getElem?_getD, List.getElem?_set_self (by omega)]
    exact hv
  · rw [setB_other _ e] at hd
    rw [List.getD_eq_getElem?_getD, List.getElem?_set_ne (fun h => e h.symm), ← List.getD_eq_getElem?_getD]
    exact (hR k hk2 hd).mono hkw

theorem ev_slot (ha : a0.tmps.size = 194) (hx : xs.length = 18) (j : Nat) (hj : j < 18) : (putsA a0 152 xs).eval (.tmp (152 + j)) = xs.getD j undef :=
  putsA_at a0 152 xs j (by omega) (by omega)
theorem ev_low (k : Nat) (hk : k < 152) {v : Value} (h : a0.tmps.getD k undef = v) : (putsA a0 152 xs).eval (.tmp k) = v := (putsA_low a0 152 k xs hk).trans h
end

theorem lit_at {w : World} {b z : Nat} {y : Int} {L : List Int} (h : IntsIn w (some ⟨b, 0, none⟩) L) (hz : z < L.length) (hy : L.getD z 0 = y) : w.cell? ⟨b, z, none⟩ = some (.int .i64 y) := by
  obtain ⟨b', off, e, hc⟩ := h z hz
  cases e
  rw [hy] at hc
  simpa using hc

theorem list18 (xs : List Value) (h : xs.length = 18) : ∃ x0 x1 x2 x3 x4 x5 x6 x7 x8 x9 x10 x11 x12 x13 x14 x15 x16 x17, xs = [x0, x1, x2, x3, x4, x5, x6, x7, x8, x9, x10, x11, x12, x13, x14, x15, x16, x17] := by
  match xs, h with
  | [x0, x1, x2, x3, x4, x5, x6, x7, x8, x9, x10, x11, x12, x13, x14, x15, x16, x17], _ => exact ⟨_, _, _, _, _, _, _, _, _, _, _, _, _, _, _, _, _, _, rfl⟩

set_option maxRecDepth 100000 in
set_option maxHeartbeats 4000000 in
theorem other_9 (x : TV) (T : Tb) (n : Nat) (how at' v : Int) (w : World) (hx : TabV w x T) (hf : Few n T) (hn : n ≤ 1000) (hk : Hid (pickS how 12 = 9)) :
    Calls Tryz.prog 10 #[x.agg, .int .i64 how, .int .i64 at', .int .i64 v] w (OtherPost x n w) := by
  obtain ⟨a0, a1, a2, a3, a4, a5, a6, a7, a8, a9, a10, a11⟩ := x
  obtain ⟨p0, n0, q0, hsl0⟩ : Slc a0 := hx.cat.slc
  subst hsl0
  obtain ⟨p1, n1, q1, hsl1⟩ : Slc a1 := hx.cls.slc
  subst hsl1
  obtain ⟨p2, n2, q2, hsl2⟩ : Slc a2 := hx.joi.slc
  subst hsl2
  obtain ⟨p3, n3, q3, hsl3⟩ : Slc a3 := hx.bid.slc
  subst hsl3
  obtain ⟨p4, n4, q4, hsl4⟩ : Slc a4 := hx.scr.slc
  subst hsl4
  obtain ⟨p5, n5, q5, hsl5⟩ : Slc a5 := hx.sta.slc
  subst hsl5
  obtain ⟨p6, n6, q6, hsl6⟩ : Slc a6 := hx.ign.slc
  subst hsl6
  obtain ⟨p7, n7, q7, hsl7⟩ : Slc a7 := hx.ext.slc
  subst hsl7
  obtain ⟨p8, n8, q8, hsl8⟩ : Slc a8 := hx.map.slc
  subst hsl8
  obtain ⟨p9, n9, q9, hsl9⟩ : Slc a9 := hx.dec.slc
  subst hsl9
  obtain ⟨p10, n10, q10, hsl10⟩ : Slc a10 := hx.exc.slc
  subst hsl10
  obtain ⟨p11, n11, q11, hsl11⟩ : Slc a11 := hx.pro.slc
  subst hsl11
  have hC := OCase.new w ⟨.slice p0 n0 q0, .slice p1 n1 q1, .slice p2 n2 q2, .slice p3 n3 q3, .slice p4 n4 q4, .slice p5 n5 q5, .slice p6 n6 q6, .slice p7 n7 q7, .slice p8 n8 q8, .slice p9 n9 q9, .slice p10 n10 q10, .slice p11 n11 q11⟩ 29
  obtain ⟨W, hW⟩ : ∃ W, ((w.alloc (.cells #[.slice p0 n0 q0, .slice p1 n1 q1, .slice p2 n2 q2, .slice p3 n3 q3, .slice p4 n4 q4, .slice p5 n5 q5, .slice p6 n6 q6, .slice p7 n7 q7, .slice p8 n8 q8, .slice p9 n9 q9, .slice p10 n10 q10, .slice p11 n11 q11] 29)).alloc (.cells nilC 29)).alloc (.cells #[.slice p0 n0 q0, .slice p1 n1 q1, .slice p2 n2 q2, .slice p3 n3 q3, .slice p4 n4 q4, .slice p5 n5 q5, .slice p6 n6 q6, .slice p7 n7 q7, .slice p8 n8 q8, .slice p9 n9 q9, .slice p10 n10 q10, .slice p11 n11 q11] 29) = W := ⟨_, rfl⟩
  simp only [tabCells] at hC
  rw [hW] at hC
  have HC := Lib.hid hC
  have HX := Lib.hid hx
  have HF := Lib.hid hf
  obtain ⟨pp, cc, he9, hin9, hl9⟩ := hx.dec
  injection he9 with e1 e2 e3
  subst e1
  subst e3
  obtain ⟨Q, hQm, hQi, hQt⟩ := mq_of hin9
  have hQl : Q.length = n9 := by rw [e2, ← hQm, List.length_map]
  have hle : n9 ≤ n := by rw [e2]; exact hf.dec
  have HQM := Lib.hid hQm
  have HQI := Lib.hid (hQi.below hC.bel)
  have HQT := Lib.hid hQt
  have HQL := Lib.hid hQl
  have HCT : Hid (W.cell? ⟨w.heap.size, 9, none⟩ = some (.slice p9 n9 q9)) := hC.cellT (by omega)
  clear hin9 hl9 hQm hQi hQt e2
  obtain ⟨z0, HZ, hz0, hz1⟩ := pick_nm v 3 (by omega)
  obtain ⟨z, rfl⟩ : ∃ k : Nat, z0 = k := ⟨z0.toNat, by omega⟩
  obtain ⟨y, hy⟩ : ∃ k, ([769, 776, 803] : List Int).getD z 0 = k := ⟨_, rfl⟩
  have hz3 : z < 3 := by omega
  have hz4 : (z : Int) < ((3 : Nat) : Int) := by omega
  obtain ⟨z'0, HZ', hz'0, hz'1⟩ := pick_nm at' 3 (by omega)
  obtain ⟨z', rfl⟩ : ∃ k : Nat, z'0 = k := ⟨z'0.toNat, by omega⟩
  obtain ⟨y', hy'⟩ : ∃ k, ([769, 776, 803] : List Int).getD z' 0 = k := ⟨_, rfl⟩
  have hz'3 : z' < 3 := by omega
  have hz'4 : (z' : Int) < ((3 : Nat) : Int) := by omega
  go_enter Tryz.func10, Tryz.ntmps10
  go_wp2_with fail
  refine (pick_at how 12 9 _ (by omega) (by omega) hk).mono ?_
  rintro e wz ⟨rfl, rfl⟩
  clear hW hC hx hf hk
  go_upto_region 23 with (fail)
  refine wp_region_any (by kernel_rfl) ?_
  change wpAny _ _ _ _ (18 + 3) _ _ W.drew
  generalize ha : ({ tmps := _, defers := [] } : Act) = a0
  have s2 : a0.tmps.getD 2 undef = .int .i64 at' := by rw [← ha]; rfl
  have s3 : a0.tmps.getD 3 undef = .int .i64 v := by rw [← ha]; rfl
  have s4 : a0.tmps.getD 4 undef = .pointer (some ⟨w.heap.size, 0, none⟩) := by rw [← ha]; rfl
  have s9 : a0.tmps.getD 9 undef = .pointer (some ⟨w.heap.size + 1 + 1, 0, none⟩) := by rw [← ha]; rfl
  have ss : a0.tmps.size = 194 := by rw [← ha]; rfl
  have s0 : a0 = putsA a0 152 (List.replicate 18 undef) := by rw [← ha]; kernel_rfl
  refine wpAny_stage 18 (Array.replicate 21 false) #[true, true, true, true, true, true, true, true, true, true, true, true, true, true, true, true, true, true, false, false, false] (J9 a0 W w.heap.size p9 n9 q9 Q v at' z z' y y') 3 (by decide) (by kernel_rfl) (by kernel_rfl) (by kernel_rfl) rfl (fun j hj => ?_) (fun t ht => ?_) ?_ ?_ 18 _ _ _ ⟨rfl, fun j oj hj ho hl => ?_, fun t _ => ?_⟩ (by decide) ?_
  · have hjs : j = 0 ∨ j = 1 ∨ j = 2 ∨ j = 3 ∨ j = 4 ∨ j = 5 ∨ j = 6 ∨ j = 7 ∨ j = 8 ∨ j = 9 ∨ j = 10 ∨ j = 11 ∨ j = 12 ∨ j = 13 ∨ j = 14 ∨ j = 15 ∨ j = 16 ∨ j = 17 := by omega
    rcases hjs with rfl | rfl | rfl | rfl | rfl | rfl | rfl | rfl | rfl | rfl | rfl | rfl | rfl | rfl | rfl | rfl | rfl | rfl <;> rfl
  · rcases Nat.lt_or_ge t 21 with h | h
    · have hts : t = 18 ∨ t = 19 ∨ t = 20 := by omega
      rcases hts with rfl | rfl | rfl <;> rfl
    · rw [Array.getD_eq_getD_getElem?, Array.getD_eq_getD_getElem?, Array.getElem?_eq_none (by simpa using h), Array.getElem?_eq_none (by simpa using h)]
  · clear ha s0
    intro d a wz j o hj ho hd hdep hJ
    obtain ⟨xs, hxl, rfl, hkW, hR⟩ := hJ
    have hsz := hkW.size
    have hjs : j = 0 ∨ j = 1 ∨ j = 2 ∨ j = 3 ∨ j = 4 ∨ j = 5 ∨ j = 6 ∨ j = 7 ∨ j = 8 ∨ j = 9 ∨ j = 10 ∨ j = 11 ∨ j = 12 ∨ j = 13 ∨ j = 14 ∨ j = 15 ∨ j = 16 ∨ j = 17 := by omega
    rcases hjs with rfl | rfl | rfl | rfl | rfl | rfl | rfl | rfl | rfl | rfl | rfl | rfl | rfl | rfl | rfl | rfl | rfl | rfl
    · cases ho
      refine wpOp_step rfl (fun K hK => ?_)
      refine want rfl ?_
      exact ol_field (.tmp 4) rfl _ (ev_low 4 (by omega) s4) (hK _ _ (J9.next hxl hkW hR 0 (by omega) (Keeps.refl _ _) rfl))
    · cases ho
      refine wpOp_step rfl (fun K hK => ?_)
      have e0 : xs.getD 0 undef = _ := hR 0 (by omega) (hdep ⟨0, .data⟩ (by simp) rfl)
      refine want rfl ?_
      exact ol_loadM (.tmp 152) rfl _ 9 _ ((ev_slot ss hxl 0 (by omega)).trans e0) (hkW.cell HCT.out (fun e => e)) (hK _ _ (J9.next hxl hkW hR 1 (by omega) (Keeps.refl _ _) rfl))
    · cases ho
      refine wpOp_step rfl (fun K hK => ?_)
      have e1 : xs.getD 1 undef = _ := hR 1 (by omega) (hdep ⟨1, .data⟩ (by simp) rfl)
      refine step_append_maps rfl (.const (.slice none 0 0)) (.tmp 153) rfl W.heap.size (.slice none 0 0) [] rfl (RowQ.nil _ _) p9 n9 q9 Q HQL.out ((ev_slot ss hxl 1 (by omega)).trans e1) (HQI.out.keepsF hkW) (by have := HQL.out; simp; omega) hsz (fun v' w' ho' hg' => ?_)
      exact hK _ _ (J9.next hxl hkW hR 2 (by omega) (keeps_g hg') ho')
    · cases ho
      refine wpOp_step rfl (fun K hK => ?_)
      refine want rfl ?_
      exact ol_lit3 769 776 803 rfl (hK _ _ (J9.next hxl hkW hR 3 (by omega) (Keeps.alloc _ _) ⟨_, rfl, ints_cells _ _ _ 0 _ rfl (by intro k hk; have hk2 : k = 0 ∨ k = 1 ∨ k = 2 := (by simp at hk; omega); rcases hk2 with rfl | rfl | rfl <;> rfl)⟩))
    · cases ho
      refine wpOp_step rfl (fun K hK => ?_)
      refine want rfl ?_
      exact ol_move (.tmp 3) rfl _ (ev_low 3 (by omega) s3) (hK _ _ (J9.next hxl hkW hR 4 (by omega) (Keeps.refl _ _) rfl))
    · cases ho
      refine wpOp_step rfl (fun K hK => ?_)
      have e0 : xs.getD 4 undef = _ := hR 4 (by omega) (hdep ⟨4, .data⟩ (by simp) rfl)
      refine want rfl ?_
      exact ol_pick 156 3 _ _ rfl ((ev_slot ss hxl 4 (by omega)).trans e0) (by omega) (by omega) HZ (hK _ _ (J9.next hxl hkW hR 5 (by omega) (Keeps.refl _ _) rfl))
    · cases ho
      refine wpOp_step rfl (fun K hK => ?_)
      obtain ⟨b, e0, hi⟩ := hR 3 (by omega) (hdep ⟨3, .data⟩ (by simp) rfl)
      have e1 : xs.getD 5 undef = _ := hR 5 (by omega) (hdep ⟨5, .data⟩ (by simp) rfl)
      refine want rfl ?_
      exact ol_index (.tmp 155) (.tmp 157) rfl b 3 3 z ((ev_slot ss hxl 3 (by omega)).trans e0) ((ev_slot ss hxl 5 (by omega)).trans e1) hz3 hz4 (hK _ _ (J9.next hxl hkW hR 6 (by omega) (Keeps.refl _ _) ⟨b, rfl, lit_at hi hz3 hy⟩))
    · cases ho
      refine wpOp_step rfl (fun K hK => ?_)
      obtain ⟨b, e0, hc⟩ := hR 6 (by omega) (hdep ⟨6, .data⟩ (by simp) rfl)
      refine want rfl ?_
      exact ol_loadI (.tmp 158) rfl b z _ ((ev_slot ss hxl 6 (by omega)).trans e0) hc (hK _ _ (J9.next hxl hkW hR 7 (by omega) (Keeps.refl _ _) rfl))
    · cases ho
      refine wpOp_step rfl (fun K hK => ?_)
      have e0 : xs.getD 7 undef = _ := hR 7 (by omega) (hdep ⟨7, .data⟩ (by simp) rfl)
      refine want rfl ?_
      exact ol_lit2 97 159 _ rfl ((ev_slot ss hxl 7 (by omega)).trans e0) (hK _ _ (J9.next hxl hkW hR 8 (by omega) (Keeps.alloc _ _) ⟨_, rfl, hsz, Blk.new _ _⟩))
    · cases ho
      refine wpOp_step rfl (fun K hK => ?_)
      obtain ⟨b, e0, hb, hi⟩ := hR 8 (by omega) (hdep ⟨8, .data⟩ (by simp) rfl)
      refine want rfl ?_
      exact ol_build 131072 160 _ 2 2 rfl ((ev_slot ss hxl 8 (by omega)).trans e0) (hK _ _ (J9.next hxl hkW hR 9 (by omega) (Keeps.refl _ _) ⟨b, rfl, hb, hi⟩))
    · cases ho
      refine wpOp_step rfl (fun K hK => ?_)
      refine want rfl ?_
      exact ol_lit3 769 776 803 rfl (hK _ _ (J9.next hxl hkW hR 10 (by omega) (Keeps.alloc _ _) ⟨_, rfl, ints_cells _ _ _ 0 _ rfl (by intro k hk; have hk2 : k = 0 ∨ k = 1 ∨ k = 2 := (by simp at hk; omega); rcases hk2 with rfl | rfl | rfl <;> rfl)⟩))
    · cases ho
      refine wpOp_step rfl (fun K hK => ?_)
      refine want rfl ?_
      exact ol_move (.tmp 2) rfl _ (ev_low 2 (by omega) s2) (hK _ _ (J9.next hxl hkW hR 11 (by omega) (Keeps.refl _ _) rfl))
    · cases ho
      refine wpOp_step rfl (fun K hK => ?_)
      have e0 : xs.getD 11 undef = _ := hR 11 (by omega) (hdep ⟨11, .data⟩ (by simp) rfl)
      refine want rfl ?_
      exact ol_pick 163 3 _ _ rfl ((ev_slot ss hxl 11 (by omega)).trans e0) (by omega) (by omega) HZ' (hK _ _ (J9.next hxl hkW hR 12 (by omega) (Keeps.refl _ _) rfl))
    · cases ho
      refine wpOp_step rfl (fun K hK => ?_)
      obtain ⟨b, e0, hi⟩ := hR 10 (by omega) (hdep ⟨10, .data⟩ (by simp) rfl)
      have e1 : xs.getD 12 undef = _ := hR 12 (by omega) (hdep ⟨12, .data⟩ (by simp) rfl)
      refine want rfl ?_
      exact ol_index (.tmp 162) (.tmp 164) rfl b 3 3 z' ((ev_slot ss hxl 10 (by omega)).trans e0) ((ev_slot ss hxl 12 (by omega)).trans e1) hz'3 hz'4 (hK _ _ (J9.next hxl hkW hR 13 (by omega) (Keeps.refl _ _) ⟨b, rfl, lit_at hi hz'3 hy'⟩))
    · cases ho
      refine wpOp_step rfl (fun K hK => ?_)
      obtain ⟨b, e0, hc⟩ := hR 13 (by omega) (hdep ⟨13, .data⟩ (by simp) rfl)
      refine want rfl ?_
      exact ol_loadI (.tmp 165) rfl b z' _ ((ev_slot ss hxl 13 (by omega)).trans e0) hc (hK _ _ (J9.next hxl hkW hR 14 (by omega) (Keeps.refl _ _) rfl))
    · cases ho
      refine wpOp_step rfl (fun K hK => ?_)
      have e0 : xs.getD 14 undef = _ := hR 14 (by omega) (hdep ⟨14, .data⟩ (by simp) rfl)
      refine want rfl ?_
      exact ol_lit2 97 166 _ rfl ((ev_slot ss hxl 14 (by omega)).trans e0) (hK _ _ (J9.next hxl hkW hR 15 (by omega) (Keeps.alloc _ _) ⟨_, rfl, hsz, Blk.new _ _⟩))
    · cases ho
      refine wpOp_step rfl (fun K hK => ?_)
      obtain ⟨b, e0, hb, hi⟩ := hR 15 (by omega) (hdep ⟨15, .data⟩ (by simp) rfl)
      refine want rfl ?_
      exact ol_build 131073 167 _ 2 2 rfl ((ev_slot ss hxl 15 (by omega)).trans e0) (hK _ _ (J9.next hxl hkW hR 16 (by omega) (Keeps.refl _ _) ⟨b, rfl, hb, hi⟩))
    · cases ho
      refine wpOp_step rfl (fun K hK => ?_)
      obtain ⟨b1, e1, hb1, hi1⟩ := hR 9 (by omega) (hdep ⟨9, .data⟩ (by simp) rfl)
      obtain ⟨b2, e2, hb2, hi2⟩ := hR 16 (by omega) (hdep ⟨16, .data⟩ (by simp) rfl)
      refine want rfl ?_
      exact ol_two 161 168 131072 131073 _ _ 2 2 2 2 rfl ((ev_slot ss hxl 9 (by omega)).trans e1) ((ev_slot ss hxl 16 (by omega)).trans e2) (hK _ _ (J9.next hxl hkW hR 17 (by omega) (Keeps.alloc _ _) ⟨_, b1, b2, rfl, mq_new2 _ _ _ _ _ _ _ _ rfl rfl rfl, hb1, hb2, hi1.keeps (Keeps.alloc _ _) (fun e => e), hi2.keeps (Keeps.alloc _ _) (fun e => e)⟩))
  · intro d a wz hall hJ
    obtain ⟨xs, hxl, rfl, hkW, hR⟩ := hJ
    have r2 : RowQ wz W.heap.size (xs.getD 2 undef) Q := hR 2 (by omega) (hall 2 (by omega))
    obtain ⟨b, b1, b2, e17, hmq, hb1, hb2, hi1, hi2⟩ := hR 17 (by omega) (hall 17 (by omega))
    refine wpAny_ready (rs := [18]) (by kernel_rfl) (by simp) (AllReady.cons rfl (fun K hK => ?_) AllReady.nil)
    refine step_append_maps rfl (.tmp 154) (.tmp 169) rfl W.heap.size (xs.getD 2 undef) Q (ev_slot ss hxl 2 (by omega)) r2 (some ⟨b, 0, none⟩) 2 2 [((131072, [97, y]), .slice (some ⟨b1, 0, none⟩) 2 2), ((131073, [97, y']), .slice (some ⟨b2, 0, none⟩) 2 2)] rfl ((ev_slot ss hxl 17 (by omega)).trans e17) hmq (by have := HQL.out; simp; omega) hkW.size (fun v3 w3 ho3 hg3 => ?_)
    have hk3 : Keeps W w3 (fun _ => False) := keeps_two hkW r2 (ka0 wz) hg3
    have hj1 := hi1.keeps (Keeps.of_grown hg3) (fun e => (hi1.ne r2 e) rfl)
    have hj2 := hi2.keeps (Keeps.of_grown hg3) (fun e => (hi2.ne r2 e) rfl)
    have hcf : w3.cell? ⟨w.heap.size + 1 + 1, 9, none⟩ = some (.slice p9 n9 q9) ∧ w3.frozen? ⟨w.heap.size + 1 + 1, 9, none⟩ = false := HC.out.cellG hk3 (by omega)
    obtain ⟨c3, f3⟩ := hcf
    obtain ⟨pv, cv, Nv, rfl⟩ : ∃ p c N, v3 = .slice p N c := by obtain ⟨p, c, e⟩ := RowQ.slice ho3; exact ⟨p, c, _, e⟩
    have hY : ∀ q ∈ [((131072, [97, y]), .slice (some ⟨b1, 0, none⟩) 2 2), ((131073, [97, y']), .slice (some ⟨b2, 0, none⟩) 2 2)], NewTo W w3 q := by
      intro q hq
      simp only [List.mem_cons, List.not_mem_nil, or_false] at hq
      rcases hq with rfl | rfl
      · exact new_to' (hj1.ints [97, y] (by intro k hk; have hk2 : k = 0 ∨ k = 1 := (by simp at hk; omega); rcases hk2 with rfl | rfl <;> rfl)) (by simp) hb1 rfl
      · exact new_to' (hj2.ints [97, y'] (by intro k hk; have hk2 : k = 0 ∨ k = 1 := (by simp at hk; omega); rcases hk2 with rfl | rfl <;> rfl)) (by simp) hb2 rfl
    refine hK _ _ ?_
    obtain ⟨x0, x1, x2, x3, x4, x5, x6, x7, x8, x9, x10, x11, x12, x13, x14, x15, x16, x17, rfl⟩ : ∃ x0 x1 x2 x3 x4 x5 x6 x7 x8 x9 x10 x11 x12 x13 x14 x15 x16 x17, xs = [x0, x1, x2, x3, x4, x5, x6, x7, x8, x9, x10, x11, x12, x13, x14, x15, x16, x17] := list18 xs hxl
    have HE : Hid (∃ x' T', OEnd w (w.heap.size + 1 + 1) (w.heap.size + 1) n ⟨.slice p0 n0 q0, .slice p1 n1 q1, .slice p2 n2 q2, .slice p3 n3 q3, .slice p4 n4 q4, .slice p5 n5 q5, .slice p6 n6 q6, .slice p7 n7 q7, .slice p8 n8 q8, .slice p9 n9 q9, .slice p10 n10 q10, .slice p11 n11 q11⟩ (w3.setCell ⟨w.heap.size + 1 + 1, 9, none⟩ (.slice pv Nv cv)) x' T') :=
      ⟨_, { T with dec := T.dec ++ [(131072, [97, y]), (131073, [97, y'])] }, HC.out.fin (i := 9) (by omega) hk3 (fun wz hz => by
        have o := HC.out.oldT HX.out hk3 wz hz
        exact ⟨o.cat, o.cls, o.joi, o.bid, o.scr, o.sta, o.ign, o.ext, o.map, (by have h := HC.out.maps hk3 ho3 (Nat.le_refl _) HQT.out hY (by have := HQL.out; simp; omega) wz hz; rw [HQM.out] at h; exact h), o.exc, o.pro⟩) ⟨Nat.le_trans HF.out.cat (by omega), Nat.le_trans HF.out.cls (by omega), Nat.le_trans HF.out.joi (by omega), Nat.le_trans HF.out.bid (by omega), Nat.le_trans HF.out.scr (by omega), Nat.le_trans HF.out.sta (by omega), Nat.le_trans HF.out.ign (by omega), Nat.le_trans HF.out.ext (by omega), Nat.le_trans HF.out.map (by omega), by simp only [List.length_append, List.length_cons, List.length_nil]; have := HF.out.dec; omega, Nat.le_trans HF.out.exc (by omega), Nat.le_trans HF.out.pro (by omega)⟩ (fun _ p n c e => row_cap ho3 e)⟩
    clear s0 s2 s3 s4 s9 ss hxl hkW hR r2 hmq hi1 hi2 hj1 hj2 hg3 hk3 hY ho3 e17
    subst ha
    simp only [putsA]
    refine wpAny_ready (rs := [19]) (by kernel_rfl) (by simp) (AllReady.cons rfl (fun K hK => ?_) AllReady.nil)
    go_simp
    refine hK _ _ ?_
    refine wpAny_ready (rs := [20]) (by kernel_rfl) (by simp) (AllReady.cons rfl (fun K hK => ?_) AllReady.nil)
    go_simp
    refine hK _ _ ?_
    refine wpAny_done (by kernel_rfl) ?_ _
    generalize (w3.setCell ⟨w.heap.size + 1 + 1, 9, none⟩ (.slice pv Nv cv)) = wx at HE ⊢
    clear c3 f3
    go_upto_region 28 with (fail)
    generalize hrb : w.heap.size + 1 = rb at HE ⊢
    generalize hgg : w.heap.size + 1 + 1 = g at HE ⊢
    obtain ⟨⟨b0, b1, b2, b3, b4, b5, b6, b7, b8, b9, b10, b11⟩, T', he⟩ := HE.out
    have htv := he.tab wx (Keeps.refl _ _)
    obtain ⟨r0, m0, c0, hsl0⟩ : Slc b0 := htv.cat.slc
    subst hsl0
    obtain ⟨r1, m1, c1, hsl1⟩ : Slc b1 := htv.cls.slc
    subst hsl1
    obtain ⟨r2, m2, c2, hsl2⟩ : Slc b2 := htv.joi.slc
    subst hsl2
    obtain ⟨r3, m3, c3, hsl3⟩ : Slc b3 := htv.bid.slc
    subst hsl3
    obtain ⟨r4, m4, c4, hsl4⟩ : Slc b4 := htv.scr.slc
    subst hsl4
    obtain ⟨r5, m5, c5, hsl5⟩ : Slc b5 := htv.sta.slc
    subst hsl5
    obtain ⟨r6, m6, c6, hsl6⟩ : Slc b6 := htv.ign.slc
    subst hsl6
    obtain ⟨r7, m7, c7, hsl7⟩ : Slc b7 := htv.ext.slc
    subst hsl7
    obtain ⟨r8, m8, c8, hsl8⟩ : Slc b8 := htv.map.slc
    subst hsl8
    obtain ⟨r9, m9, c9, hsl9⟩ : Slc b9 := htv.dec.slc
    subst hsl9
    obtain ⟨r10, m10, c10, hsl10⟩ : Slc b10 := htv.exc.slc
    subst hsl10
    obtain ⟨r11, m11, c11, hsl11⟩ : Slc b11 := htv.pro.slc
    subst hsl11
    have HEE := Lib.hid he
    obtain ⟨⟨k0, k1, k2, k3, k4, k5⟩, ⟨k6, k7, k8, k9, k10, k11⟩⟩ := he.box.load
    simp only at k0 k1 k2 k3 k4 k5 k6 k7 k8 k9 k10 k11
    obtain ⟨s0, t0⟩ := he.res 0 (by omega)
    obtain ⟨s1, t1⟩ := he.res 1 (by omega)
    obtain ⟨s2, t2⟩ := he.res 2 (by omega)
    obtain ⟨s3, t3⟩ := he.res 3 (by omega)
    obtain ⟨s4, t4⟩ := he.res 4 (by omega)
    obtain ⟨s5, t5⟩ := he.res 5 (by omega)
    obtain ⟨s6, t6⟩ := he.res 6 (by omega)
    obtain ⟨s7, t7⟩ := he.res 7 (by omega)
    obtain ⟨s8, t8⟩ := he.res 8 (by omega)
    obtain ⟨s9, t9⟩ := he.res 9 (by omega)
    obtain ⟨s10, t10⟩ := he.res 10 (by omega)
    obtain ⟨s11, t11⟩ := he.res 11 (by omega)
    have HRB : Hid (w.heap.size ≤ rb) := by unfold Hid; omega
    clear HE he htv hrb hgg
    go_wp2
    obtain ⟨hbF, hkF⟩ := store12 wx rb (.slice r0 m0 c0) (.slice r1 m1 c1) (.slice r2 m2 c2) (.slice r3 m3 c3) (.slice r4 m4 c4) (.slice r5 m5 c5) (.slice r6 m6 c6) (.slice r7 m7 c7) (.slice r8 m8 c8) (.slice r9 m9 c9) (.slice r10 m10 c10) (.slice r11 m11 c11) HEE.out.res
    generalize (World.setCell (World.setCell (World.setCell (World.setCell (World.setCell (World.setCell (World.setCell (World.setCell (World.setCell (World.setCell (World.setCell (World.setCell (wx) ⟨rb, 0, none⟩ (.slice r0 m0 c0)) ⟨rb, 1, none⟩ (.slice r1 m1 c1)) ⟨rb, 2, none⟩ (.slice r2 m2 c2)) ⟨rb, 3, none⟩ (.slice r3 m3 c3)) ⟨rb, 4, none⟩ (.slice r4 m4 c4)) ⟨rb, 5, none⟩ (.slice r5 m5 c5)) ⟨rb, 6, none⟩ (.slice r6 m6 c6)) ⟨rb, 7, none⟩ (.slice r7 m7 c7)) ⟨rb, 8, none⟩ (.slice r8 m8 c8)) ⟨rb, 9, none⟩ (.slice r9 m9 c9)) ⟨rb, 10, none⟩ (.slice r10 m10 c10)) ⟨rb, 11, none⟩ (.slice r11 m11 c11)) = WF at hbF hkF ⊢
    obtain ⟨⟨Q0, Q1, Q2, Q3, Q4, Q5⟩, ⟨Q6, Q7, Q8, Q9, Q10, Q11⟩⟩ := hbF.load
    simp only at Q0 Q1 Q2 Q3 Q4 Q5 Q6 Q7 Q8 Q9 Q10 Q11
    refine bodyPost_ret (v := .agg #[.slice r0 m0 c0, .slice r1 m1 c1, .slice r2 m2 c2, .slice r3 m3 c3, .slice r4 m4 c4, .slice r5 m5 c5, .slice r6 m6 c6, .slice r7 m7 c7, .slice r8 m8 c8, .slice r9 m9 c9, .slice r10 m10 c10, .slice r11 m11 c11]) (by simp [results, Tryz.results10, go_sem, Q0, Q1, Q2, Q3, Q4, Q5, Q6, Q7, Q8, Q9, Q10, Q11]) rfl ?_
    exact ⟨⟨.slice r0 m0 c0, .slice r1 m1 c1, .slice r2 m2 c2, .slice r3 m3 c3, .slice r4 m4 c4, .slice r5 m5 c5, .slice r6 m6 c6, .slice r7 m7 c7, .slice r8 m8 c8, .slice r9 m9 c9, .slice r10 m10 c10, .slice r11 m11 c11⟩, T', rfl, HEE.out.tab WF hkF, HEE.out.few, HEE.out.cap, HEE.out.bel.trans (hkF.below HEE.out.bel.size (fun b _ e => by have := HRB.out; omega))⟩
  · have hl2 : (Array.replicate 21 false).getD j false = true := hl
    rw [getD_replicate_false] at hl2
    cases hl2
  · rfl
  · exact ⟨List.replicate 18 undef, by simp, s0, ⟨rfl, rfl, rfl, Nat.le_refl _, fun _ _ _ => rfl⟩, fun j hj hd => by
      have hd2 : (Array.replicate 21 false).getD j false = true := hd
      rw [getD_replicate_false] at hd2
      cases hd2⟩

end Go.Proofs.YtnnhcgflmhjakaaGreatDoor
