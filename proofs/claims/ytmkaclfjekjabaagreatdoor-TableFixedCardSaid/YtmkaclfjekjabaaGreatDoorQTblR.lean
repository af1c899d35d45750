/-
  Properties of a code point, the program's and the reference's: joining, Bidi, sequences.
-/
import Derived.Test.YtmkaclfjekjabaaGreatDoorQTblQ
set_option linter.unusedSimpArgs false
set_option linter.unusedVariables false
namespace Go.Proofs.YtmkaclfjekjabaaGreatDoor
open Go.RowKit
set_option linter.unusedVariables false

set_option maxHeartbeats 2000000 in
theorem joining_at (x : TV) (T : Tb) (c : Int) (z : Int) (w : World) (hx : TabV w x T) (ha : ascB 0 T.joi = true) (hz : Hid (joiT T c = z)) :
    Calls Tryz.prog 20 #[x.agg, .int .i64 c] w (Gives (.int .i64 z) w) := by
  have HE := Lib.hid (Env.new hx)
  have k := HE.out.at2
  have HA := Lib.hid ha
  clear ha
  clear hx
  simp only [TV.agg]
  go_enter Tryz.func20, Tryz.ntmps20
  go_wp2_with fail
  refine (valueOr_at x.a2 T.joi c 0 z _ HE.out.tab.joi HA.out hz).mono ?_
  rintro e w1 ⟨rfl, hb⟩
  have HB := Lib.hid (HE.out.step hb)
  clear hb k
  go_wp2
  go_ret
  exact ⟨rfl, HB.out.bel⟩

set_option maxHeartbeats 2000000 in
theorem rjoining_at (x : TV) (T : Tb) (c : Int) (z : Int) (w : World) (hx : TabV w x T) (hz : Hid (joiT T c = z)) :
    Calls Tryz.prog 66 #[x.agg, .int .i64 c] w (Gives (.int .i64 z) w) := by
  have HE := Lib.hid (Env.new hx)
  have k := HE.out.at2
  clear hx
  simp only [TV.agg]
  go_enter Tryz.func66, Tryz.ntmps66
  go_wp2_with fail
  refine (rvalue_sp x.a2 T.joi c z _ HE.out.tab.joi hz).mono ?_
  rintro e w1 ⟨rfl, hb⟩
  have HB := Lib.hid (HE.out.step hb)
  clear hb k
  go_wp2
  go_ret
  exact ⟨rfl, HB.out.bel⟩

set_option maxHeartbeats 2000000 in
theorem tscripts_at (x : TV) (T : Tb) (c : Int) (xs : List Int) (w : World) (hx : TabV w x T) (ha : ascI 0 1114111 (froms T.ext) = true) (hxs : Hid (findM T.ext c = xs)) :
    Calls Tryz.prog 72 #[x.agg, .int .i64 c] w (GivesL xs w) := by
  have HE := Lib.hid (Env.new hx)
  have k := HE.out.at7
  have HA := Lib.hid ha
  clear ha
  have hcall := fun W h => seqOf_any x.a7 T.ext c W h HA.out
  rw [hxs.out] at hcall
  have HC := Lib.hid hcall
  clear hcall
  clear hx
  simp only [TV.agg]
  go_enter Tryz.func72, Tryz.ntmps72
  go_wp2_with fail
  refine (HC.out _ HE.out.tab.ext).mono ?_
  rintro e w1 ⟨p2, n2, c2, rfl, hl2, hn2, hin2, hb⟩
  have HB := Lib.hid (HE.out.step hb)
  have HI2 := Lib.hid hin2
  have HL2 := Lib.hid hl2
  have HN2 := Lib.hid hn2
  clear hb k hin2 hl2 hn2
  go_wp2
  go_ret
  exact ⟨p2, n2, c2, rfl, HL2.out, HN2.out, HI2.out, HB.out.bel⟩

set_option maxHeartbeats 2000000 in
theorem rscripts_at (x : TV) (T : Tb) (c : Int) (xs : List Int) (w : World) (hx : TabV w x T) (hxs : Hid (findM T.ext c = xs)) :
    Calls Tryz.prog 73 #[x.agg, .int .i64 c] w (GivesL xs w) := by
  have HE := Lib.hid (Env.new hx)
  have k := HE.out.at7
  clear hx
  simp only [TV.agg]
  go_enter Tryz.func73, Tryz.ntmps73
  go_wp2_with fail
  refine (rfind_at x.a7 T.ext c xs _ HE.out.tab.ext hxs).mono ?_
  rintro e w1 ⟨p2, n2, c2, rfl, hl2, hn2, hin2, hb⟩
  have HB := Lib.hid (HE.out.step hb)
  have HI2 := Lib.hid hin2
  have HL2 := Lib.hid hl2
  have HN2 := Lib.hid hn2
  clear hb k hin2 hl2 hn2
  go_wp2
  go_ret
  exact ⟨p2, n2, c2, rfl, HL2.out, HN2.out, HI2.out, HB.out.bel⟩

set_option maxHeartbeats 2000000 in
theorem tdecomp_at (x : TV) (T : Tb) (c : Int) (xs : List Int) (w : World) (hx : TabV w x T) (ha : ascI 0 1114111 (froms T.dec) = true) (hxs : Hid (findM T.dec c = xs)) :
    Calls Tryz.prog 25 #[x.agg, .int .i64 c] w (GivesL xs w) := by
  have HE := Lib.hid (Env.new hx)
  have k := HE.out.at9
  have HA := Lib.hid ha
  clear ha
  have hcall := fun W h => seqOf_any x.a9 T.dec c W h HA.out
  rw [hxs.out] at hcall
  have HC := Lib.hid hcall
  clear hcall
  clear hx
  simp only [TV.agg]
  go_enter Tryz.func25, Tryz.ntmps25
  go_wp2_with fail
  refine (HC.out _ HE.out.tab.dec).mono ?_
  rintro e w1 ⟨p2, n2, c2, rfl, hl2, hn2, hin2, hb⟩
  have HB := Lib.hid (HE.out.step hb)
  have HI2 := Lib.hid hin2
  have HL2 := Lib.hid hl2
  have HN2 := Lib.hid hn2
  clear hb k hin2 hl2 hn2
  go_wp2
  go_ret
  exact ⟨p2, n2, c2, rfl, HL2.out, HN2.out, HI2.out, HB.out.bel⟩

set_option maxHeartbeats 2000000 in
theorem rdecomp_at (x : TV) (T : Tb) (c : Int) (xs : List Int) (w : World) (hx : TabV w x T) (hxs : Hid (findM T.dec c = xs)) :
    Calls Tryz.prog 75 #[x.agg, .int .i64 c] w (GivesL xs w) := by
  have HE := Lib.hid (Env.new hx)
  have k := HE.out.at9
  clear hx
  simp only [TV.agg]
  go_enter Tryz.func75, Tryz.ntmps75
  go_wp2_with fail
  refine (rfind_at x.a9 T.dec c xs _ HE.out.tab.dec hxs).mono ?_
  rintro e w1 ⟨p2, n2, c2, rfl, hl2, hn2, hin2, hb⟩
  have HB := Lib.hid (HE.out.step hb)
  have HI2 := Lib.hid hin2
  have HL2 := Lib.hid hl2
  have HN2 := Lib.hid hn2
  clear hb k hin2 hl2 hn2
  go_wp2
  go_ret
  exact ⟨p2, n2, c2, rfl, HL2.out, HN2.out, HI2.out, HB.out.bel⟩

set_option maxHeartbeats 2000000 in
theorem tproto_at (x : TV) (T : Tb) (c : Int) (xs : List Int) (w : World) (hx : TabV w x T) (ha : ascI 0 1114111 (froms T.pro) = true) (hxs : Hid (findM T.pro c = xs)) :
    Calls Tryz.prog 76 #[x.agg, .int .i64 c] w (GivesL xs w) := by
  have HE := Lib.hid (Env.new hx)
  have k := HE.out.at11
  have HA := Lib.hid ha
  clear ha
  have hcall := fun W h => seqOf_any x.a11 T.pro c W h HA.out
  rw [hxs.out] at hcall
  have HC := Lib.hid hcall
  clear hcall
  clear hx
  simp only [TV.agg]
  go_enter Tryz.func76, Tryz.ntmps76
  go_wp2_with fail
  refine (HC.out _ HE.out.tab.pro).mono ?_
  rintro e w1 ⟨p2, n2, c2, rfl, hl2, hn2, hin2, hb⟩
  have HB := Lib.hid (HE.out.step hb)
  have HI2 := Lib.hid hin2
  have HL2 := Lib.hid hl2
  have HN2 := Lib.hid hn2
  clear hb k hin2 hl2 hn2
  go_wp2
  go_ret
  exact ⟨p2, n2, c2, rfl, HL2.out, HN2.out, HI2.out, HB.out.bel⟩

set_option maxHeartbeats 2000000 in
theorem rproto_at (x : TV) (T : Tb) (c : Int) (xs : List Int) (w : World) (hx : TabV w x T) (hxs : Hid (findM T.pro c = xs)) :
    Calls Tryz.prog 77 #[x.agg, .int .i64 c] w (GivesL xs w) := by
  have HE := Lib.hid (Env.new hx)
  have k := HE.out.at11
  clear hx
  simp only [TV.agg]
  go_enter Tryz.func77, Tryz.ntmps77
  go_wp2_with fail
  refine (rfind_at x.a11 T.pro c xs _ HE.out.tab.pro hxs).mono ?_
  rintro e w1 ⟨p2, n2, c2, rfl, hl2, hn2, hin2, hb⟩
  have HB := Lib.hid (HE.out.step hb)
  have HI2 := Lib.hid hin2
  have HL2 := Lib.hid hl2
  have HN2 := Lib.hid hn2
  clear hb k hin2 hl2 hn2
  go_wp2
  go_ret
  exact ⟨p2, n2, c2, rfl, HL2.out, HN2.out, HI2.out, HB.out.bel⟩

set_option maxHeartbeats 2000000 in
theorem rmapsOf_at (x : TV) (T : Tb) (c : Int) (xs : List Int) (w : World) (hx : TabV w x T) (hxs : Hid (mapsT T c = xs)) :
    Calls Tryz.prog 74 #[x.agg, .int .i64 c] w (GivesL xs w) := by
  have HE := Lib.hid (Env.new hx)
  have k := HE.out.at8
  clear hx
  simp only [TV.agg]
  by_cases hc : 65 ≤ c ∧ c ≤ 90
  · obtain ⟨h1, h2⟩ := hc
    have HX : Hid (xs = [c + 32]) := by unfold Hid; rw [← hxs.out, mapsT, if_pos (uppB_iff.2 ⟨h1, h2⟩)]
    have e2 : IntKind.i64.wrap (c + 32) = c + 32 := IntWalk.i64_in _ (by omega)
    go_enter Tryz.func74, Tryz.ntmps74
    go_wp2
    go_ret
    rw [HX.out]
    refine ⟨_, 1, 1, rfl, rfl, by omega, ?_, HE.out.bel.alloc (by simp) _⟩
    have := lit_ints (w.alloc (.cells (tabCells x) 26)) #[.int .i64 (c + 32)] [c + 32] 3 rfl
    simpa [tabCells] using this
  · have HX : Hid (findM T.map c = xs) := by unfold Hid; rw [← hxs.out, mapsT, if_neg (fun h => hc (uppB_iff.1 h))]
    have key : (Calls Tryz.prog 59 #[x.a8, .int .i64 c] (w.alloc (.cells (tabCells x) 26)) (GivesL xs (w.alloc (.cells (tabCells x) 26)))) := rfind_at x.a8 T.map c xs _ HE.out.tab.map HX
    have KEY := Lib.hid key
    have hcc : c < 65 ∨ 90 < c := by omega
    clear hc key
    rcases hcc with hcc | hcc
    rotate_left
    have h65 : 65 ≤ c := by omega
    all_goals
      go_enter Tryz.func74, Tryz.ntmps74
      go_wp2_with fail
      refine KEY.out.mono ?_
      rintro e w1 ⟨p2, n2, c2, rfl, hl2, hn2, hin2, hb⟩
      have HB := Lib.hid (HE.out.step hb)
      have HI2 := Lib.hid hin2
      have HL2 := Lib.hid hl2
      have HN2 := Lib.hid hn2
      clear hb k hin2 hl2 hn2
      go_wp2
      go_ret
      exact ⟨p2, n2, c2, rfl, HL2.out, HN2.out, HI2.out, HB.out.bel⟩

set_option maxHeartbeats 2000000 in
theorem bidi_at (x : TV) (T : Tb) (c z : Int) (w : World) (hx : TabV w x T) (ha : ascB 0 T.bid = true) (hz : Hid (bidT T c = z)) :
    Calls Tryz.prog 21 #[x.agg, .int .i64 c] w (Gives (.int .i64 z) w) := by
  have HE := Lib.hid ((Env.new hx).step (drew_one _))
  have k := (Env.new hx).at3
  have HA := Lib.hid ha
  obtain ⟨fc, h1⟩ : ∃ z, Hid (fixC c = z) := ⟨_, rfl⟩
  obtain ⟨fb, h2⟩ : ∃ z, Hid (fixB c = z) := ⟨_, rfl⟩
  obtain ⟨fs, h3⟩ : ∃ z, Hid (fixS c = z) := ⟨_, rfl⟩
  obtain ⟨ft, h4⟩ : ∃ z, Hid (fixT c = z) := ⟨_, rfl⟩
  have hzz : Hid ((val T.bid c).getD fb = z) := by unfold Hid; rw [← hz.out, ← h2.out]; rfl
  have hfld : ∀ w, (Instr.field 77 (.agg #[.int .i64 fc, .int .i64 fb, .int .i64 fs, .int .i64 ft]) 1).run Tryz.prog w = .ok (.int .i64 fb) w := fun _ => by kernel_rfl
  clear hx ha
  simp only [TV.agg]
  go_enter Tryz.func21, Tryz.ntmps21
  go_wp2_with fail
  go_region_held3 (fun w' => w'.cell? ⟨w.heap.size, 3, none⟩ = some x.a3)
    (first
      | go_keep
      | exact ((HE.out.step hb2).step hb3).at3
      | exact (HE.out.step hb2).at3)
    (first
      | (go_at_call 79; (with_reducible refine (fixed_at c fc fb fs ft _ h1 h2 h3 h4).mono ?_); rintro e w2 ⟨rfl, hb2⟩)
      | (go_at_call 78; (with_reducible refine (valueOr_at x.a3 T.bid c fb z _ (HE.out.step hb2).tab.bid HA.out hzz).mono ?_); rintro e w3 ⟨rfl, hb3⟩))
  all_goals
    go_wp2
    go_ret
    exact ⟨rfl, ((HE.out.step hb2).step hb3).bel⟩

end Go.Proofs.YtmkaclfjekjabaaGreatDoor
