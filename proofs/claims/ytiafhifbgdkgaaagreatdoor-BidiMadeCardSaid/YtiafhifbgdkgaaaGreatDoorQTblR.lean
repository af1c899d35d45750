/-
  Properties of a code point, the program's and the reference's: joining, Bidi, sequences.
-/
import Derived.Test.YtiafhifbgdkgaaaGreatDoorQTblQ
set_option linter.unusedSimpArgs false
set_option linter.unusedVariables false
namespace Go.Proofs.YtiafhifbgdkgaaaGreatDoor
open Go.RowKit
set_option linter.unusedVariables false

set_option maxHeartbeats 2000000 in
theorem bidi_at (x : TV) (T : Tb) (c z : Int) (w : World) (hx : TabV w x T) (ha : ascB 0 T.bid = true) (hz : Hid (bidT T c = z)) :
    Calls Tryz.prog 48 #[x.agg, .int .i64 c] w (Gives (.int .i64 z) w) := by
  have HE := Lib.hid ((Env.new hx).step (drew_one _))
  have k := (Env.new hx).at3
  have HA := Lib.hid ha
  obtain ⟨fc, h1⟩ : ∃ z, Hid (fixC c = z) := ⟨_, rfl⟩
  obtain ⟨fb, h2⟩ : ∃ z, Hid (fixB c = z) := ⟨_, rfl⟩
  obtain ⟨fs, h3⟩ : ∃ z, Hid (fixS c = z) := ⟨_, rfl⟩
  obtain ⟨ft, h4⟩ : ∃ z, Hid (fixT c = z) := ⟨_, rfl⟩
  have hzz : Hid ((val T.bid c).getD fb = z) := by unfold Hid; rw [← hz.out, ← h2.out]; rfl
  have hfld : ∀ w, (Instr.field 99 (.agg #[.int .i64 fc, .int .i64 fb, .int .i64 fs, .int .i64 ft]) 1).run Tryz.prog w = .ok (.int .i64 fb) w := fun _ => by kernel_rfl
  clear hx ha
  simp only [TV.agg]
  go_enter Tryz.func48, Tryz.ntmps48
  go_wp2_with fail
  go_region_held3 (fun w' => w'.cell? ⟨w.heap.size, 3, none⟩ = some x.a3)
    (first
      | go_keep
      | exact ((HE.out.step hb2).step hb3).at3
      | exact (HE.out.step hb2).at3)
    (first
      | (go_at_call 82; (with_reducible refine (fixed_at c fc fb fs ft _ h1 h2 h3 h4).mono ?_); rintro e w2 ⟨rfl, hb2⟩)
      | (go_at_call 81; (with_reducible refine (valueOr_at x.a3 T.bid c fb z _ (HE.out.step hb2).tab.bid HA.out hzz).mono ?_); rintro e w3 ⟨rfl, hb3⟩))
  all_goals
    go_wp2
    go_ret
    exact ⟨rfl, ((HE.out.step hb2).step hb3).bel⟩

end Go.Proofs.YtiafhifbgdkgaaaGreatDoor
