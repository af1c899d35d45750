/-
  table: the properties that spans give, with the fixed ones.
-/
import Derived.Test.YtiafhifbgdkgaaaGreatDoorQTabJ
import Derived.Test.YtiafhifbgdkgaaaGreatDoorQTabC
set_option linter.unusedSimpArgs false
set_option linter.unusedVariables false
namespace Go.Proofs.YtiafhifbgdkgaaaGreatDoor
open Go.RowKit
set_option linter.unusedVariables false

theorem fixed_at (c a b s t : Int) (w : World) (h1 : Hid (fixC c = a)) (h2 : Hid (fixB c = b)) (h3 : Hid (fixS c = s)) (h4 : Hid (fixT c = t)) :
    Calls Tryz.prog 82 #[.int .i64 c] w (Gives (.agg #[.int .i64 a, .int .i64 b, .int .i64 s, .int .i64 t]) w) :=
  (fixed_any c w).mono fun e w' h => by rw [← h1.out, ← h2.out, ← h3.out, ← h4.out]; exact h

theorem drew_one (w : World) : Below w.heap.size w w.drew := ⟨rfl, rfl, rfl, Nat.le_refl _, fun _ _ => rfl⟩

theorem Env.at5 {w0 w : World} {x : TV} {T : Tb} (h : Env w0 x T w) : w.cell? ⟨w0.heap.size, 5, none⟩ = some x.a5 := h.box.1.2.2.2.2.2
theorem Env.at4 {w0 w : World} {x : TV} {T : Tb} (h : Env w0 x T w) : w.cell? ⟨w0.heap.size, 4, none⟩ = some x.a4 := h.box.1.2.2.2.2.1
theorem Env.at3 {w0 w : World} {x : TV} {T : Tb} (h : Env w0 x T w) : w.cell? ⟨w0.heap.size, 3, none⟩ = some x.a3 := h.box.1.2.2.2.1
theorem Env.at2 {w0 w : World} {x : TV} {T : Tb} (h : Env w0 x T w) : w.cell? ⟨w0.heap.size, 2, none⟩ = some x.a2 := h.box.1.2.2.1
theorem Env.at1 {w0 w : World} {x : TV} {T : Tb} (h : Env w0 x T w) : w.cell? ⟨w0.heap.size, 1, none⟩ = some x.a1 := h.box.1.2.1
theorem Env.at0 {w0 w : World} {x : TV} {T : Tb} (h : Env w0 x T w) : w.cell? ⟨w0.heap.size, 0, none⟩ = some x.a0 := h.box.1.1
theorem Env.at6 {w0 w : World} {x : TV} {T : Tb} (h : Env w0 x T w) : w.cell? ⟨w0.heap.size, 6, none⟩ = some x.a6 := h.box.2.1
theorem Env.at7 {w0 w : World} {x : TV} {T : Tb} (h : Env w0 x T w) : w.cell? ⟨w0.heap.size, 7, none⟩ = some x.a7 := h.box.2.2.1
theorem Env.at8 {w0 w : World} {x : TV} {T : Tb} (h : Env w0 x T w) : w.cell? ⟨w0.heap.size, 8, none⟩ = some x.a8 := h.box.2.2.2.1
theorem Env.at9 {w0 w : World} {x : TV} {T : Tb} (h : Env w0 x T w) : w.cell? ⟨w0.heap.size, 9, none⟩ = some x.a9 := h.box.2.2.2.2.1
theorem Env.at10 {w0 w : World} {x : TV} {T : Tb} (h : Env w0 x T w) : w.cell? ⟨w0.heap.size, 10, none⟩ = some x.a10 := h.box.2.2.2.2.2.1
theorem Env.at11 {w0 w : World} {x : TV} {T : Tb} (h : Env w0 x T w) : w.cell? ⟨w0.heap.size, 11, none⟩ = some x.a11 := h.box.2.2.2.2.2.2

set_option maxHeartbeats 2000000 in
theorem status_at (x : TV) (T : Tb) (c z : Int) (w : World) (hx : TabV w x T) (ha : ascB 0 T.sta = true) (hz : Hid (staT T c = z)) :
    Calls Tryz.prog 68 #[x.agg, .int .i64 c] w (Gives (.int .i64 z) w) := by
  have HE := Lib.hid ((Env.new hx).step (drew_one _))
  have k := (Env.new hx).at5
  have HA := Lib.hid ha
  obtain ⟨fc, h1⟩ : ∃ z, Hid (fixC c = z) := ⟨_, rfl⟩
  obtain ⟨fb, h2⟩ : ∃ z, Hid (fixB c = z) := ⟨_, rfl⟩
  obtain ⟨fs, h3⟩ : ∃ z, Hid (fixS c = z) := ⟨_, rfl⟩
  obtain ⟨ft, h4⟩ : ∃ z, Hid (fixT c = z) := ⟨_, rfl⟩
  have hzz : Hid ((val T.sta c).getD ft = z) := by unfold Hid; rw [← hz.out, ← h4.out]; rfl
  have hfld : ∀ w, (Instr.field 99 (.agg #[.int .i64 fc, .int .i64 fb, .int .i64 fs, .int .i64 ft]) 3).run Tryz.prog w = .ok (.int .i64 ft) w := fun _ => by kernel_rfl
  clear hx ha
  simp only [TV.agg]
  go_enter Tryz.func68, Tryz.ntmps68
  go_wp2_with fail
  go_region_held3 (fun w' => w'.cell? ⟨w.heap.size, 5, none⟩ = some x.a5)
    (first
      | go_keep
      | exact ((HE.out.step hb2).step hb3).at5
      | exact (HE.out.step hb2).at5)
    (first
      | (go_at_call 82; (with_reducible refine (fixed_at c fc fb fs ft _ h1 h2 h3 h4).mono ?_); rintro e w2 ⟨rfl, hb2⟩)
      | (go_at_call 81; (with_reducible refine (valueOr_at x.a5 T.sta c ft z _ (HE.out.step hb2).tab.sta HA.out hzz).mono ?_); rintro e w3 ⟨rfl, hb3⟩))
  all_goals
    go_wp2
    go_ret
    exact ⟨rfl, ((HE.out.step hb2).step hb3).bel⟩

end Go.Proofs.YtiafhifbgdkgaaaGreatDoor
