/-
  keep.prototypes: what is kept.
  keep.prototypes: the walk.
-/
import Derived.Test.YtcamkjafpnojkaaDoorSxTblF
import Derived.Test.YtcamkjafpnojkaaDoorSxTabRG
import Derived.Test.YtcamkjafpnojkaaDoorSxPkF
import Derived.Deep.RegionLaw
set_option linter.unusedSimpArgs false
set_option linter.unusedVariables false
namespace Go.Proofs.YtcamkjafpnojkaaDoor
open Go.RowKit
set_option linter.unusedVariables false

/-- What holds between the rounds of prototypes. -/
structure RSt (wE w0 w : World) (gs g lb : Nat) (f : Nat → Value) (v11 : Value) (Q : List Mq) (I : List Sp) (r : List Int) : Prop where
  src : Src w gs r
  box : BoxF w g (upd f 11 v11)
  hot : Hot w w0.heap.size (fun b => wE.heap.size ≤ b ∧ v11.ownBlock ≠ some b) v11 Q
  lits : MpO w (fun b => wE.heap.size ≤ b ∧ b < w0.heap.size) (.slice (some ⟨lb, 0, none⟩) 5 5) protoL
  ig : SpO w (fun b => b < wE.heap.size ∧ b ≠ gs ∧ b ≠ g) (f 6) I
  keep : Keeps w0 w (fun b => b = gs ∨ b = g)
  ord : gs < g ∧ g < wE.heap.size ∧ wE.heap.size ≤ w0.heap.size

section
variable {wE w0 w w1 w' : World} {gs g lb : Nat} {f : Nat → Value} {v11 : Value} {Q : List Mq} {I : List Sp} {r r' : List Int}
theorem RSt.size (h : RSt wE w0 w gs g lb f v11 Q I r) : w0.heap.size ≤ w.heap.size := h.keep.size
theorem RSt.own (h : RSt wE w0 w gs g lb f v11 Q I r) : ∀ b, v11.ownBlock = some b → w0.heap.size ≤ b ∧ b < w.heap.size := fun b hb => World.ownsRow.lt h.hot.own b hb
theorem RSt.step (h : RSt wE w0 w gs g lb f v11 Q I r) (hk : Keeps w w' (fun b => b = gs)) (hs : Src w' gs r') : RSt wE w0 w' gs g lb f v11 Q I r' := by
  obtain ⟨o1, o2, o3⟩ := h.ord
  have h8 := h.own
  exact ⟨hs, h.box.keeps hk (by omega), h.hot.keeps hk (fun b hb e => by have := h8 b hb; omega) (fun b hb e hh => by omega), h.lits.keeps hk (fun b hb e hh => by omega), h.ig.keeps hk (fun b hb e hh => hh.2.1 e), h.keep.trans hk (fun _ _ e => e) (fun _ _ e => .inl e), h.ord⟩
theorem RSt.below (h : RSt wE w0 w gs g lb f v11 Q I r) (hb : Below w.heap.size w w') : RSt wE w0 w' gs g lb f v11 Q I r :=
  h.step ((Keeps.of_below hb).weak (fun b hb e => by omega)) (h.src.below hb)

/-- The element k of the five. -/
theorem RSt.lit (h : RSt wE w0 w gs g lb f v11 Q I r) (k : Nat) (hk : k < 5) : ∃ ub uo m cu fk tk, protoL.getD k (0, []) = (fk, tk) ∧ tk.length = m + 1 ∧ tk.getLastD 0 = tk.getD m 0 ∧ w.cell? ⟨lb, k * 2, none⟩ = some (.int .i64 fk) ∧ w.cell? ⟨lb, k * 2 + 1, none⟩ = some (.slice (some ⟨ub, uo, none⟩) (m + 1) cu) ∧
    IntsIn w (some ⟨ub, uo, none⟩) tk ∧ wE.heap.size ≤ ub ∧ ub < w0.heap.size := by
  obtain ⟨p, c, e, _, _, h3⟩ := h.lits
  obtain ⟨b, off, u, e2, c1, c2, ⟨pu, cu, rfl, hin, _⟩, c4⟩ := h3 k hk
  cases e2
  cases e
  obtain ⟨⟨fk, tk⟩, hft⟩ : ∃ s, protoL.getD k mp0 = s := ⟨_, rfl⟩
  rw [hft] at c1 c2 hin c4
  have hne : tk ≠ [] := by
    have := (proto_from _ (proto_at k hk).1).2.2.1
    intro e; rw [show protoL.getD k (0, []) = (fk, tk) from hft, e] at this; simp at this
  obtain ⟨m, hm⟩ : ∃ m, tk.length = m + 1 := ⟨tk.length - 1, by have := List.length_pos_iff.2 hne; omega⟩
  obtain ⟨ub, uo, rfl, _⟩ := hin 0 (by simp only; omega)
  simp only [hm] at c2 c4
  have := c4 ub uo _ _ rfl
  refine ⟨ub, uo, m, cu, fk, tk, hft, hm, ?_, by simpa using c1, by simpa using c2, hin, this.1.1, this.1.2⟩
  rw [List.getLastD_eq_getLast?, List.getLast?_eq_getElem?, hm]
  rfl
end

end Go.Proofs.YtcamkjafpnojkaaDoor

namespace Go.Proofs.YtcamkjafpnojkaaDoor
open Go.RowKit
set_option linter.unusedVariables false

def ProtoPost (gs g : Nat) (f : Nat → Value) (I : List Sp) (w : World) (e : Ending) (w' : World) : Prop :=
  e = .returned (.tuple #[]) ∧ ∃ r v11 P, ProOk 5 I P ∧ Src w' gs r ∧ BoxF w' g (upd f 11 v11) ∧ MpO w' (fun b => w.heap.size ≤ b) v11 P ∧ Keeps w w' (fun b => b = gs ∨ b = g)

theorem RSt.done {w w1 w2 : World} {gs g lb : Nat} {f : Nat → Value} {v11 : Value} {Q : List Mq} {I : List Sp} {r : List Int} (hb : Below w.heap.size w w1) (h : RSt w w1 w2 gs g lb f v11 Q I r) (hok : ProOk 5 I (Q.map (·.1))) : ProtoPost gs g f I w (.returned (.tuple #[])) w2 := by
  have h1 := hok.len
  have hz := hb.size
  refine ⟨rfl, r, v11, _, hok, h.src, h.box, h.hot.mpO (by simp at h1; omega) (fun b _ hb => hb.1) (fun b hb _ => by omega), (Keeps.of_below hb).trans h.keep (fun b hb e => by omega) (fun _ _ e => e)⟩

theorem RSt.x {w w1 w2 : World} {gs g lb : Nat} {f : Nat → Value} {v11 : Value} {Q : List Mq} {I : List Sp} {r : List Int} {x : TV} (h : RSt w w1 w2 gs g lb f v11 Q I r) (hx : xOf (upd f 11 v11) = x) : BoxT w2 g x ∧ SpV w2 x.a6 I := by
  subst hx; exact ⟨h.box.box, h.ig.1⟩

/-- The copy of the element, and the last place of its To. -/
def Elt (w : World) (mb ub uo m : Nat) (fk L : Int) (u : Value) : Prop := w.cell? ⟨mb, 0, none⟩ = some (.int .i64 fk) ∧ w.cell? ⟨mb, 1, none⟩ = some u ∧ w.cell? ⟨ub, uo + m, none⟩ = some (.int .i64 L)
theorem Elt.keeps {w w' : World} {R : Nat → Prop} {mb ub uo m : Nat} {fk L : Int} {u : Value} (h : Elt w mb ub uo m fk L u) (hk : Keeps w w' R) (h1 : ¬ R mb) (h2 : ¬ R ub) : Elt w' mb ub uo m fk L u := ⟨hk.cell h.1 h1, hk.cell h.2.1 h1, hk.cell h.2.2 h2⟩
theorem Elt.below {w w' : World} {mb ub uo m : Nat} {fk L : Int} {u : Value} (h : Elt w mb ub uo m fk L u) (hb : Below w.heap.size w w') : Elt w' mb ub uo m fk L u :=
  ⟨(hb.cell (p := ⟨mb, 0, none⟩) (World.block_lt_of_cell? w _ h.1)).trans h.1, (hb.cell (p := ⟨mb, 1, none⟩) (World.block_lt_of_cell? w _ h.2.1)).trans h.2.1, (hb.cell (p := ⟨ub, uo + m, none⟩) (World.block_lt_of_cell? w _ h.2.2)).trans h.2.2⟩

end Go.Proofs.YtcamkjafpnojkaaDoor
