/-
  Tables under construction: a box of twelve cells, lists whose rows lie where nothing is written.
-/
import Derived.Test.YtmkaclfjekjabaaDoorTblSpec
import Derived.Test.YtmkaclfjekjabaaDoorTabApp
import Derived.Test.YtmkaclfjekjabaaDoorTabAwa
import Derived.Test.YtmkaclfjekjabaaDoorSource
import Derived.Test.YtmkaclfjekjabaaDoorRanAppAt
namespace Go.Proofs.YtmkaclfjekjabaaDoor
open Go.RowKit
set_option linter.unusedVariables false

/-- Of the blocks that were there only those of R may have been written. -/
structure Keeps (w w' : World) (R : Nat → Prop) : Prop where
  os : w'.os = w.os
  tape : w'.tape = w.tape
  output : w'.output = w.output
  size : w.heap.size ≤ w'.heap.size
  block : ∀ k, k < w.heap.size → ¬ R k → w'.heap[k]? = w.heap[k]?

theorem Keeps.refl (w : World) (R : Nat → Prop) : Keeps w w R := ⟨rfl, rfl, rfl, Nat.le_refl _, fun _ _ _ => rfl⟩
theorem Keeps.of_grown {w w' : World} {row : Option Nat} (h : w.grownBy w' row) : Keeps w w' (fun k => row = some k) := ⟨h.os, h.tape, h.output, h.size, fun k hk hr => h.block k hk (fun e => hr e.symm)⟩
theorem Keeps.of_below {w w' : World} {B : Nat} (h : Below B w w') : Keeps w w' (fun k => B ≤ k) := ⟨h.os, h.tape, h.output, h.size, fun k hk hr => h.block k (by omega)⟩
theorem Keeps.weak {w w' : World} {R Q : Nat → Prop} (h : Keeps w w' R) (hq : ∀ k, k < w.heap.size → R k → Q k) : Keeps w w' Q := ⟨h.os, h.tape, h.output, h.size, fun k hk hr => h.block k hk (fun e => hr (hq k hk e))⟩
theorem Keeps.trans {w w1 w2 : World} {R Q S : Nat → Prop} (h : Keeps w w1 R) (k : Keeps w1 w2 Q) (h1 : ∀ b, b < w.heap.size → R b → S b) (h2 : ∀ b, b < w.heap.size → Q b → S b) : Keeps w w2 S :=
  ⟨k.os.trans h.os, k.tape.trans h.tape, k.output.trans h.output, Nat.le_trans h.size k.size, fun b hb hs => (k.block b (Nat.lt_of_lt_of_le hb h.size) (fun e => hs (h2 b hb e))).trans (h.block b hb (fun e => hs (h1 b hb e)))⟩
theorem Keeps.below {B : Nat} {w w' : World} {R : Nat → Prop} (h : Keeps w w' R) (hB : B ≤ w.heap.size) (hr : ∀ k, k < w.heap.size → R k → B ≤ k) : Below B w w' :=
  ⟨h.os, h.tape, h.output, h.size, fun k hk => h.block k (by omega) (fun e => by have := hr k (by omega) e; omega)⟩
theorem Keeps.cell {w w' : World} {R : Nat → Prop} (h : Keeps w w' R) {a : Addr} {v : Value} (hc : w.cell? a = some v) (hr : ¬ R a.block) : w'.cell? a = some v :=
  (World.cell?_of_block (h.block a.block (World.block_lt_of_cell? w a hc) hr)).trans hc
theorem Keeps.alloc (w : World) (o : Obj) : Keeps w (w.alloc o) (fun _ => False) := ⟨rfl, rfl, rfl, by simp, fun k hk _ => Below.heap_alloc _ _ _ hk⟩
theorem Keeps.store (w : World) (g o : Nat) (v : Value) : Keeps w (w.setCell ⟨g, o, none⟩ v) (fun k => k = g) := ⟨rfl, rfl, rfl, by simp [World.setCell], fun k hk hr => Below.heap_setCell _ _ _ _ hr⟩
theorem Keeps.draw {w w' : World} {R : Nat → Prop} (h : Keeps w w' R) (n : Nat) : Keeps w (w'.drewN n) R := ⟨h.os, h.tape, h.output, h.size, h.block⟩

/-- An owned row is kept where its block is. -/
theorem Keeps.owns {w w' : World} {R : Nat → Prop} {B : Nat} {e : TypeId} {z : Nat} {v : Value} {n : Nat} {xs : List Value} (h : Keeps w w' R) (ho : w.ownsRow B e z v n xs) (hr : ∀ k, v.ownBlock = some k → ¬ R k) : w'.ownsRow B e z v n xs := by
  obtain ⟨h1, h2⟩ := ho
  refine ⟨h1, ?_⟩
  rcases h2 with h2 | ⟨g, cap, cur, rfl, hB, hg, r⟩
  · exact .inl h2
  · refine .inr ⟨g, cap, cur, rfl, hB, ?_, r⟩
    have hlt : g < w.heap.size := by
      rcases Nat.lt_or_ge g w.heap.size with hlt | hge
      · exact hlt
      · rw [Array.getElem?_eq_none hge] at hg; cases hg
    rw [h.block g hlt (hr g rfl), hg]

theorem Src.lt {w : World} {g : Nat} {r : List Int} (h : Src w g r) : g < w.heap.size := by
  obtain ⟨_, _, _, _, _, _, _, h4, _⟩ := h
  exact World.block_lt_of_cell? w _ h4
theorem Src.keeps {w w' : World} {R : Nat → Prop} {g : Nat} {r : List Int} (h : Src w g r) (hg : Keeps w w' R) (hr : ∀ b, b ≤ g → ¬ R b) : Src w' g r := by
  obtain ⟨zs, i, p, cap, h1, h2, h3, h4, h5, h6, h7, h8⟩ := h
  have hlt := World.block_lt_of_cell? w _ h4
  refine ⟨zs, i, p, cap, h1, h2, h3, hg.cell h4 (hr g (Nat.le_refl _)), hg.cell h5 (hr g (Nat.le_refl _)), ?_, ?_, h8⟩
  · exact (World.frozen?_of_block (hg.block g hlt (hr g (Nat.le_refl _)))).trans h6
  · intro k hk
    obtain ⟨b, off, e, hc⟩ := h7 k hk
    have hb := h8 (by intro e; rw [e] at hk; simp at hk) b off e
    exact ⟨b, off, e, hg.cell hc (hr b (by omega))⟩

/-- The row of v, if there is one, lies in a block of P. -/
def Lies (w : World) (P : Nat → Prop) (v : Value) : Prop := ∀ b off n c, v = .slice (some ⟨b, off, none⟩) n c → P b ∧ b < w.heap.size

theorem Lies.nil (w : World) (P : Nat → Prop) (n c : Nat) : Lies w P (.slice none n c) := by intro b off n c e; cases e
theorem Lies.size {w w' : World} {P : Nat → Prop} {v : Value} (h : Lies w P v) (hs : w.heap.size ≤ w'.heap.size) : Lies w' P v := fun b off n c e => ⟨(h b off n c e).1, Nat.lt_of_lt_of_le (h b off n c e).2 hs⟩
theorem Lies.weak {w : World} {P Q : Nat → Prop} {v : Value} (h : Lies w P v) (hq : ∀ b, b < w.heap.size → P b → Q b) : Lies w Q v := fun b off n c e => ⟨hq b (h b off n c e).2 (h b off n c e).1, (h b off n c e).2⟩

/-- A slice of mappings whose rows lie in blocks of P; of ints; of spans. -/
def MpO (w : World) (P : Nat → Prop) (v : Value) (l : List Mp) : Prop :=
  ∃ p c, v = .slice p l.length c ∧ Lies w P v ∧ l.length ≤ 17592186043904 ∧ ∀ k, k < l.length → ∃ b off u, p = some ⟨b, off, none⟩ ∧ w.cell? ⟨b, off + k * 2, none⟩ = some (.int .i64 (l.getD k mp0).1) ∧ w.cell? ⟨b, off + k * 2 + 1, none⟩ = some u ∧ InV w u (l.getD k mp0).2 ∧ Lies w P u
def InO (w : World) (P : Nat → Prop) (v : Value) (l : List Int) : Prop := InV w v l ∧ Lies w P v
def SpO (w : World) (P : Nat → Prop) (v : Value) (l : List Sp) : Prop := SpV w v l ∧ Lies w P v

theorem InV.keeps {w w' : World} {P R : Nat → Prop} {v : Value} {l : List Int} (h : InV w v l) (hl : Lies w P v) (hg : Keeps w w' R) (hr : ∀ k, k < w.heap.size → R k → ¬ P k) : InV w' v l := by
  obtain ⟨p, c, rfl, h1, h2⟩ := h
  refine ⟨p, c, rfl, fun k hk => ?_, h2⟩
  obtain ⟨b, off, rfl, hc⟩ := h1 k hk
  have hp := hl b off _ _ rfl
  exact ⟨b, off, rfl, hg.cell hc fun e => hr b hp.2 e hp.1⟩
theorem InO.keeps {w w' : World} {P R : Nat → Prop} {v : Value} {l : List Int} (h : InO w P v l) (hg : Keeps w w' R) (hr : ∀ k, k < w.heap.size → R k → ¬ P k) : InO w' P v l := ⟨h.1.keeps h.2 hg hr, h.2.size hg.size⟩
theorem SpO.keeps {w w' : World} {P R : Nat → Prop} {v : Value} {l : List Sp} (h : SpO w P v l) (hg : Keeps w w' R) (hr : ∀ k, k < w.heap.size → R k → ¬ P k) : SpO w' P v l := by
  obtain ⟨⟨p, c, rfl, h1, h2⟩, hl⟩ := h
  refine ⟨⟨p, c, rfl, fun k hk => ?_, h2⟩, hl.size hg.size⟩
  obtain ⟨b, off, rfl, c1, c2, c3⟩ := h1 k hk
  have hp := hl b off _ _ rfl
  have hn : ¬ R b := fun e => hr b hp.2 e hp.1
  exact ⟨b, off, rfl, hg.cell c1 hn, hg.cell c2 hn, hg.cell c3 hn⟩
theorem MpO.keeps {w w' : World} {P R : Nat → Prop} {v : Value} {l : List Mp} (h : MpO w P v l) (hg : Keeps w w' R) (hr : ∀ k, k < w.heap.size → R k → ¬ P k) : MpO w' P v l := by
  obtain ⟨p, c, rfl, hl, h2, h3⟩ := h
  refine ⟨p, c, rfl, hl.size hg.size, h2, fun k hk => ?_⟩
  obtain ⟨b, off, u, rfl, c1, c2, c3, c4⟩ := h3 k hk
  have hp := hl b off _ _ rfl
  have hn : ¬ R b := fun e => hr b hp.2 e hp.1
  exact ⟨b, off, u, rfl, hg.cell c1 hn, hg.cell c2 hn, c3.keeps c4 hg hr, c4.size hg.size⟩
theorem InO.weak {w : World} {P Q : Nat → Prop} {v : Value} {l : List Int} (h : InO w P v l) (hq : ∀ b, b < w.heap.size → P b → Q b) : InO w Q v l := ⟨h.1, h.2.weak hq⟩
theorem SpO.weak {w : World} {P Q : Nat → Prop} {v : Value} {l : List Sp} (h : SpO w P v l) (hq : ∀ b, b < w.heap.size → P b → Q b) : SpO w Q v l := ⟨h.1, h.2.weak hq⟩
theorem MpO.weak {w : World} {P Q : Nat → Prop} {v : Value} {l : List Mp} (h : MpO w P v l) (hq : ∀ b, b < w.heap.size → P b → Q b) : MpO w Q v l := by
  obtain ⟨p, c, rfl, hl, h2, h3⟩ := h
  refine ⟨p, c, rfl, hl.weak hq, h2, fun k hk => ?_⟩
  obtain ⟨b, off, u, e, c1, c2, c3, c4⟩ := h3 k hk
  exact ⟨b, off, u, e, c1, c2, c3, c4.weak hq⟩
theorem MpO.mpv {w : World} {P : Nat → Prop} {v : Value} {l : List Mp} (h : MpO w P v l) : MpV w v l := by
  obtain ⟨p, c, rfl, hl, h2, h3⟩ := h
  refine ⟨p, c, rfl, fun k hk => ?_, h2⟩
  obtain ⟨b, off, u, e, c1, c2, c3, c4⟩ := h3 k hk
  exact ⟨b, off, u, e, c1, c2, c3⟩
theorem MpO.nil (w : World) (P : Nat → Prop) : MpO w P (.slice none 0 0) [] := ⟨none, 0, rfl, Lies.nil _ _ _ _, by simp, fun k hk => absurd hk (Nat.not_lt_zero _)⟩
theorem InO.nil (w : World) (P : Nat → Prop) : InO w P (.slice none 0 0) [] := ⟨noI w, Lies.nil _ _ _ _⟩
theorem SpO.nil (w : World) (P : Nat → Prop) : SpO w P (.slice none 0 0) [] := ⟨noS w, Lies.nil _ _ _ _⟩

/-- The twelve cells. -/
def BoxF (w : World) (g : Nat) (f : Nat → Value) : Prop := ∀ i, i < 12 → w.cell? ⟨g, i, none⟩ = some (f i) ∧ w.frozen? ⟨g, i, none⟩ = false

/-- The lists, none of whose rows is written. -/
structure Cold (w : World) (P : Nat → Prop) (f : Nat → Value) (S : Nat → List Sp) (E M D R : List Mp) (X : List Int) : Prop where
  sp : ∀ i, i < 7 → SpO w P (f i) (S i)
  ext : MpO w P (f 7) E
  map : MpO w P (f 8) M
  dec : MpO w P (f 9) D
  exc : InO w P (f 10) X
  pro : MpO w P (f 11) R

section
variable {w w' : World} {P Q R : Nat → Prop} {f : Nat → Value} {S : Nat → List Sp} {E M D Z : List Mp} {X : List Int}
theorem Cold.keeps (h : Cold w P f S E M D Z X) (hg : Keeps w w' R) (hr : ∀ k, k < w.heap.size → R k → ¬ P k) : Cold w' P f S E M D Z X :=
  ⟨fun i hi => (h.sp i hi).keeps hg hr, h.ext.keeps hg hr, h.map.keeps hg hr, h.dec.keeps hg hr, h.exc.keeps hg hr, h.pro.keeps hg hr⟩
theorem Cold.weak (h : Cold w P f S E M D Z X) (hq : ∀ b, b < w.heap.size → P b → Q b) : Cold w Q f S E M D Z X :=
  ⟨fun i hi => (h.sp i hi).weak hq, h.ext.weak hq, h.map.weak hq, h.dec.weak hq, h.exc.weak hq, h.pro.weak hq⟩
theorem Cold.below (h : Cold w P f S E M D Z X) (hb : Below w.heap.size w w') : Cold w' P f S E M D Z X :=
  h.keeps (Keeps.of_below hb) (fun k hk e => by omega)

abbrev tbOf (S : Nat → List Sp) (E M D R : List Mp) (X : List Int) : Tb := ⟨S 0, S 1, S 2, S 3, S 4, S 5, S 6, E, M, D, X, R⟩
abbrev xOf (f : Nat → Value) : TV := ⟨f 0, f 1, f 2, f 3, f 4, f 5, f 6, f 7, f 8, f 9, f 10, f 11⟩

theorem Cold.tab (h : Cold w P f S E M D Z X) : TabV w (xOf f) (tbOf S E M D Z X) :=
  ⟨(h.sp 0 (by omega)).1, (h.sp 1 (by omega)).1, (h.sp 2 (by omega)).1, (h.sp 3 (by omega)).1, (h.sp 4 (by omega)).1, (h.sp 5 (by omega)).1, (h.sp 6 (by omega)).1, h.ext.mpv, h.map.mpv, h.dec.mpv, h.exc.1, h.pro.mpv⟩
end

theorem BoxF.box {w : World} {g : Nat} {f : Nat → Value} (h : BoxF w g f) : BoxT w g (xOf f) :=
  ⟨⟨(h 0 (by omega)).1, (h 1 (by omega)).1, (h 2 (by omega)).1, (h 3 (by omega)).1, (h 4 (by omega)).1, (h 5 (by omega)).1⟩, ⟨(h 6 (by omega)).1, (h 7 (by omega)).1, (h 8 (by omega)).1, (h 9 (by omega)).1, (h 10 (by omega)).1, (h 11 (by omega)).1⟩⟩
theorem BoxF.lt {w : World} {g : Nat} {f : Nat → Value} (h : BoxF w g f) : g < w.heap.size := World.block_lt_of_cell? w _ (h 0 (by omega)).1
theorem BoxF.keeps {w w' : World} {R : Nat → Prop} {g : Nat} {f : Nat → Value} (h : BoxF w g f) (hg : Keeps w w' R) (hr : ¬ R g) : BoxF w' g f := by
  intro i hi
  obtain ⟨h1, h2⟩ := h i hi
  exact ⟨hg.cell h1 hr, (World.frozen?_of_block (a := ⟨g, i, none⟩) (hg.block g h.lt hr)).trans h2⟩
theorem BoxF.below {w w' : World} {g : Nat} {f : Nat → Value} (h : BoxF w g f) (hb : Below w.heap.size w w') : BoxF w' g f := h.keeps (Keeps.of_below hb) (Nat.not_le_of_lt h.lt)

def upd {A : Type} (f : Nat → A) (i : Nat) (v : A) : Nat → A := fun j => if j = i then v else f j
theorem upd_same {A : Type} (f : Nat → A) (i : Nat) (v : A) : upd f i v i = v := by simp [upd]
theorem upd_other {A : Type} (f : Nat → A) {i j : Nat} (v : A) (h : j ≠ i) : upd f i v j = f j := by simp [upd, h]

/-- One cell of block g is written, and nothing else that was there. -/
structure Sets (w w' : World) (g i : Nat) (v : Value) : Prop where
  cell : w'.cell? ⟨g, i, none⟩ = some v
  keep : Keeps w w' (fun k => k = g)
  froz : ∀ j, w'.frozen? ⟨g, j, none⟩ = w.frozen? ⟨g, j, none⟩
  rest : ∀ j, j ≠ i → w'.cell? ⟨g, j, none⟩ = w.cell? ⟨g, j, none⟩

theorem BoxF.sets {w w' : World} {g i : Nat} {f : Nat → Value} {v : Value} (h : BoxF w g f) (hs : Sets w w' g i v) : BoxF w' g (upd f i v) := by
  intro j hj
  obtain ⟨h1, h2⟩ := h j hj
  refine ⟨?_, (hs.froz j).trans h2⟩
  by_cases e : j = i
  · subst e; rw [upd_same]; exact hs.cell
  · rw [upd_other _ _ e, hs.rest j e]; exact h1

theorem Sets.store (w : World) (g i : Nat) (v u : Value) (hc : w.cell? ⟨g, i, none⟩ = some u) : Sets w (w.setCell ⟨g, i, none⟩ v) g i v :=
  ⟨World.cell?_setCell_same _ _ _ hc, Keeps.store w g i v, fun j => World.frozen?_setCell _ _ _ _, fun j hj => World.cell?_setCell_other _ _ _ _ (by intro e; cases e; exact hj rfl)⟩
theorem Sets.same (w : World) (g i : Nat) (v : Value) (hc : w.cell? ⟨g, i, none⟩ = some v) {w' : World} (hb : Below w.heap.size w w') : Sets w w' g i v := by
  have hlt := World.block_lt_of_cell? w _ hc
  refine ⟨(hb.cell (p := ⟨g, i, none⟩) hlt).trans hc, (Keeps.of_below hb).weak (fun k hk e => by omega), fun j => hb.frozen (p := ⟨g, j, none⟩) hlt, fun j _ => hb.cell (p := ⟨g, j, none⟩) hlt⟩

theorem Sets.behind {w w1 w' : World} {g i : Nat} {v : Value} {R : Nat → Prop} (hs : Sets w1 w' g i v) (hg : Keeps w w1 R) (hr : ∀ k, k < w.heap.size → ¬ R k) (hlt : g < w.heap.size) : Sets w w' g i v := by
  have hblk := hg.block g hlt (hr g hlt)
  refine ⟨hs.cell, hg.trans hs.keep (fun b hb e => absurd e (hr b hb)) (fun b hb e => e), fun j => (hs.froz j).trans (World.frozen?_of_block (a := ⟨g, j, none⟩) hblk), fun j hj => (hs.rest j hj).trans (World.cell?_of_block (a := ⟨g, j, none⟩) hblk)⟩
theorem Sets.ahead {w w1 w' : World} {g i : Nat} {v : Value} (hs : Sets w w1 g i v) (hb : Below w1.heap.size w1 w') (hlt : g < w.heap.size) : Sets w w' g i v := by
  have hlt1 : g < w1.heap.size := Nat.lt_of_lt_of_le hlt hs.keep.size
  refine ⟨(hb.cell (p := ⟨g, i, none⟩) hlt1).trans hs.cell, hs.keep.trans (Keeps.of_below hb) (fun b h e => e) (fun b h e => by have := hs.keep.size; omega), fun j => (hb.frozen (p := ⟨g, j, none⟩) hlt1).trans (hs.froz j), fun j hj => (hb.cell (p := ⟨g, j, none⟩) hlt1).trans (hs.rest j hj)⟩

/-- A list of spans in a cell of the box is exchanged. -/
theorem Cold.setS {w w' : World} {P : Nat → Prop} {g i : Nat} {f : Nat → Value} {S : Nat → List Sp} {E M D R : List Mp} {X : List Int} {v : Value} {L : List Sp} (h : Cold w P f S E M D R X) (hi : i < 7)
    (hg : Keeps w w' (fun k => k = g)) (hP : ¬ P g) (hv : SpO w' P v L) : Cold w' P (upd f i v) (upd S i L) E M D R X := by
  have h' := h.keeps hg (fun k _ e => by subst e; exact hP)
  refine ⟨fun j hj => ?_, ?_, ?_, ?_, ?_, ?_⟩
  · by_cases e : j = i
    · subst e; rw [upd_same, upd_same]; exact hv
    · rw [upd_other _ _ e, upd_other _ _ e]; exact h'.sp j hj
  · rw [upd_other _ _ (by omega)]; exact h'.ext
  · rw [upd_other _ _ (by omega)]; exact h'.map
  · rw [upd_other _ _ (by omega)]; exact h'.dec
  · rw [upd_other _ _ (by omega)]; exact h'.exc
  · rw [upd_other _ _ (by omega)]; exact h'.pro

end Go.Proofs.YtmkaclfjekjabaaDoor
