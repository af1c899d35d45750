/-
  The reader of table: tables (genDC.py).
-/
import Derived.Test.YtnnhcgflmhjakaaGreatDoorPkP
import Derived.Test.YtnnhcgflmhjakaaGreatDoorQTblJ
set_option linter.unusedSimpArgs false
set_option linter.unusedVariables false
namespace Go.Proofs.YtnnhcgflmhjakaaGreatDoor
open Go Go.RowKit
set_option linter.unusedVariables false

def rdT (s : ByteArray) (i er : Int) : Tb × Int × Int :=
  let a0 := rdS s i er
  let a1 := rdS s a0.2.1 a0.2.2
  let a2 := rdS s a1.2.1 a1.2.2
  let a3 := rdS s a2.2.1 a2.2.2
  let a4 := rdS s a3.2.1 a3.2.2
  let a5 := rdS s a4.2.1 a4.2.2
  let a6 := rdS s a5.2.1 a5.2.2
  let a7 := rdM s a6.2.1 a6.2.2
  let a8 := rdM s a7.2.1 a7.2.2
  let a9 := rdM s a8.2.1 a8.2.2
  let a11 := rdM s a9.2.1 a9.2.2
  let a10 := rdL s a11.2.1 a11.2.2
  (⟨a0.1, a1.1, a2.1, a3.1, a4.1, a5.1, a6.1, a7.1, a8.1, a9.1, a10.1, a11.1⟩, a10.2.1, a10.2.2)

theorem Cold.rdSetE {w w' : World} {P : Nat → Prop} {g : Nat} {f : Nat → Value} {S : Nat → List Sp} {E M D R : List Mp} {X : List Int} {v : Value} {L : List Mp} (h : Cold w P f S E M D R X)
    (hg : Keeps w w' (fun k => k = g)) (hP : ¬ P g) (hv : MpO w' P v L) : Cold w' P (upd f 7 v) S L M D R X := by
  have h' := h.keeps hg (fun k _ e => by subst e; exact hP)
  refine ⟨fun j hj => by rw [upd_other _ _ (by omega)]; exact h'.sp j hj, ?_, ?_, ?_, ?_, ?_⟩
  · rw [upd_same]; exact hv
  · rw [upd_other _ _ (by omega)]; exact h'.map
  · rw [upd_other _ _ (by omega)]; exact h'.dec
  · rw [upd_other _ _ (by omega)]; exact h'.exc
  · rw [upd_other _ _ (by omega)]; exact h'.pro

theorem Cold.rdSetM {w w' : World} {P : Nat → Prop} {g : Nat} {f : Nat → Value} {S : Nat → List Sp} {E M D R : List Mp} {X : List Int} {v : Value} {L : List Mp} (h : Cold w P f S E M D R X)
    (hg : Keeps w w' (fun k => k = g)) (hP : ¬ P g) (hv : MpO w' P v L) : Cold w' P (upd f 8 v) S E L D R X := by
  have h' := h.keeps hg (fun k _ e => by subst e; exact hP)
  refine ⟨fun j hj => by rw [upd_other _ _ (by omega)]; exact h'.sp j hj, ?_, ?_, ?_, ?_, ?_⟩
  · rw [upd_other _ _ (by omega)]; exact h'.ext
  · rw [upd_same]; exact hv
  · rw [upd_other _ _ (by omega)]; exact h'.dec
  · rw [upd_other _ _ (by omega)]; exact h'.exc
  · rw [upd_other _ _ (by omega)]; exact h'.pro

theorem Cold.rdSetD {w w' : World} {P : Nat → Prop} {g : Nat} {f : Nat → Value} {S : Nat → List Sp} {E M D R : List Mp} {X : List Int} {v : Value} {L : List Mp} (h : Cold w P f S E M D R X)
    (hg : Keeps w w' (fun k => k = g)) (hP : ¬ P g) (hv : MpO w' P v L) : Cold w' P (upd f 9 v) S E M L R X := by
  have h' := h.keeps hg (fun k _ e => by subst e; exact hP)
  refine ⟨fun j hj => by rw [upd_other _ _ (by omega)]; exact h'.sp j hj, ?_, ?_, ?_, ?_, ?_⟩
  · rw [upd_other _ _ (by omega)]; exact h'.ext
  · rw [upd_other _ _ (by omega)]; exact h'.map
  · rw [upd_same]; exact hv
  · rw [upd_other _ _ (by omega)]; exact h'.exc
  · rw [upd_other _ _ (by omega)]; exact h'.pro

theorem Cold.rdSetX {w w' : World} {P : Nat → Prop} {g : Nat} {f : Nat → Value} {S : Nat → List Sp} {E M D R : List Mp} {X : List Int} {v : Value} {L : List Int} (h : Cold w P f S E M D R X)
    (hg : Keeps w w' (fun k => k = g)) (hP : ¬ P g) (hv : InO w' P v L) : Cold w' P (upd f 10 v) S E M D R L := by
  have h' := h.keeps hg (fun k _ e => by subst e; exact hP)
  refine ⟨fun j hj => by rw [upd_other _ _ (by omega)]; exact h'.sp j hj, ?_, ?_, ?_, ?_, ?_⟩
  · rw [upd_other _ _ (by omega)]; exact h'.ext
  · rw [upd_other _ _ (by omega)]; exact h'.map
  · rw [upd_other _ _ (by omega)]; exact h'.dec
  · rw [upd_same]; exact hv
  · rw [upd_other _ _ (by omega)]; exact h'.pro

theorem Cold.rdSetR {w w' : World} {P : Nat → Prop} {g : Nat} {f : Nat → Value} {S : Nat → List Sp} {E M D R : List Mp} {X : List Int} {v : Value} {L : List Mp} (h : Cold w P f S E M D R X)
    (hg : Keeps w w' (fun k => k = g)) (hP : ¬ P g) (hv : MpO w' P v L) : Cold w' P (upd f 11 v) S E M D L X := by
  have h' := h.keeps hg (fun k _ e => by subst e; exact hP)
  refine ⟨fun j hj => by rw [upd_other _ _ (by omega)]; exact h'.sp j hj, ?_, ?_, ?_, ?_, ?_⟩
  · rw [upd_other _ _ (by omega)]; exact h'.ext
  · rw [upd_other _ _ (by omega)]; exact h'.map
  · rw [upd_other _ _ (by omega)]; exact h'.dec
  · rw [upd_other _ _ (by omega)]; exact h'.exc
  · rw [upd_same]; exact hv

/-- What tables keeps while it reads: the reader g, the box b, the result rb. -/
structure RTt (w0 w : World) (g : Nat) (s : ByteArray) (i er : Int) (f : Nat → Value) (S : Nat → List Sp) (E M D R : List Mp) (X : List Int) : Prop where
  rd : Rd w g s i er
  box : BoxF w (w0.heap.size + 1) f
  res : BoxF w w0.heap.size (fun _ => .slice none 0 0)
  cold : Cold w (fun k => w0.heap.size + 2 ≤ k) f S E M D R X
  keep : Keeps w0 w (fun k => k = g)
  lt : g < w0.heap.size

theorem RTt.call {w0 w w' : World} {g : Nat} {s : ByteArray} {i er i' er' : Int} {f : Nat → Value} {S : Nat → List Sp} {E M D R : List Mp} {X : List Int} (h : RTt w0 w g s i er f S E M D R X)
    (hr : Rd w' g s i' er') (hg : w.grownBy w' (some g)) : RTt w0 w' g s i' er' f S E M D R X := by
  have hl := h.lt
  have hk := (Keeps.of_grown hg).weak (Q := fun k => k = g) (fun k _ e => by injection e with e; exact e.symm)
  exact ⟨hr, h.box.keeps hk (by omega), h.res.keeps hk (by omega), h.cold.keeps hk (fun k _ e hh => by omega), h.keep.trans hk (fun _ _ e => e) (fun _ _ e => e), hl⟩

theorem RTt.new {w0 : World} {g : Nat} {s : ByteArray} {i er : Int} (h : Rd w0 g s i er) (t t' : TypeId) :
    RTt w0 ((w0.alloc (.cells #[.slice none 0 0, .slice none 0 0, .slice none 0 0, .slice none 0 0, .slice none 0 0, .slice none 0 0, .slice none 0 0, .slice none 0 0, .slice none 0 0, .slice none 0 0, .slice none 0 0, .slice none 0 0] t)).alloc (.cells #[.slice none 0 0, .slice none 0 0, .slice none 0 0, .slice none 0 0, .slice none 0 0, .slice none 0 0, .slice none 0 0, .slice none 0 0, .slice none 0 0, .slice none 0 0, .slice none 0 0, .slice none 0 0] t')) g s i er (fun _ => .slice none 0 0) (fun _ => []) [] [] [] [] [] := by
  have hk := (Keeps.alloc w0 (.cells #[.slice none 0 0, .slice none 0 0, .slice none 0 0, .slice none 0 0, .slice none 0 0, .slice none 0 0, .slice none 0 0, .slice none 0 0, .slice none 0 0, .slice none 0 0, .slice none 0 0, .slice none 0 0] t)).trans (Keeps.alloc _ (.cells #[.slice none 0 0, .slice none 0 0, .slice none 0 0, .slice none 0 0, .slice none 0 0, .slice none 0 0, .slice none 0 0, .slice none 0 0, .slice none 0 0, .slice none 0 0, .slice none 0 0, .slice none 0 0] t')) (S := fun k => k = g) (fun _ _ e => e.elim) (fun _ _ e => e.elim)
  have new12 : ∀ (w : World) (t : TypeId), BoxF (w.alloc (.cells #[.slice none 0 0, .slice none 0 0, .slice none 0 0, .slice none 0 0, .slice none 0 0, .slice none 0 0, .slice none 0 0, .slice none 0 0, .slice none 0 0, .slice none 0 0, .slice none 0 0, .slice none 0 0] t)) w.heap.size (fun _ => .slice none 0 0) := by
    intro w t j hj
    have : j = 0 ∨ j = 1 ∨ j = 2 ∨ j = 3 ∨ j = 4 ∨ j = 5 ∨ j = 6 ∨ j = 7 ∨ j = 8 ∨ j = 9 ∨ j = 10 ∨ j = 11 := by omega
    rcases this with rfl | rfl | rfl | rfl | rfl | rfl | rfl | rfl | rfl | rfl | rfl | rfl <;> exact ⟨by simp [World.cell?_alloc_new], by simp⟩
  refine ⟨(h.grown (World.grownBy_alloc w0 _ none) (by simp)).grown (World.grownBy_alloc _ _ none) (by simp), ?_, (new12 w0 t).keeps (Keeps.alloc _ _) (fun e => e), ⟨fun _ _ => SpO.nil _ _, MpO.nil _ _, MpO.nil _ _, MpO.nil _ _, InO.nil _ _, MpO.nil _ _⟩, hk, h.2.2.2.2.2⟩
  have := new12 (w0.alloc (.cells #[.slice none 0 0, .slice none 0 0, .slice none 0 0, .slice none 0 0, .slice none 0 0, .slice none 0 0, .slice none 0 0, .slice none 0 0, .slice none 0 0, .slice none 0 0, .slice none 0 0, .slice none 0 0] t)) t'
  simpa using this

theorem RTt.putS {w0 w : World} {g : Nat} {s : ByteArray} {i er : Int} {f : Nat → Value} {S : Nat → List Sp} {E M D R : List Mp} {X : List Int} {v : Value} {L : List Sp} (k : Nat) (hk7 : k < 7) (h : RTt w0 w g s i er f S E M D R X)
    (hv : SpO w (fun b => w0.heap.size + 2 ≤ b) v L) : RTt w0 (w.setCell ⟨w0.heap.size + 1, k, none⟩ v) g s i er (upd f k v) (upd S k L) E M D R X := by
  have hl := h.lt
  have hs := Sets.store w (w0.heap.size + 1) k v _ (h.box k (by omega)).1
  have hv' := hv.keeps hs.keep (fun k _ e hh => by omega)
  exact ⟨h.rd.grown (row := some (w0.heap.size + 1)) (sp_grownBy_store _ _ _ _) (by simp; omega), h.box.sets hs, h.res.keeps hs.keep (by omega), h.cold.setS hk7 hs.keep (by omega) hv', h.keep.trans hs.keep (fun _ _ e => e) (fun b hb e => by omega), hl⟩

theorem RTt.putE {w0 w : World} {g : Nat} {s : ByteArray} {i er : Int} {f : Nat → Value} {S : Nat → List Sp} {E M D R : List Mp} {X : List Int} {v : Value} {L : List Mp} (h : RTt w0 w g s i er f S E M D R X)
    (hv : MpO w (fun b => w0.heap.size + 2 ≤ b) v L) : RTt w0 (w.setCell ⟨w0.heap.size + 1, 7, none⟩ v) g s i er (upd f 7 v) S L M D R X := by
  have hl := h.lt
  have hs := Sets.store w (w0.heap.size + 1) 7 v _ (h.box 7 (by omega)).1
  have hv' := hv.keeps hs.keep (fun k _ e hh => by omega)
  exact ⟨h.rd.grown (row := some (w0.heap.size + 1)) (sp_grownBy_store _ _ _ _) (by simp; omega), h.box.sets hs, h.res.keeps hs.keep (by omega), h.cold.rdSetE hs.keep (by omega) hv', h.keep.trans hs.keep (fun _ _ e => e) (fun b hb e => by omega), hl⟩

theorem RTt.putM {w0 w : World} {g : Nat} {s : ByteArray} {i er : Int} {f : Nat → Value} {S : Nat → List Sp} {E M D R : List Mp} {X : List Int} {v : Value} {L : List Mp} (h : RTt w0 w g s i er f S E M D R X)
    (hv : MpO w (fun b => w0.heap.size + 2 ≤ b) v L) : RTt w0 (w.setCell ⟨w0.heap.size + 1, 8, none⟩ v) g s i er (upd f 8 v) S E L D R X := by
  have hl := h.lt
  have hs := Sets.store w (w0.heap.size + 1) 8 v _ (h.box 8 (by omega)).1
  have hv' := hv.keeps hs.keep (fun k _ e hh => by omega)
  exact ⟨h.rd.grown (row := some (w0.heap.size + 1)) (sp_grownBy_store _ _ _ _) (by simp; omega), h.box.sets hs, h.res.keeps hs.keep (by omega), h.cold.rdSetM hs.keep (by omega) hv', h.keep.trans hs.keep (fun _ _ e => e) (fun b hb e => by omega), hl⟩

theorem RTt.putD {w0 w : World} {g : Nat} {s : ByteArray} {i er : Int} {f : Nat → Value} {S : Nat → List Sp} {E M D R : List Mp} {X : List Int} {v : Value} {L : List Mp} (h : RTt w0 w g s i er f S E M D R X)
    (hv : MpO w (fun b => w0.heap.size + 2 ≤ b) v L) : RTt w0 (w.setCell ⟨w0.heap.size + 1, 9, none⟩ v) g s i er (upd f 9 v) S E M L R X := by
  have hl := h.lt
  have hs := Sets.store w (w0.heap.size + 1) 9 v _ (h.box 9 (by omega)).1
  have hv' := hv.keeps hs.keep (fun k _ e hh => by omega)
  exact ⟨h.rd.grown (row := some (w0.heap.size + 1)) (sp_grownBy_store _ _ _ _) (by simp; omega), h.box.sets hs, h.res.keeps hs.keep (by omega), h.cold.rdSetD hs.keep (by omega) hv', h.keep.trans hs.keep (fun _ _ e => e) (fun b hb e => by omega), hl⟩

theorem RTt.putX {w0 w : World} {g : Nat} {s : ByteArray} {i er : Int} {f : Nat → Value} {S : Nat → List Sp} {E M D R : List Mp} {X : List Int} {v : Value} {L : List Int} (h : RTt w0 w g s i er f S E M D R X)
    (hv : InO w (fun b => w0.heap.size + 2 ≤ b) v L) : RTt w0 (w.setCell ⟨w0.heap.size + 1, 10, none⟩ v) g s i er (upd f 10 v) S E M D R L := by
  have hl := h.lt
  have hs := Sets.store w (w0.heap.size + 1) 10 v _ (h.box 10 (by omega)).1
  have hv' := hv.keeps hs.keep (fun k _ e hh => by omega)
  exact ⟨h.rd.grown (row := some (w0.heap.size + 1)) (sp_grownBy_store _ _ _ _) (by simp; omega), h.box.sets hs, h.res.keeps hs.keep (by omega), h.cold.rdSetX hs.keep (by omega) hv', h.keep.trans hs.keep (fun _ _ e => e) (fun b hb e => by omega), hl⟩

theorem RTt.putR {w0 w : World} {g : Nat} {s : ByteArray} {i er : Int} {f : Nat → Value} {S : Nat → List Sp} {E M D R : List Mp} {X : List Int} {v : Value} {L : List Mp} (h : RTt w0 w g s i er f S E M D R X)
    (hv : MpO w (fun b => w0.heap.size + 2 ≤ b) v L) : RTt w0 (w.setCell ⟨w0.heap.size + 1, 11, none⟩ v) g s i er (upd f 11 v) S E M D L X := by
  have hl := h.lt
  have hs := Sets.store w (w0.heap.size + 1) 11 v _ (h.box 11 (by omega)).1
  have hv' := hv.keeps hs.keep (fun k _ e hh => by omega)
  exact ⟨h.rd.grown (row := some (w0.heap.size + 1)) (sp_grownBy_store _ _ _ _) (by simp; omega), h.box.sets hs, h.res.keeps hs.keep (by omega), h.cold.rdSetR hs.keep (by omega) hv', h.keep.trans hs.keep (fun _ _ e => e) (fun b hb e => by omega), hl⟩

theorem Spans.rdO {w : World} {B : Nat} {v : Value} {l : List Sp} (h : Spans w B v l) (hl : l.length ≤ 17592186043904) : SpO w (fun b => B ≤ b) v l := by
  refine ⟨?_, fun b off n c e => by have := World.ownsRow.lt h b (by rw [e]; rfl); exact ⟨this.1, this.2⟩⟩
  obtain ⟨p, c, rfl, hi⟩ := h.inn
  exact ⟨p, c, rfl, hi, hl⟩

theorem rdS_len (s : ByteArray) (i er : Int) : (rdS s i er).1.length ≤ 256 := by
  unfold rdS
  split
  · simp
  · split
    · simp
    · exact getSpansS_len s i

theorem RTt.two {w0 w : World} {g : Nat} {s : ByteArray} {i er : Int} {f : Nat → Value} {S : Nat → List Sp} {E M D R : List Mp} {X : List Int} (h : RTt w0 w g s i er f S E M D R X) : w0.heap.size + 2 ≤ w.heap.size := h.box.lt

theorem Rd.keeps {w w' : World} {g : Nat} {s : ByteArray} {i er : Int} {R : Nat → Prop} (h : Rd w g s i er) (hk : Keeps w w' R) (hr : ¬ R g) : Rd w' g s i er := by
  obtain ⟨h1, h2, h3, h4, h5, h6⟩ := h
  exact ⟨hk.cell h1 hr, hk.cell h2 hr, hk.cell h3 hr, (World.frozen?_of_block (hk.block g h6 hr)).trans h4, (World.frozen?_of_block (hk.block g h6 hr)).trans h5, Nat.lt_of_lt_of_le h6 hk.size⟩

def PostT (g : Nat) (s : ByteArray) (T : Tb) (i er : Int) (w : World) (e : Ending) (w' : World) : Prop :=
  ∃ x : TV, e = .returned x.agg ∧ (∀ w'', Keeps w' w'' (fun k => k < w.heap.size) → TabV w'' x T) ∧ Rd w' g s i er ∧ Keeps w w' (fun k => k = g)

set_option maxRecDepth 100000 in
set_option maxHeartbeats 8000000 in
theorem tables_t (g : Nat) (s : ByteArray) (i er : Int) (T : Tb) (j er' : Int) (w : World) (hs : s.size ≤ maxLen) (hr : Rd w g s i er) (hE : Hid (rdT s i er = (T, j, er'))) :
    Calls Tryz.prog 84 #[.pointer (some ⟨g, 0, none⟩)] w (PostT g s T j er' w) := by
  have HS := Lib.hid hs
  have HT := Lib.hid (RTt.new hr 29 29)
  clear hs hr
  obtain ⟨L0, j0, e0, h0⟩ : ∃ L j e, Hid (rdS s i er = (L, j, e)) := ⟨_, _, _, rfl⟩
  obtain ⟨L1, j1, e1, h1⟩ : ∃ L j e, Hid (rdS s j0 e0 = (L, j, e)) := ⟨_, _, _, rfl⟩
  obtain ⟨L2, j2, e2, h2⟩ : ∃ L j e, Hid (rdS s j1 e1 = (L, j, e)) := ⟨_, _, _, rfl⟩
  obtain ⟨L3, j3, e3, h3⟩ : ∃ L j e, Hid (rdS s j2 e2 = (L, j, e)) := ⟨_, _, _, rfl⟩
  obtain ⟨L4, j4, e4, h4⟩ : ∃ L j e, Hid (rdS s j3 e3 = (L, j, e)) := ⟨_, _, _, rfl⟩
  obtain ⟨L5, j5, e5, h5⟩ : ∃ L j e, Hid (rdS s j4 e4 = (L, j, e)) := ⟨_, _, _, rfl⟩
  obtain ⟨L6, j6, e6, h6⟩ : ∃ L j e, Hid (rdS s j5 e5 = (L, j, e)) := ⟨_, _, _, rfl⟩
  obtain ⟨L7, j7, e7, h7⟩ : ∃ L j e, Hid (rdM s j6 e6 = (L, j, e)) := ⟨_, _, _, rfl⟩
  obtain ⟨L8, j8, e8, h8⟩ : ∃ L j e, Hid (rdM s j7 e7 = (L, j, e)) := ⟨_, _, _, rfl⟩
  obtain ⟨L9, j9, e9, h9⟩ : ∃ L j e, Hid (rdM s j8 e8 = (L, j, e)) := ⟨_, _, _, rfl⟩
  obtain ⟨L11, j11, e11, h11⟩ : ∃ L j e, Hid (rdM s j9 e9 = (L, j, e)) := ⟨_, _, _, rfl⟩
  obtain ⟨L10, j10, e10, h10⟩ : ∃ L j e, Hid (rdL s j11 e11 = (L, j, e)) := ⟨_, _, _, rfl⟩
  have hE' := hE.out
  unfold rdT at hE'
  simp only [h0.out, h1.out, h2.out, h3.out, h4.out, h5.out, h6.out, h7.out, h8.out, h9.out, h11.out, h10.out] at hE'
  injection hE' with f1 f2
  injection f2 with f2 f3
  subst f1; subst f2; subst f3
  go_enter Tryz.func84, Tryz.ntmps84
  go_wp2_with fail
  refine (spans_t g s i er L0 j0 e0 _ HS.out HT.out.rd h0).mono ?_
  rintro e u0 ⟨v0, rfl, ho, hr1, hg1⟩
  have hown := (ho.out.rdO (by have := rdS_len s i er; rw [h0.out] at this; simp only at this; omega)).weak (Q := fun b => w.heap.size + 2 ≤ b) (fun b _ e => Nat.le_trans HT.out.two e)
  obtain ⟨p0, n0, q0, hsl⟩ : Slc v0 := hown.1.slc
  subst hsl
  replace HT := Lib.hid (HT.out.call hr1 hg1)
  obtain ⟨c1, z1⟩ := HT.out.box 0 (by omega)
  replace HT := Lib.hid (HT.out.putS 0 (by omega) hown)
  clear ho hr1 hg1 hown
  go_upto_region 3 with (fail)
  clear c1 z1
  generalize u0.setCell ⟨w.heap.size + 1, 0, none⟩ (.slice p0 n0 q0) = W0 at HT ⊢
  go_wp2_with fail
  refine (spans_t g s j0 e0 L1 j1 e1 _ HS.out HT.out.rd h1).mono ?_
  rintro e u1 ⟨v1, rfl, ho, hr1, hg1⟩
  have hown := (ho.out.rdO (by have := rdS_len s j0 e0; rw [h1.out] at this; simp only at this; omega)).weak (Q := fun b => w.heap.size + 2 ≤ b) (fun b _ e => Nat.le_trans HT.out.two e)
  obtain ⟨p1, n1, q1, hsl⟩ : Slc v1 := hown.1.slc
  subst hsl
  replace HT := Lib.hid (HT.out.call hr1 hg1)
  obtain ⟨c1, z1⟩ := HT.out.box 1 (by omega)
  replace HT := Lib.hid (HT.out.putS 1 (by omega) hown)
  clear ho hr1 hg1 hown
  go_upto_region 4 with (fail)
  clear c1 z1
  generalize u1.setCell ⟨w.heap.size + 1, 1, none⟩ (.slice p1 n1 q1) = W1 at HT ⊢
  go_wp2_with fail
  refine (spans_t g s j1 e1 L2 j2 e2 _ HS.out HT.out.rd h2).mono ?_
  rintro e u2 ⟨v2, rfl, ho, hr1, hg1⟩
  have hown := (ho.out.rdO (by have := rdS_len s j1 e1; rw [h2.out] at this; simp only at this; omega)).weak (Q := fun b => w.heap.size + 2 ≤ b) (fun b _ e => Nat.le_trans HT.out.two e)
  obtain ⟨p2, n2, q2, hsl⟩ : Slc v2 := hown.1.slc
  subst hsl
  replace HT := Lib.hid (HT.out.call hr1 hg1)
  obtain ⟨c1, z1⟩ := HT.out.box 2 (by omega)
  replace HT := Lib.hid (HT.out.putS 2 (by omega) hown)
  clear ho hr1 hg1 hown
  go_upto_region 5 with (fail)
  clear c1 z1
  generalize u2.setCell ⟨w.heap.size + 1, 2, none⟩ (.slice p2 n2 q2) = W2 at HT ⊢
  go_wp2_with fail
  refine (spans_t g s j2 e2 L3 j3 e3 _ HS.out HT.out.rd h3).mono ?_
  rintro e u3 ⟨v3, rfl, ho, hr1, hg1⟩
  have hown := (ho.out.rdO (by have := rdS_len s j2 e2; rw [h3.out] at this; simp only at this; omega)).weak (Q := fun b => w.heap.size + 2 ≤ b) (fun b _ e => Nat.le_trans HT.out.two e)
  obtain ⟨p3, n3, q3, hsl⟩ : Slc v3 := hown.1.slc
  subst hsl
  replace HT := Lib.hid (HT.out.call hr1 hg1)
  obtain ⟨c1, z1⟩ := HT.out.box 3 (by omega)
  replace HT := Lib.hid (HT.out.putS 3 (by omega) hown)
  clear ho hr1 hg1 hown
  go_upto_region 6 with (fail)
  clear c1 z1
  generalize u3.setCell ⟨w.heap.size + 1, 3, none⟩ (.slice p3 n3 q3) = W3 at HT ⊢
  go_wp2_with fail
  refine (spans_t g s j3 e3 L4 j4 e4 _ HS.out HT.out.rd h4).mono ?_
  rintro e u4 ⟨v4, rfl, ho, hr1, hg1⟩
  have hown := (ho.out.rdO (by have := rdS_len s j3 e3; rw [h4.out] at this; simp only at this; omega)).weak (Q := fun b => w.heap.size + 2 ≤ b) (fun b _ e => Nat.le_trans HT.out.two e)
  obtain ⟨p4, n4, q4, hsl⟩ : Slc v4 := hown.1.slc
  subst hsl
  replace HT := Lib.hid (HT.out.call hr1 hg1)
  obtain ⟨c1, z1⟩ := HT.out.box 4 (by omega)
  replace HT := Lib.hid (HT.out.putS 4 (by omega) hown)
  clear ho hr1 hg1 hown
  go_upto_region 7 with (fail)
  clear c1 z1
  generalize u4.setCell ⟨w.heap.size + 1, 4, none⟩ (.slice p4 n4 q4) = W4 at HT ⊢
  go_wp2_with fail
  refine (spans_t g s j4 e4 L5 j5 e5 _ HS.out HT.out.rd h5).mono ?_
  rintro e u5 ⟨v5, rfl, ho, hr1, hg1⟩
  have hown := (ho.out.rdO (by have := rdS_len s j4 e4; rw [h5.out] at this; simp only at this; omega)).weak (Q := fun b => w.heap.size + 2 ≤ b) (fun b _ e => Nat.le_trans HT.out.two e)
  obtain ⟨p5, n5, q5, hsl⟩ : Slc v5 := hown.1.slc
  subst hsl
  replace HT := Lib.hid (HT.out.call hr1 hg1)
  obtain ⟨c1, z1⟩ := HT.out.box 5 (by omega)
  replace HT := Lib.hid (HT.out.putS 5 (by omega) hown)
  clear ho hr1 hg1 hown
  go_upto_region 8 with (fail)
  clear c1 z1
  generalize u5.setCell ⟨w.heap.size + 1, 5, none⟩ (.slice p5 n5 q5) = W5 at HT ⊢
  go_wp2_with fail
  refine (spans_t g s j5 e5 L6 j6 e6 _ HS.out HT.out.rd h6).mono ?_
  rintro e u6 ⟨v6, rfl, ho, hr1, hg1⟩
  have hown := (ho.out.rdO (by have := rdS_len s j5 e5; rw [h6.out] at this; simp only at this; omega)).weak (Q := fun b => w.heap.size + 2 ≤ b) (fun b _ e => Nat.le_trans HT.out.two e)
  obtain ⟨p6, n6, q6, hsl⟩ : Slc v6 := hown.1.slc
  subst hsl
  replace HT := Lib.hid (HT.out.call hr1 hg1)
  obtain ⟨c1, z1⟩ := HT.out.box 6 (by omega)
  replace HT := Lib.hid (HT.out.putS 6 (by omega) hown)
  clear ho hr1 hg1 hown
  go_upto_region 9 with (fail)
  clear c1 z1
  generalize u6.setCell ⟨w.heap.size + 1, 6, none⟩ (.slice p6 n6 q6) = W6 at HT ⊢
  go_wp2_with fail
  refine (mappings_t g s j6 e6 L7 j7 e7 _ HS.out HT.out.rd h7).mono ?_
  rintro e u7 ⟨v7, rfl, ho, hr1, hg1⟩
  have hown := ho.out.weak (Q := fun b => w.heap.size + 2 ≤ b) (fun b _ e => Nat.le_trans HT.out.two e)
  obtain ⟨p7, n7, q7, hsl⟩ : Slc v7 := hown.mpv.slc
  subst hsl
  replace HT := Lib.hid (HT.out.call hr1 hg1)
  obtain ⟨c1, z1⟩ := HT.out.box 7 (by omega)
  replace HT := Lib.hid (HT.out.putE hown)
  clear ho hr1 hg1 hown
  go_upto_region 10 with (fail)
  clear c1 z1
  generalize u7.setCell ⟨w.heap.size + 1, 7, none⟩ (.slice p7 n7 q7) = W7 at HT ⊢
  go_wp2_with fail
  refine (mappings_t g s j7 e7 L8 j8 e8 _ HS.out HT.out.rd h8).mono ?_
  rintro e u8 ⟨v8, rfl, ho, hr1, hg1⟩
  have hown := ho.out.weak (Q := fun b => w.heap.size + 2 ≤ b) (fun b _ e => Nat.le_trans HT.out.two e)
  obtain ⟨p8, n8, q8, hsl⟩ : Slc v8 := hown.mpv.slc
  subst hsl
  replace HT := Lib.hid (HT.out.call hr1 hg1)
  obtain ⟨c1, z1⟩ := HT.out.box 8 (by omega)
  replace HT := Lib.hid (HT.out.putM hown)
  clear ho hr1 hg1 hown
  go_upto_region 11 with (fail)
  clear c1 z1
  generalize u8.setCell ⟨w.heap.size + 1, 8, none⟩ (.slice p8 n8 q8) = W8 at HT ⊢
  go_wp2_with fail
  refine (mappings_t g s j8 e8 L9 j9 e9 _ HS.out HT.out.rd h9).mono ?_
  rintro e u9 ⟨v9, rfl, ho, hr1, hg1⟩
  have hown := ho.out.weak (Q := fun b => w.heap.size + 2 ≤ b) (fun b _ e => Nat.le_trans HT.out.two e)
  obtain ⟨p9, n9, q9, hsl⟩ : Slc v9 := hown.mpv.slc
  subst hsl
  replace HT := Lib.hid (HT.out.call hr1 hg1)
  obtain ⟨c1, z1⟩ := HT.out.box 9 (by omega)
  replace HT := Lib.hid (HT.out.putD hown)
  clear ho hr1 hg1 hown
  go_upto_region 12 with (fail)
  clear c1 z1
  generalize u9.setCell ⟨w.heap.size + 1, 9, none⟩ (.slice p9 n9 q9) = W9 at HT ⊢
  go_wp2_with fail
  refine (mappings_t g s j9 e9 L11 j11 e11 _ HS.out HT.out.rd h11).mono ?_
  rintro e u10 ⟨v11, rfl, ho, hr1, hg1⟩
  have hown := ho.out.weak (Q := fun b => w.heap.size + 2 ≤ b) (fun b _ e => Nat.le_trans HT.out.two e)
  obtain ⟨p11, n11, q11, hsl⟩ : Slc v11 := hown.mpv.slc
  subst hsl
  replace HT := Lib.hid (HT.out.call hr1 hg1)
  obtain ⟨c1, z1⟩ := HT.out.box 11 (by omega)
  replace HT := Lib.hid (HT.out.putR hown)
  clear ho hr1 hg1 hown
  go_upto_region 13 with (fail)
  clear c1 z1
  generalize u10.setCell ⟨w.heap.size + 1, 11, none⟩ (.slice p11 n11 q11) = W10 at HT ⊢
  go_wp2_with fail
  refine (list_t g s j11 e11 L10 j10 e10 _ HS.out HT.out.rd h10).mono ?_
  rintro e u11 ⟨v10, rfl, ho, hr1, hg1⟩
  have hown := (ho.out.rdO (by have := rdL_len s j11 e11; rw [h10.out] at this; simp only at this; omega)).weak (Q := fun b => w.heap.size + 2 ≤ b) (fun b _ e => Nat.le_trans HT.out.two e)
  obtain ⟨p10, n10, q10, hsl⟩ : Slc v10 := hown.1.slc
  subst hsl
  replace HT := Lib.hid (HT.out.call hr1 hg1)
  obtain ⟨c1, z1⟩ := HT.out.box 10 (by omega)
  replace HT := Lib.hid (HT.out.putX hown)
  clear ho hr1 hg1 hown
  go_upto_region 14 with (fail)
  clear c1 z1
  generalize u11.setCell ⟨w.heap.size + 1, 10, none⟩ (.slice p10 n10 q10) = W11 at HT ⊢
  have hbt : BoxT W11 (w.heap.size + 1) ⟨.slice p0 n0 q0, .slice p1 n1 q1, .slice p2 n2 q2, .slice p3 n3 q3, .slice p4 n4 q4, .slice p5 n5 q5, .slice p6 n6 q6, .slice p7 n7 q7, .slice p8 n8 q8, .slice p9 n9 q9, .slice p10 n10 q10, .slice p11 n11 q11⟩ := HT.out.box.box
  obtain ⟨⟨k0, k1, k2, k3, k4, k5⟩, ⟨k6, k7, k8, k9, k10, k11⟩⟩ := hbt.load
  simp only at k0 k1 k2 k3 k4 k5 k6 k7 k8 k9 k10 k11
  obtain ⟨s0, t0⟩ := HT.out.res 0 (by omega)
  obtain ⟨s1, t1⟩ := HT.out.res 1 (by omega)
  obtain ⟨s2, t2⟩ := HT.out.res 2 (by omega)
  obtain ⟨s3, t3⟩ := HT.out.res 3 (by omega)
  obtain ⟨s4, t4⟩ := HT.out.res 4 (by omega)
  obtain ⟨s5, t5⟩ := HT.out.res 5 (by omega)
  obtain ⟨s6, t6⟩ := HT.out.res 6 (by omega)
  obtain ⟨s7, t7⟩ := HT.out.res 7 (by omega)
  obtain ⟨s8, t8⟩ := HT.out.res 8 (by omega)
  obtain ⟨s9, t9⟩ := HT.out.res 9 (by omega)
  obtain ⟨s10, t10⟩ := HT.out.res 10 (by omega)
  obtain ⟨s11, t11⟩ := HT.out.res 11 (by omega)
  clear hbt
  go_wp2
  obtain ⟨hbF, hkF⟩ := store12 W11 w.heap.size (.slice p0 n0 q0) (.slice p1 n1 q1) (.slice p2 n2 q2) (.slice p3 n3 q3) (.slice p4 n4 q4) (.slice p5 n5 q5) (.slice p6 n6 q6) (.slice p7 n7 q7) (.slice p8 n8 q8) (.slice p9 n9 q9) (.slice p10 n10 q10) (.slice p11 n11 q11) HT.out.res
  generalize (World.setCell (World.setCell (World.setCell (World.setCell (World.setCell (World.setCell (World.setCell (World.setCell (World.setCell (World.setCell (World.setCell (World.setCell W11 ⟨w.heap.size, 0, none⟩ (.slice p0 n0 q0)) ⟨w.heap.size, 1, none⟩ (.slice p1 n1 q1)) ⟨w.heap.size, 2, none⟩ (.slice p2 n2 q2)) ⟨w.heap.size, 3, none⟩ (.slice p3 n3 q3)) ⟨w.heap.size, 4, none⟩ (.slice p4 n4 q4)) ⟨w.heap.size, 5, none⟩ (.slice p5 n5 q5)) ⟨w.heap.size, 6, none⟩ (.slice p6 n6 q6)) ⟨w.heap.size, 7, none⟩ (.slice p7 n7 q7)) ⟨w.heap.size, 8, none⟩ (.slice p8 n8 q8)) ⟨w.heap.size, 9, none⟩ (.slice p9 n9 q9)) ⟨w.heap.size, 10, none⟩ (.slice p10 n10 q10)) ⟨w.heap.size, 11, none⟩ (.slice p11 n11 q11)) = WF at hbF hkF ⊢
  obtain ⟨⟨Q0, Q1, Q2, Q3, Q4, Q5⟩, ⟨Q6, Q7, Q8, Q9, Q10, Q11⟩⟩ := hbF.load
  have hlt := HT.out.lt
  have htF := fun w'' (hk : Keeps WF w'' (fun k => k < w.heap.size)) => ((HT.out.cold.keeps hkF (fun b _ e hh => by omega)).keeps hk (fun b _ e hh => by omega)).tab
  have hrF := HT.out.rd.keeps hkF (by omega)
  have hkk := HT.out.keep.trans hkF (S := fun k => k = g) (fun _ _ e => e) (fun b hb e => by omega)
  simp only at Q0 Q1 Q2 Q3 Q4 Q5 Q6 Q7 Q8 Q9 Q10 Q11
  refine bodyPost_ret (v := .agg #[.slice p0 n0 q0, .slice p1 n1 q1, .slice p2 n2 q2, .slice p3 n3 q3, .slice p4 n4 q4, .slice p5 n5 q5, .slice p6 n6 q6, .slice p7 n7 q7, .slice p8 n8 q8, .slice p9 n9 q9, .slice p10 n10 q10, .slice p11 n11 q11]) (by simp [results, Tryz.results84, go_sem, Q0, Q1, Q2, Q3, Q4, Q5, Q6, Q7, Q8, Q9, Q10, Q11]) rfl ?_
  exact ⟨⟨.slice p0 n0 q0, .slice p1 n1 q1, .slice p2 n2 q2, .slice p3 n3 q3, .slice p4 n4 q4, .slice p5 n5 q5, .slice p6 n6 q6, .slice p7 n7 q7, .slice p8 n8 q8, .slice p9 n9 q9, .slice p10 n10 q10, .slice p11 n11 q11⟩, rfl, htF, hrF, hkk⟩

end Go.Proofs.YtnnhcgflmhjakaaGreatDoor
