/-
  keep.Tables: well-formed tables.
  keep.Tables: the walk.
-/
import Derived.Test.YtfmfifmmaihodaaGreatDoorSxTblH
set_option linter.unusedSimpArgs false
set_option linter.unusedVariables false
namespace Go.Proofs.YtfmfifmmaihodaaGreatDoor
open Go.RowKit
set_option linter.unusedVariables false

/-- What holds between the rounds of Tables: s in block gs, t in block g, the result in block rb, the pool in block pb. -/
structure TSt (w0 w : World) (gs g rb pb : Nat) (f : Nat → Value) (S : Nat → List Sp) (v6 : Value) (sl r : List Int) : Prop where
  src : Src w gs r
  box : BoxF w g f
  res : BoxF w rb (fun i => .slice none 0 0)
  cold : Cold w (fun b => g < b ∧ v6.ownBlock ≠ some b) f S [] [] [] [] []
  sts : Ints w (pb + 1) v6 sl
  pool : IntsIn w (some ⟨pb, 0, none⟩) poolL
  bel : Below w0.heap.size w0 w
  ord : w0.heap.size ≤ rb ∧ rb < gs ∧ gs < g ∧ g < pb
  nil : ∀ i, (i = 5 ∨ 7 ≤ i) → i < 12 → f i = .slice none 0 0

section
variable {w0 w w1 w' : World} {gs g rb pb : Nat} {f : Nat → Value} {S : Nat → List Sp} {v6 : Value} {sl r r' : List Int}
theorem TSt.own (h : TSt w0 w gs g rb pb f S v6 sl r) : ∀ b, v6.ownBlock = some b → pb + 1 ≤ b ∧ b < w.heap.size := fun b hb => World.ownsRow.lt h.sts b hb

theorem TSt.step (h : TSt w0 w gs g rb pb f S v6 sl r) (hk : Keeps w w' (fun b => b = gs)) (hs : Src w' gs r') : TSt w0 w' gs g rb pb f S v6 sl r' := by
  obtain ⟨o1, o2, o3, o4⟩ := h.ord
  have h6 := h.own
  exact ⟨hs, h.box.keeps hk (by omega), h.res.keeps hk (by omega), h.cold.keeps hk (fun b hb e hh => by omega), hk.owns h.sts (fun b hb e => by have := h6 b hb; omega), IntsIn_keeps h.pool hk (by omega), h.bel.trans (hk.below h.bel.size (fun b hb e => by omega)), h.ord, h.nil⟩
theorem TSt.below (h : TSt w0 w gs g rb pb f S v6 sl r) (hb : Below w.heap.size w w') : TSt w0 w' gs g rb pb f S v6 sl r :=
  h.step ((Keeps.of_below hb).weak (fun b hb e => by omega)) (h.src.below hb)

/-- add at list i. -/
theorem TSt.add {i : Nat} {v : Value} {L : List Sp} (h : TSt w0 w gs g rb pb f S v6 sl r) (hi : i < 7) (hi5 : i ≠ 5) (hs : Sets w w' g i v) (hv : SpV w' v L) (hl : v = f i ∨ ∀ b off n c, v = .slice (some ⟨b, off, none⟩) n c → w.heap.size ≤ b ∧ b < w'.heap.size) :
    TSt w0 w' gs g rb pb (upd f i v) (upd S i L) v6 sl r := by
  obtain ⟨o1, o2, o3, o4⟩ := h.ord
  have h6 := h.own
  have hlt := h.box.lt
  have hk := hs.keep
  refine ⟨h.src.keeps hk (fun b hb e => by omega), h.box.sets hs, h.res.keeps hk (by omega), h.cold.setS hi hk (by omega) ⟨hv, ?_⟩, hk.owns h.sts (fun b hb e => by have := h6 b hb; omega), IntsIn_keeps h.pool hk (by omega), h.bel.trans (hk.below h.bel.size (fun b hb e => by omega)), h.ord, fun j h1 h2 => by rw [upd_other _ _ (by omega)]; exact h.nil j h1 h2⟩
  intro b off n c e
  rcases hl with hl | hl
  · subst hl
    have := (h.cold.sp i hi).2 b off n c e
    exact ⟨this.1, Nat.lt_of_lt_of_le this.2 hk.size⟩
  · have := hl b off n c e
    exact ⟨⟨by omega, fun e6 => by have := h6 b e6; omega⟩, this.2⟩

theorem TSt.call {i : Nat} (h : TSt w0 w gs g rb pb f S v6 sl r) (hi : i < 7) (hi5 : i ≠ 5) (hl : (S i).length ≤ 1000) (s : Sp) (z : Int) :
    Calls Tryz.prog 31 #[.pointer (some ⟨g, i, none⟩), spV s, .int .i64 z] w (fun e w' => e = .returned (.tuple #[]) ∧ ∃ v, Keeps w w' (fun k => k = g) ∧ TSt w0 w' gs g rb pb (upd f i v) (upd S i (addL (S i) s z)) v6 sl r) := by
  obtain ⟨⟨p, c, hf, hin, _⟩, _⟩ := h.cold.sp i hi
  obtain ⟨b1, b2⟩ := h.box i (by omega)
  refine (add_any g i p _ c (S i) s z w (by rw [b1, hf]) b2 hin rfl hl).mono ?_
  rintro e w' ⟨rfl, v, hs, hv, hl⟩
  exact ⟨rfl, v, hs.keep, h.add hi hi5 hs hv (by rw [hf]; exact hl)⟩

/-- One status more. -/
theorem TSt.more {v : Value} {z : Int} (h : TSt w0 w gs g rb pb f S v6 sl r) (ho : Ints w' (pb + 1) v (sl ++ [z])) (hg : w1.grownBy w' v6.ownBlock) (hv : v.ownBlock = v6.ownBlock ∨ v.ownBlock = some w1.heap.size) (hb : Below w.heap.size w w1) :
    TSt w0 w' gs g rb pb f S v (sl ++ [z]) r := by
  obtain ⟨o1, o2, o3, o4⟩ := h.ord
  have h6 := h.own
  have hz := hb.size
  have hlt := h.box.lt
  have hk : Keeps w w' (fun b => v6.ownBlock = some b) := (Keeps.of_below hb).trans (Keeps.of_grown hg) (fun b hb e => by omega) (fun _ _ e => e)
  have hR : ∀ b, b ≤ pb → ¬ v6.ownBlock = some b := fun b hb e => by have := h6 b e; omega
  have hnew : ∀ b, b < w.heap.size → v6.ownBlock ≠ some b → v.ownBlock ≠ some b := by
    intro b hb hn e
    rcases hv with hv | hv
    · exact hn (by rw [← hv, e])
    · rw [hv] at e; injection e with e; omega
  refine ⟨h.src.keeps hk (fun b hb => hR b (by omega)), h.box.keeps hk (hR g (by omega)), h.res.keeps hk (hR rb (by omega)), ?_, ho, IntsIn_keeps h.pool hk (hR pb (by omega)), h.bel.trans (hk.below h.bel.size (fun b hb e => by have := h6 b e; omega)), h.ord, h.nil⟩
  have h1 := h.cold.weak (Q := fun b => (g < b ∧ v6.ownBlock ≠ some b) ∧ b < w.heap.size) (fun b hb e => ⟨e, hb⟩)
  have h2 := h1.keeps hk (fun b hb e hh => hh.1.2 e)
  exact h2.weak (fun b hb e => ⟨e.1.1, hnew b e.2 e.1.2⟩)
end

/-- The six properties of a code point in block ub. -/
def UBox (w : World) (ub : Nat) (u : Nat → Int) : Prop := ∀ i, i < 6 → w.cell? ⟨ub, i, none⟩ = some (.int .i64 (u i)) ∧ w.frozen? ⟨ub, i, none⟩ = false

theorem UBox.new (w : World) (u : Nat → Int) (t : TypeId) : UBox (w.alloc (.cells #[.int .i64 (u 0), .int .i64 (u 1), .int .i64 (u 2), .int .i64 (u 3), .int .i64 (u 4), .int .i64 (u 5)] t)) w.heap.size u := by
  intro i hi
  have : i = 0 ∨ i = 1 ∨ i = 2 ∨ i = 3 ∨ i = 4 ∨ i = 5 := by omega
  rcases this with rfl | rfl | rfl | rfl | rfl | rfl <;> simp [World.cell?_alloc_new]
theorem UBox.keeps {w w' : World} {R : Nat → Prop} {ub : Nat} {u : Nat → Int} (h : UBox w ub u) (hk : Keeps w w' R) (hr : ¬ R ub) : UBox w' ub u := by
  intro i hi
  obtain ⟨h1, h2⟩ := h i hi
  exact ⟨hk.cell h1 hr, (World.frozen?_of_block (a := ⟨ub, i, none⟩) (hk.block ub (World.block_lt_of_cell? w _ h1) hr)).trans h2⟩
theorem UBox.lt {w : World} {ub : Nat} {u : Nat → Int} (h : UBox w ub u) : ub < w.heap.size := World.block_lt_of_cell? w _ (h 0 (by omega)).1
theorem UBox.set {w : World} {ub i : Nat} {u : Nat → Int} (h : UBox w ub u) (hi : i < 6) (v : Int) : UBox (w.setCell ⟨ub, i, none⟩ (.int .i64 v)) ub (upd u i v) := by
  intro j hj
  obtain ⟨h1, h2⟩ := h j hj
  refine ⟨?_, (World.frozen?_setCell _ _ _ _).trans h2⟩
  by_cases e : j = i
  · subst e; rw [upd_same]; exact World.cell?_setCell_same _ _ _ h1
  · rw [upd_other _ _ e]; exact (World.cell?_setCell_other _ _ _ _ (by intro e2; cases e2; exact e rfl)).trans h1

/-- The values stay in their bounds. -/
theorem Six.set0 {u : Nat → Int} (h : Six u) {v : Int} (hv : v ∈ [u 0, 2, 1]) : Six (upd u 0 v) := by
  simp only [List.mem_cons, List.not_mem_nil, or_false] at hv
  have := h.cat
  refine ⟨?_, h.cls, h.joi, h.bid, h.scr, h.sta⟩
  rw [upd_same]; omega
theorem Six.set1 {u : Nat → Int} (h : Six u) {v : Int} (hv : v ∈ [u 1, 0, 1, 9, 202, 220, 230, 254]) : Six (upd u 1 v) := by
  simp only [List.mem_cons, List.not_mem_nil, or_false] at hv
  have := h.cls
  refine ⟨h.cat, ?_, h.joi, h.bid, h.scr, h.sta⟩
  rw [upd_same]; omega
theorem Six.set2 {u : Nat → Int} (h : Six u) {v : Int} (hv : v ∈ [u 2, 0, 1, 2, 3, 4, 5]) : Six (upd u 2 v) := by
  simp only [List.mem_cons, List.not_mem_nil, or_false] at hv
  have := h.joi
  refine ⟨h.cat, h.cls, ?_, h.bid, h.scr, h.sta⟩
  rw [upd_same]; omega
theorem Six.set3 {u : Nat → Int} (h : Six u) {v : Int} (hv : v ∈ [u 3, 0, 1, 2, 3, 4, 8, 10, 11]) : Six (upd u 3 v) := by
  simp only [List.mem_cons, List.not_mem_nil, or_false] at hv
  have := h.bid
  refine ⟨h.cat, h.cls, h.joi, ?_, h.scr, h.sta⟩
  rw [upd_same]; omega
theorem Six.set4 {u : Nat → Int} (h : Six u) {v : Int} (hv : v ∈ [u 4, 0, 1, 2, 3, 6, 7, 9, 10]) : Six (upd u 4 v) := by
  simp only [List.mem_cons, List.not_mem_nil, or_false] at hv
  have := h.scr
  refine ⟨h.cat, h.cls, h.joi, h.bid, ?_, h.sta⟩
  rw [upd_same]; omega
theorem Six.set5 {u : Nat → Int} (h : Six u) {v : Int} (hv : v ∈ [u 5, 0, 1, 2, 4]) : Six (upd u 5 v) := by
  simp only [List.mem_cons, List.not_mem_nil, or_false] at hv
  have := h.sta
  refine ⟨h.cat, h.cls, h.joi, h.bid, h.scr, ?_⟩
  rw [upd_same]; omega

/-- In round k: the first j lists have had their turn. -/
structure Prog (k j : Nat) (S : Nat → List Sp) : Prop where
  cat : PoolSp (if 0 < j then k + 1 else k) 8 (S 0)
  cls : PoolSp (if 1 < j then k + 1 else k) 254 (S 1)
  joi : PoolSp (if 2 < j then k + 1 else k) 5 (S 2)
  bid : PoolSp (if 3 < j then k + 1 else k) 11 (S 3)
  scr : PoolSp (if 4 < j then k + 1 else k) 60 (S 4)
  ign : PoolSp (if 5 < j then k + 1 else k) 1 (S 6)
  sta : S 5 = []

theorem Prog.add0 {k : Nat} {S : Nat → List Sp} (h : Prog k 0 S) (hk : k < 28) {v : Int} (hv : v ≤ 8) : Prog k 1 (upd S 0 (addL (S 0) (poolAt k, poolAt k, 0) v)) := ⟨h.cat.add hk hv 0, h.cls, h.joi, h.bid, h.scr, h.ign, h.sta⟩
theorem Prog.add1 {k : Nat} {S : Nat → List Sp} (h : Prog k 1 S) (hk : k < 28) {v : Int} (hv : v ≤ 254) : Prog k 2 (upd S 1 (addL (S 1) (poolAt k, poolAt k, 0) v)) := ⟨h.cat, h.cls.add hk hv 0, h.joi, h.bid, h.scr, h.ign, h.sta⟩
theorem Prog.add2 {k : Nat} {S : Nat → List Sp} (h : Prog k 2 S) (hk : k < 28) {v : Int} (hv : v ≤ 5) : Prog k 3 (upd S 2 (addL (S 2) (poolAt k, poolAt k, 0) v)) := ⟨h.cat, h.cls, h.joi.add hk hv 0, h.bid, h.scr, h.ign, h.sta⟩
theorem Prog.add3 {k : Nat} {S : Nat → List Sp} (h : Prog k 3 S) (hk : k < 28) {v : Int} (hv : v ≤ 11) : Prog k 4 (upd S 3 (addL (S 3) (poolAt k, poolAt k, 0) v)) := ⟨h.cat, h.cls, h.joi, h.bid.add hk hv 0, h.scr, h.ign, h.sta⟩
theorem Prog.add4 {k : Nat} {S : Nat → List Sp} (h : Prog k 4 S) (hk : k < 28) {v : Int} (hv : v ≤ 60) : Prog k 5 (upd S 4 (addL (S 4) (poolAt k, poolAt k, 0) v)) := ⟨h.cat, h.cls, h.joi, h.bid, h.scr.add hk hv 0, h.ign, h.sta⟩
theorem Prog.add6 {k : Nat} {S : Nat → List Sp} (h : Prog k 5 S) (hk : k < 28) {v : Int} (hv : v ≤ 1) : Prog k 6 (upd S 6 (addL (S 6) (poolAt k, poolAt k, 0) v)) := ⟨h.cat, h.cls, h.joi, h.bid, h.scr, h.ign.add hk hv 0, h.sta⟩
theorem Prog.skip6 {k : Nat} {S : Nat → List Sp} (h : Prog k 5 S) (hk : k < 28) : Prog k 6 S := ⟨h.cat, h.cls, h.joi, h.bid, h.scr, h.ign.skip hk, h.sta⟩
theorem Prog.len {k j : Nat} {S : Nat → List Sp} (h : Prog k j S) (hk : k < 28) : (S 0).length ≤ 1000 ∧ (S 1).length ≤ 1000 ∧ (S 2).length ≤ 1000 ∧ (S 3).length ≤ 1000 ∧ (S 4).length ≤ 1000 ∧ (S 6).length ≤ 1000 := by
  have h0 := h.cat.len
  have h1 := h.cls.len
  have h2 := h.joi.len
  have h3 := h.bid.len
  have h4 := h.scr.len
  have h6 := h.ign.len
  have key : ∀ c : Prop, ∀ _ : Decidable c, (if c then k + 1 else k) ≤ 28 := by intro c _; split <;> omega
  refine ⟨Nat.le_trans h0 (Nat.le_trans (key _ _) (by omega)), Nat.le_trans h1 (Nat.le_trans (key _ _) (by omega)), Nat.le_trans h2 (Nat.le_trans (key _ _) (by omega)), Nat.le_trans h3 (Nat.le_trans (key _ _) (by omega)), Nat.le_trans h4 (Nat.le_trans (key _ _) (by omega)), Nat.le_trans h6 (Nat.le_trans (key _ _) (by omega))⟩

/-- The lists so far. -/
structure Lists (k : Nat) (S : Nat → List Sp) (sl : List Int) : Prop where
  cat : PoolSp k 8 (S 0)
  cls : PoolSp k 254 (S 1)
  joi : PoolSp k 5 (S 2)
  bid : PoolSp k 11 (S 3)
  scr : PoolSp k 60 (S 4)
  ign : PoolSp k 1 (S 6)
  sta : S 5 = []
  len : sl.length = k
  five : ∀ i, i < k → ok5 (sl.getD i 0)

theorem Lists.prog {k : Nat} {S : Nat → List Sp} {sl : List Int} (h : Lists k S sl) : Prog k 0 S := ⟨h.cat, h.cls, h.joi, h.bid, h.scr, h.ign, h.sta⟩
theorem Lists.next {k : Nat} {S S' : Nat → List Sp} {sl : List Int} {z : Int} (h : Lists k S sl) (hp : Prog k 6 S') (hz : ok5 z) : Lists (k + 1) S' (sl ++ [z]) := by
  refine ⟨hp.cat, hp.cls, hp.joi, hp.bid, hp.scr, hp.ign, hp.sta, by simp [h.len], fun i hi => ?_⟩
  have hl := h.len
  by_cases e : i = k
  · subst e
    have : (sl ++ [z]).getD i 0 = z := by simp [List.getD, hl]
    rw [this]; exact hz
  · have : (sl ++ [z]).getD i 0 = sl.getD i 0 := by simp only [List.getD_eq_getElem?_getD]; rw [List.getElem?_append_left (by omega)]
    rw [this]; exact h.five i (by omega)
theorem Lists.start : Lists 0 (fun _ => []) [] := ⟨PoolSp.nil _, PoolSp.nil _, PoolSp.nil _, PoolSp.nil _, PoolSp.nil _, PoolSp.nil _, rfl, rfl, fun i h => absurd h (Nat.not_lt_zero _)⟩

/-- Twelve stores into one block. -/
theorem store12 (w : World) (rb : Nat) (v0 v1 v2 v3 v4 v5 v6 v7 v8 v9 v10 v11 : Value) {f : Nat → Value} (h : BoxF w rb f) :
    BoxT (World.setCell (World.setCell (World.setCell (World.setCell (World.setCell (World.setCell (World.setCell (World.setCell (World.setCell (World.setCell (World.setCell (World.setCell w ⟨rb, 0, none⟩ v0) ⟨rb, 1, none⟩ v1) ⟨rb, 2, none⟩ v2) ⟨rb, 3, none⟩ v3) ⟨rb, 4, none⟩ v4) ⟨rb, 5, none⟩ v5) ⟨rb, 6, none⟩ v6) ⟨rb, 7, none⟩ v7) ⟨rb, 8, none⟩ v8) ⟨rb, 9, none⟩ v9) ⟨rb, 10, none⟩ v10) ⟨rb, 11, none⟩ v11) rb ⟨v0, v1, v2, v3, v4, v5, v6, v7, v8, v9, v10, v11⟩ ∧ Keeps w (World.setCell (World.setCell (World.setCell (World.setCell (World.setCell (World.setCell (World.setCell (World.setCell (World.setCell (World.setCell (World.setCell (World.setCell w ⟨rb, 0, none⟩ v0) ⟨rb, 1, none⟩ v1) ⟨rb, 2, none⟩ v2) ⟨rb, 3, none⟩ v3) ⟨rb, 4, none⟩ v4) ⟨rb, 5, none⟩ v5) ⟨rb, 6, none⟩ v6) ⟨rb, 7, none⟩ v7) ⟨rb, 8, none⟩ v8) ⟨rb, 9, none⟩ v9) ⟨rb, 10, none⟩ v10) ⟨rb, 11, none⟩ v11) (fun k => k = rb) := by
  have h0 := h.sets (Sets.store w rb 0 v0 _ (h 0 (by omega)).1)
  have h1 := h0.sets (Sets.store _ rb 1 v1 _ (h0 1 (by omega)).1)
  have h2 := h1.sets (Sets.store _ rb 2 v2 _ (h1 2 (by omega)).1)
  have h3 := h2.sets (Sets.store _ rb 3 v3 _ (h2 3 (by omega)).1)
  have h4 := h3.sets (Sets.store _ rb 4 v4 _ (h3 4 (by omega)).1)
  have h5 := h4.sets (Sets.store _ rb 5 v5 _ (h4 5 (by omega)).1)
  have h6 := h5.sets (Sets.store _ rb 6 v6 _ (h5 6 (by omega)).1)
  have h7 := h6.sets (Sets.store _ rb 7 v7 _ (h6 7 (by omega)).1)
  have h8 := h7.sets (Sets.store _ rb 8 v8 _ (h7 8 (by omega)).1)
  have h9 := h8.sets (Sets.store _ rb 9 v9 _ (h8 9 (by omega)).1)
  have h10 := h9.sets (Sets.store _ rb 10 v10 _ (h9 10 (by omega)).1)
  have h11 := h10.sets (Sets.store _ rb 11 v11 _ (h10 11 (by omega)).1)
  exact ⟨h11.box, (((((((((((Keeps.store w rb 0 v0).trans (Keeps.store _ rb 1 v1) (S := fun k => k = rb) (fun _ _ e => e) (fun _ _ e => e)).trans (Keeps.store _ rb 2 v2) (S := fun k => k = rb) (fun _ _ e => e) (fun _ _ e => e)).trans (Keeps.store _ rb 3 v3) (S := fun k => k = rb) (fun _ _ e => e) (fun _ _ e => e)).trans (Keeps.store _ rb 4 v4) (S := fun k => k = rb) (fun _ _ e => e) (fun _ _ e => e)).trans (Keeps.store _ rb 5 v5) (S := fun k => k = rb) (fun _ _ e => e) (fun _ _ e => e)).trans (Keeps.store _ rb 6 v6) (S := fun k => k = rb) (fun _ _ e => e) (fun _ _ e => e)).trans (Keeps.store _ rb 7 v7) (S := fun k => k = rb) (fun _ _ e => e) (fun _ _ e => e)).trans (Keeps.store _ rb 8 v8) (S := fun k => k = rb) (fun _ _ e => e) (fun _ _ e => e)).trans (Keeps.store _ rb 9 v9) (S := fun k => k = rb) (fun _ _ e => e) (fun _ _ e => e)).trans (Keeps.store _ rb 10 v10) (S := fun k => k = rb) (fun _ _ e => e) (fun _ _ e => e)).trans (Keeps.store _ rb 11 v11) (S := fun k => k = rb) (fun _ _ e => e) (fun _ _ e => e)⟩

end Go.Proofs.YtfmfifmmaihodaaGreatDoor

namespace Go.Proofs.YtfmfifmmaihodaaGreatDoor
open Go.RowKit
set_option linter.unusedVariables false

/-- A new source. -/
def NewSrc (zs : List Int) (w : World) (e : Ending) (w' : World) : Prop :=
  ∃ g, e = .returned (.pointer (some ⟨g, 0, none⟩)) ∧ w.heap.size ≤ g ∧ Src w' g zs ∧ Below w.heap.size w w'

set_option maxHeartbeats 400000 in
theorem from_any (p : Option Addr) (cap : Nat) (zs : List Int) (w : World) (hin : IntsIn w p zs) (hl : zs.length ≤ 17592186043904) :
    Calls Tryz.prog 26 #[.slice p zs.length cap] w (NewSrc zs w) := by
  have HI := Lib.hid hin
  by_cases h0 : zs = []
  · subst h0
    clear hin
    go_enter Tryz.func26, Tryz.ntmps26
    go_wp2
    go_ret
    refine ⟨w.heap.size, rfl, Nat.le_refl _, ⟨[], 0, p, cap, rfl, Nat.le_refl _, by simp, ?_, ?_, ?_, HI.out.alloc _, fun h => absurd rfl h⟩, (Below.refl _ _).alloc (Nat.le_refl _) _⟩
    · simp
    · simp
    · simp
  · have hp : ∀ b off, p = some ⟨b, off, none⟩ → b < w.heap.size := by
      intro b off e
      obtain ⟨b', off', e', hc⟩ := hin 0 (List.length_pos_iff.2 h0)
      rw [e] at e'
      cases e'
      have := World.block_lt_of_cell? w _ hc
      simp only at this
      omega
    have HP := Lib.hid hp
    clear hin hp
    go_enter Tryz.func26, Tryz.ntmps26
    go_wp2
    go_ret
    refine ⟨w.heap.size, rfl, Nat.le_refl _, ⟨zs, 0, p, cap, rfl, Nat.zero_le _, hl, ?_, ?_, ?_, HI.out.alloc _, fun _ => HP.out⟩, (Below.refl _ _).alloc (Nat.le_refl _) _⟩
    · simp
    · simp
    · simp

abbrev nilC : Array Value := #[.slice none 0 0, .slice none 0 0, .slice none 0 0, .slice none 0 0, .slice none 0 0, .slice none 0 0, .slice none 0 0, .slice none 0 0, .slice none 0 0, .slice none 0 0, .slice none 0 0, .slice none 0 0]
theorem BoxF.new (w : World) (t : TypeId) : BoxF (w.alloc (.cells nilC t)) w.heap.size (fun _ => .slice none 0 0) := by
  intro i hi
  have : i = 0 ∨ i = 1 ∨ i = 2 ∨ i = 3 ∨ i = 4 ∨ i = 5 ∨ i = 6 ∨ i = 7 ∨ i = 8 ∨ i = 9 ∨ i = 10 ∨ i = 11 := by omega
  rcases this with rfl | rfl | rfl | rfl | rfl | rfl | rfl | rfl | rfl | rfl | rfl | rfl <;> simp [World.cell?_alloc_new]

/-- Six numbers in block ub. -/
def UB6 (w : World) (ub : Nat) (a0 a1 a2 a3 a4 a5 : Int) : Prop :=
  (w.cell? ⟨ub, 0, none⟩ = some (.int .i64 a0) ∧ w.cell? ⟨ub, 1, none⟩ = some (.int .i64 a1) ∧ w.cell? ⟨ub, 2, none⟩ = some (.int .i64 a2) ∧ w.cell? ⟨ub, 3, none⟩ = some (.int .i64 a3) ∧ w.cell? ⟨ub, 4, none⟩ = some (.int .i64 a4) ∧ w.cell? ⟨ub, 5, none⟩ = some (.int .i64 a5)) ∧
    ∀ j, w.frozen? ⟨ub, j, none⟩ = false
def B6 (a0 a1 a2 a3 a4 a5 : Int) : Prop := (0 ≤ a0 ∧ a0 ≤ 8) ∧ (0 ≤ a1 ∧ a1 ≤ 254) ∧ (0 ≤ a2 ∧ a2 ≤ 5) ∧ (0 ≤ a3 ∧ a3 ≤ 11) ∧ (0 ≤ a4 ∧ a4 ≤ 60) ∧ ok5 a5

section
variable {w w' : World} {R : Nat → Prop} {ub : Nat} {a0 a1 a2 a3 a4 a5 : Int}
theorem UB6.new (w : World) (t : TypeId) (a0 a1 a2 a3 a4 a5 : Int) : UB6 (w.alloc (.cells #[.int .i64 a0, .int .i64 a1, .int .i64 a2, .int .i64 a3, .int .i64 a4, .int .i64 a5] t)) w.heap.size a0 a1 a2 a3 a4 a5 := by
  refine ⟨⟨?_, ?_, ?_, ?_, ?_, ?_⟩, fun j => ?_⟩ <;> simp [World.cell?_alloc_new]
theorem UB6.lt (h : UB6 w ub a0 a1 a2 a3 a4 a5) : ub < w.heap.size := World.block_lt_of_cell? w _ h.1.1
theorem UB6.keeps (h : UB6 w ub a0 a1 a2 a3 a4 a5) (hk : Keeps w w' R) (hr : ¬ R ub) : UB6 w' ub a0 a1 a2 a3 a4 a5 := by
  obtain ⟨⟨h0, h1, h2, h3, h4, h5⟩, hf⟩ := h
  have hlt := World.block_lt_of_cell? w _ h0
  exact ⟨⟨hk.cell h0 hr, hk.cell h1 hr, hk.cell h2 hr, hk.cell h3 hr, hk.cell h4 hr, hk.cell h5 hr⟩, fun j => (World.frozen?_of_block (a := ⟨ub, j, none⟩) (hk.block ub hlt hr)).trans (hf j)⟩
theorem UB6.set0 (h : UB6 w ub a0 a1 a2 a3 a4 a5) (v : Int) : UB6 (w.setCell ⟨ub, 0, none⟩ (.int .i64 v)) ub v a1 a2 a3 a4 a5 := by
  obtain ⟨⟨h0, h1, h2, h3, h4, h5⟩, hf⟩ := h
  exact ⟨⟨World.cell?_setCell_same _ _ _ h0, (World.cell?_setCell_other _ ⟨ub, 0, none⟩ ⟨ub, 1, none⟩ _ (by simp)).trans h1, (World.cell?_setCell_other _ ⟨ub, 0, none⟩ ⟨ub, 2, none⟩ _ (by simp)).trans h2, (World.cell?_setCell_other _ ⟨ub, 0, none⟩ ⟨ub, 3, none⟩ _ (by simp)).trans h3, (World.cell?_setCell_other _ ⟨ub, 0, none⟩ ⟨ub, 4, none⟩ _ (by simp)).trans h4, (World.cell?_setCell_other _ ⟨ub, 0, none⟩ ⟨ub, 5, none⟩ _ (by simp)).trans h5⟩, fun j => (World.frozen?_setCell _ _ _ _).trans (hf j)⟩
theorem UB6.set1 (h : UB6 w ub a0 a1 a2 a3 a4 a5) (v : Int) : UB6 (w.setCell ⟨ub, 1, none⟩ (.int .i64 v)) ub a0 v a2 a3 a4 a5 := by
  obtain ⟨⟨h0, h1, h2, h3, h4, h5⟩, hf⟩ := h
  exact ⟨⟨(World.cell?_setCell_other _ ⟨ub, 1, none⟩ ⟨ub, 0, none⟩ _ (by simp)).trans h0, World.cell?_setCell_same _ _ _ h1, (World.cell?_setCell_other _ ⟨ub, 1, none⟩ ⟨ub, 2, none⟩ _ (by simp)).trans h2, (World.cell?_setCell_other _ ⟨ub, 1, none⟩ ⟨ub, 3, none⟩ _ (by simp)).trans h3, (World.cell?_setCell_other _ ⟨ub, 1, none⟩ ⟨ub, 4, none⟩ _ (by simp)).trans h4, (World.cell?_setCell_other _ ⟨ub, 1, none⟩ ⟨ub, 5, none⟩ _ (by simp)).trans h5⟩, fun j => (World.frozen?_setCell _ _ _ _).trans (hf j)⟩
theorem UB6.set2 (h : UB6 w ub a0 a1 a2 a3 a4 a5) (v : Int) : UB6 (w.setCell ⟨ub, 2, none⟩ (.int .i64 v)) ub a0 a1 v a3 a4 a5 := by
  obtain ⟨⟨h0, h1, h2, h3, h4, h5⟩, hf⟩ := h
  exact ⟨⟨(World.cell?_setCell_other _ ⟨ub, 2, none⟩ ⟨ub, 0, none⟩ _ (by simp)).trans h0, (World.cell?_setCell_other _ ⟨ub, 2, none⟩ ⟨ub, 1, none⟩ _ (by simp)).trans h1, World.cell?_setCell_same _ _ _ h2, (World.cell?_setCell_other _ ⟨ub, 2, none⟩ ⟨ub, 3, none⟩ _ (by simp)).trans h3, (World.cell?_setCell_other _ ⟨ub, 2, none⟩ ⟨ub, 4, none⟩ _ (by simp)).trans h4, (World.cell?_setCell_other _ ⟨ub, 2, none⟩ ⟨ub, 5, none⟩ _ (by simp)).trans h5⟩, fun j => (World.frozen?_setCell _ _ _ _).trans (hf j)⟩
theorem UB6.set3 (h : UB6 w ub a0 a1 a2 a3 a4 a5) (v : Int) : UB6 (w.setCell ⟨ub, 3, none⟩ (.int .i64 v)) ub a0 a1 a2 v a4 a5 := by
  obtain ⟨⟨h0, h1, h2, h3, h4, h5⟩, hf⟩ := h
  exact ⟨⟨(World.cell?_setCell_other _ ⟨ub, 3, none⟩ ⟨ub, 0, none⟩ _ (by simp)).trans h0, (World.cell?_setCell_other _ ⟨ub, 3, none⟩ ⟨ub, 1, none⟩ _ (by simp)).trans h1, (World.cell?_setCell_other _ ⟨ub, 3, none⟩ ⟨ub, 2, none⟩ _ (by simp)).trans h2, World.cell?_setCell_same _ _ _ h3, (World.cell?_setCell_other _ ⟨ub, 3, none⟩ ⟨ub, 4, none⟩ _ (by simp)).trans h4, (World.cell?_setCell_other _ ⟨ub, 3, none⟩ ⟨ub, 5, none⟩ _ (by simp)).trans h5⟩, fun j => (World.frozen?_setCell _ _ _ _).trans (hf j)⟩
theorem UB6.set4 (h : UB6 w ub a0 a1 a2 a3 a4 a5) (v : Int) : UB6 (w.setCell ⟨ub, 4, none⟩ (.int .i64 v)) ub a0 a1 a2 a3 v a5 := by
  obtain ⟨⟨h0, h1, h2, h3, h4, h5⟩, hf⟩ := h
  exact ⟨⟨(World.cell?_setCell_other _ ⟨ub, 4, none⟩ ⟨ub, 0, none⟩ _ (by simp)).trans h0, (World.cell?_setCell_other _ ⟨ub, 4, none⟩ ⟨ub, 1, none⟩ _ (by simp)).trans h1, (World.cell?_setCell_other _ ⟨ub, 4, none⟩ ⟨ub, 2, none⟩ _ (by simp)).trans h2, (World.cell?_setCell_other _ ⟨ub, 4, none⟩ ⟨ub, 3, none⟩ _ (by simp)).trans h3, World.cell?_setCell_same _ _ _ h4, (World.cell?_setCell_other _ ⟨ub, 4, none⟩ ⟨ub, 5, none⟩ _ (by simp)).trans h5⟩, fun j => (World.frozen?_setCell _ _ _ _).trans (hf j)⟩
theorem UB6.set5 (h : UB6 w ub a0 a1 a2 a3 a4 a5) (v : Int) : UB6 (w.setCell ⟨ub, 5, none⟩ (.int .i64 v)) ub a0 a1 a2 a3 a4 v := by
  obtain ⟨⟨h0, h1, h2, h3, h4, h5⟩, hf⟩ := h
  exact ⟨⟨(World.cell?_setCell_other _ ⟨ub, 5, none⟩ ⟨ub, 0, none⟩ _ (by simp)).trans h0, (World.cell?_setCell_other _ ⟨ub, 5, none⟩ ⟨ub, 1, none⟩ _ (by simp)).trans h1, (World.cell?_setCell_other _ ⟨ub, 5, none⟩ ⟨ub, 2, none⟩ _ (by simp)).trans h2, (World.cell?_setCell_other _ ⟨ub, 5, none⟩ ⟨ub, 3, none⟩ _ (by simp)).trans h3, (World.cell?_setCell_other _ ⟨ub, 5, none⟩ ⟨ub, 4, none⟩ _ (by simp)).trans h4, World.cell?_setCell_same _ _ _ h5⟩, fun j => (World.frozen?_setCell _ _ _ _).trans (hf j)⟩
end

theorem TSt.cellP {w0 w : World} {gs g rb pb : Nat} {f : Nat → Value} {S : Nat → List Sp} {v6 : Value} {sl r : List Int} (h : TSt w0 w gs g rb pb f S v6 sl r) (k : Nat) (hk : k < 28) : w.cell? ⟨pb, k, none⟩ = some (.int .i64 (poolAt k)) := by
  obtain ⟨b, off, e, hc⟩ := h.pool k (by rw [pool_len]; exact hk)
  cases e
  rw [pool_get k hk] at hc
  simpa using hc

theorem Cur.keepsC {w w' : World} {R : Nat → Prop} {b : Nat} {f t v : Int} (h : Cur w b f t v) (hk : Keeps w w' R) (hr : ¬ R b) : Cur w' b f t v := by
  obtain ⟨h1, h2, h3, h4, h5⟩ := h
  exact ⟨hk.cell h1 hr, hk.cell h2 hr, hk.cell h3 hr, (World.frozen?_of_block (a := ⟨b, 0, none⟩) (hk.block b h5 hr)).trans h4, Nat.lt_of_lt_of_le h5 hk.size⟩

section
variable {w : World} {P : Nat → Prop} {f : Nat → Value} {S : Nat → List Sp} {E M D R : List Mp} {X : List Int}
theorem Cold.setD {v9 v10 : Value} {D' : List Mp} {X' : List Int} (h : Cold w P f S E M D R X) (h9 : MpO w P v9 D') (h10 : InO w P v10 X') : Cold w P (upd (upd f 9 v9) 10 v10) S E M D' R X' :=
  ⟨fun i hi => by rw [upd_other _ _ (by omega), upd_other _ _ (by omega)]; exact h.sp i hi, h.ext, h.map, h9, h10, h.pro⟩
theorem Cold.setM {v8 v5 : Value} {M' : List Mp} {L : List Sp} (h : Cold w P f S E M D R X) (h8 : MpO w P v8 M') (h5 : SpO w P v5 L) : Cold w P (upd (upd f 8 v8) 5 v5) (upd S 5 L) E M' D R X := by
  refine ⟨fun i hi => ?_, h.ext, h8, h.dec, h.exc, h.pro⟩
  by_cases e : i = 5
  · subst e; rw [upd_same, upd_same]; exact h5
  · rw [upd_other _ _ e, upd_other _ _ e, upd_other _ _ (by omega)]; exact h.sp i hi
theorem Cold.setR {v : Value} {R' : List Mp} (h : Cold w P f S E M D R X) (h11 : MpO w P v R') : Cold w P (upd f 11 v) S E M D R' X :=
  ⟨fun i hi => by rw [upd_other _ _ (by omega)]; exact h.sp i hi, h.ext, h.map, h.dec, h.exc, h11⟩
theorem Cold.setE {v : Value} {E' : List Mp} (h : Cold w P f S E M D R X) (h7 : MpO w P v E') : Cold w P (upd f 7 v) S E' M D R X :=
  ⟨fun i hi => by rw [upd_other _ _ (by omega)]; exact h.sp i hi, h7, h.map, h.dec, h.exc, h.pro⟩
end

theorem made_of {S : Nat → List Sp} {sl : List Int} {St : List Sp} {E M D R : List Mp} {X : List Int} (h : Lists 28 S sl) (hm : MapOk 28 M St) (hd : DecOk 5 D X) (hp : ProOk 5 (S 6) R) (he : E = [] ∨ E = [(12539, [7, 8])]) :
    Made (tbOf (upd S 5 St) E M D R X) :=
  ⟨h.cat, h.cls, h.joi, h.bid, h.scr, h.ign, hm, hd, hp, he⟩

/-- The one row of Extensions. -/
theorem ext_new (w : World) (n : Nat) (hn : w.heap.size = n) (P : Nat → Prop) (h1 : P n) (h2 : P (n + 1)) : MpO ((w.alloc (.cells #[.int .i64 7, .int .i64 8] 3)).alloc (.cells #[.int .i64 12539, .slice (some ⟨n, 0, none⟩) 2 2] 64)) P (.slice (some ⟨n + 1, 0, none⟩) 1 1) [(12539, [7, 8])] := by
  subst hn
  have e1 : (w.alloc (.cells #[.int .i64 7, .int .i64 8] 3)).heap.size = w.heap.size + 1 := by simp
  refine ⟨_, _, rfl, fun b off n c e => ?_, by simp, fun k hk => ?_⟩
  · cases e; exact ⟨h2, by simp⟩
  · obtain rfl : k = 0 := by simp at hk; omega
    refine ⟨w.heap.size + 1, 0, .slice (some ⟨w.heap.size, 0, none⟩) 2 2, rfl, ?_, ?_, ⟨_, 2, rfl, (lit_ints w #[.int .i64 7, .int .i64 8] [7, 8] 3 rfl).alloc _, by simp⟩, fun b off n c e => ?_⟩
    · rw [← e1]; simp [World.cell?_alloc_new]
    · rw [← e1]; simp [World.cell?_alloc_new]
    · cases e; exact ⟨h1, by simp; omega⟩

end Go.Proofs.YtfmfifmmaihodaaGreatDoor
