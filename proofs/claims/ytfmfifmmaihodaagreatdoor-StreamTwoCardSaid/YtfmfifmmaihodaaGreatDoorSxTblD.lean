/-
  keep.decomps.
-/
import Derived.Test.YtfmfifmmaihodaaGreatDoorSxTblC
import Derived.Test.YtfmfifmmaihodaaGreatDoorSxTblB
import Derived.Deep.Cut
import Derived.Deep.RegionHeld3
set_option linter.unusedSimpArgs false
set_option linter.unusedVariables false
namespace Go.Proofs.YtfmfifmmaihodaaGreatDoor
open Go.RowKit
set_option linter.unusedVariables false

theorem Keeps.undrewg {W w1 : World} {R : Nat → Prop} (h : Keeps W.drew w1 R) : Keeps W w1 R := ⟨h.os, h.tape, h.output, h.size, h.block⟩
theorem Src.drew {w : World} {g : Nat} {r : List Int} (h : Src w g r) : Src w.drew g r := h.keeps (R := fun _ => False) ⟨rfl, rfl, rfl, Nat.le_refl _, fun _ _ _ => rfl⟩ (fun _ _ e => e)

/-- What holds between the rounds of decomps. -/
structure DSt (w0 w : World) (gs g : Nat) (f : Nat → Value) (v9 v10 : Value) (Q : List Mq) (E : List Int) (r : List Int) : Prop where
  src : Src w gs r
  box : BoxF w g (upd (upd f 9 v9) 10 v10)
  hot : Hot w w0.heap.size (fun b => w0.heap.size ≤ b ∧ v9.ownBlock ≠ some b ∧ v10.ownBlock ≠ some b) v9 Q
  exc : Ints w w0.heap.size v10 E
  apart : ∀ b, v9.ownBlock = some b → v10.ownBlock ≠ some b
  keep : Keeps w0 w (fun b => b = gs ∨ b = g)
  ord : gs < g ∧ g < w0.heap.size

theorem upd_self {A : Type} (f : Nat → A) (i : Nat) (v : A) (h : f i = v) : upd f i v = f := by
  funext j; unfold upd; split
  · rename_i e; rw [e, h]
  · rfl
theorem upd_upd {A : Type} (f : Nat → A) (i : Nat) (v u : A) : upd (upd f i v) i u = upd f i u := by
  funext j; unfold upd; split <;> rfl
theorem upd_swap {A : Type} (f : Nat → A) (i k : Nat) (v u : A) (h : i ≠ k) : upd (upd f i v) k u = upd (upd f k u) i v := by
  funext j; unfold upd
  by_cases h1 : j = k
  · rw [if_pos h1, if_neg (by omega), if_pos h1]
  · rw [if_neg h1]
    by_cases h2 : j = i
    · rw [if_pos h2, if_pos h2]
    · rw [if_neg h2, if_neg h2, if_neg h1]

section
variable {w0 w w1 w' : World} {gs g : Nat} {f : Nat → Value} {v9 v10 : Value} {Q : List Mq} {E r r' : List Int}
theorem DSt.size (h : DSt w0 w gs g f v9 v10 Q E r) : w0.heap.size ≤ w.heap.size := h.keep.size

/-- Where only the source and new blocks are written. -/
theorem DSt.step (h : DSt w0 w gs g f v9 v10 Q E r) (hk : Keeps w w' (fun b => b = gs)) (hs : Src w' gs r') : DSt w0 w' gs g f v9 v10 Q E r' := by
  have ho := h.ord
  have h9 := fun b hb => World.ownsRow.lt h.hot.own b hb
  have h10 := fun b hb => World.ownsRow.lt h.exc b hb
  exact ⟨hs, h.box.keeps hk (by omega), h.hot.keeps hk (fun b hb e => by have := h9 b hb; omega) (fun b hb e hh => by omega), hk.owns h.exc (fun b hb e => by have := h10 b hb; omega), h.apart, h.keep.trans hk (fun _ _ e => e) (fun _ _ e => .inl e), ho⟩
theorem DSt.below (h : DSt w0 w gs g f v9 v10 Q E r) (hb : Below w.heap.size w w') : DSt w0 w' gs g f v9 v10 Q E r :=
  h.step ((Keeps.of_below hb).weak (fun b hb e => by omega)) (h.src.below hb)

theorem DSt.start (hs : Src w gs r) (hb : BoxF w g f) (h9 : f 9 = .slice none 0 0) (h10 : f 10 = .slice none 0 0) (ho : gs < g) : DSt w w gs g f (.slice none 0 0) (.slice none 0 0) [] [] r :=
  ⟨hs, by rw [upd_self _ _ _ h9, upd_self _ _ _ h10]; exact hb, Hot.nil _ _ _, Ints.nil _ _, (by intro b hb; cases hb), Keeps.refl _ _, ⟨ho, hb.lt⟩⟩

theorem DSt.addE {v : Value} {z : Int} (h : DSt w0 w gs g f v9 v10 Q E r) (ho : Ints w' w0.heap.size v (E ++ [z])) (hg : w1.grownBy w' v10.ownBlock) (hv : v.ownBlock = v10.ownBlock ∨ v.ownBlock = some w1.heap.size) (hb : Below w.heap.size w w1) :
    DSt w0 (w'.setCell ⟨g, 10, none⟩ v) gs g f v9 v Q (E ++ [z]) r ∧ w'.cell? ⟨g, 10, none⟩ = some v10 ∧ w'.frozen? ⟨g, 10, none⟩ = false ∧ Keeps w (w'.setCell ⟨g, 10, none⟩ v) (fun b => v10.ownBlock = some b ∨ b = g) ∧
      ∀ u l, InO w (fun b => w0.heap.size ≤ b ∧ v9.ownBlock ≠ some b ∧ v10.ownBlock ≠ some b) u l → InO (w'.setCell ⟨g, 10, none⟩ v) (fun b => w0.heap.size ≤ b ∧ v9.ownBlock ≠ some b ∧ v.ownBlock ≠ some b) u l := by
  have hor := h.ord
  have hz := hb.size
  have hz0 := h.size
  have h9 := fun b hb => World.ownsRow.lt h.hot.own b hb
  have h10 := fun b hb => World.ownsRow.lt h.exc b hb
  have hk1 : Keeps w w' (fun b => v10.ownBlock = some b) := (Keeps.of_below hb).trans (Keeps.of_grown hg) (fun b hb e => by omega) (fun _ _ e => e)
  have hk2 := Keeps.store w' g 10 v
  have hk3 : Keeps w (w'.setCell ⟨g, 10, none⟩ v) (fun b => v10.ownBlock = some b ∨ b = g) := hk1.trans hk2 (fun _ _ e => .inl e) (fun _ _ e => .inr e)
  have hg10 : ¬ v10.ownBlock = some g := fun e => by have := h10 g e; omega
  have hbx := h.box.keeps hk1 hg10
  have hnew : ∀ b, b < w.heap.size → v10.ownBlock ≠ some b → v.ownBlock ≠ some b := by
    intro b hb hn e
    rcases hv with hv | hv
    · exact hn (by rw [← hv, e])
    · rw [hv] at e; injection e with e; omega
  have hgv : v.ownBlock ≠ some g := hnew g (by omega) hg10
  have c10 : w'.cell? ⟨g, 10, none⟩ = some v10 := by have := (hbx 10 (by omega)).1; rwa [upd_same] at this
  refine ⟨⟨h.src.keeps hk3 (fun b hb e => ?_), ?_, ?_, hk2.owns ho (fun b hb e => hgv (by rw [hb, e])), fun b hb => hnew b (h9 b hb).2 (h.apart b hb), h.keep.trans hk3 (fun _ _ e => e) (fun b hb e => ?_), hor⟩, c10, (hbx 10 (by omega)).2, hk3, fun u l hu => ?_⟩
  · rcases e with e | e
    · have := h10 b e; omega
    · omega
  · have := hbx.sets (Sets.store w' g 10 v _ c10)
    rwa [upd_upd] at this
  · have h1 := h.hot.weak (Q := fun b => (w0.heap.size ≤ b ∧ v9.ownBlock ≠ some b ∧ v10.ownBlock ≠ some b) ∧ b < w.heap.size) (fun b hb e => ⟨e, hb⟩)
    have h2 := h1.keeps hk3 (fun b hb e => by
      rcases e with e | e
      · exact h.apart b hb e
      · have := h9 b hb; omega) (fun b hb e hh => by
      rcases e with e | e
      · exact hh.1.2.2 e
      · have := hh.1.1; omega)
    exact h2.weak (fun b hb e => ⟨e.1.1, e.1.2.1, hnew b e.2 e.1.2.2⟩)
  · rcases e with e | e
    · have := h10 b e; omega
    · exact .inr e
  · have h1 := hu.weak (Q := fun b => (w0.heap.size ≤ b ∧ v9.ownBlock ≠ some b ∧ v10.ownBlock ≠ some b) ∧ b < w.heap.size) (fun b hb e => ⟨e, hb⟩)
    have h2 := h1.keeps hk3 (fun b hb e hh => by
      rcases e with e | e
      · exact hh.1.2.2 e
      · have := hh.1.1; omega)
    exact h2.weak (fun b hb e => ⟨e.1.1, e.1.2.1, hnew b e.2 e.1.2.2⟩)

theorem DSt.addQ {v : Value} {q : Mq} (h : DSt w0 w gs g f v9 v10 Q E r) (hq : InO w (fun b => w0.heap.size ≤ b ∧ v9.ownBlock ≠ some b ∧ v10.ownBlock ≠ some b) q.2 q.1.2) (ho : w'.ownsRow w0.heap.size 64 2 v (Q ++ [q]).length (cellsQ (Q ++ [q])))
    (hg : w1.grownBy w' v9.ownBlock) (hv : v.ownBlock = v9.ownBlock ∨ v.ownBlock = some w1.heap.size) (hb : Below w.heap.size w w1) :
    DSt w0 (w'.setCell ⟨g, 9, none⟩ v) gs g f v v10 (Q ++ [q]) E r ∧ w'.cell? ⟨g, 9, none⟩ = some v9 ∧ w'.frozen? ⟨g, 9, none⟩ = false := by
  have hor := h.ord
  have hz := hb.size
  have hz0 := h.size
  have h9 := fun b hb => World.ownsRow.lt h.hot.own b hb
  have h10 := fun b hb => World.ownsRow.lt h.exc b hb
  have hk1 : Keeps w w' (fun b => v9.ownBlock = some b) := (Keeps.of_below hb).trans (Keeps.of_grown hg) (fun b hb e => by omega) (fun _ _ e => e)
  have hk2 := Keeps.store w' g 9 v
  have hk3 : Keeps w (w'.setCell ⟨g, 9, none⟩ v) (fun b => v9.ownBlock = some b ∨ b = g) := hk1.trans hk2 (fun _ _ e => .inl e) (fun _ _ e => .inr e)
  have hg9 : ¬ v9.ownBlock = some g := fun e => by have := h9 g e; omega
  have hbx := h.box.keeps hk1 hg9
  have hnew : ∀ b, b < w.heap.size → v9.ownBlock ≠ some b → v.ownBlock ≠ some b := by
    intro b hb hn e
    rcases hv with hv | hv
    · exact hn (by rw [← hv, e])
    · rw [hv] at e; injection e with e; omega
  have hgv : v.ownBlock ≠ some g := hnew g (by omega) hg9
  have c9 : w'.cell? ⟨g, 9, none⟩ = some v9 := by have := (hbx 9 (by omega)).1; rwa [upd_other _ _ (by omega), upd_same] at this
  have key : ∀ u l, InO w (fun b => w0.heap.size ≤ b ∧ v9.ownBlock ≠ some b ∧ v10.ownBlock ≠ some b) u l → InO (w'.setCell ⟨g, 9, none⟩ v) (fun b => w0.heap.size ≤ b ∧ v.ownBlock ≠ some b ∧ v10.ownBlock ≠ some b) u l := by
    intro u l hu
    have h1 := hu.weak (Q := fun b => (w0.heap.size ≤ b ∧ v9.ownBlock ≠ some b ∧ v10.ownBlock ≠ some b) ∧ b < w.heap.size) (fun b hb e => ⟨e, hb⟩)
    have h2 := h1.keeps hk3 (fun b hb e hh => by
      rcases e with e | e
      · exact hh.1.2.1 e
      · have := hh.1.1; omega)
    exact h2.weak (fun b hb e => ⟨e.1.1, hnew b e.2 e.1.2.1, e.1.2.2⟩)
  refine ⟨⟨h.src.keeps hk3 (fun b hb e => ?_), ?_, ⟨hk2.owns ho (fun b hb e => hgv (by rw [hb, e])), ?_⟩, hk3.owns h.exc (fun b hb e => ?_), ?_, h.keep.trans hk3 (fun _ _ e => e) (fun b hb e => ?_), hor⟩, c9, (hbx 9 (by omega)).2⟩
  · rcases e with e | e
    · have := h9 b e; omega
    · omega
  · have := hbx.sets (Sets.store w' g 9 v _ c9)
    rwa [upd_swap f 9 10 v9 v10 (by omega), upd_upd, upd_swap f 10 9 v10 v (by omega)] at this
  · intro x hx
    rcases List.mem_append.1 hx with hx | hx
    · exact key _ _ (h.hot.tos x hx)
    · rw [List.mem_singleton] at hx; subst hx; exact key _ _ hq
  · rcases e with e | e
    · exact h.apart b e hb
    · have := h10 b hb; omega
  · intro b hb e
    exact hnew b (h10 b e).2 (fun e9 => h.apart b e9 e) hb
  · rcases e with e | e
    · have := h9 b e; omega
    · exact .inr e
end

/-- The mapping under construction: block mb; u is its To, a row of the call's own, which holds tl. -/
structure MSt (B : Nat) (wr w : World) (gs mb : Nat) (fr : Int) (u : Value) (tl r : List Int) : Prop where
  src : Src w gs r
  c0 : w.cell? ⟨mb, 0, none⟩ = some (.int .i64 fr)
  c1 : w.cell? ⟨mb, 1, none⟩ = some u
  f1 : w.frozen? ⟨mb, 1, none⟩ = false
  own : Ints w B u tl
  ne : u.ownBlock ≠ some mb
  keep : Keeps wr w (fun b => b = gs)
  ord : B = wr.heap.size ∧ B ≤ mb ∧ gs < B

section
variable {wr w w' : World} {B gs mb tb : Nat} {fr a : Int} {u : Value} {tl r r' : List Int}
theorem MSt.lt (h : MSt B wr w gs mb fr u tl r) : mb < w.heap.size := World.block_lt_of_cell? w _ h.c0
theorem MSt.step (h : MSt B wr w gs mb fr u tl r) (hk : Keeps w w' (fun b => b = gs)) (hs : Src w' gs r') : MSt B wr w' gs mb fr u tl r' := by
  have ho := h.ord
  have hm : mb ≠ gs := by omega
  have hu := fun b hb => World.ownsRow.lt h.own b hb
  exact ⟨hs, hk.cell h.c0 hm, hk.cell h.c1 hm, (World.frozen?_of_block (a := ⟨mb, 1, none⟩) (hk.block mb h.lt hm)).trans h.f1, hk.owns h.own (fun b hb e => by have := hu b hb; omega), h.ne, h.keep.trans hk (fun _ _ e => e) (fun _ _ e => e), ho⟩
theorem next_keeps (h : w.grownBy w' (some gs)) : Keeps w w' (fun b => b = gs) := (Keeps.of_grown h).weak (fun b _ e => by injection e with e; exact e.symm)

theorem ints_lit1 (w : World) (a : Int) (B : Nat) (hB : B ≤ w.heap.size) : Ints (w.alloc (.cells #[.int .i64 a] 3)) B (.slice (some ⟨w.heap.size, 0, none⟩) 1 1) [a] :=
  World.ownsRow_lit (base := B) (e := 3) (size := 1) w #[.int .i64 a] 1 hB (by unfold maxLen; omega) rfl

theorem MSt.new (hk : Keeps wr w (fun b => b = gs)) (hs : Src w gs r) (hg : gs < wr.heap.size) :
    MSt wr.heap.size wr ((w.alloc (.cells #[.int .i64 a] 3)).alloc (.cells #[.int .i64 fr, .slice (some ⟨w.heap.size, 0, none⟩) 1 1] 64)) gs (w.heap.size + 1) fr (.slice (some ⟨w.heap.size, 0, none⟩) 1 1) [a] r := by
  have hz := hk.size
  have e1 : (w.alloc (.cells #[.int .i64 a] 3)).heap.size = w.heap.size + 1 := by simp
  have hb1 := (Below.refl w.heap.size w).alloc (Nat.le_refl _) (.cells #[.int .i64 a] 3)
  have hb2 := hb1.alloc (by omega) (.cells #[.int .i64 fr, .slice (some ⟨w.heap.size, 0, none⟩) 1 1] 64)
  refine ⟨hs.below hb2, ?_, ?_, ?_, (ints_lit1 w a _ hz).alloc _, ?_, hk.trans (Keeps.of_below hb2) (fun _ _ e => e) (fun b hb e => by omega), rfl, by omega, hg⟩
  · rw [← e1]; simp [World.cell?_alloc_new]
  · rw [← e1]; simp [World.cell?_alloc_new]
  · rw [← e1]; simp
  · intro e; injection e with e; simp at e

theorem MSt.row (h : MSt B wr w gs mb fr (.slice (some ⟨tb, 0, none⟩) 1 1) [a] r) : w.cell? ⟨tb, 0, none⟩ = some (.int .i64 a) := by
  obtain ⟨p, c, e, hin⟩ := h.own.inn
  obtain ⟨b', off', e', hc⟩ := hin 0 (by simp)
  cases e
  cases e'
  exact hc
theorem MSt.free (h : MSt B wr w gs mb fr (.slice (some ⟨tb, 0, none⟩) 1 1) [a] r) : w.frozen? ⟨tb, 0, none⟩ = false := World.ownsRow.frozenAt (g := tb) (cap := 1) (n := 1) h.own 0
theorem MSt.setTo (h : MSt B wr w gs mb fr (.slice (some ⟨tb, 0, none⟩) 1 1) [a] r) (b : Int) : MSt B wr (w.setCell ⟨tb, 0, none⟩ (.int .i64 b)) gs mb fr (.slice (some ⟨tb, 0, none⟩) 1 1) [b] r := by
  have ht := World.ownsRow.lt h.own tb rfl
  have ho := h.ord
  have hk := Keeps.store w tb 0 (.int .i64 b)
  have hm : mb ≠ tb := fun e => h.ne (by rw [e]; rfl)
  exact ⟨h.src.keeps hk (fun j hj e => by omega), hk.cell h.c0 hm, hk.cell h.c1 hm, (World.frozen?_of_block (a := ⟨mb, 1, none⟩) (hk.block mb h.lt hm)).trans h.f1, (World.ownsRow.stored (g := tb) (n := 1) h.own 0 (.int .i64 b)).1, h.ne, h.keep.trans hk (fun _ _ e => e) (fun j hj e => by omega), ho⟩
theorem MSt.inO (h : MSt B wr w gs mb fr u tl r) (hl : tl.length ≤ 1000) : InO w (fun b => B ≤ b) u tl := by
  obtain ⟨p, c, rfl, hin⟩ := h.own.inn
  exact ⟨⟨p, c, rfl, hin, by omega⟩, fun b off n c e => World.ownsRow.lt h.own b (by rw [e]; rfl)⟩

/-- One element more in To, and the new slice stored. -/
theorem MSt.more {v : Value} {b : Int} {w1 : World} (h : MSt B wr w gs mb fr u tl r) (hb : Below w.heap.size w w1) (ho : Ints w' B v (tl ++ [b])) (hg : w1.grownBy w' u.ownBlock) (hv : v.ownBlock = u.ownBlock ∨ v.ownBlock = some w1.heap.size) : MSt B wr (w'.setCell ⟨mb, 1, none⟩ v) gs mb fr v (tl ++ [b]) r := by
  have hu := fun b hb => World.ownsRow.lt h.own b hb
  have hor := h.ord
  have hlt := h.lt
  have hz := hb.size
  have hk1 : Keeps w w' (fun b => u.ownBlock = some b) := (Keeps.of_below hb).trans (Keeps.of_grown hg) (fun b hb e => by omega) (fun _ _ e => e)
  have hk2 := Keeps.store w' mb 1 v
  have hk3 : Keeps w (w'.setCell ⟨mb, 1, none⟩ v) (fun b => u.ownBlock = some b ∨ b = mb) := hk1.trans hk2 (fun _ _ e => .inl e) (fun _ _ e => .inr e)
  have hne : v.ownBlock ≠ some mb := by
    intro e
    rcases hv with hv | hv
    · exact h.ne (by rw [← hv, e])
    · rw [hv] at e; injection e with e; omega
  have c0 : w'.cell? ⟨mb, 0, none⟩ = some (.int .i64 fr) := hk1.cell h.c0 h.ne
  have c1 : w'.cell? ⟨mb, 1, none⟩ = some u := hk1.cell h.c1 h.ne
  refine ⟨h.src.keeps hk3 (fun j hj e => ?_), (World.cell?_setCell_other _ ⟨mb, 1, none⟩ ⟨mb, 0, none⟩ _ (by simp)).trans c0, World.cell?_setCell_same _ _ _ c1, ?_, hk2.owns ho (fun k hk e => hne (by rw [hk, e])), hne, h.keep.trans hk3 (fun _ _ e => e) (fun j hj e => ?_), hor⟩
  · rcases e with e | e
    · have := hu j e; omega
    · omega
  · rw [World.frozen?_setCell]
    exact (World.frozen?_of_block (a := ⟨mb, 1, none⟩) (hk1.block mb hlt h.ne)).trans h.f1
  · rcases e with e | e
    · have := hu j e; omega
    · omega
theorem first_more {v : Value} {b : Int} {w1 : World} (h : MSt B wr w gs mb fr u tl r) (ho : Ints w' B v (tl ++ [b])) (hg : w1.grownBy w' u.ownBlock) (hv : v.ownBlock = u.ownBlock ∨ v.ownBlock = some w1.heap.size) (hb : Below w.heap.size w w1) :
    MSt B wr (w'.setCell ⟨mb, 1, none⟩ v) gs mb fr v (tl ++ [b]) r ∧ w'.cell? ⟨mb, 1, none⟩ = some u ∧ w'.frozen? ⟨mb, 1, none⟩ = false := by
  have hz := hb.size
  have hk1 : Keeps w w' (fun b => u.ownBlock = some b) := (Keeps.of_below hb).trans (Keeps.of_grown hg) (fun b hb e => by omega) (fun _ _ e => e)
  exact ⟨h.more hb ho hg hv, hk1.cell h.c1 h.ne, (World.frozen?_of_block (a := ⟨mb, 1, none⟩) (hk1.block mb h.lt h.ne)).trans h.f1⟩
end

def DecPost (gs g : Nat) (f : Nat → Value) (w : World) (e : Ending) (w' : World) : Prop :=
  e = .returned (.tuple #[]) ∧ ∃ r v9 v10 D E, DecOk 5 D E ∧ Src w' gs r ∧ BoxF w' g (upd (upd f 9 v9) 10 v10) ∧ MpO w' (fun b => w.heap.size ≤ b) v9 D ∧ InO w' (fun b => w.heap.size ≤ b) v10 E ∧ Keeps w w' (fun b => b = gs ∨ b = g) ∧ ∀ p n c, v9 = .slice p n c → n ≤ c

theorem Ints.inO {w : World} {B : Nat} {v : Value} {l : List Int} (h : Ints w B v l) (hl : l.length ≤ 1000) : InO w (fun b => B ≤ b) v l := by
  obtain ⟨p, c, rfl, hin⟩ := h.inn
  exact ⟨⟨p, c, rfl, hin, by omega⟩, fun b off n c e => World.ownsRow.lt h b (by rw [e]; rfl)⟩

theorem DSt.done {w0 w : World} {gs g : Nat} {f : Nat → Value} {v9 v10 : Value} {Q : List Mq} {E r : List Int} (h : DSt w0 w gs g f v9 v10 Q E r) (hok : DecOk 5 (Q.map (·.1)) E) : DecPost gs g f w0 (.returned (.tuple #[])) w := by
  have h1 := hok.len
  have h2 := hok.elen
  refine ⟨rfl, r, v9, v10, _, E, hok, h.src, h.box, h.hot.mpO (by simp at h1; omega) (fun b _ hb => hb.1) (fun b hb _ => hb), h.exc.inO (by omega), h.keep, fun p n c e => row_cap h.hot.own e⟩

end Go.Proofs.YtfmfifmmaihodaaGreatDoor
