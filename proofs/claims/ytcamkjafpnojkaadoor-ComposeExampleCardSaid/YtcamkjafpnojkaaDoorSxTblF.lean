/-
  keep.add, keep.usual, keep.choose.
  keep.maps.
  keep.maps: the walk.
-/
import Derived.Test.YtcamkjafpnojkaaDoorSxPkG
import Derived.Deep.RegionHeld3
import Derived.Deep.RegionLaw
import Derived.Test.YtcamkjafpnojkaaDoorSxTblD
set_option linter.unusedSimpArgs false
set_option linter.unusedVariables false
namespace Go.Proofs.YtcamkjafpnojkaaDoor
open Go.RowKit
set_option linter.unusedVariables false

theorem SpIn.keeps {w w' : World} {p : Option Addr} {l : List Sp} (h : SpIn w p l) (hk : Keeps w w' (fun _ => False)) : SpIn w' p l := h.below (hk.below (Nat.le_refl _) (fun _ _ e => e.elim))

end Go.Proofs.YtcamkjafpnojkaaDoor

namespace Go.Proofs.YtcamkjafpnojkaaDoor
open Go.RowKit
set_option linter.unusedVariables false

theorem IntsIn_keeps {w w' : World} {R : Nat → Prop} {b off : Nat} {l : List Int} (h : IntsIn w (some ⟨b, off, none⟩) l) (hk : Keeps w w' R) (hr : ¬ R b) : IntsIn w' (some ⟨b, off, none⟩) l := by
  intro k hkl
  obtain ⟨b', off', e, hc⟩ := h k hkl
  cases e
  exact ⟨b, off, rfl, hk.cell hc hr⟩

/-- What holds between the rounds of maps. -/
structure PSt (w1 w : World) (gs g sb pb : Nat) (f : Nat → Value) (v8 v5 : Value) (Q : List Mq) (S : List Sp) (sc : Nat) (sl r : List Int) : Prop where
  src : Src w gs r
  box : BoxF w g (upd (upd f 8 v8) 5 v5)
  hot : Hot w w1.heap.size (fun b => w1.heap.size ≤ b ∧ v8.ownBlock ≠ some b) v8 Q
  sp : SpO w (fun b => w1.heap.size ≤ b ∧ v8.ownBlock ≠ some b) v5 S
  st : w.ownsRow 0 3 1 (.slice (some ⟨sb, 0, none⟩) 28 sc) 28 (sl.map (.int .i64))
  pool : IntsIn w (some ⟨pb, 0, none⟩) poolL
  keep : Keeps w1 w (fun b => b = gs ∨ b = g ∨ b = sb)
  ord : (gs < g ∧ g < w1.heap.size ∧ sb < w1.heap.size ∧ sb ≠ g ∧ gs < sb) ∧ (pb < w1.heap.size ∧ pb ≠ gs ∧ pb ≠ g ∧ pb ≠ sb)

section
variable {w1 w w2 w' : World} {gs g sb pb sc : Nat} {f : Nat → Value} {v8 v5 : Value} {Q : List Mq} {S : List Sp} {sl r r' : List Int}
theorem PSt.size (h : PSt w1 w gs g sb pb f v8 v5 Q S sc sl r) : w1.heap.size ≤ w.heap.size := h.keep.size
theorem PSt.own (h : PSt w1 w gs g sb pb f v8 v5 Q S sc sl r) : ∀ b, v8.ownBlock = some b → w1.heap.size ≤ b ∧ b < w.heap.size := fun b hb => World.ownsRow.lt h.hot.own b hb

theorem PSt.step (h : PSt w1 w gs g sb pb f v8 v5 Q S sc sl r) (hk : Keeps w w' (fun b => b = gs)) (hs : Src w' gs r') : PSt w1 w' gs g sb pb f v8 v5 Q S sc sl r' := by
  obtain ⟨⟨o1, o2, o3, o4, o5⟩, ⟨o6, o7, o8, o9⟩⟩ := h.ord
  have h8 := h.own
  exact ⟨hs, h.box.keeps hk (by omega), h.hot.keeps hk (fun b hb e => by have := h8 b hb; omega) (fun b hb e hh => by omega), h.sp.keeps hk (fun b hb e hh => by omega), hk.owns h.st (fun b hb e => by have e2 : some sb = some b := hb; injection e2 with e2; omega), IntsIn_keeps h.pool hk o7, h.keep.trans hk (fun _ _ e => e) (fun _ _ e => .inl e), h.ord⟩
theorem PSt.below (h : PSt w1 w gs g sb pb f v8 v5 Q S sc sl r) (hb : Below w.heap.size w w') : PSt w1 w' gs g sb pb f v8 v5 Q S sc sl r :=
  h.step ((Keeps.of_below hb).weak (fun b hb e => by omega)) (h.src.below hb)

theorem PSt.start (hs : Src w gs r) (hb : BoxF w g f) (h8 : f 8 = .slice none 0 0) (h5 : f 5 = .slice none 0 0) (hst : w.ownsRow 0 3 1 (.slice (some ⟨sb, 0, none⟩) 28 sc) 28 (sl.map (.int .i64))) (hp : IntsIn w (some ⟨pb, 0, none⟩) poolL)
    (ho : gs < g ∧ sb ≠ g ∧ gs < sb) (hp1 : pb < w.heap.size ∧ pb ≠ gs ∧ pb ≠ g ∧ pb ≠ sb) : PSt w w gs g sb pb f (.slice none 0 0) (.slice none 0 0) [] [] sc sl r :=
  ⟨hs, by rw [upd_self _ _ _ h8, upd_self _ _ _ h5]; exact hb, Hot.nil _ _ _, SpO.nil _ _, hst, hp, Keeps.refl _ _, ⟨⟨ho.1, hb.lt, (World.ownsRow.lt hst sb rfl).2, ho.2.1, ho.2.2⟩, hp1⟩⟩

end

end Go.Proofs.YtcamkjafpnojkaaDoor

namespace Go.Proofs.YtcamkjafpnojkaaDoor
open Go.RowKit
set_option linter.unusedVariables false

def ok5 (u : Int) : Prop := u = 0 ∨ u = 1 ∨ u = 2 ∨ u = 4

theorem PSt.len {w1 w : World} {gs g sb pb sc : Nat} {f : Nat → Value} {v8 v5 : Value} {Q : List Mq} {S : List Sp} {sl r : List Int} (h : PSt w1 w gs g sb pb f v8 v5 Q S sc sl r) : sl.length = 28 := by
  have := h.st.1
  simpa using this
/-- What one round does to the list of mappings and to the statuses. -/
def MStep (k : Nat) (Q Q' : List Mq) (sl sl' : List Int) : Prop := (Q' = Q ∧ sl' = sl) ∨ ∃ tl u, Q' = Q ++ [((poolAt k, tl), u)] ∧ sl' = sl.set k 3 ∧ mapTo tl

theorem MStep.ok {k : Nat} {Q Q' : List Mq} {sl sl' : List Int} {S : List Sp} (h : MStep k Q Q' sl sl') (hk : k < 28) (hl : sl.length = 28) (hm : MapOk k (Q.map (·.1)) S) (h5 : ∀ i, k ≤ i → i < 28 → ok5 (sl.getD i 0)) :
    MapOk (k + 1) (Q'.map (·.1)) (addL S (poolAt k, poolAt k, 0) (sl'.getD k 0)) ∧ ∀ i, k + 1 ≤ i → i < 28 → ok5 (sl'.getD i 0) := by
  rcases h with ⟨rfl, rfl⟩ | ⟨tl, u, rfl, rfl, ht⟩
  · have := h5 k (Nat.le_refl _) hk
    unfold ok5 at this
    exact ⟨hm.plain hk (by omega) (by omega) 0, fun i h1 h2 => h5 i (by omega) h2⟩
  · constructor
    · have e : (sl.set k 3).getD k 0 = 3 := by simp [List.getD, hl, hk]
      rw [e, List.map_append]
      exact hm.more hk ht 0
    · intro i h1 h2
      have e : (sl.set k 3).getD i 0 = sl.getD i 0 := by
        simp only [List.getD_eq_getElem?_getD]
        rw [List.getElem?_set_ne (by omega)]
      rw [e]; exact h5 i (by omega) h2

def KMapsPost (gs g sb : Nat) (f : Nat → Value) (w : World) (e : Ending) (w' : World) : Prop :=
  e = .returned (.tuple #[]) ∧ ∃ r v8 v5 M S, MapOk 28 M S ∧ Src w' gs r ∧ BoxF w' g (upd (upd f 8 v8) 5 v5) ∧ MpO w' (fun b => w.heap.size ≤ b) v8 M ∧ SpO w' (fun b => w.heap.size ≤ b) v5 S ∧ Keeps w w' (fun b => b = gs ∨ b = g ∨ b = sb)

theorem PSt.done {w w1 w2 : World} {gs g sb pb sc : Nat} {f : Nat → Value} {v8 v5 : Value} {Q : List Mq} {S : List Sp} {sl r : List Int} (hb : Below w.heap.size w w1) (h : PSt w1 w2 gs g sb pb f v8 v5 Q S sc sl r) (hok : MapOk 28 (Q.map (·.1)) S) : KMapsPost gs g sb f w (.returned (.tuple #[])) w2 := by
  have h1 := hok.len
  have hz := hb.size
  refine ⟨rfl, r, v8, v5, _, S, hok, h.src, h.box, h.hot.mpO (by simp at h1; omega) (fun b _ hb => by have := hb.1; omega) (fun b hb _ => by omega), h.sp.weak (fun b _ hb => by have := hb.1; omega), (Keeps.of_below hb).trans h.keep (fun b hb e => by omega) (fun _ _ e => e)⟩

end Go.Proofs.YtcamkjafpnojkaaDoor
