/-
  A slice of spans that comes in: what the row's reading of it says of its cells.
-/
import Derived.Test.YtddphlindcabpaaGreatDoorSSlPkA
import Derived.Deep.Slices
import Derived.Deep.Fields
import Derived.ChangeSame
set_option linter.unusedSimpArgs false
set_option linter.unusedVariables false
namespace Go.Proofs.YtddphlindcabpaaGreatDoor
open Go.RowKit Go.ChangeShapes Go.WideShapes Go.Deep

section
variable {H : Type} {enc : TypeId × Value → H} {P : Program} {w : World} {base : Nat} {spare : Nat → Bool} {held : Bool}

/-- A slice of structs of one-cell fields: each cell, and what it reads as. -/
theorem open_fields_slice {t e : TypeId} {fs : Array Field} {fuel : Nat} {cs : List Value} {x : DataW H × List MemPlace} (ht : P.underlying t = some (.slice e)) (he : P.underlying e = some (.struct fs))
    (hone : oneCellFields P fs = true) (hC : P.cellsOf e = fs.size) (h : DataW.trod enc P w base spare held fuel t cs = some x) :
    cs = [.slice none 0 0] ∨
    ∃ (a : Addr) (len cap : Nat), cs = [.slice (some a) len cap] ∧ len ≤ cap ∧ cap ≤ maxLen ∧
      ∀ i, i < len → ∀ (j : Nat) (f : Field), fs[j]? = some f → ∃ (v : Value) (y : DataW H × List MemPlace) (n : Nat), w.cell? (a.add (i * fs.size + j)) = some v ∧ DataW.trod enc P w base spare held n f.type [v] = some y := by
  rcases open_slice ht h with h0 | ⟨a, len, cap, m, n, D, Pl, hcs, hb, hl, hm, hmm, hx, hi⟩
  · exact .inl h0.1
  · have hlm : len ≤ m := by rw [hmm]; split <;> omega
    refine .inr ⟨a, len, cap, hcs, hl, hm, fun i hil j f hj => ?_⟩
    obtain ⟨cs', hc, ht'⟩ := hi i (by omega)
    rw [hC] at hc
    obtain ⟨ys, n', hn', hy, hlen, hyl, hf⟩ := DataW.trod_struct he ht'
    obtain ⟨_, hcl, hat⟩ := World.cells?_some hc
    obtain ⟨ho, hk⟩ := hone_of hone j f hj
    have hjl : j < fs.size := (Array.getElem?_eq_some_iff.1 hj).1
    have hcell := hat j hjl
    have hv : cs'[j]? = some (cs'[j]'(by omega)) := List.getElem?_eq_getElem (by omega)
    have h1 := hf j f hj
    rw [ho, hk] at h1
    have hone' : (cs'.drop j).take 1 = [cs'[j]'(by omega)] := by
      rw [List.drop_eq_getElem_cons (by omega)]
      rfl
    rw [hone'] at h1
    have hys : ys[j]? = some (ys[j]'(by omega)) := List.getElem?_eq_getElem (by omega)
    refine ⟨_, _, n', ?_, h1.trans hys⟩
    rw [← add_add, hcell, hv]
end

/-- What the frame of a law tells of a slice of spans. -/
def IsSpans (w : World) (a : Option Addr) (len cap : Nat) (l : List Sp) : Prop := l.length = len ∧ len ≤ maxLen ∧ len ≤ cap ∧ (a = none → cap = 0) ∧ SpIn w a l

theorem cell_spot {w : World} {a : Addr} {v : Value} (h : w.cell? a = some v) : a.spot = none := by
  unfold World.cell? at h
  split at h
  · split at h
    · cases h
    · rename_i hh; simpa using hh
  · cases h

theorem isSpans_arg {H : Type} {enc : TypeId × Value → H} {w : World} {base : Nat} {spare : Nat → Bool} {held : Bool} {fuel : Nat} {a : Option Addr} {len cap : Nat} {x : DataW H × List MemPlace}
    (h : DataW.trod enc Tryz.prog w base spare held fuel 23 [.slice a len cap] = some x) : ∃ l, IsSpans w a len cap l := by
  rcases open_fields_slice Tryz.underlying23 Tryz.underlying43 (by kernel_rfl) (by kernel_rfl) h with h0 | ⟨ad, l, c, h0, hl, hm, hc⟩
  · simp at h0
    obtain ⟨rfl, rfl, rfl⟩ := h0
    exact ⟨[], rfl, by unfold maxLen; omega, Nat.le_refl _, fun _ => rfl, fun k hk => by simp at hk⟩
  · simp at h0
    obtain ⟨rfl, rfl, rfl⟩ := h0
    have key : ∀ i, i < len → ∀ j, j < 3 → ∃ z : Int, w.cell? (ad.add (i * 3 + j)) = some (.int .i64 z) := by
      intro i hi j hj
      have hj' : j = 0 ∨ j = 1 ∨ j = 2 := by omega
      rcases hj' with rfl | rfl | rfl
      · obtain ⟨v, y, n, h1, h2⟩ := hc i hi 0 _ rfl
        obtain ⟨z, h3, _⟩ := DataW.trod_int Tryz.underlying3 h2
        injection h3 with h3
        exact ⟨z, by rw [← h3]; exact h1⟩
      · obtain ⟨v, y, n, h1, h2⟩ := hc i hi 1 _ rfl
        obtain ⟨z, h3, _⟩ := DataW.trod_int Tryz.underlying3 h2
        injection h3 with h3
        exact ⟨z, by rw [← h3]; exact h1⟩
      · obtain ⟨v, y, n, h1, h2⟩ := hc i hi 2 _ rfl
        obtain ⟨z, h3, _⟩ := DataW.trod_int Tryz.underlying3 h2
        injection h3 with h3
        exact ⟨z, by rw [← h3]; exact h1⟩
    obtain ⟨F, hF⟩ := choose_lt (α := Sp) (n := len) (p := fun i s => w.cell? (ad.add (i * 3)) = some (.int .i64 s.1) ∧ w.cell? (ad.add (i * 3 + 1)) = some (.int .i64 s.2.1) ∧ w.cell? (ad.add (i * 3 + 2)) = some (.int .i64 s.2.2)) (fun i hi => by
      obtain ⟨z0, h0⟩ := key i hi 0 (by omega)
      obtain ⟨z1, h1⟩ := key i hi 1 (by omega)
      obtain ⟨z2, h2⟩ := key i hi 2 (by omega)
      exact ⟨(z0, z1, z2), h0, h1, h2⟩)
    refine ⟨(List.range len).map F, by simp, by omega, hl, fun e => (by cases e), fun k hk => ?_⟩
    have hk' : k < len := by simpa using hk
    obtain ⟨f0, f1, f2⟩ := hF k hk'
    have hd : ((List.range len).map F).getD k sp0 = F k := by simp [List.getD, hk']
    have hs : ad.spot = none := by
      have f00 := (hF 0 (by omega)).1
      rw [Nat.zero_mul, Addr.add_zero'] at f00
      exact cell_spot f00
    obtain ⟨b, off, sp⟩ := ad
    simp only at hs
    subst hs
    rw [Addr.add_lit] at f0 f1 f2
    rw [hd]
    exact ⟨b, off, rfl, f0, f1, f2⟩

end Go.Proofs.YtddphlindcabpaaGreatDoor
