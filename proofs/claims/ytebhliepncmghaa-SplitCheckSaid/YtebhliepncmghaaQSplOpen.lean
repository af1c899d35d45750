/-
  Slices of strings and slices of slices of ints that come in: what the row's reading of them says of their cells, and how much they are.
-/
import Derived.Test.YtebhliepncmghaaQSplLaw
import Derived.Deep.Matrix
import Derived.SliceStrings
set_option linter.unusedSimpArgs false
set_option linter.unusedVariables false
namespace Go.Proofs.Ytebhliepncmghaa
open Go.RowKit Go.ChangeShapes Go.WideShapes Go.Deep
set_option linter.unusedVariables false

section
variable {H : Type} {enc : TypeId × Value → H} {w : World} {base : Nat} {held : Bool}

theorem bulk_lits (k : IntKind) (l : List Int) : Rows.uptoBulkAll (lits (H := H) k l) = l.length := by
  induction l with
  | nil => rfl
  | cons a r ih =>
    have e : lits (H := H) k (a :: r) = .lit (.int k a) :: lits k r := rfl
    rw [e, Rows.uptoBulkAll, ih, Rows.uptoBulk]
    · simp; omega
    · simp
theorem bulk_append (a b : List (DataW H)) : Rows.uptoBulkAll (a ++ b) = Rows.uptoBulkAll a + Rows.uptoBulkAll b := by
  induction a with
  | nil => simp [Rows.uptoBulkAll]
  | cons x r ih => rw [List.cons_append, Rows.uptoBulkAll, ih, Rows.uptoBulkAll]; omega

theorem cell_spotS {w : World} {a : Addr} {v : Value} (h : w.cell? a = some v) : a.spot = none := by
  unfold World.cell? at h
  split at h
  · split at h
    · cases h
    · rename_i hh; simpa using hh
  · cases h

theorem row_in_arg {k : IntKind} {q : Option Addr} {zs : List Int} {L C : Nat} (hl : L ≤ C) (hz : zs.length = C) (hn : q = none → C = 0) (hc : ∀ a', q = some a' → ∀ c, c < C → w.cell? (a'.add c) = some (.int k (zs.getD c 0))) : RowIn k w q (zs.take L) := by
  intro j hj
  have hjL : j < L := by simp at hj; omega
  cases q with
  | none => have := hn rfl; omega
  | some a =>
    have h0 := hc a rfl 0 (by omega)
    rw [Addr.add_zero'] at h0
    have hs := cell_spotS h0
    obtain ⟨b, off, sp⟩ := a
    simp only at hs
    subst hs
    refine ⟨b, off, rfl, ?_⟩
    have := hc _ rfl j (by omega)
    rw [Addr.add_lit] at this
    rw [this]
    have hjz : j < zs.length := by omega
    simp [hjL, hjz]

theorem bulk_row (k : IntKind) (A : Option Addr) (L : Nat) (zs : List Int) (h : A = none → zs = []) : (zs.take L).length + 1 ≤ Rows.uptoBulk (intRow (H := H) k A L zs) := by
  cases A with
  | none => rw [h rfl]; simp [intRow, Rows.uptoBulk]
  | some a =>
    simp only [intRow, Rows.uptoBulk, bulk_lits]
    omega
theorem bulk_rows (k : IntKind) (A : Nat → Option Addr) (L : Nat → Nat) (Z : Nat → List Int) (l : List Nat) (h : ∀ r ∈ l, A r = none → Z r = []) : ((l.map fun r => (Z r).take (L r)).map List.length).sum + l.length ≤ Rows.uptoBulkAll (l.map fun r => intRow (H := H) k (A r) (L r) (Z r)) := by
  induction l with
  | nil => simp [Rows.uptoBulkAll]
  | cons r t ih =>
    have h1 := bulk_row (H := H) k (A r) (L r) (Z r) (h r (by simp))
    have h2 := ih (fun r' hr => h r' (by simp [hr]))
    simp only [List.map_cons, List.sum_cons, List.length_cons, Rows.uptoBulkAll] at h1 h2 ⊢
    omega

theorem lists_arg {fuel : Nat} {a : Option Addr} {len cap : Nat} {x : DataW H × List MemPlace} (h : DataW.trod enc Try.prog w base (fun _ => true) held fuel 23 [.slice a len cap] = some x) :
    ∃ L, LsIn w a L ∧ L.length = len ∧ len ≤ cap ∧ (joinD L).length ≤ Rows.uptoBulk x.1 ∧ len ≤ Rows.uptoBulk x.1 := by
  rcases open_int_rows Try.underlying23 Try.underlying22 Try.underlying3 (by kernel_rfl) (by kernel_rfl) h with ⟨h0, rfl⟩ | ⟨ad, l, c, A, L, C, Z, h0, _, hl, hm, rfl, hr⟩
  · simp at h0
    obtain ⟨rfl, rfl, rfl⟩ := h0
    exact ⟨[], LsIn.nil _ _, rfl, Nat.le_refl _, by simp [joinD, Rows.uptoBulk], by simp⟩
  · simp at h0
    obtain ⟨rfl, rfl, rfl⟩ := h0
    have hzn : ∀ r ∈ List.range len, A r = none → Z r = [] := fun r hr' hn => by
      have hr2 : r < len := by simpa using hr'
      obtain ⟨_, _, _, h4, _, h6, _⟩ := hr r (by omega)
      exact List.eq_nil_of_length_eq_zero (by rw [h4]; exact h6 hn)
    have hb := bulk_rows (H := H) .i64 A L Z (List.range len) hzn
    rw [List.length_range] at hb
    refine ⟨(List.range len).map fun r => (Z r).take (L r), fun k hk => ?_, by simp, hl, ?_, ?_⟩
    · have hk2 : k < len := by simpa using hk
      obtain ⟨h1, h2, h3, h4, h5, h6, h7⟩ := hr k (by omega)
      obtain ⟨h10, _⟩ := hr 0 (by omega)
      rw [Addr.add_zero'] at h10
      have hs := cell_spotS h10
      obtain ⟨b, off, sp⟩ := ad
      simp only at hs
      subst hs
      have hd : ((List.range len).map fun r => (Z r).take (L r)).getD k [] = (Z k).take (L k) := by simp [List.getD, hk2]
      have hlk : ((Z k).take (L k)).length = L k := by rw [List.length_take, h4]; omega
      rw [Addr.add_lit] at h1
      refine ⟨b, off, A k, C k, rfl, ?_, ?_, ?_⟩
      · rw [hd, hlk]; exact h1
      · rw [hd, hlk]; exact h2
      · rw [hd]; exact row_in_arg h2 h4 h6 (fun a' e => (h7 a' e).2)
    · rw [join_len]
      simp only [Rows.uptoBulk, List.length_map, List.length_range]
      omega
    · simp only [Rows.uptoBulk]
      omega

theorem strs_arg {spare : Nat → Bool} {fuel : Nat} {a : Option Addr} {len cap : Nat} {x : DataW H × List MemPlace} (h : DataW.trod enc Try.prog w base spare held fuel 31 [.slice a len cap] = some x)
    (hsz : ∀ el sp, x.1 = .slice el sp → (el.length + sp.length) * 16 ≤ reachBytes) : ∃ l, IsStrs w a len cap l := by
  rcases open_strings Try.underlying31 Try.underlying9 (by kernel_rfl) h with ⟨h0, rfl⟩ | ⟨ad, l, c, ss, h0, _, hl, hm, hsl, rfl, hc, _⟩
  · simp at h0
    obtain ⟨rfl, rfl, rfl⟩ := h0
    exact ⟨[], StrIn.nil _ _, rfl, Nat.le_refl _, by omega⟩
  · simp at h0
    obtain ⟨rfl, rfl, rfl⟩ := h0
    have hle : len ≤ ss.length := by rw [hsl]; split <;> omega
    have hb := hsz _ _ rfl
    simp only [ChangeShapes.strs, List.length_map, List.length_take, List.length_drop, reachBytes] at hb
    refine ⟨ss.take len, fun k hk => ?_, by simp; omega, hl, by omega⟩
    have hk2 : k < len := by simp at hk; omega
    have h10 := hc 0 (by omega)
    rw [Addr.add_zero'] at h10
    have hs := cell_spotS h10
    obtain ⟨b, off, sp⟩ := ad
    simp only at hs
    subst hs
    have h1 := hc k (by omega)
    rw [Addr.add_lit] at h1
    refine ⟨b, off, rfl, ?_⟩
    rw [h1]
    have hks : k < ss.length := by omega
    simp [hk2, hks]
end
end Go.Proofs.Ytebhliepncmghaa
