/-
  puny's statements: what their walks share.
-/
import Derived.Test.YtaakdcelbnghoaaQPunPts
import Derived.Test.YtaakdcelbnghoaaQPunLaw
import Derived.OpenShut
set_option linter.unusedSimpArgs false
set_option linter.unusedVariables false
namespace Go.Proofs.Ytaakdcelbnghoaa
open Go.RowKit

theorem IsRow.capN {t : IntKind} {w : World} {a : Option Addr} {len cap : Nat} {zs : List Int} (h : IsRow t w a len cap zs) : len ≤ cap := by
  rcases h with ⟨rfl, rfl, rfl, rfl⟩ | ⟨x, rfl, h1, h2, h3, h4, h5⟩
  · exact Nat.le_refl _
  · exact h1

/-- The strings of an encoding. -/
theorem encP_ok {l : List Int} (hs : l.all scpB = true) (hl : l.length ≤ 11) : ∃ X S, Hid (encP l = (X, 0)) ∧ Hid (strOfNums X = S) ∧ X.length ≤ 2048 ∧ Hid (decP X = (l, 0)) := by
  obtain ⟨h1, h2, h3⟩ := back_ok l hs (by omega)
  exact ⟨(encP l).1, _, Prod.ext rfl h2, rfl, h3, h1⟩

theorem same10_at (p q : Option Addr) (c d n m : Nat) (xs : List Int) (w : World) (hx : IntsIn w p xs) (hy : IntsIn w q xs) (hl : xs.length ≤ maxLen) (hn : xs.length = n) (hm : xs.length = m) :
    Calls Try.prog 20 #[.slice p n c, .slice q m d] w fun e w' => e = .returned (.bool true) ∧ Below w.heap.size w w' := by
  subst hn; subst hm
  have := same_any p q c d xs xs w hx hy hl hl
  rwa [show (xs == xs) = true by simp] at this

/-- The same list as often as one likes, by its name. -/
theorem pts_at (p : Option Addr) (n cap : Nat) (zs xs : List Int) (w : World) (hin : IntsIn w p zs) (hn : Hid (zs.length = n)) (hl : n ≤ 17592186043904) (hX : Hid (ptsF zs = xs)) :
    Calls Try.prog 13 #[.slice p n cap] w (PtsPost xs w) := by
  have := hn.out
  subst this
  exact points10_at p cap zs xs w hin hl hX

/-- An encoding's bytes are bytes. -/
theorem scp_int {l X : List Int} {e : Int} (h : encP l = (X, e)) : ∀ c ∈ X, 0 ≤ c ∧ c < 256 := by
  unfold encP at h
  split at h
  · injection h with h1 h2; rw [← h1]; simp
  · split at h
    · injection h with h1 h2; rw [← h1]; simp
    · rename_i h0 h3
      injection h with h1 h2
      have hs : ∀ c ∈ l, scpB c = true := by
        have : l.all scpB = true := by simpa using h3
        simpa using this
      intro c hc
      rw [← h1] at hc
      rcases List.mem_append.1 hc with hc | hc
      · unfold frontS at hc
        rcases List.mem_append.1 hc with hc | hc
        · have h4 := basS_lt l c hc
          have h5 := scp_bd (hs c (placed_mem _ _ c hc))
          omega
        · split at hc
          · simp at hc
          · simp at hc; omega
      · have := pencL_dig l _ _ _ _ _ _ c hc
        omega

end Go.Proofs.Ytaakdcelbnghoaa
