/-
  The references of table: rule 2.
-/
import Derived.Test.YtghmddfenmgncaaDoorSSjTabH
import Derived.Test.YtghmddfenmgncaaDoorSSjRanRefChk
import Derived.Deep.DeepCutAuto
import Derived.Deep.QuietTactic
import Derived.BigQuiet
set_option linter.unusedSimpArgs false
set_option linter.unusedVariables false
namespace Go.Proofs.YtghmddfenmgncaaDoor
open Go.RowKit
set_option linter.unusedVariables false

def SevIn (w : World) (g : Nat) (x : TV) : Prop := ∀ k, k < 7 → w.cell? ⟨g, k, none⟩ = some (spVal x k)
def FourIn (w : World) (g : Nat) (x : TV) : Prop := ∀ k, k < 4 → w.cell? ⟨g, k, none⟩ = some (mpVal x k)
theorem SevIn.below {w w' : World} {g : Nat} {x : TV} (h : SevIn w g x) (hb : Below w.heap.size w w') : SevIn w' g x := fun k hk => (hb.cell (p := ⟨g, k, none⟩) (World.block_lt_of_cell? w _ (h k hk))).trans (h k hk)
theorem FourIn.below {w w' : World} {g : Nat} {x : TV} (h : FourIn w g x) (hb : Below w.heap.size w w') : FourIn w' g x := fun k hk => (hb.cell (p := ⟨g, k, none⟩) (World.block_lt_of_cell? w _ (h k hk))).trans (h k hk)

theorem lit_ints (w : World) (C : Array Value) (xs : List Int) (t : TypeId) (h : C.toList = xs.map (.int .i64)) : IntsIn (w.alloc (.cells C t)) (some ⟨w.heap.size, 0, none⟩) xs := by
  intro k hk
  refine ⟨_, _, rfl, ?_⟩
  rw [Nat.zero_add, World.cell?_alloc_new, ← Array.getElem?_toList, h]
  simp [hk]

/-- The k-th list as the references find it. -/
theorem SevIn.at_ {w0 w : World} {g : Nat} {x : TV} {T : Tb} (h : SevIn w g x) (ht : TabV w0 x T) (k : Nat) (hk : k < 7) :
    ∃ p n c l, (spansT T).getD k [] = l ∧ l.length = n ∧ n ≤ 17592186043904 ∧ SpIn w0 p l ∧ w.cell? ⟨g, k, none⟩ = some (.slice p n c) := by
  obtain ⟨p, c, e, h1, h2⟩ := ht.sp k hk
  exact ⟨p, _, c, _, rfl, rfl, h2, h1, by rw [h k hk, e]⟩
theorem FourIn.at_ {w0 w : World} {g : Nat} {x : TV} {T : Tb} (h : FourIn w g x) (ht : TabV w0 x T) (k : Nat) (hk : k < 4) :
    ∃ p n c l, (mpsT T).getD k [] = l ∧ l.length = n ∧ n ≤ 17592186043904 ∧ MpIn w0 p l ∧ w.cell? ⟨g, k, none⟩ = some (.slice p n c) := by
  obtain ⟨p, c, e, h1, h2⟩ := ht.mp k hk
  exact ⟨p, _, c, _, rfl, rfl, h2, h1, by rw [h k hk, e]⟩

end Go.Proofs.YtghmddfenmgncaaDoor
