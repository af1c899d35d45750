/-
  A region that draws its order, whose operations read and whose callees may make memory: the worlds that keep what was there.
-/
import Derived.Test.YtmkaclfjekjabaaDoorTabK
import Derived.BigQuiet
namespace Go.Proofs.YtmkaclfjekjabaaDoor
open Go.RowKit
set_option linter.unusedVariables false

/-- The worlds that keep what was there at w, numbered by worlds. -/
noncomputable def layB (w p : World) : World := @ite _ (Below w.heap.size w p) (Classical.propDecidable _) p w.drew

theorem layB_below (w p : World) : Below w.heap.size w (layB w p) := by
  unfold layB
  by_cases h : Below w.heap.size w p
  · rw [if_pos h]; exact h
  · rw [if_neg h]; exact drew_one w
theorem layB_of {w W : World} (h : Below w.heap.size w W) : W = layB w W := by
  unfold layB; rw [if_pos h]
theorem layB_cell {w : World} {a : Addr} {v : Value} (h : w.cell? a = some v) (p : World) : (layB w p).cell? a = some v :=
  ((layB_below w p).cell (World.block_lt_of_cell? w _ h)).trans h

theorem wp_region_layB {P : Program} {id : Nat} {Q : Exit → Act → World → Prop} {a : Act} {w : World} {l : List Oper} (hm : P.follows .mixedOrders = true) (hB : Region.lexB .any l.toArray = true)
    (h : wpQuiet P l.toArray (fun w' => ∃ p : World, w' = layB w p) (fun a' => ∀ w', (∃ p : World, w' = layB w p) → Q .normal a' w') l a) : (Code.region id l.toArray true).wp P Q a w :=
  wp_region_quiet (C := fun w' => ∃ p : World, w' = layB w p) hm hB ⟨_, layB_of (drew_one w)⟩ (by simpa using h)

/-- A callee under a contract that gives one value in every such world. -/
theorem layB_call {P : Program} {f : FuncId} {args : Array Value} {w p : World} {v : Value} (h : ∀ W, Below w.heap.size w W → Calls P f args W (Gives v W)) :
    Calls P f args (layB w p) fun e w'' => e = .returned v ∧ ∃ q : World, w'' = layB w q :=
  (h _ (layB_below w p)).mono fun _ w'' ⟨he, hb⟩ => ⟨he, w'', layB_of ((layB_below w p).trans (hb.mono (layB_below w p).size))⟩

/-- Behind the first k operations, taken one by one: the others in the order of the text. -/
theorem wpAny_layB {P : Program} {md : Region.Mode} {ops : Array Oper} {Q : Exit → Act → World → Prop} {n : Nat} {listed : Array Bool} {a : Act} {w : World} (k : Nat) (l : List Oper) (hl : ops.toList.drop k = l) (hn : n = l.length)
    (hs : Region.noSelect ops = true) (hB : Region.lexFrom md ops l.length k listed = true)
    (h : wpQuiet P ops (fun w' => ∃ p : World, w' = layB w p) (fun a' => ∀ w', (∃ p : World, w' = layB w p) → Q .normal a' w') l a) : wpAny P md ops Q n listed a w := by
  subst hn
  refine wpAny_of_quiet (C := fun w' => ∃ p : World, w' = layB w p) (Q := fun a' => ∀ w', (∃ p : World, w' = layB w p) → Q .normal a' w') (fun _ w' hw' h => h w' hw') _ _ _ _ ⟨w, layB_of (Below.refl _ _)⟩ ?_
  refine wpAnyQ_lex hs l k listed a (fun j => ?_) hB h
  rw [← hl]; simp

end Go.Proofs.YtmkaclfjekjabaaDoor
