/-
  All properties of a code point are those of the reference: the contract of properties (genP.py).
-/
import Derived.Test.YtmkaclfjekjabaaGreatDoorQTblS
import Derived.Test.YtmkaclfjekjabaaGreatDoorQDrawn2
import Derived.Test.YtmkaclfjekjabaaGreatDoorQTabPropW
import Derived.Test.YtmkaclfjekjabaaGreatDoorQTabFix
set_option linter.unusedSimpArgs false
set_option linter.unusedVariables false
namespace Go.Proofs.YtmkaclfjekjabaaGreatDoor
open Go Go.RowKit
set_option linter.unusedVariables false

def kTab (x : TV) : KP := fun v w => v = .agg #[x.a0, x.a1, x.a2, x.a3, x.a4, x.a5, x.a6, x.a7, x.a8, x.a9, x.a10, x.a11]
def kInt (z : Int) : KP := fun v w => v = .int .i64 z
def kBool (b : Bool) : KP := fun v w => v = .bool b
def kList (l : List Int) : KP := fun v w => ∃ p n q, v = .slice p n q ∧ l.length = n ∧ n ≤ 17592186043904 ∧ IntsIn w p l

theorem st_tab (x : TV) : Stable (kTab x) := fun v w w' h _ => h
theorem st_int (z : Int) : Stable (kInt z) := fun v w w' h _ => h
theorem st_bool (b : Bool) : Stable (kBool b) := fun v w w' h _ => h
theorem st_list (l : List Int) : Stable (kList l) := by
  rintro v w w' ⟨p, n, q, e, h1, h2, h3⟩ hk
  exact ⟨p, n, q, e, h1, h2, h3.below hk.belowF⟩

theorem r2_spok {T : Tb} (h : r2 T = true) : spOk T.cat = true ∧ spOk T.cls = true ∧ spOk T.joi = true ∧ spOk T.bid = true ∧ spOk T.scr = true ∧ spOk T.sta = true ∧ spOk T.ign = true := by
  simp only [r2, spansT, Bool.and_eq_true, List.all_cons, List.all_nil] at h
  exact ⟨h.1.1, h.1.2.1, h.1.2.2.1, h.1.2.2.2.1, h.1.2.2.2.2.1, h.1.2.2.2.2.2.1, h.1.2.2.2.2.2.2.1⟩
theorem r3_ign {T : Tb} (h : r3 T = true) : valOk 1 1 T.ign = true := by
  simp only [r3, Bool.and_eq_true] at h
  exact h.2.2.2.2.2.2

theorem same_len (p q : Option Addr) (n m c d : Nat) (l : List Int) (w : World) (h1 : IntsIn w p l) (h2 : IntsIn w q l) (hn : l.length = n) (hm : l.length = m) (hl : n ≤ 17592186043904) :
    Calls Tryz.prog 42 #[.slice p n c, .slice q m d] w (Gives (.bool true) w) := by
  subst hn
  subst hm
  have := same_any p q c d l l w h1 h2 (by unfold maxLen; omega) (by unfold maxLen; omega)
  refine this.mono ?_
  rintro e w' ⟨rfl, hb⟩
  exact ⟨by simp, hb⟩

section
variable {o : Oper} {a : Act} {w : World} {K : Act → World → Prop} {Q : Exit → Act → World → Prop}

theorem pl_move (x : Operand) (ho : o.op = .move x) (v : Value) (hx : a.eval x = v) (h : K (a.put o.dst v) w) : o.wp Tryz.prog a w K Q := by
  unfold Oper.wp execOp
  simp only [ho, hx]
  exact h

set_option maxRecDepth 100000 in
set_option maxHeartbeats 1000000 in
theorem pl_load (s : Nat) (ho : o.op = .load 26 (.tmp s)) (b : Nat) (x : TV) (hx : a.eval (.tmp s) = .pointer (some ⟨b, 0, none⟩)) (hb : BoxT w b x) (h : K (a.put o.dst (.agg #[x.a0, x.a1, x.a2, x.a3, x.a4, x.a5, x.a6, x.a7, x.a8, x.a9, x.a10, x.a11])) w) : o.wp Tryz.prog a w K Q := by
  obtain ⟨⟨k0, k1, k2, k3, k4, k5⟩, ⟨k6, k7, k8, k9, k10, k11⟩⟩ := hb.load
  unfold Oper.wp execOp
  simp only [ho, hx]
  go_simp
  exact h

set_option maxRecDepth 100000 in
theorem pl_call0 (s t : Nat) (ty : Array TypeId) (u v : Value) (R : Ending → World → Prop) (ho : o.op = .call { callee := .value (.func 18), args := #[.tmp s, .tmp t], argTypes := ty }) (hs : a.eval (.tmp s) = u) (ht : a.eval (.tmp t) = v)
    (hc : Calls Tryz.prog 18 #[u, v] w R) (h : ∀ e w', R e w' → ∃ r, e = .returned r ∧ K (a.put o.dst r) w') : o.wp Tryz.prog a w K Q := by
  have hs' : a.tmps[s]?.getD undef = u := by simpa [Act.eval] using hs
  have ht' : a.tmps[t]?.getD undef = v := by simpa [Act.eval] using ht
  clear hs ht
  unfold Oper.wp execOp
  simp only [ho]
  go_simp
  refine hc.mono ?_
  intro e w' hr
  obtain ⟨r, rfl, hk⟩ := h e w' hr
  exact hk

set_option maxRecDepth 100000 in
theorem pl_call1 (s t : Nat) (ty : Array TypeId) (u v : Value) (R : Ending → World → Prop) (ho : o.op = .call { callee := .value (.func 19), args := #[.tmp s, .tmp t], argTypes := ty }) (hs : a.eval (.tmp s) = u) (ht : a.eval (.tmp t) = v)
    (hc : Calls Tryz.prog 19 #[u, v] w R) (h : ∀ e w', R e w' → ∃ r, e = .returned r ∧ K (a.put o.dst r) w') : o.wp Tryz.prog a w K Q := by
  have hs' : a.tmps[s]?.getD undef = u := by simpa [Act.eval] using hs
  have ht' : a.tmps[t]?.getD undef = v := by simpa [Act.eval] using ht
  clear hs ht
  unfold Oper.wp execOp
  simp only [ho]
  go_simp
  refine hc.mono ?_
  intro e w' hr
  obtain ⟨r, rfl, hk⟩ := h e w' hr
  exact hk

set_option maxRecDepth 100000 in
theorem pl_call2 (s t : Nat) (ty : Array TypeId) (u v : Value) (R : Ending → World → Prop) (ho : o.op = .call { callee := .value (.func 20), args := #[.tmp s, .tmp t], argTypes := ty }) (hs : a.eval (.tmp s) = u) (ht : a.eval (.tmp t) = v)
    (hc : Calls Tryz.prog 20 #[u, v] w R) (h : ∀ e w', R e w' → ∃ r, e = .returned r ∧ K (a.put o.dst r) w') : o.wp Tryz.prog a w K Q := by
  have hs' : a.tmps[s]?.getD undef = u := by simpa [Act.eval] using hs
  have ht' : a.tmps[t]?.getD undef = v := by simpa [Act.eval] using ht
  clear hs ht
  unfold Oper.wp execOp
  simp only [ho]
  go_simp
  refine hc.mono ?_
  intro e w' hr
  obtain ⟨r, rfl, hk⟩ := h e w' hr
  exact hk

set_option maxRecDepth 100000 in
theorem pl_call3 (s t : Nat) (ty : Array TypeId) (u v : Value) (R : Ending → World → Prop) (ho : o.op = .call { callee := .value (.func 21), args := #[.tmp s, .tmp t], argTypes := ty }) (hs : a.eval (.tmp s) = u) (ht : a.eval (.tmp t) = v)
    (hc : Calls Tryz.prog 21 #[u, v] w R) (h : ∀ e w', R e w' → ∃ r, e = .returned r ∧ K (a.put o.dst r) w') : o.wp Tryz.prog a w K Q := by
  have hs' : a.tmps[s]?.getD undef = u := by simpa [Act.eval] using hs
  have ht' : a.tmps[t]?.getD undef = v := by simpa [Act.eval] using ht
  clear hs ht
  unfold Oper.wp execOp
  simp only [ho]
  go_simp
  refine hc.mono ?_
  intro e w' hr
  obtain ⟨r, rfl, hk⟩ := h e w' hr
  exact hk

set_option maxRecDepth 100000 in
theorem pl_call4 (s t : Nat) (ty : Array TypeId) (u v : Value) (R : Ending → World → Prop) (ho : o.op = .call { callee := .value (.func 22), args := #[.tmp s, .tmp t], argTypes := ty }) (hs : a.eval (.tmp s) = u) (ht : a.eval (.tmp t) = v)
    (hc : Calls Tryz.prog 22 #[u, v] w R) (h : ∀ e w', R e w' → ∃ r, e = .returned r ∧ K (a.put o.dst r) w') : o.wp Tryz.prog a w K Q := by
  have hs' : a.tmps[s]?.getD undef = u := by simpa [Act.eval] using hs
  have ht' : a.tmps[t]?.getD undef = v := by simpa [Act.eval] using ht
  clear hs ht
  unfold Oper.wp execOp
  simp only [ho]
  go_simp
  refine hc.mono ?_
  intro e w' hr
  obtain ⟨r, rfl, hk⟩ := h e w' hr
  exact hk

set_option maxRecDepth 100000 in
theorem pl_call5 (s t : Nat) (ty : Array TypeId) (u v : Value) (R : Ending → World → Prop) (ho : o.op = .call { callee := .value (.func 23), args := #[.tmp s, .tmp t], argTypes := ty }) (hs : a.eval (.tmp s) = u) (ht : a.eval (.tmp t) = v)
    (hc : Calls Tryz.prog 23 #[u, v] w R) (h : ∀ e w', R e w' → ∃ r, e = .returned r ∧ K (a.put o.dst r) w') : o.wp Tryz.prog a w K Q := by
  have hs' : a.tmps[s]?.getD undef = u := by simpa [Act.eval] using hs
  have ht' : a.tmps[t]?.getD undef = v := by simpa [Act.eval] using ht
  clear hs ht
  unfold Oper.wp execOp
  simp only [ho]
  go_simp
  refine hc.mono ?_
  intro e w' hr
  obtain ⟨r, rfl, hk⟩ := h e w' hr
  exact hk

set_option maxRecDepth 100000 in
theorem pl_call6 (s t : Nat) (ty : Array TypeId) (u v : Value) (R : Ending → World → Prop) (ho : o.op = .call { callee := .value (.func 24), args := #[.tmp s, .tmp t], argTypes := ty }) (hs : a.eval (.tmp s) = u) (ht : a.eval (.tmp t) = v)
    (hc : Calls Tryz.prog 24 #[u, v] w R) (h : ∀ e w', R e w' → ∃ r, e = .returned r ∧ K (a.put o.dst r) w') : o.wp Tryz.prog a w K Q := by
  have hs' : a.tmps[s]?.getD undef = u := by simpa [Act.eval] using hs
  have ht' : a.tmps[t]?.getD undef = v := by simpa [Act.eval] using ht
  clear hs ht
  unfold Oper.wp execOp
  simp only [ho]
  go_simp
  refine hc.mono ?_
  intro e w' hr
  obtain ⟨r, rfl, hk⟩ := h e w' hr
  exact hk

set_option maxRecDepth 100000 in
theorem pl_call7 (s t : Nat) (ty : Array TypeId) (u v : Value) (R : Ending → World → Prop) (ho : o.op = .call { callee := .value (.func 70), args := #[.tmp s, .tmp t], argTypes := ty }) (hs : a.eval (.tmp s) = u) (ht : a.eval (.tmp t) = v)
    (hc : Calls Tryz.prog 70 #[u, v] w R) (h : ∀ e w', R e w' → ∃ r, e = .returned r ∧ K (a.put o.dst r) w') : o.wp Tryz.prog a w K Q := by
  have hs' : a.tmps[s]?.getD undef = u := by simpa [Act.eval] using hs
  have ht' : a.tmps[t]?.getD undef = v := by simpa [Act.eval] using ht
  clear hs ht
  unfold Oper.wp execOp
  simp only [ho]
  go_simp
  refine hc.mono ?_
  intro e w' hr
  obtain ⟨r, rfl, hk⟩ := h e w' hr
  exact hk

set_option maxRecDepth 100000 in
theorem pl_call8 (s t : Nat) (ty : Array TypeId) (u v : Value) (R : Ending → World → Prop) (ho : o.op = .call { callee := .value (.func 64), args := #[.tmp s, .tmp t], argTypes := ty }) (hs : a.eval (.tmp s) = u) (ht : a.eval (.tmp t) = v)
    (hc : Calls Tryz.prog 64 #[u, v] w R) (h : ∀ e w', R e w' → ∃ r, e = .returned r ∧ K (a.put o.dst r) w') : o.wp Tryz.prog a w K Q := by
  have hs' : a.tmps[s]?.getD undef = u := by simpa [Act.eval] using hs
  have ht' : a.tmps[t]?.getD undef = v := by simpa [Act.eval] using ht
  clear hs ht
  unfold Oper.wp execOp
  simp only [ho]
  go_simp
  refine hc.mono ?_
  intro e w' hr
  obtain ⟨r, rfl, hk⟩ := h e w' hr
  exact hk

set_option maxRecDepth 100000 in
theorem pl_call9 (s t : Nat) (ty : Array TypeId) (u v : Value) (R : Ending → World → Prop) (ho : o.op = .call { callee := .value (.func 65), args := #[.tmp s, .tmp t], argTypes := ty }) (hs : a.eval (.tmp s) = u) (ht : a.eval (.tmp t) = v)
    (hc : Calls Tryz.prog 65 #[u, v] w R) (h : ∀ e w', R e w' → ∃ r, e = .returned r ∧ K (a.put o.dst r) w') : o.wp Tryz.prog a w K Q := by
  have hs' : a.tmps[s]?.getD undef = u := by simpa [Act.eval] using hs
  have ht' : a.tmps[t]?.getD undef = v := by simpa [Act.eval] using ht
  clear hs ht
  unfold Oper.wp execOp
  simp only [ho]
  go_simp
  refine hc.mono ?_
  intro e w' hr
  obtain ⟨r, rfl, hk⟩ := h e w' hr
  exact hk

set_option maxRecDepth 100000 in
theorem pl_call10 (s t : Nat) (ty : Array TypeId) (u v : Value) (R : Ending → World → Prop) (ho : o.op = .call { callee := .value (.func 66), args := #[.tmp s, .tmp t], argTypes := ty }) (hs : a.eval (.tmp s) = u) (ht : a.eval (.tmp t) = v)
    (hc : Calls Tryz.prog 66 #[u, v] w R) (h : ∀ e w', R e w' → ∃ r, e = .returned r ∧ K (a.put o.dst r) w') : o.wp Tryz.prog a w K Q := by
  have hs' : a.tmps[s]?.getD undef = u := by simpa [Act.eval] using hs
  have ht' : a.tmps[t]?.getD undef = v := by simpa [Act.eval] using ht
  clear hs ht
  unfold Oper.wp execOp
  simp only [ho]
  go_simp
  refine hc.mono ?_
  intro e w' hr
  obtain ⟨r, rfl, hk⟩ := h e w' hr
  exact hk

set_option maxRecDepth 100000 in
theorem pl_call11 (s t : Nat) (ty : Array TypeId) (u v : Value) (R : Ending → World → Prop) (ho : o.op = .call { callee := .value (.func 67), args := #[.tmp s, .tmp t], argTypes := ty }) (hs : a.eval (.tmp s) = u) (ht : a.eval (.tmp t) = v)
    (hc : Calls Tryz.prog 67 #[u, v] w R) (h : ∀ e w', R e w' → ∃ r, e = .returned r ∧ K (a.put o.dst r) w') : o.wp Tryz.prog a w K Q := by
  have hs' : a.tmps[s]?.getD undef = u := by simpa [Act.eval] using hs
  have ht' : a.tmps[t]?.getD undef = v := by simpa [Act.eval] using ht
  clear hs ht
  unfold Oper.wp execOp
  simp only [ho]
  go_simp
  refine hc.mono ?_
  intro e w' hr
  obtain ⟨r, rfl, hk⟩ := h e w' hr
  exact hk

set_option maxRecDepth 100000 in
theorem pl_call12 (s t : Nat) (ty : Array TypeId) (u v : Value) (R : Ending → World → Prop) (ho : o.op = .call { callee := .value (.func 68), args := #[.tmp s, .tmp t], argTypes := ty }) (hs : a.eval (.tmp s) = u) (ht : a.eval (.tmp t) = v)
    (hc : Calls Tryz.prog 68 #[u, v] w R) (h : ∀ e w', R e w' → ∃ r, e = .returned r ∧ K (a.put o.dst r) w') : o.wp Tryz.prog a w K Q := by
  have hs' : a.tmps[s]?.getD undef = u := by simpa [Act.eval] using hs
  have ht' : a.tmps[t]?.getD undef = v := by simpa [Act.eval] using ht
  clear hs ht
  unfold Oper.wp execOp
  simp only [ho]
  go_simp
  refine hc.mono ?_
  intro e w' hr
  obtain ⟨r, rfl, hk⟩ := h e w' hr
  exact hk

set_option maxRecDepth 100000 in
theorem pl_call13 (s t : Nat) (ty : Array TypeId) (u v : Value) (R : Ending → World → Prop) (ho : o.op = .call { callee := .value (.func 69), args := #[.tmp s, .tmp t], argTypes := ty }) (hs : a.eval (.tmp s) = u) (ht : a.eval (.tmp t) = v)
    (hc : Calls Tryz.prog 69 #[u, v] w R) (h : ∀ e w', R e w' → ∃ r, e = .returned r ∧ K (a.put o.dst r) w') : o.wp Tryz.prog a w K Q := by
  have hs' : a.tmps[s]?.getD undef = u := by simpa [Act.eval] using hs
  have ht' : a.tmps[t]?.getD undef = v := by simpa [Act.eval] using ht
  clear hs ht
  unfold Oper.wp execOp
  simp only [ho]
  go_simp
  refine hc.mono ?_
  intro e w' hr
  obtain ⟨r, rfl, hk⟩ := h e w' hr
  exact hk

set_option maxRecDepth 100000 in
theorem pl_call14 (s t : Nat) (ty : Array TypeId) (u v : Value) (R : Ending → World → Prop) (ho : o.op = .call { callee := .value (.func 61), args := #[.tmp s, .tmp t], argTypes := ty }) (hs : a.eval (.tmp s) = u) (ht : a.eval (.tmp t) = v)
    (hc : Calls Tryz.prog 61 #[u, v] w R) (h : ∀ e w', R e w' → ∃ r, e = .returned r ∧ K (a.put o.dst r) w') : o.wp Tryz.prog a w K Q := by
  have hs' : a.tmps[s]?.getD undef = u := by simpa [Act.eval] using hs
  have ht' : a.tmps[t]?.getD undef = v := by simpa [Act.eval] using ht
  clear hs ht
  unfold Oper.wp execOp
  simp only [ho]
  go_simp
  refine hc.mono ?_
  intro e w' hr
  obtain ⟨r, rfl, hk⟩ := h e w' hr
  exact hk

set_option maxRecDepth 100000 in
theorem pl_call15 (s t : Nat) (ty : Array TypeId) (u v : Value) (R : Ending → World → Prop) (ho : o.op = .call { callee := .value (.func 71), args := #[.tmp s, .tmp t], argTypes := ty }) (hs : a.eval (.tmp s) = u) (ht : a.eval (.tmp t) = v)
    (hc : Calls Tryz.prog 71 #[u, v] w R) (h : ∀ e w', R e w' → ∃ r, e = .returned r ∧ K (a.put o.dst r) w') : o.wp Tryz.prog a w K Q := by
  have hs' : a.tmps[s]?.getD undef = u := by simpa [Act.eval] using hs
  have ht' : a.tmps[t]?.getD undef = v := by simpa [Act.eval] using ht
  clear hs ht
  unfold Oper.wp execOp
  simp only [ho]
  go_simp
  refine hc.mono ?_
  intro e w' hr
  obtain ⟨r, rfl, hk⟩ := h e w' hr
  exact hk

set_option maxRecDepth 100000 in
theorem pl_call16 (s t : Nat) (ty : Array TypeId) (u v : Value) (R : Ending → World → Prop) (ho : o.op = .call { callee := .value (.func 72), args := #[.tmp s, .tmp t], argTypes := ty }) (hs : a.eval (.tmp s) = u) (ht : a.eval (.tmp t) = v)
    (hc : Calls Tryz.prog 72 #[u, v] w R) (h : ∀ e w', R e w' → ∃ r, e = .returned r ∧ K (a.put o.dst r) w') : o.wp Tryz.prog a w K Q := by
  have hs' : a.tmps[s]?.getD undef = u := by simpa [Act.eval] using hs
  have ht' : a.tmps[t]?.getD undef = v := by simpa [Act.eval] using ht
  clear hs ht
  unfold Oper.wp execOp
  simp only [ho]
  go_simp
  refine hc.mono ?_
  intro e w' hr
  obtain ⟨r, rfl, hk⟩ := h e w' hr
  exact hk

set_option maxRecDepth 100000 in
theorem pl_call17 (s t : Nat) (ty : Array TypeId) (u v : Value) (R : Ending → World → Prop) (ho : o.op = .call { callee := .value (.func 43), args := #[.tmp s, .tmp t], argTypes := ty }) (hs : a.eval (.tmp s) = u) (ht : a.eval (.tmp t) = v)
    (hc : Calls Tryz.prog 43 #[u, v] w R) (h : ∀ e w', R e w' → ∃ r, e = .returned r ∧ K (a.put o.dst r) w') : o.wp Tryz.prog a w K Q := by
  have hs' : a.tmps[s]?.getD undef = u := by simpa [Act.eval] using hs
  have ht' : a.tmps[t]?.getD undef = v := by simpa [Act.eval] using ht
  clear hs ht
  unfold Oper.wp execOp
  simp only [ho]
  go_simp
  refine hc.mono ?_
  intro e w' hr
  obtain ⟨r, rfl, hk⟩ := h e w' hr
  exact hk

set_option maxRecDepth 100000 in
theorem pl_call18 (s t : Nat) (ty : Array TypeId) (u v : Value) (R : Ending → World → Prop) (ho : o.op = .call { callee := .value (.func 25), args := #[.tmp s, .tmp t], argTypes := ty }) (hs : a.eval (.tmp s) = u) (ht : a.eval (.tmp t) = v)
    (hc : Calls Tryz.prog 25 #[u, v] w R) (h : ∀ e w', R e w' → ∃ r, e = .returned r ∧ K (a.put o.dst r) w') : o.wp Tryz.prog a w K Q := by
  have hs' : a.tmps[s]?.getD undef = u := by simpa [Act.eval] using hs
  have ht' : a.tmps[t]?.getD undef = v := by simpa [Act.eval] using ht
  clear hs ht
  unfold Oper.wp execOp
  simp only [ho]
  go_simp
  refine hc.mono ?_
  intro e w' hr
  obtain ⟨r, rfl, hk⟩ := h e w' hr
  exact hk

set_option maxRecDepth 100000 in
theorem pl_call19 (s t : Nat) (ty : Array TypeId) (u v : Value) (R : Ending → World → Prop) (ho : o.op = .call { callee := .value (.func 76), args := #[.tmp s, .tmp t], argTypes := ty }) (hs : a.eval (.tmp s) = u) (ht : a.eval (.tmp t) = v)
    (hc : Calls Tryz.prog 76 #[u, v] w R) (h : ∀ e w', R e w' → ∃ r, e = .returned r ∧ K (a.put o.dst r) w') : o.wp Tryz.prog a w K Q := by
  have hs' : a.tmps[s]?.getD undef = u := by simpa [Act.eval] using hs
  have ht' : a.tmps[t]?.getD undef = v := by simpa [Act.eval] using ht
  clear hs ht
  unfold Oper.wp execOp
  simp only [ho]
  go_simp
  refine hc.mono ?_
  intro e w' hr
  obtain ⟨r, rfl, hk⟩ := h e w' hr
  exact hk

set_option maxRecDepth 100000 in
theorem pl_call20 (s t : Nat) (ty : Array TypeId) (u v : Value) (R : Ending → World → Prop) (ho : o.op = .call { callee := .value (.func 73), args := #[.tmp s, .tmp t], argTypes := ty }) (hs : a.eval (.tmp s) = u) (ht : a.eval (.tmp t) = v)
    (hc : Calls Tryz.prog 73 #[u, v] w R) (h : ∀ e w', R e w' → ∃ r, e = .returned r ∧ K (a.put o.dst r) w') : o.wp Tryz.prog a w K Q := by
  have hs' : a.tmps[s]?.getD undef = u := by simpa [Act.eval] using hs
  have ht' : a.tmps[t]?.getD undef = v := by simpa [Act.eval] using ht
  clear hs ht
  unfold Oper.wp execOp
  simp only [ho]
  go_simp
  refine hc.mono ?_
  intro e w' hr
  obtain ⟨r, rfl, hk⟩ := h e w' hr
  exact hk

set_option maxRecDepth 100000 in
theorem pl_call21 (s t : Nat) (ty : Array TypeId) (u v : Value) (R : Ending → World → Prop) (ho : o.op = .call { callee := .value (.func 74), args := #[.tmp s, .tmp t], argTypes := ty }) (hs : a.eval (.tmp s) = u) (ht : a.eval (.tmp t) = v)
    (hc : Calls Tryz.prog 74 #[u, v] w R) (h : ∀ e w', R e w' → ∃ r, e = .returned r ∧ K (a.put o.dst r) w') : o.wp Tryz.prog a w K Q := by
  have hs' : a.tmps[s]?.getD undef = u := by simpa [Act.eval] using hs
  have ht' : a.tmps[t]?.getD undef = v := by simpa [Act.eval] using ht
  clear hs ht
  unfold Oper.wp execOp
  simp only [ho]
  go_simp
  refine hc.mono ?_
  intro e w' hr
  obtain ⟨r, rfl, hk⟩ := h e w' hr
  exact hk

set_option maxRecDepth 100000 in
theorem pl_call22 (s t : Nat) (ty : Array TypeId) (u v : Value) (R : Ending → World → Prop) (ho : o.op = .call { callee := .value (.func 75), args := #[.tmp s, .tmp t], argTypes := ty }) (hs : a.eval (.tmp s) = u) (ht : a.eval (.tmp t) = v)
    (hc : Calls Tryz.prog 75 #[u, v] w R) (h : ∀ e w', R e w' → ∃ r, e = .returned r ∧ K (a.put o.dst r) w') : o.wp Tryz.prog a w K Q := by
  have hs' : a.tmps[s]?.getD undef = u := by simpa [Act.eval] using hs
  have ht' : a.tmps[t]?.getD undef = v := by simpa [Act.eval] using ht
  clear hs ht
  unfold Oper.wp execOp
  simp only [ho]
  go_simp
  refine hc.mono ?_
  intro e w' hr
  obtain ⟨r, rfl, hk⟩ := h e w' hr
  exact hk

set_option maxRecDepth 100000 in
theorem pl_call23 (s t : Nat) (ty : Array TypeId) (u v : Value) (R : Ending → World → Prop) (ho : o.op = .call { callee := .value (.func 77), args := #[.tmp s, .tmp t], argTypes := ty }) (hs : a.eval (.tmp s) = u) (ht : a.eval (.tmp t) = v)
    (hc : Calls Tryz.prog 77 #[u, v] w R) (h : ∀ e w', R e w' → ∃ r, e = .returned r ∧ K (a.put o.dst r) w') : o.wp Tryz.prog a w K Q := by
  have hs' : a.tmps[s]?.getD undef = u := by simpa [Act.eval] using hs
  have ht' : a.tmps[t]?.getD undef = v := by simpa [Act.eval] using ht
  clear hs ht
  unfold Oper.wp execOp
  simp only [ho]
  go_simp
  refine hc.mono ?_
  intro e w' hr
  obtain ⟨r, rfl, hk⟩ := h e w' hr
  exact hk

set_option maxRecDepth 100000 in
theorem pl_call24 (s t : Nat) (ty : Array TypeId) (u v : Value) (R : Ending → World → Prop) (ho : o.op = .call { callee := .value (.func 42), args := #[.tmp s, .tmp t], argTypes := ty }) (hs : a.eval (.tmp s) = u) (ht : a.eval (.tmp t) = v)
    (hc : Calls Tryz.prog 42 #[u, v] w R) (h : ∀ e w', R e w' → ∃ r, e = .returned r ∧ K (a.put o.dst r) w') : o.wp Tryz.prog a w K Q := by
  have hs' : a.tmps[s]?.getD undef = u := by simpa [Act.eval] using hs
  have ht' : a.tmps[t]?.getD undef = v := by simpa [Act.eval] using ht
  clear hs ht
  unfold Oper.wp execOp
  simp only [ho]
  go_simp
  refine hc.mono ?_
  intro e w' hr
  obtain ⟨r, rfl, hk⟩ := h e w' hr
  exact hk

theorem pl_eqI (s t : Nat) (z : Int) (ho : o.op = .binOp .eql 3 (.tmp s) (.tmp t) 3) (hs : a.eval (.tmp s) = .int .i64 z) (ht : a.eval (.tmp t) = .int .i64 z) (h : K (a.put o.dst (.bool true)) w) : o.wp Tryz.prog a w K Q := by
  have hs' : a.tmps[s]?.getD undef = .int .i64 z := by simpa [Act.eval] using hs
  have ht' : a.tmps[t]?.getD undef = .int .i64 z := by simpa [Act.eval] using ht
  clear hs ht
  unfold Oper.wp execOp
  simp only [ho]
  go_simp
  exact h

theorem pl_eqB (s t : Nat) (z : Bool) (ho : o.op = .binOp .eql 4 (.tmp s) (.tmp t) 4) (hs : a.eval (.tmp s) = .bool z) (ht : a.eval (.tmp t) = .bool z) (h : K (a.put o.dst (.bool true)) w) : o.wp Tryz.prog a w K Q := by
  have hs' : a.tmps[s]?.getD undef = .bool z := by simpa [Act.eval] using hs
  have ht' : a.tmps[t]?.getD undef = .bool z := by simpa [Act.eval] using ht
  clear hs ht
  unfold Oper.wp execOp
  simp only [ho]
  go_simp
  exact h

theorem pl_pick (s t : Nat) (y : Operand) (ho : o.op = .pick (.tmp s) (.tmp t) y) (hs : a.eval (.tmp s) = .bool true) (ht : a.eval (.tmp t) = .bool true) (h : K (a.put o.dst (.bool true)) w) : o.wp Tryz.prog a w K Q := by
  have hs' : a.tmps[s]?.getD undef = .bool true := by simpa [Act.eval] using hs
  have ht' : a.tmps[t]?.getD undef = .bool true := by simpa [Act.eval] using ht
  clear hs ht
  unfold Oper.wp execOp
  simp only [ho]
  go_simp
  exact h
end

def propK (x : TV) (c z1 z2 z3 z4 z5 z6 : Int) (z7 z8 : Bool) (l9 l10 l11 l12 : List Int) : List KP := [kTab x, kInt c, kInt z1, kTab x, kInt c, kInt z1, kBool true, kBool true, kTab x, kInt c, kInt z2, kTab x, kInt c, kInt z2, kBool true, kBool true, kBool true, kTab x, kInt c, kInt z3, kTab x, kInt c, kInt z3, kBool true, kBool true, kBool true, kTab x, kInt c, kInt z4, kTab x, kInt c, kInt z4, kBool true, kBool true, kBool true, kTab x, kInt c, kInt z5, kTab x, kInt c, kInt z5, kBool true, kBool true, kBool true, kTab x, kInt c, kInt z6, kTab x, kInt c, kInt z6, kBool true, kBool true, kBool true, kTab x, kInt c, kBool z7, kTab x, kInt c, kBool z7, kBool true, kBool true, kBool true, kTab x, kInt c, kBool z8, kTab x, kInt c, kBool z8, kBool true, kBool true, kBool true, kTab x, kInt c, kList l9, kTab x, kInt c, kList l9, kBool true, kBool true, kBool true, kTab x, kInt c, kList l10, kTab x, kInt c, kList l10, kBool true, kBool true, kBool true, kTab x, kInt c, kList l11, kTab x, kInt c, kList l11, kBool true, kBool true, kBool true, kTab x, kInt c, kList l12, kTab x, kInt c, kList l12, kBool true, kBool true]

theorem stable_nil : ∀ Q ∈ ([] : List KP), Stable Q := fun Q h => by cases h
theorem stable_cons {P : KP} {l : List KP} (h : Stable P) (hl : ∀ Q ∈ l, Stable Q) : ∀ Q ∈ P :: l, Stable Q := by
  intro Q hQ
  rcases List.mem_cons.1 hQ with rfl | hQ
  · exact h
  · exact hl Q hQ
theorem put_at (a : Act) (s : Nat) (v : Value) (h : s < a.tmps.size) : (a.put (some s) v).tmps.getD s undef = v := by simp [Act.put, h]

set_option maxRecDepth 100000 in
theorem propK_stable (x : TV) (c z1 z2 z3 z4 z5 z6 : Int) (z7 z8 : Bool) (l9 l10 l11 l12 : List Int) : ∀ P ∈ propK x c z1 z2 z3 z4 z5 z6 z7 z8 l9 l10 l11 l12, Stable P := by
  exact stable_cons (st_tab _) (stable_cons (st_int _) (stable_cons (st_int _) (stable_cons (st_tab _) (stable_cons (st_int _) (stable_cons (st_int _) (stable_cons (st_bool _) (stable_cons (st_bool _) (stable_cons (st_tab _) (stable_cons (st_int _) (stable_cons (st_int _) (stable_cons (st_tab _) (stable_cons (st_int _) (stable_cons (st_int _) (stable_cons (st_bool _) (stable_cons (st_bool _) (stable_cons (st_bool _) (stable_cons (st_tab _) (stable_cons (st_int _) (stable_cons (st_int _) (stable_cons (st_tab _) (stable_cons (st_int _) (stable_cons (st_int _) (stable_cons (st_bool _) (stable_cons (st_bool _) (stable_cons (st_bool _) (stable_cons (st_tab _) (stable_cons (st_int _) (stable_cons (st_int _) (stable_cons (st_tab _) (stable_cons (st_int _) (stable_cons (st_int _) (stable_cons (st_bool _) (stable_cons (st_bool _) (stable_cons (st_bool _) (stable_cons (st_tab _) (stable_cons (st_int _) (stable_cons (st_int _) (stable_cons (st_tab _) (stable_cons (st_int _) (stable_cons (st_int _) (stable_cons (st_bool _) (stable_cons (st_bool _) (stable_cons (st_bool _) (stable_cons (st_tab _) (stable_cons (st_int _) (stable_cons (st_int _) (stable_cons (st_tab _) (stable_cons (st_int _) (stable_cons (st_int _) (stable_cons (st_bool _) (stable_cons (st_bool _) (stable_cons (st_bool _) (stable_cons (st_tab _) (stable_cons (st_int _) (stable_cons (st_bool _) (stable_cons (st_tab _) (stable_cons (st_int _) (stable_cons (st_bool _) (stable_cons (st_bool _) (stable_cons (st_bool _) (stable_cons (st_bool _) (stable_cons (st_tab _) (stable_cons (st_int _) (stable_cons (st_bool _) (stable_cons (st_tab _) (stable_cons (st_int _) (stable_cons (st_bool _) (stable_cons (st_bool _) (stable_cons (st_bool _) (stable_cons (st_bool _) (stable_cons (st_tab _) (stable_cons (st_int _) (stable_cons (st_list _) (stable_cons (st_tab _) (stable_cons (st_int _) (stable_cons (st_list _) (stable_cons (st_bool _) (stable_cons (st_bool _) (stable_cons (st_bool _) (stable_cons (st_tab _) (stable_cons (st_int _) (stable_cons (st_list _) (stable_cons (st_tab _) (stable_cons (st_int _) (stable_cons (st_list _) (stable_cons (st_bool _) (stable_cons (st_bool _) (stable_cons (st_bool _) (stable_cons (st_tab _) (stable_cons (st_int _) (stable_cons (st_list _) (stable_cons (st_tab _) (stable_cons (st_int _) (stable_cons (st_list _) (stable_cons (st_bool _) (stable_cons (st_bool _) (stable_cons (st_bool _) (stable_cons (st_tab _) (stable_cons (st_int _) (stable_cons (st_list _) (stable_cons (st_tab _) (stable_cons (st_int _) (stable_cons (st_list _) (stable_cons (st_bool _) (stable_cons (st_bool _) (stable_nil))))))))))))))))))))))))))))))))))))))))))))))))))))))))))))))))))))))))))))))))))))))))))))))))))))))))))

theorem lit_true (j : Nat) (hj : j < 106) : (#[true, true, true, true, true, true, true, true, true, true, true, true, true, true, true, true, true, true, true, true, true, true, true, true, true, true, true, true, true, true, true, true, true, true, true, true, true, true, true, true, true, true, true, true, true, true, true, true, true, true, true, true, true, true, true, true, true, true, true, true, true, true, true, true, true, true, true, true, true, true, true, true, true, true, true, true, true, true, true, true, true, true, true, true, true, true, true, true, true, true, true, true, true, true, true, true, true, true, true, true, true, true, true, true, true, true, false] : Array Bool).getD j true = true := by
  have h : ∀ k : Fin 106, (#[true, true, true, true, true, true, true, true, true, true, true, true, true, true, true, true, true, true, true, true, true, true, true, true, true, true, true, true, true, true, true, true, true, true, true, true, true, true, true, true, true, true, true, true, true, true, true, true, true, true, true, true, true, true, true, true, true, true, true, true, true, true, true, true, true, true, true, true, true, true, true, true, true, true, true, true, true, true, true, true, true, true, true, true, true, true, true, true, true, true, true, true, true, true, true, true, true, true, true, true, true, true, true, true, true, true, false] : Array Bool).getD k.val true = true := by decide +kernel
  exact h ⟨j, hj⟩

theorem pl_assign {o : Oper} {a : Act} {w : World} {K : Act → World → Prop} {Q : Exit → Act → World → Prop} (x : Operand) (ho : o.op = .assign x) (v : Value) (hx : a.eval x = v) (h : K (a.put o.dst v) w) : o.wp Tryz.prog a w K Q := by
  unfold Oper.wp execOp
  simp only [ho, hx]
  exact h

set_option maxRecDepth 100000 in
set_option maxHeartbeats 16000000 in
theorem properties_ok : PropOk := by
  intro x T c w hx h
  obtain ⟨_, h2, h3, _⟩ := check0 h
  have HSP := Lib.hid (r2_sp h2)
  have HOK := Lib.hid (r2_spok h2)
  have HKY := Lib.hid (r2_key h2)
  have HIG := Lib.hid (r3_ign h3)
  have HE0 := Lib.hid (Env.new hx)
  clear hx h h2 h3
  obtain ⟨z1, H1⟩ : ∃ z, Hid (catT T c = z) := ⟨_, rfl⟩
  obtain ⟨z2, H2⟩ : ∃ z, Hid (clsT T c = z) := ⟨_, rfl⟩
  obtain ⟨z3, H3⟩ : ∃ z, Hid (joiT T c = z) := ⟨_, rfl⟩
  obtain ⟨z4, H4⟩ : ∃ z, Hid (bidT T c = z) := ⟨_, rfl⟩
  obtain ⟨z5, H5⟩ : ∃ z, Hid (scrT T c = z) := ⟨_, rfl⟩
  obtain ⟨z6, H6⟩ : ∃ z, Hid (staT T c = z) := ⟨_, rfl⟩
  obtain ⟨z7, H7⟩ : ∃ z, Hid (ignT T c = z) := ⟨_, rfl⟩
  obtain ⟨z8, H8⟩ : ∃ z, Hid (excT T c = z) := ⟨_, rfl⟩
  obtain ⟨l9, H9⟩ : ∃ z, Hid (findM T.ext c = z) := ⟨_, rfl⟩
  obtain ⟨l10, H10⟩ : ∃ z, Hid (mapsT T c = z) := ⟨_, rfl⟩
  obtain ⟨l11, H11⟩ : ∃ z, Hid (findM T.dec c = z) := ⟨_, rfl⟩
  obtain ⟨l12, H12⟩ : ∃ z, Hid (findM T.pro c = z) := ⟨_, rfl⟩
  simp only [TV.agg]
  go_enter Tryz.func16, Tryz.ntmps16
  go_upto_region 1 with (fail)
  simp only [List.append_eq, List.cons_append, List.nil_append]
  refine wp_region_any (by kernel_rfl) ?_
  change wpAny _ _ _ _ (106 + 1) _ _ (World.drew _)
  generalize ha : ({ tmps := _, defers := [] } : Act) = a0
  have sd : a0.defers = [] := by rw [← ha]
  have s1 : a0.tmps.getD 1 undef = .int .i64 c := by rw [← ha]; rfl
  have s2 : a0.tmps.getD 2 undef = .pointer (some ⟨w.heap.size, 0, none⟩) := by rw [← ha]; rfl
  have ss : 5 + (propK x c z1 z2 z3 z4 z5 z6 z7 z8 l9 l10 l11 l12).length ≤ a0.tmps.size := by rw [← ha]; exact Nat.le_of_eq rfl
  have s0 : a0 = putsA a0 5 (List.replicate 106 undef) := by rw [← ha]; kernel_rfl
  obtain ⟨W, hW⟩ : ∃ W, W = w.alloc (.cells (tabCells x) 26) := ⟨_, rfl⟩
  rw [← hW] at HE0
  simp only [tabCells] at hW
  rw [← hW]
  clear hW
  have hst := propK_stable x c z1 z2 z3 z4 z5 z6 z7 z8 l9 l10 l11 l12
  have hll : (propK x c z1 z2 z3 z4 z5 z6 z7 z8 l9 l10 l11 l12).length = 106 := rfl
  generalize hKS : propK x c z1 z2 z3 z4 z5 z6 z7 z8 l9 l10 l11 l12 = KS at hst ss hll
  refine wpAny_stage 106 (Array.replicate 107 false) #[true, true, true, true, true, true, true, true, true, true, true, true, true, true, true, true, true, true, true, true, true, true, true, true, true, true, true, true, true, true, true, true, true, true, true, true, true, true, true, true, true, true, true, true, true, true, true, true, true, true, true, true, true, true, true, true, true, true, true, true, true, true, true, true, true, true, true, true, true, true, true, true, true, true, true, true, true, true, true, true, true, true, true, true, true, true, true, true, true, true, true, true, true, true, true, true, true, true, true, true, true, true, true, true, true, true, false] (JL a0 5 W KS) 1 (by decide) (by kernel_rfl) (by kernel_rfl) (by kernel_rfl) rfl (fun j hj => ?_) (fun t ht => ?_) ?_ ?_ 106 _ _ _ ⟨rfl, fun j oj hj ho hl => ?_, fun t _ => ?_⟩ (by decide +kernel) ?_
  · exact lit_true j hj
  · rcases Nat.lt_or_ge t 107 with h | h
    · obtain rfl : t = 106 := by omega
      rfl
    · rw [Array.getD_eq_getD_getElem?, Array.getD_eq_getD_getElem?, Array.getElem?_eq_none (by simpa using h), Array.getElem?_eq_none (by simpa using h)]
  · clear ha s0
    intro d a wz j o hj ho hd hdep hJ
    obtain ⟨xs, hxl, rfl, hkW, hR⟩ := hJ
    have hW := HE0.out.step hkW.belowF
    have HT := hW.tab
    have HBX := hW.box
    rw [hll] at hxl
    have hjs : j = 0 ∨ j = 1 ∨ j = 2 ∨ j = 3 ∨ j = 4 ∨ j = 5 ∨ j = 6 ∨ j = 7 ∨ j = 8 ∨ j = 9 ∨ j = 10 ∨ j = 11 ∨ j = 12 ∨ j = 13 ∨ j = 14 ∨ j = 15 ∨ j = 16 ∨ j = 17 ∨ j = 18 ∨ j = 19 ∨ j = 20 ∨ j = 21 ∨ j = 22 ∨ j = 23 ∨ j = 24 ∨ j = 25 ∨ j = 26 ∨ j = 27 ∨ j = 28 ∨ j = 29 ∨ j = 30 ∨ j = 31 ∨ j = 32 ∨ j = 33 ∨ j = 34 ∨ j = 35 ∨ j = 36 ∨ j = 37 ∨ j = 38 ∨ j = 39 ∨ j = 40 ∨ j = 41 ∨ j = 42 ∨ j = 43 ∨ j = 44 ∨ j = 45 ∨ j = 46 ∨ j = 47 ∨ j = 48 ∨ j = 49 ∨ j = 50 ∨ j = 51 ∨ j = 52 ∨ j = 53 ∨ j = 54 ∨ j = 55 ∨ j = 56 ∨ j = 57 ∨ j = 58 ∨ j = 59 ∨ j = 60 ∨ j = 61 ∨ j = 62 ∨ j = 63 ∨ j = 64 ∨ j = 65 ∨ j = 66 ∨ j = 67 ∨ j = 68 ∨ j = 69 ∨ j = 70 ∨ j = 71 ∨ j = 72 ∨ j = 73 ∨ j = 74 ∨ j = 75 ∨ j = 76 ∨ j = 77 ∨ j = 78 ∨ j = 79 ∨ j = 80 ∨ j = 81 ∨ j = 82 ∨ j = 83 ∨ j = 84 ∨ j = 85 ∨ j = 86 ∨ j = 87 ∨ j = 88 ∨ j = 89 ∨ j = 90 ∨ j = 91 ∨ j = 92 ∨ j = 93 ∨ j = 94 ∨ j = 95 ∨ j = 96 ∨ j = 97 ∨ j = 98 ∨ j = 99 ∨ j = 100 ∨ j = 101 ∨ j = 102 ∨ j = 103 ∨ j = 104 ∨ j = 105 := by omega
    rcases hjs with rfl | rfl | rfl | rfl | rfl | rfl | rfl | rfl | rfl | rfl | rfl | rfl | rfl | rfl | rfl | rfl | rfl | rfl | rfl | rfl | rfl | rfl | rfl | rfl | rfl | rfl | rfl | rfl | rfl | rfl | rfl | rfl | rfl | rfl | rfl | rfl | rfl | rfl | rfl | rfl | rfl | rfl | rfl | rfl | rfl | rfl | rfl | rfl | rfl | rfl | rfl | rfl | rfl | rfl | rfl | rfl | rfl | rfl | rfl | rfl | rfl | rfl | rfl | rfl | rfl | rfl | rfl | rfl | rfl | rfl | rfl | rfl | rfl | rfl | rfl | rfl | rfl | rfl | rfl | rfl | rfl | rfl | rfl | rfl | rfl | rfl | rfl | rfl | rfl | rfl | rfl | rfl | rfl | rfl | rfl | rfl | rfl | rfl | rfl | rfl | rfl | rfl | rfl | rfl | rfl | rfl
    · cases ho
      refine wpOp_step rfl (fun K hK => ?_)
      refine want0 rfl ?_
      exact pl_load 2 rfl _ x (JL.low 2 (by omega) s2) HBX (hK _ _ (JL.next hst (hxl.trans hll.symm) hkW hR 0 (by omega) (Keeps.refl _ _) (by rw [← hKS]; exact rfl)))
    · cases ho
      refine wpOp_step rfl (fun K hK => ?_)
      refine want0 rfl ?_
      exact pl_move (.tmp 1) rfl _ (JL.low 1 (by omega) s1) (hK _ _ (JL.next hst (hxl.trans hll.symm) hkW hR 1 (by omega) (Keeps.refl _ _) (by rw [← hKS]; exact rfl)))
    · cases ho
      refine wpOp_step rfl (fun K hK => ?_)
      refine want0 rfl ?_
      have e0 : xs.getD 0 undef = .agg #[x.a0, x.a1, x.a2, x.a3, x.a4, x.a5, x.a6, x.a7, x.a8, x.a9, x.a10, x.a11] := by have h := (hR 0 (by omega) (hdep ⟨0, .data⟩ (by simp) rfl)); rw [← hKS] at h; exact h
      have e1 : xs.getD 1 undef = .int .i64 c := by have h := (hR 1 (by omega) (hdep ⟨1, .data⟩ (by simp) rfl)); rw [← hKS] at h; exact h
      refine pl_call0 5 6 _ _ _ _ rfl ((JL.slot ss (hxl.trans hll.symm) 0 (by omega)).trans e0) ((JL.slot ss (hxl.trans hll.symm) 1 (by omega)).trans e1) (category_at x T c z1 _ HT HSP.out.1 H1) ?_
      rintro e wn ⟨rfl, hb⟩
      exact ⟨_, rfl, hK _ _ (JL.next hst (hxl.trans hll.symm) hkW hR 2 (by omega) (keepsF hb) (by rw [← hKS]; exact rfl))⟩
    · cases ho
      refine wpOp_step rfl (fun K hK => ?_)
      refine want0 rfl ?_
      exact pl_load 2 rfl _ x (JL.low 2 (by omega) s2) HBX (hK _ _ (JL.next hst (hxl.trans hll.symm) hkW hR 3 (by omega) (Keeps.refl _ _) (by rw [← hKS]; exact rfl)))
    · cases ho
      refine wpOp_step rfl (fun K hK => ?_)
      refine want0 rfl ?_
      exact pl_move (.tmp 1) rfl _ (JL.low 1 (by omega) s1) (hK _ _ (JL.next hst (hxl.trans hll.symm) hkW hR 4 (by omega) (Keeps.refl _ _) (by rw [← hKS]; exact rfl)))
    · cases ho
      refine wpOp_step rfl (fun K hK => ?_)
      refine want0 rfl ?_
      have e3 : xs.getD 3 undef = .agg #[x.a0, x.a1, x.a2, x.a3, x.a4, x.a5, x.a6, x.a7, x.a8, x.a9, x.a10, x.a11] := by have h := (hR 3 (by omega) (hdep ⟨3, .data⟩ (by simp) rfl)); rw [← hKS] at h; exact h
      have e4 : xs.getD 4 undef = .int .i64 c := by have h := (hR 4 (by omega) (hdep ⟨4, .data⟩ (by simp) rfl)); rw [← hKS] at h; exact h
      refine pl_call8 8 9 _ _ _ _ rfl ((JL.slot ss (hxl.trans hll.symm) 3 (by omega)).trans e3) ((JL.slot ss (hxl.trans hll.symm) 4 (by omega)).trans e4) (rcat_at x T c z1 _ HT HOK.out.1 H1) ?_
      rintro e wn ⟨rfl, hb⟩
      exact ⟨_, rfl, hK _ _ (JL.next hst (hxl.trans hll.symm) hkW hR 5 (by omega) (keepsF hb) (by rw [← hKS]; exact rfl))⟩
    · cases ho
      refine wpOp_step rfl (fun K hK => ?_)
      refine want0 rfl ?_
      have e2 : xs.getD 2 undef = .int .i64 z1 := by have h := (hR 2 (by omega) (hdep ⟨2, .data⟩ (by simp) rfl)); rw [← hKS] at h; exact h
      have e5 : xs.getD 5 undef = .int .i64 z1 := by have h := (hR 5 (by omega) (hdep ⟨5, .data⟩ (by simp) rfl)); rw [← hKS] at h; exact h
      exact pl_eqI 7 10 _ rfl ((JL.slot ss (hxl.trans hll.symm) 2 (by omega)).trans e2) ((JL.slot ss (hxl.trans hll.symm) 5 (by omega)).trans e5) (hK _ _ (JL.next hst (hxl.trans hll.symm) hkW hR 6 (by omega) (Keeps.refl _ _) (by rw [← hKS]; exact rfl)))
    · cases ho
      refine wpOp_step rfl (fun K hK => ?_)
      refine want0 rfl ?_
      have e6 : xs.getD 6 undef = .bool true := by have h := (hR 6 (by omega) (hdep ⟨6, .data⟩ (by simp) rfl)); rw [← hKS] at h; exact h
      exact pl_move (.tmp 11) rfl _ ((JL.slot ss (hxl.trans hll.symm) 6 (by omega)).trans e6) (hK _ _ (JL.next hst (hxl.trans hll.symm) hkW hR 7 (by omega) (Keeps.refl _ _) (by rw [← hKS]; exact rfl)))
    · cases ho
      refine wpOp_step rfl (fun K hK => ?_)
      have eg : xs.getD 7 undef = .bool true := by have h := (hR 7 (by omega) (hdep ⟨7, .guard⟩ (by simp) rfl)); rw [← hKS] at h; exact h
      refine wantG 7 12 _ rfl rfl rfl ((JL.slot ss (hxl.trans hll.symm) 7 (by omega)).trans eg) ?_
      exact pl_load 2 rfl _ x (JL.low 2 (by omega) s2) HBX (hK _ _ (JL.next hst (hxl.trans hll.symm) hkW hR 8 (by omega) (Keeps.refl _ _) (by rw [← hKS]; exact rfl)))
    · cases ho
      refine wpOp_step rfl (fun K hK => ?_)
      have eg : xs.getD 7 undef = .bool true := by have h := (hR 7 (by omega) (hdep ⟨7, .guard⟩ (by simp) rfl)); rw [← hKS] at h; exact h
      refine wantG 7 12 _ rfl rfl rfl ((JL.slot ss (hxl.trans hll.symm) 7 (by omega)).trans eg) ?_
      exact pl_move (.tmp 1) rfl _ (JL.low 1 (by omega) s1) (hK _ _ (JL.next hst (hxl.trans hll.symm) hkW hR 9 (by omega) (Keeps.refl _ _) (by rw [← hKS]; exact rfl)))
    · cases ho
      refine wpOp_step rfl (fun K hK => ?_)
      have eg : xs.getD 7 undef = .bool true := by have h := (hR 7 (by omega) (hdep ⟨7, .guard⟩ (by simp) rfl)); rw [← hKS] at h; exact h
      refine wantG 7 12 _ rfl rfl rfl ((JL.slot ss (hxl.trans hll.symm) 7 (by omega)).trans eg) ?_
      have e8 : xs.getD 8 undef = .agg #[x.a0, x.a1, x.a2, x.a3, x.a4, x.a5, x.a6, x.a7, x.a8, x.a9, x.a10, x.a11] := by have h := (hR 8 (by omega) (hdep ⟨8, .data⟩ (by simp) rfl)); rw [← hKS] at h; exact h
      have e9 : xs.getD 9 undef = .int .i64 c := by have h := (hR 9 (by omega) (hdep ⟨9, .data⟩ (by simp) rfl)); rw [← hKS] at h; exact h
      refine pl_call1 13 14 _ _ _ _ rfl ((JL.slot ss (hxl.trans hll.symm) 8 (by omega)).trans e8) ((JL.slot ss (hxl.trans hll.symm) 9 (by omega)).trans e9) (class_at x T c z2 _ HT HSP.out.2.1 H2) ?_
      rintro e wn ⟨rfl, hb⟩
      exact ⟨_, rfl, hK _ _ (JL.next hst (hxl.trans hll.symm) hkW hR 10 (by omega) (keepsF hb) (by rw [← hKS]; exact rfl))⟩
    · cases ho
      refine wpOp_step rfl (fun K hK => ?_)
      have eg : xs.getD 7 undef = .bool true := by have h := (hR 7 (by omega) (hdep ⟨7, .guard⟩ (by simp) rfl)); rw [← hKS] at h; exact h
      refine wantG 7 12 _ rfl rfl rfl ((JL.slot ss (hxl.trans hll.symm) 7 (by omega)).trans eg) ?_
      exact pl_load 2 rfl _ x (JL.low 2 (by omega) s2) HBX (hK _ _ (JL.next hst (hxl.trans hll.symm) hkW hR 11 (by omega) (Keeps.refl _ _) (by rw [← hKS]; exact rfl)))
    · cases ho
      refine wpOp_step rfl (fun K hK => ?_)
      have eg : xs.getD 7 undef = .bool true := by have h := (hR 7 (by omega) (hdep ⟨7, .guard⟩ (by simp) rfl)); rw [← hKS] at h; exact h
      refine wantG 7 12 _ rfl rfl rfl ((JL.slot ss (hxl.trans hll.symm) 7 (by omega)).trans eg) ?_
      exact pl_move (.tmp 1) rfl _ (JL.low 1 (by omega) s1) (hK _ _ (JL.next hst (hxl.trans hll.symm) hkW hR 12 (by omega) (Keeps.refl _ _) (by rw [← hKS]; exact rfl)))
    · cases ho
      refine wpOp_step rfl (fun K hK => ?_)
      have eg : xs.getD 7 undef = .bool true := by have h := (hR 7 (by omega) (hdep ⟨7, .guard⟩ (by simp) rfl)); rw [← hKS] at h; exact h
      refine wantG 7 12 _ rfl rfl rfl ((JL.slot ss (hxl.trans hll.symm) 7 (by omega)).trans eg) ?_
      have e11 : xs.getD 11 undef = .agg #[x.a0, x.a1, x.a2, x.a3, x.a4, x.a5, x.a6, x.a7, x.a8, x.a9, x.a10, x.a11] := by have h := (hR 11 (by omega) (hdep ⟨11, .data⟩ (by simp) rfl)); rw [← hKS] at h; exact h
      have e12 : xs.getD 12 undef = .int .i64 c := by have h := (hR 12 (by omega) (hdep ⟨12, .data⟩ (by simp) rfl)); rw [← hKS] at h; exact h
      refine pl_call9 16 17 _ _ _ _ rfl ((JL.slot ss (hxl.trans hll.symm) 11 (by omega)).trans e11) ((JL.slot ss (hxl.trans hll.symm) 12 (by omega)).trans e12) (rclass_at x T c z2 _ HT H2) ?_
      rintro e wn ⟨rfl, hb⟩
      exact ⟨_, rfl, hK _ _ (JL.next hst (hxl.trans hll.symm) hkW hR 13 (by omega) (keepsF hb) (by rw [← hKS]; exact rfl))⟩
    · cases ho
      refine wpOp_step rfl (fun K hK => ?_)
      have eg : xs.getD 7 undef = .bool true := by have h := (hR 7 (by omega) (hdep ⟨7, .guard⟩ (by simp) rfl)); rw [← hKS] at h; exact h
      refine wantG 7 12 _ rfl rfl rfl ((JL.slot ss (hxl.trans hll.symm) 7 (by omega)).trans eg) ?_
      have e10 : xs.getD 10 undef = .int .i64 z2 := by have h := (hR 10 (by omega) (hdep ⟨10, .data⟩ (by simp) rfl)); rw [← hKS] at h; exact h
      have e13 : xs.getD 13 undef = .int .i64 z2 := by have h := (hR 13 (by omega) (hdep ⟨13, .data⟩ (by simp) rfl)); rw [← hKS] at h; exact h
      exact pl_eqI 15 18 _ rfl ((JL.slot ss (hxl.trans hll.symm) 10 (by omega)).trans e10) ((JL.slot ss (hxl.trans hll.symm) 13 (by omega)).trans e13) (hK _ _ (JL.next hst (hxl.trans hll.symm) hkW hR 14 (by omega) (Keeps.refl _ _) (by rw [← hKS]; exact rfl)))
    · cases ho
      refine wpOp_step rfl (fun K hK => ?_)
      refine want0 rfl ?_
      have e7 : xs.getD 7 undef = .bool true := by have h := (hR 7 (by omega) (hdep ⟨7, .data⟩ (by simp) rfl)); rw [← hKS] at h; exact h
      have e14 : xs.getD 14 undef = .bool true := by have h := (hR 14 (by omega) (hdep ⟨14, .data⟩ (by simp) rfl)); rw [← hKS] at h; exact h
      exact pl_pick 12 19 _ rfl ((JL.slot ss (hxl.trans hll.symm) 7 (by omega)).trans e7) ((JL.slot ss (hxl.trans hll.symm) 14 (by omega)).trans e14) (hK _ _ (JL.next hst (hxl.trans hll.symm) hkW hR 15 (by omega) (Keeps.refl _ _) (by rw [← hKS]; exact rfl)))
    · cases ho
      refine wpOp_step rfl (fun K hK => ?_)
      refine want0 rfl ?_
      have e15 : xs.getD 15 undef = .bool true := by have h := (hR 15 (by omega) (hdep ⟨15, .data⟩ (by simp) rfl)); rw [← hKS] at h; exact h
      exact pl_move (.tmp 20) rfl _ ((JL.slot ss (hxl.trans hll.symm) 15 (by omega)).trans e15) (hK _ _ (JL.next hst (hxl.trans hll.symm) hkW hR 16 (by omega) (Keeps.refl _ _) (by rw [← hKS]; exact rfl)))
    · cases ho
      refine wpOp_step rfl (fun K hK => ?_)
      have eg : xs.getD 16 undef = .bool true := by have h := (hR 16 (by omega) (hdep ⟨16, .guard⟩ (by simp) rfl)); rw [← hKS] at h; exact h
      refine wantG 16 21 _ rfl rfl rfl ((JL.slot ss (hxl.trans hll.symm) 16 (by omega)).trans eg) ?_
      exact pl_load 2 rfl _ x (JL.low 2 (by omega) s2) HBX (hK _ _ (JL.next hst (hxl.trans hll.symm) hkW hR 17 (by omega) (Keeps.refl _ _) (by rw [← hKS]; exact rfl)))
    · cases ho
      refine wpOp_step rfl (fun K hK => ?_)
      have eg : xs.getD 16 undef = .bool true := by have h := (hR 16 (by omega) (hdep ⟨16, .guard⟩ (by simp) rfl)); rw [← hKS] at h; exact h
      refine wantG 16 21 _ rfl rfl rfl ((JL.slot ss (hxl.trans hll.symm) 16 (by omega)).trans eg) ?_
      exact pl_move (.tmp 1) rfl _ (JL.low 1 (by omega) s1) (hK _ _ (JL.next hst (hxl.trans hll.symm) hkW hR 18 (by omega) (Keeps.refl _ _) (by rw [← hKS]; exact rfl)))
    · cases ho
      refine wpOp_step rfl (fun K hK => ?_)
      have eg : xs.getD 16 undef = .bool true := by have h := (hR 16 (by omega) (hdep ⟨16, .guard⟩ (by simp) rfl)); rw [← hKS] at h; exact h
      refine wantG 16 21 _ rfl rfl rfl ((JL.slot ss (hxl.trans hll.symm) 16 (by omega)).trans eg) ?_
      have e17 : xs.getD 17 undef = .agg #[x.a0, x.a1, x.a2, x.a3, x.a4, x.a5, x.a6, x.a7, x.a8, x.a9, x.a10, x.a11] := by have h := (hR 17 (by omega) (hdep ⟨17, .data⟩ (by simp) rfl)); rw [← hKS] at h; exact h
      have e18 : xs.getD 18 undef = .int .i64 c := by have h := (hR 18 (by omega) (hdep ⟨18, .data⟩ (by simp) rfl)); rw [← hKS] at h; exact h
      refine pl_call2 22 23 _ _ _ _ rfl ((JL.slot ss (hxl.trans hll.symm) 17 (by omega)).trans e17) ((JL.slot ss (hxl.trans hll.symm) 18 (by omega)).trans e18) (joining_at x T c z3 _ HT HSP.out.2.2.1 H3) ?_
      rintro e wn ⟨rfl, hb⟩
      exact ⟨_, rfl, hK _ _ (JL.next hst (hxl.trans hll.symm) hkW hR 19 (by omega) (keepsF hb) (by rw [← hKS]; exact rfl))⟩
    · cases ho
      refine wpOp_step rfl (fun K hK => ?_)
      have eg : xs.getD 16 undef = .bool true := by have h := (hR 16 (by omega) (hdep ⟨16, .guard⟩ (by simp) rfl)); rw [← hKS] at h; exact h
      refine wantG 16 21 _ rfl rfl rfl ((JL.slot ss (hxl.trans hll.symm) 16 (by omega)).trans eg) ?_
      exact pl_load 2 rfl _ x (JL.low 2 (by omega) s2) HBX (hK _ _ (JL.next hst (hxl.trans hll.symm) hkW hR 20 (by omega) (Keeps.refl _ _) (by rw [← hKS]; exact rfl)))
    · cases ho
      refine wpOp_step rfl (fun K hK => ?_)
      have eg : xs.getD 16 undef = .bool true := by have h := (hR 16 (by omega) (hdep ⟨16, .guard⟩ (by simp) rfl)); rw [← hKS] at h; exact h
      refine wantG 16 21 _ rfl rfl rfl ((JL.slot ss (hxl.trans hll.symm) 16 (by omega)).trans eg) ?_
      exact pl_move (.tmp 1) rfl _ (JL.low 1 (by omega) s1) (hK _ _ (JL.next hst (hxl.trans hll.symm) hkW hR 21 (by omega) (Keeps.refl _ _) (by rw [← hKS]; exact rfl)))
    · cases ho
      refine wpOp_step rfl (fun K hK => ?_)
      have eg : xs.getD 16 undef = .bool true := by have h := (hR 16 (by omega) (hdep ⟨16, .guard⟩ (by simp) rfl)); rw [← hKS] at h; exact h
      refine wantG 16 21 _ rfl rfl rfl ((JL.slot ss (hxl.trans hll.symm) 16 (by omega)).trans eg) ?_
      have e20 : xs.getD 20 undef = .agg #[x.a0, x.a1, x.a2, x.a3, x.a4, x.a5, x.a6, x.a7, x.a8, x.a9, x.a10, x.a11] := by have h := (hR 20 (by omega) (hdep ⟨20, .data⟩ (by simp) rfl)); rw [← hKS] at h; exact h
      have e21 : xs.getD 21 undef = .int .i64 c := by have h := (hR 21 (by omega) (hdep ⟨21, .data⟩ (by simp) rfl)); rw [← hKS] at h; exact h
      refine pl_call10 25 26 _ _ _ _ rfl ((JL.slot ss (hxl.trans hll.symm) 20 (by omega)).trans e20) ((JL.slot ss (hxl.trans hll.symm) 21 (by omega)).trans e21) (rjoining_at x T c z3 _ HT H3) ?_
      rintro e wn ⟨rfl, hb⟩
      exact ⟨_, rfl, hK _ _ (JL.next hst (hxl.trans hll.symm) hkW hR 22 (by omega) (keepsF hb) (by rw [← hKS]; exact rfl))⟩
    · cases ho
      refine wpOp_step rfl (fun K hK => ?_)
      have eg : xs.getD 16 undef = .bool true := by have h := (hR 16 (by omega) (hdep ⟨16, .guard⟩ (by simp) rfl)); rw [← hKS] at h; exact h
      refine wantG 16 21 _ rfl rfl rfl ((JL.slot ss (hxl.trans hll.symm) 16 (by omega)).trans eg) ?_
      have e19 : xs.getD 19 undef = .int .i64 z3 := by have h := (hR 19 (by omega) (hdep ⟨19, .data⟩ (by simp) rfl)); rw [← hKS] at h; exact h
      have e22 : xs.getD 22 undef = .int .i64 z3 := by have h := (hR 22 (by omega) (hdep ⟨22, .data⟩ (by simp) rfl)); rw [← hKS] at h; exact h
      exact pl_eqI 24 27 _ rfl ((JL.slot ss (hxl.trans hll.symm) 19 (by omega)).trans e19) ((JL.slot ss (hxl.trans hll.symm) 22 (by omega)).trans e22) (hK _ _ (JL.next hst (hxl.trans hll.symm) hkW hR 23 (by omega) (Keeps.refl _ _) (by rw [← hKS]; exact rfl)))
    · cases ho
      refine wpOp_step rfl (fun K hK => ?_)
      refine want0 rfl ?_
      have e16 : xs.getD 16 undef = .bool true := by have h := (hR 16 (by omega) (hdep ⟨16, .data⟩ (by simp) rfl)); rw [← hKS] at h; exact h
      have e23 : xs.getD 23 undef = .bool true := by have h := (hR 23 (by omega) (hdep ⟨23, .data⟩ (by simp) rfl)); rw [← hKS] at h; exact h
      exact pl_pick 21 28 _ rfl ((JL.slot ss (hxl.trans hll.symm) 16 (by omega)).trans e16) ((JL.slot ss (hxl.trans hll.symm) 23 (by omega)).trans e23) (hK _ _ (JL.next hst (hxl.trans hll.symm) hkW hR 24 (by omega) (Keeps.refl _ _) (by rw [← hKS]; exact rfl)))
    · cases ho
      refine wpOp_step rfl (fun K hK => ?_)
      refine want0 rfl ?_
      have e24 : xs.getD 24 undef = .bool true := by have h := (hR 24 (by omega) (hdep ⟨24, .data⟩ (by simp) rfl)); rw [← hKS] at h; exact h
      exact pl_move (.tmp 29) rfl _ ((JL.slot ss (hxl.trans hll.symm) 24 (by omega)).trans e24) (hK _ _ (JL.next hst (hxl.trans hll.symm) hkW hR 25 (by omega) (Keeps.refl _ _) (by rw [← hKS]; exact rfl)))
    · cases ho
      refine wpOp_step rfl (fun K hK => ?_)
      have eg : xs.getD 25 undef = .bool true := by have h := (hR 25 (by omega) (hdep ⟨25, .guard⟩ (by simp) rfl)); rw [← hKS] at h; exact h
      refine wantG 25 30 _ rfl rfl rfl ((JL.slot ss (hxl.trans hll.symm) 25 (by omega)).trans eg) ?_
      exact pl_load 2 rfl _ x (JL.low 2 (by omega) s2) HBX (hK _ _ (JL.next hst (hxl.trans hll.symm) hkW hR 26 (by omega) (Keeps.refl _ _) (by rw [← hKS]; exact rfl)))
    · cases ho
      refine wpOp_step rfl (fun K hK => ?_)
      have eg : xs.getD 25 undef = .bool true := by have h := (hR 25 (by omega) (hdep ⟨25, .guard⟩ (by simp) rfl)); rw [← hKS] at h; exact h
      refine wantG 25 30 _ rfl rfl rfl ((JL.slot ss (hxl.trans hll.symm) 25 (by omega)).trans eg) ?_
      exact pl_move (.tmp 1) rfl _ (JL.low 1 (by omega) s1) (hK _ _ (JL.next hst (hxl.trans hll.symm) hkW hR 27 (by omega) (Keeps.refl _ _) (by rw [← hKS]; exact rfl)))
    · cases ho
      refine wpOp_step rfl (fun K hK => ?_)
      have eg : xs.getD 25 undef = .bool true := by have h := (hR 25 (by omega) (hdep ⟨25, .guard⟩ (by simp) rfl)); rw [← hKS] at h; exact h
      refine wantG 25 30 _ rfl rfl rfl ((JL.slot ss (hxl.trans hll.symm) 25 (by omega)).trans eg) ?_
      have e26 : xs.getD 26 undef = .agg #[x.a0, x.a1, x.a2, x.a3, x.a4, x.a5, x.a6, x.a7, x.a8, x.a9, x.a10, x.a11] := by have h := (hR 26 (by omega) (hdep ⟨26, .data⟩ (by simp) rfl)); rw [← hKS] at h; exact h
      have e27 : xs.getD 27 undef = .int .i64 c := by have h := (hR 27 (by omega) (hdep ⟨27, .data⟩ (by simp) rfl)); rw [← hKS] at h; exact h
      refine pl_call3 31 32 _ _ _ _ rfl ((JL.slot ss (hxl.trans hll.symm) 26 (by omega)).trans e26) ((JL.slot ss (hxl.trans hll.symm) 27 (by omega)).trans e27) (bidi_at x T c z4 _ HT HSP.out.2.2.2.1 H4) ?_
      rintro e wn ⟨rfl, hb⟩
      exact ⟨_, rfl, hK _ _ (JL.next hst (hxl.trans hll.symm) hkW hR 28 (by omega) (keepsF hb) (by rw [← hKS]; exact rfl))⟩
    · cases ho
      refine wpOp_step rfl (fun K hK => ?_)
      have eg : xs.getD 25 undef = .bool true := by have h := (hR 25 (by omega) (hdep ⟨25, .guard⟩ (by simp) rfl)); rw [← hKS] at h; exact h
      refine wantG 25 30 _ rfl rfl rfl ((JL.slot ss (hxl.trans hll.symm) 25 (by omega)).trans eg) ?_
      exact pl_load 2 rfl _ x (JL.low 2 (by omega) s2) HBX (hK _ _ (JL.next hst (hxl.trans hll.symm) hkW hR 29 (by omega) (Keeps.refl _ _) (by rw [← hKS]; exact rfl)))
    · cases ho
      refine wpOp_step rfl (fun K hK => ?_)
      have eg : xs.getD 25 undef = .bool true := by have h := (hR 25 (by omega) (hdep ⟨25, .guard⟩ (by simp) rfl)); rw [← hKS] at h; exact h
      refine wantG 25 30 _ rfl rfl rfl ((JL.slot ss (hxl.trans hll.symm) 25 (by omega)).trans eg) ?_
      exact pl_move (.tmp 1) rfl _ (JL.low 1 (by omega) s1) (hK _ _ (JL.next hst (hxl.trans hll.symm) hkW hR 30 (by omega) (Keeps.refl _ _) (by rw [← hKS]; exact rfl)))
    · cases ho
      refine wpOp_step rfl (fun K hK => ?_)
      have eg : xs.getD 25 undef = .bool true := by have h := (hR 25 (by omega) (hdep ⟨25, .guard⟩ (by simp) rfl)); rw [← hKS] at h; exact h
      refine wantG 25 30 _ rfl rfl rfl ((JL.slot ss (hxl.trans hll.symm) 25 (by omega)).trans eg) ?_
      have e29 : xs.getD 29 undef = .agg #[x.a0, x.a1, x.a2, x.a3, x.a4, x.a5, x.a6, x.a7, x.a8, x.a9, x.a10, x.a11] := by have h := (hR 29 (by omega) (hdep ⟨29, .data⟩ (by simp) rfl)); rw [← hKS] at h; exact h
      have e30 : xs.getD 30 undef = .int .i64 c := by have h := (hR 30 (by omega) (hdep ⟨30, .data⟩ (by simp) rfl)); rw [← hKS] at h; exact h
      refine pl_call11 34 35 _ _ _ _ rfl ((JL.slot ss (hxl.trans hll.symm) 29 (by omega)).trans e29) ((JL.slot ss (hxl.trans hll.symm) 30 (by omega)).trans e30) (rbid_at x T c z4 _ HT HOK.out.2.2.2.1 H4) ?_
      rintro e wn ⟨rfl, hb⟩
      exact ⟨_, rfl, hK _ _ (JL.next hst (hxl.trans hll.symm) hkW hR 31 (by omega) (keepsF hb) (by rw [← hKS]; exact rfl))⟩
    · cases ho
      refine wpOp_step rfl (fun K hK => ?_)
      have eg : xs.getD 25 undef = .bool true := by have h := (hR 25 (by omega) (hdep ⟨25, .guard⟩ (by simp) rfl)); rw [← hKS] at h; exact h
      refine wantG 25 30 _ rfl rfl rfl ((JL.slot ss (hxl.trans hll.symm) 25 (by omega)).trans eg) ?_
      have e28 : xs.getD 28 undef = .int .i64 z4 := by have h := (hR 28 (by omega) (hdep ⟨28, .data⟩ (by simp) rfl)); rw [← hKS] at h; exact h
      have e31 : xs.getD 31 undef = .int .i64 z4 := by have h := (hR 31 (by omega) (hdep ⟨31, .data⟩ (by simp) rfl)); rw [← hKS] at h; exact h
      exact pl_eqI 33 36 _ rfl ((JL.slot ss (hxl.trans hll.symm) 28 (by omega)).trans e28) ((JL.slot ss (hxl.trans hll.symm) 31 (by omega)).trans e31) (hK _ _ (JL.next hst (hxl.trans hll.symm) hkW hR 32 (by omega) (Keeps.refl _ _) (by rw [← hKS]; exact rfl)))
    · cases ho
      refine wpOp_step rfl (fun K hK => ?_)
      refine want0 rfl ?_
      have e25 : xs.getD 25 undef = .bool true := by have h := (hR 25 (by omega) (hdep ⟨25, .data⟩ (by simp) rfl)); rw [← hKS] at h; exact h
      have e32 : xs.getD 32 undef = .bool true := by have h := (hR 32 (by omega) (hdep ⟨32, .data⟩ (by simp) rfl)); rw [← hKS] at h; exact h
      exact pl_pick 30 37 _ rfl ((JL.slot ss (hxl.trans hll.symm) 25 (by omega)).trans e25) ((JL.slot ss (hxl.trans hll.symm) 32 (by omega)).trans e32) (hK _ _ (JL.next hst (hxl.trans hll.symm) hkW hR 33 (by omega) (Keeps.refl _ _) (by rw [← hKS]; exact rfl)))
    · cases ho
      refine wpOp_step rfl (fun K hK => ?_)
      refine want0 rfl ?_
      have e33 : xs.getD 33 undef = .bool true := by have h := (hR 33 (by omega) (hdep ⟨33, .data⟩ (by simp) rfl)); rw [← hKS] at h; exact h
      exact pl_move (.tmp 38) rfl _ ((JL.slot ss (hxl.trans hll.symm) 33 (by omega)).trans e33) (hK _ _ (JL.next hst (hxl.trans hll.symm) hkW hR 34 (by omega) (Keeps.refl _ _) (by rw [← hKS]; exact rfl)))
    · cases ho
      refine wpOp_step rfl (fun K hK => ?_)
      have eg : xs.getD 34 undef = .bool true := by have h := (hR 34 (by omega) (hdep ⟨34, .guard⟩ (by simp) rfl)); rw [← hKS] at h; exact h
      refine wantG 34 39 _ rfl rfl rfl ((JL.slot ss (hxl.trans hll.symm) 34 (by omega)).trans eg) ?_
      exact pl_load 2 rfl _ x (JL.low 2 (by omega) s2) HBX (hK _ _ (JL.next hst (hxl.trans hll.symm) hkW hR 35 (by omega) (Keeps.refl _ _) (by rw [← hKS]; exact rfl)))
    · cases ho
      refine wpOp_step rfl (fun K hK => ?_)
      have eg : xs.getD 34 undef = .bool true := by have h := (hR 34 (by omega) (hdep ⟨34, .guard⟩ (by simp) rfl)); rw [← hKS] at h; exact h
      refine wantG 34 39 _ rfl rfl rfl ((JL.slot ss (hxl.trans hll.symm) 34 (by omega)).trans eg) ?_
      exact pl_move (.tmp 1) rfl _ (JL.low 1 (by omega) s1) (hK _ _ (JL.next hst (hxl.trans hll.symm) hkW hR 36 (by omega) (Keeps.refl _ _) (by rw [← hKS]; exact rfl)))
    · cases ho
      refine wpOp_step rfl (fun K hK => ?_)
      have eg : xs.getD 34 undef = .bool true := by have h := (hR 34 (by omega) (hdep ⟨34, .guard⟩ (by simp) rfl)); rw [← hKS] at h; exact h
      refine wantG 34 39 _ rfl rfl rfl ((JL.slot ss (hxl.trans hll.symm) 34 (by omega)).trans eg) ?_
      have e35 : xs.getD 35 undef = .agg #[x.a0, x.a1, x.a2, x.a3, x.a4, x.a5, x.a6, x.a7, x.a8, x.a9, x.a10, x.a11] := by have h := (hR 35 (by omega) (hdep ⟨35, .data⟩ (by simp) rfl)); rw [← hKS] at h; exact h
      have e36 : xs.getD 36 undef = .int .i64 c := by have h := (hR 36 (by omega) (hdep ⟨36, .data⟩ (by simp) rfl)); rw [← hKS] at h; exact h
      refine pl_call4 40 41 _ _ _ _ rfl ((JL.slot ss (hxl.trans hll.symm) 35 (by omega)).trans e35) ((JL.slot ss (hxl.trans hll.symm) 36 (by omega)).trans e36) (script_at x T c z5 _ HT HSP.out.2.2.2.2.1 H5) ?_
      rintro e wn ⟨rfl, hb⟩
      exact ⟨_, rfl, hK _ _ (JL.next hst (hxl.trans hll.symm) hkW hR 37 (by omega) (keepsF hb) (by rw [← hKS]; exact rfl))⟩
    · cases ho
      refine wpOp_step rfl (fun K hK => ?_)
      have eg : xs.getD 34 undef = .bool true := by have h := (hR 34 (by omega) (hdep ⟨34, .guard⟩ (by simp) rfl)); rw [← hKS] at h; exact h
      refine wantG 34 39 _ rfl rfl rfl ((JL.slot ss (hxl.trans hll.symm) 34 (by omega)).trans eg) ?_
      exact pl_load 2 rfl _ x (JL.low 2 (by omega) s2) HBX (hK _ _ (JL.next hst (hxl.trans hll.symm) hkW hR 38 (by omega) (Keeps.refl _ _) (by rw [← hKS]; exact rfl)))
    · cases ho
      refine wpOp_step rfl (fun K hK => ?_)
      have eg : xs.getD 34 undef = .bool true := by have h := (hR 34 (by omega) (hdep ⟨34, .guard⟩ (by simp) rfl)); rw [← hKS] at h; exact h
      refine wantG 34 39 _ rfl rfl rfl ((JL.slot ss (hxl.trans hll.symm) 34 (by omega)).trans eg) ?_
      exact pl_move (.tmp 1) rfl _ (JL.low 1 (by omega) s1) (hK _ _ (JL.next hst (hxl.trans hll.symm) hkW hR 39 (by omega) (Keeps.refl _ _) (by rw [← hKS]; exact rfl)))
    · cases ho
      refine wpOp_step rfl (fun K hK => ?_)
      have eg : xs.getD 34 undef = .bool true := by have h := (hR 34 (by omega) (hdep ⟨34, .guard⟩ (by simp) rfl)); rw [← hKS] at h; exact h
      refine wantG 34 39 _ rfl rfl rfl ((JL.slot ss (hxl.trans hll.symm) 34 (by omega)).trans eg) ?_
      have e38 : xs.getD 38 undef = .agg #[x.a0, x.a1, x.a2, x.a3, x.a4, x.a5, x.a6, x.a7, x.a8, x.a9, x.a10, x.a11] := by have h := (hR 38 (by omega) (hdep ⟨38, .data⟩ (by simp) rfl)); rw [← hKS] at h; exact h
      have e39 : xs.getD 39 undef = .int .i64 c := by have h := (hR 39 (by omega) (hdep ⟨39, .data⟩ (by simp) rfl)); rw [← hKS] at h; exact h
      refine pl_call12 43 44 _ _ _ _ rfl ((JL.slot ss (hxl.trans hll.symm) 38 (by omega)).trans e38) ((JL.slot ss (hxl.trans hll.symm) 39 (by omega)).trans e39) (rscr_at x T c z5 _ HT HOK.out.2.2.2.2.1 H5) ?_
      rintro e wn ⟨rfl, hb⟩
      exact ⟨_, rfl, hK _ _ (JL.next hst (hxl.trans hll.symm) hkW hR 40 (by omega) (keepsF hb) (by rw [← hKS]; exact rfl))⟩
    · cases ho
      refine wpOp_step rfl (fun K hK => ?_)
      have eg : xs.getD 34 undef = .bool true := by have h := (hR 34 (by omega) (hdep ⟨34, .guard⟩ (by simp) rfl)); rw [← hKS] at h; exact h
      refine wantG 34 39 _ rfl rfl rfl ((JL.slot ss (hxl.trans hll.symm) 34 (by omega)).trans eg) ?_
      have e37 : xs.getD 37 undef = .int .i64 z5 := by have h := (hR 37 (by omega) (hdep ⟨37, .data⟩ (by simp) rfl)); rw [← hKS] at h; exact h
      have e40 : xs.getD 40 undef = .int .i64 z5 := by have h := (hR 40 (by omega) (hdep ⟨40, .data⟩ (by simp) rfl)); rw [← hKS] at h; exact h
      exact pl_eqI 42 45 _ rfl ((JL.slot ss (hxl.trans hll.symm) 37 (by omega)).trans e37) ((JL.slot ss (hxl.trans hll.symm) 40 (by omega)).trans e40) (hK _ _ (JL.next hst (hxl.trans hll.symm) hkW hR 41 (by omega) (Keeps.refl _ _) (by rw [← hKS]; exact rfl)))
    · cases ho
      refine wpOp_step rfl (fun K hK => ?_)
      refine want0 rfl ?_
      have e34 : xs.getD 34 undef = .bool true := by have h := (hR 34 (by omega) (hdep ⟨34, .data⟩ (by simp) rfl)); rw [← hKS] at h; exact h
      have e41 : xs.getD 41 undef = .bool true := by have h := (hR 41 (by omega) (hdep ⟨41, .data⟩ (by simp) rfl)); rw [← hKS] at h; exact h
      exact pl_pick 39 46 _ rfl ((JL.slot ss (hxl.trans hll.symm) 34 (by omega)).trans e34) ((JL.slot ss (hxl.trans hll.symm) 41 (by omega)).trans e41) (hK _ _ (JL.next hst (hxl.trans hll.symm) hkW hR 42 (by omega) (Keeps.refl _ _) (by rw [← hKS]; exact rfl)))
    · cases ho
      refine wpOp_step rfl (fun K hK => ?_)
      refine want0 rfl ?_
      have e42 : xs.getD 42 undef = .bool true := by have h := (hR 42 (by omega) (hdep ⟨42, .data⟩ (by simp) rfl)); rw [← hKS] at h; exact h
      exact pl_move (.tmp 47) rfl _ ((JL.slot ss (hxl.trans hll.symm) 42 (by omega)).trans e42) (hK _ _ (JL.next hst (hxl.trans hll.symm) hkW hR 43 (by omega) (Keeps.refl _ _) (by rw [← hKS]; exact rfl)))
    · cases ho
      refine wpOp_step rfl (fun K hK => ?_)
      have eg : xs.getD 43 undef = .bool true := by have h := (hR 43 (by omega) (hdep ⟨43, .guard⟩ (by simp) rfl)); rw [← hKS] at h; exact h
      refine wantG 43 48 _ rfl rfl rfl ((JL.slot ss (hxl.trans hll.symm) 43 (by omega)).trans eg) ?_
      exact pl_load 2 rfl _ x (JL.low 2 (by omega) s2) HBX (hK _ _ (JL.next hst (hxl.trans hll.symm) hkW hR 44 (by omega) (Keeps.refl _ _) (by rw [← hKS]; exact rfl)))
    · cases ho
      refine wpOp_step rfl (fun K hK => ?_)
      have eg : xs.getD 43 undef = .bool true := by have h := (hR 43 (by omega) (hdep ⟨43, .guard⟩ (by simp) rfl)); rw [← hKS] at h; exact h
      refine wantG 43 48 _ rfl rfl rfl ((JL.slot ss (hxl.trans hll.symm) 43 (by omega)).trans eg) ?_
      exact pl_move (.tmp 1) rfl _ (JL.low 1 (by omega) s1) (hK _ _ (JL.next hst (hxl.trans hll.symm) hkW hR 45 (by omega) (Keeps.refl _ _) (by rw [← hKS]; exact rfl)))
    · cases ho
      refine wpOp_step rfl (fun K hK => ?_)
      have eg : xs.getD 43 undef = .bool true := by have h := (hR 43 (by omega) (hdep ⟨43, .guard⟩ (by simp) rfl)); rw [← hKS] at h; exact h
      refine wantG 43 48 _ rfl rfl rfl ((JL.slot ss (hxl.trans hll.symm) 43 (by omega)).trans eg) ?_
      have e44 : xs.getD 44 undef = .agg #[x.a0, x.a1, x.a2, x.a3, x.a4, x.a5, x.a6, x.a7, x.a8, x.a9, x.a10, x.a11] := by have h := (hR 44 (by omega) (hdep ⟨44, .data⟩ (by simp) rfl)); rw [← hKS] at h; exact h
      have e45 : xs.getD 45 undef = .int .i64 c := by have h := (hR 45 (by omega) (hdep ⟨45, .data⟩ (by simp) rfl)); rw [← hKS] at h; exact h
      refine pl_call5 49 50 _ _ _ _ rfl ((JL.slot ss (hxl.trans hll.symm) 44 (by omega)).trans e44) ((JL.slot ss (hxl.trans hll.symm) 45 (by omega)).trans e45) (status_at x T c z6 _ HT HSP.out.2.2.2.2.2.1 H6) ?_
      rintro e wn ⟨rfl, hb⟩
      exact ⟨_, rfl, hK _ _ (JL.next hst (hxl.trans hll.symm) hkW hR 46 (by omega) (keepsF hb) (by rw [← hKS]; exact rfl))⟩
    · cases ho
      refine wpOp_step rfl (fun K hK => ?_)
      have eg : xs.getD 43 undef = .bool true := by have h := (hR 43 (by omega) (hdep ⟨43, .guard⟩ (by simp) rfl)); rw [← hKS] at h; exact h
      refine wantG 43 48 _ rfl rfl rfl ((JL.slot ss (hxl.trans hll.symm) 43 (by omega)).trans eg) ?_
      exact pl_load 2 rfl _ x (JL.low 2 (by omega) s2) HBX (hK _ _ (JL.next hst (hxl.trans hll.symm) hkW hR 47 (by omega) (Keeps.refl _ _) (by rw [← hKS]; exact rfl)))
    · cases ho
      refine wpOp_step rfl (fun K hK => ?_)
      have eg : xs.getD 43 undef = .bool true := by have h := (hR 43 (by omega) (hdep ⟨43, .guard⟩ (by simp) rfl)); rw [← hKS] at h; exact h
      refine wantG 43 48 _ rfl rfl rfl ((JL.slot ss (hxl.trans hll.symm) 43 (by omega)).trans eg) ?_
      exact pl_move (.tmp 1) rfl _ (JL.low 1 (by omega) s1) (hK _ _ (JL.next hst (hxl.trans hll.symm) hkW hR 48 (by omega) (Keeps.refl _ _) (by rw [← hKS]; exact rfl)))
    · cases ho
      refine wpOp_step rfl (fun K hK => ?_)
      have eg : xs.getD 43 undef = .bool true := by have h := (hR 43 (by omega) (hdep ⟨43, .guard⟩ (by simp) rfl)); rw [← hKS] at h; exact h
      refine wantG 43 48 _ rfl rfl rfl ((JL.slot ss (hxl.trans hll.symm) 43 (by omega)).trans eg) ?_
      have e47 : xs.getD 47 undef = .agg #[x.a0, x.a1, x.a2, x.a3, x.a4, x.a5, x.a6, x.a7, x.a8, x.a9, x.a10, x.a11] := by have h := (hR 47 (by omega) (hdep ⟨47, .data⟩ (by simp) rfl)); rw [← hKS] at h; exact h
      have e48 : xs.getD 48 undef = .int .i64 c := by have h := (hR 48 (by omega) (hdep ⟨48, .data⟩ (by simp) rfl)); rw [← hKS] at h; exact h
      refine pl_call13 52 53 _ _ _ _ rfl ((JL.slot ss (hxl.trans hll.symm) 47 (by omega)).trans e47) ((JL.slot ss (hxl.trans hll.symm) 48 (by omega)).trans e48) (rstatus_at x T c z6 _ HT HOK.out.2.2.2.2.2.1 H6) ?_
      rintro e wn ⟨rfl, hb⟩
      exact ⟨_, rfl, hK _ _ (JL.next hst (hxl.trans hll.symm) hkW hR 49 (by omega) (keepsF hb) (by rw [← hKS]; exact rfl))⟩
    · cases ho
      refine wpOp_step rfl (fun K hK => ?_)
      have eg : xs.getD 43 undef = .bool true := by have h := (hR 43 (by omega) (hdep ⟨43, .guard⟩ (by simp) rfl)); rw [← hKS] at h; exact h
      refine wantG 43 48 _ rfl rfl rfl ((JL.slot ss (hxl.trans hll.symm) 43 (by omega)).trans eg) ?_
      have e46 : xs.getD 46 undef = .int .i64 z6 := by have h := (hR 46 (by omega) (hdep ⟨46, .data⟩ (by simp) rfl)); rw [← hKS] at h; exact h
      have e49 : xs.getD 49 undef = .int .i64 z6 := by have h := (hR 49 (by omega) (hdep ⟨49, .data⟩ (by simp) rfl)); rw [← hKS] at h; exact h
      exact pl_eqI 51 54 _ rfl ((JL.slot ss (hxl.trans hll.symm) 46 (by omega)).trans e46) ((JL.slot ss (hxl.trans hll.symm) 49 (by omega)).trans e49) (hK _ _ (JL.next hst (hxl.trans hll.symm) hkW hR 50 (by omega) (Keeps.refl _ _) (by rw [← hKS]; exact rfl)))
    · cases ho
      refine wpOp_step rfl (fun K hK => ?_)
      refine want0 rfl ?_
      have e43 : xs.getD 43 undef = .bool true := by have h := (hR 43 (by omega) (hdep ⟨43, .data⟩ (by simp) rfl)); rw [← hKS] at h; exact h
      have e50 : xs.getD 50 undef = .bool true := by have h := (hR 50 (by omega) (hdep ⟨50, .data⟩ (by simp) rfl)); rw [← hKS] at h; exact h
      exact pl_pick 48 55 _ rfl ((JL.slot ss (hxl.trans hll.symm) 43 (by omega)).trans e43) ((JL.slot ss (hxl.trans hll.symm) 50 (by omega)).trans e50) (hK _ _ (JL.next hst (hxl.trans hll.symm) hkW hR 51 (by omega) (Keeps.refl _ _) (by rw [← hKS]; exact rfl)))
    · cases ho
      refine wpOp_step rfl (fun K hK => ?_)
      refine want0 rfl ?_
      have e51 : xs.getD 51 undef = .bool true := by have h := (hR 51 (by omega) (hdep ⟨51, .data⟩ (by simp) rfl)); rw [← hKS] at h; exact h
      exact pl_move (.tmp 56) rfl _ ((JL.slot ss (hxl.trans hll.symm) 51 (by omega)).trans e51) (hK _ _ (JL.next hst (hxl.trans hll.symm) hkW hR 52 (by omega) (Keeps.refl _ _) (by rw [← hKS]; exact rfl)))
    · cases ho
      refine wpOp_step rfl (fun K hK => ?_)
      have eg : xs.getD 52 undef = .bool true := by have h := (hR 52 (by omega) (hdep ⟨52, .guard⟩ (by simp) rfl)); rw [← hKS] at h; exact h
      refine wantG 52 57 _ rfl rfl rfl ((JL.slot ss (hxl.trans hll.symm) 52 (by omega)).trans eg) ?_
      exact pl_load 2 rfl _ x (JL.low 2 (by omega) s2) HBX (hK _ _ (JL.next hst (hxl.trans hll.symm) hkW hR 53 (by omega) (Keeps.refl _ _) (by rw [← hKS]; exact rfl)))
    · cases ho
      refine wpOp_step rfl (fun K hK => ?_)
      have eg : xs.getD 52 undef = .bool true := by have h := (hR 52 (by omega) (hdep ⟨52, .guard⟩ (by simp) rfl)); rw [← hKS] at h; exact h
      refine wantG 52 57 _ rfl rfl rfl ((JL.slot ss (hxl.trans hll.symm) 52 (by omega)).trans eg) ?_
      exact pl_move (.tmp 1) rfl _ (JL.low 1 (by omega) s1) (hK _ _ (JL.next hst (hxl.trans hll.symm) hkW hR 54 (by omega) (Keeps.refl _ _) (by rw [← hKS]; exact rfl)))
    · cases ho
      refine wpOp_step rfl (fun K hK => ?_)
      have eg : xs.getD 52 undef = .bool true := by have h := (hR 52 (by omega) (hdep ⟨52, .guard⟩ (by simp) rfl)); rw [← hKS] at h; exact h
      refine wantG 52 57 _ rfl rfl rfl ((JL.slot ss (hxl.trans hll.symm) 52 (by omega)).trans eg) ?_
      have e53 : xs.getD 53 undef = .agg #[x.a0, x.a1, x.a2, x.a3, x.a4, x.a5, x.a6, x.a7, x.a8, x.a9, x.a10, x.a11] := by have h := (hR 53 (by omega) (hdep ⟨53, .data⟩ (by simp) rfl)); rw [← hKS] at h; exact h
      have e54 : xs.getD 54 undef = .int .i64 c := by have h := (hR 54 (by omega) (hdep ⟨54, .data⟩ (by simp) rfl)); rw [← hKS] at h; exact h
      refine pl_call6 58 59 _ _ _ _ rfl ((JL.slot ss (hxl.trans hll.symm) 53 (by omega)).trans e53) ((JL.slot ss (hxl.trans hll.symm) 54 (by omega)).trans e54) (ignorable_at x T c z7 _ HT HSP.out.2.2.2.2.2.2 H7) ?_
      rintro e wn ⟨rfl, hb⟩
      exact ⟨_, rfl, hK _ _ (JL.next hst (hxl.trans hll.symm) hkW hR 55 (by omega) (keepsF hb) (by rw [← hKS]; exact rfl))⟩
    · cases ho
      refine wpOp_step rfl (fun K hK => ?_)
      have eg : xs.getD 52 undef = .bool true := by have h := (hR 52 (by omega) (hdep ⟨52, .guard⟩ (by simp) rfl)); rw [← hKS] at h; exact h
      refine wantG 52 57 _ rfl rfl rfl ((JL.slot ss (hxl.trans hll.symm) 52 (by omega)).trans eg) ?_
      exact pl_load 2 rfl _ x (JL.low 2 (by omega) s2) HBX (hK _ _ (JL.next hst (hxl.trans hll.symm) hkW hR 56 (by omega) (Keeps.refl _ _) (by rw [← hKS]; exact rfl)))
    · cases ho
      refine wpOp_step rfl (fun K hK => ?_)
      have eg : xs.getD 52 undef = .bool true := by have h := (hR 52 (by omega) (hdep ⟨52, .guard⟩ (by simp) rfl)); rw [← hKS] at h; exact h
      refine wantG 52 57 _ rfl rfl rfl ((JL.slot ss (hxl.trans hll.symm) 52 (by omega)).trans eg) ?_
      exact pl_move (.tmp 1) rfl _ (JL.low 1 (by omega) s1) (hK _ _ (JL.next hst (hxl.trans hll.symm) hkW hR 57 (by omega) (Keeps.refl _ _) (by rw [← hKS]; exact rfl)))
    · cases ho
      refine wpOp_step rfl (fun K hK => ?_)
      have eg : xs.getD 52 undef = .bool true := by have h := (hR 52 (by omega) (hdep ⟨52, .guard⟩ (by simp) rfl)); rw [← hKS] at h; exact h
      refine wantG 52 57 _ rfl rfl rfl ((JL.slot ss (hxl.trans hll.symm) 52 (by omega)).trans eg) ?_
      have e56 : xs.getD 56 undef = .agg #[x.a0, x.a1, x.a2, x.a3, x.a4, x.a5, x.a6, x.a7, x.a8, x.a9, x.a10, x.a11] := by have h := (hR 56 (by omega) (hdep ⟨56, .data⟩ (by simp) rfl)); rw [← hKS] at h; exact h
      have e57 : xs.getD 57 undef = .int .i64 c := by have h := (hR 57 (by omega) (hdep ⟨57, .data⟩ (by simp) rfl)); rw [← hKS] at h; exact h
      refine pl_call14 61 62 _ _ _ _ rfl ((JL.slot ss (hxl.trans hll.symm) 56 (by omega)).trans e56) ((JL.slot ss (hxl.trans hll.symm) 57 (by omega)).trans e57) (rign_at x T c z7 _ HT HIG.out H7) ?_
      rintro e wn ⟨rfl, hb⟩
      exact ⟨_, rfl, hK _ _ (JL.next hst (hxl.trans hll.symm) hkW hR 58 (by omega) (keepsF hb) (by rw [← hKS]; exact rfl))⟩
    · cases ho
      refine wpOp_step rfl (fun K hK => ?_)
      have eg : xs.getD 52 undef = .bool true := by have h := (hR 52 (by omega) (hdep ⟨52, .guard⟩ (by simp) rfl)); rw [← hKS] at h; exact h
      refine wantG 52 57 _ rfl rfl rfl ((JL.slot ss (hxl.trans hll.symm) 52 (by omega)).trans eg) ?_
      have e55 : xs.getD 55 undef = .bool z7 := by have h := (hR 55 (by omega) (hdep ⟨55, .data⟩ (by simp) rfl)); rw [← hKS] at h; exact h
      have e58 : xs.getD 58 undef = .bool z7 := by have h := (hR 58 (by omega) (hdep ⟨58, .data⟩ (by simp) rfl)); rw [← hKS] at h; exact h
      exact pl_eqB 60 63 _ rfl ((JL.slot ss (hxl.trans hll.symm) 55 (by omega)).trans e55) ((JL.slot ss (hxl.trans hll.symm) 58 (by omega)).trans e58) (hK _ _ (JL.next hst (hxl.trans hll.symm) hkW hR 59 (by omega) (Keeps.refl _ _) (by rw [← hKS]; exact rfl)))
    · cases ho
      refine wpOp_step rfl (fun K hK => ?_)
      refine want0 rfl ?_
      have e52 : xs.getD 52 undef = .bool true := by have h := (hR 52 (by omega) (hdep ⟨52, .data⟩ (by simp) rfl)); rw [← hKS] at h; exact h
      have e59 : xs.getD 59 undef = .bool true := by have h := (hR 59 (by omega) (hdep ⟨59, .data⟩ (by simp) rfl)); rw [← hKS] at h; exact h
      exact pl_pick 57 64 _ rfl ((JL.slot ss (hxl.trans hll.symm) 52 (by omega)).trans e52) ((JL.slot ss (hxl.trans hll.symm) 59 (by omega)).trans e59) (hK _ _ (JL.next hst (hxl.trans hll.symm) hkW hR 60 (by omega) (Keeps.refl _ _) (by rw [← hKS]; exact rfl)))
    · cases ho
      refine wpOp_step rfl (fun K hK => ?_)
      refine want0 rfl ?_
      have e60 : xs.getD 60 undef = .bool true := by have h := (hR 60 (by omega) (hdep ⟨60, .data⟩ (by simp) rfl)); rw [← hKS] at h; exact h
      exact pl_move (.tmp 65) rfl _ ((JL.slot ss (hxl.trans hll.symm) 60 (by omega)).trans e60) (hK _ _ (JL.next hst (hxl.trans hll.symm) hkW hR 61 (by omega) (Keeps.refl _ _) (by rw [← hKS]; exact rfl)))
    · cases ho
      refine wpOp_step rfl (fun K hK => ?_)
      have eg : xs.getD 61 undef = .bool true := by have h := (hR 61 (by omega) (hdep ⟨61, .guard⟩ (by simp) rfl)); rw [← hKS] at h; exact h
      refine wantG 61 66 _ rfl rfl rfl ((JL.slot ss (hxl.trans hll.symm) 61 (by omega)).trans eg) ?_
      exact pl_load 2 rfl _ x (JL.low 2 (by omega) s2) HBX (hK _ _ (JL.next hst (hxl.trans hll.symm) hkW hR 62 (by omega) (Keeps.refl _ _) (by rw [← hKS]; exact rfl)))
    · cases ho
      refine wpOp_step rfl (fun K hK => ?_)
      have eg : xs.getD 61 undef = .bool true := by have h := (hR 61 (by omega) (hdep ⟨61, .guard⟩ (by simp) rfl)); rw [← hKS] at h; exact h
      refine wantG 61 66 _ rfl rfl rfl ((JL.slot ss (hxl.trans hll.symm) 61 (by omega)).trans eg) ?_
      exact pl_move (.tmp 1) rfl _ (JL.low 1 (by omega) s1) (hK _ _ (JL.next hst (hxl.trans hll.symm) hkW hR 63 (by omega) (Keeps.refl _ _) (by rw [← hKS]; exact rfl)))
    · cases ho
      refine wpOp_step rfl (fun K hK => ?_)
      have eg : xs.getD 61 undef = .bool true := by have h := (hR 61 (by omega) (hdep ⟨61, .guard⟩ (by simp) rfl)); rw [← hKS] at h; exact h
      refine wantG 61 66 _ rfl rfl rfl ((JL.slot ss (hxl.trans hll.symm) 61 (by omega)).trans eg) ?_
      have e62 : xs.getD 62 undef = .agg #[x.a0, x.a1, x.a2, x.a3, x.a4, x.a5, x.a6, x.a7, x.a8, x.a9, x.a10, x.a11] := by have h := (hR 62 (by omega) (hdep ⟨62, .data⟩ (by simp) rfl)); rw [← hKS] at h; exact h
      have e63 : xs.getD 63 undef = .int .i64 c := by have h := (hR 63 (by omega) (hdep ⟨63, .data⟩ (by simp) rfl)); rw [← hKS] at h; exact h
      refine pl_call7 67 68 _ _ _ _ rfl ((JL.slot ss (hxl.trans hll.symm) 62 (by omega)).trans e62) ((JL.slot ss (hxl.trans hll.symm) 63 (by omega)).trans e63) (excluded_at x T c z8 _ HT HKY.out.2.2.2.2 H8) ?_
      rintro e wn ⟨rfl, hb⟩
      exact ⟨_, rfl, hK _ _ (JL.next hst (hxl.trans hll.symm) hkW hR 64 (by omega) (keepsF hb) (by rw [← hKS]; exact rfl))⟩
    · cases ho
      refine wpOp_step rfl (fun K hK => ?_)
      have eg : xs.getD 61 undef = .bool true := by have h := (hR 61 (by omega) (hdep ⟨61, .guard⟩ (by simp) rfl)); rw [← hKS] at h; exact h
      refine wantG 61 66 _ rfl rfl rfl ((JL.slot ss (hxl.trans hll.symm) 61 (by omega)).trans eg) ?_
      exact pl_load 2 rfl _ x (JL.low 2 (by omega) s2) HBX (hK _ _ (JL.next hst (hxl.trans hll.symm) hkW hR 65 (by omega) (Keeps.refl _ _) (by rw [← hKS]; exact rfl)))
    · cases ho
      refine wpOp_step rfl (fun K hK => ?_)
      have eg : xs.getD 61 undef = .bool true := by have h := (hR 61 (by omega) (hdep ⟨61, .guard⟩ (by simp) rfl)); rw [← hKS] at h; exact h
      refine wantG 61 66 _ rfl rfl rfl ((JL.slot ss (hxl.trans hll.symm) 61 (by omega)).trans eg) ?_
      exact pl_move (.tmp 1) rfl _ (JL.low 1 (by omega) s1) (hK _ _ (JL.next hst (hxl.trans hll.symm) hkW hR 66 (by omega) (Keeps.refl _ _) (by rw [← hKS]; exact rfl)))
    · cases ho
      refine wpOp_step rfl (fun K hK => ?_)
      have eg : xs.getD 61 undef = .bool true := by have h := (hR 61 (by omega) (hdep ⟨61, .guard⟩ (by simp) rfl)); rw [← hKS] at h; exact h
      refine wantG 61 66 _ rfl rfl rfl ((JL.slot ss (hxl.trans hll.symm) 61 (by omega)).trans eg) ?_
      have e65 : xs.getD 65 undef = .agg #[x.a0, x.a1, x.a2, x.a3, x.a4, x.a5, x.a6, x.a7, x.a8, x.a9, x.a10, x.a11] := by have h := (hR 65 (by omega) (hdep ⟨65, .data⟩ (by simp) rfl)); rw [← hKS] at h; exact h
      have e66 : xs.getD 66 undef = .int .i64 c := by have h := (hR 66 (by omega) (hdep ⟨66, .data⟩ (by simp) rfl)); rw [← hKS] at h; exact h
      refine pl_call15 70 71 _ _ _ _ rfl ((JL.slot ss (hxl.trans hll.symm) 65 (by omega)).trans e65) ((JL.slot ss (hxl.trans hll.symm) 66 (by omega)).trans e66) (rexcl_at x T c z8 _ HT H8) ?_
      rintro e wn ⟨rfl, hb⟩
      exact ⟨_, rfl, hK _ _ (JL.next hst (hxl.trans hll.symm) hkW hR 67 (by omega) (keepsF hb) (by rw [← hKS]; exact rfl))⟩
    · cases ho
      refine wpOp_step rfl (fun K hK => ?_)
      have eg : xs.getD 61 undef = .bool true := by have h := (hR 61 (by omega) (hdep ⟨61, .guard⟩ (by simp) rfl)); rw [← hKS] at h; exact h
      refine wantG 61 66 _ rfl rfl rfl ((JL.slot ss (hxl.trans hll.symm) 61 (by omega)).trans eg) ?_
      have e64 : xs.getD 64 undef = .bool z8 := by have h := (hR 64 (by omega) (hdep ⟨64, .data⟩ (by simp) rfl)); rw [← hKS] at h; exact h
      have e67 : xs.getD 67 undef = .bool z8 := by have h := (hR 67 (by omega) (hdep ⟨67, .data⟩ (by simp) rfl)); rw [← hKS] at h; exact h
      exact pl_eqB 69 72 _ rfl ((JL.slot ss (hxl.trans hll.symm) 64 (by omega)).trans e64) ((JL.slot ss (hxl.trans hll.symm) 67 (by omega)).trans e67) (hK _ _ (JL.next hst (hxl.trans hll.symm) hkW hR 68 (by omega) (Keeps.refl _ _) (by rw [← hKS]; exact rfl)))
    · cases ho
      refine wpOp_step rfl (fun K hK => ?_)
      refine want0 rfl ?_
      have e61 : xs.getD 61 undef = .bool true := by have h := (hR 61 (by omega) (hdep ⟨61, .data⟩ (by simp) rfl)); rw [← hKS] at h; exact h
      have e68 : xs.getD 68 undef = .bool true := by have h := (hR 68 (by omega) (hdep ⟨68, .data⟩ (by simp) rfl)); rw [← hKS] at h; exact h
      exact pl_pick 66 73 _ rfl ((JL.slot ss (hxl.trans hll.symm) 61 (by omega)).trans e61) ((JL.slot ss (hxl.trans hll.symm) 68 (by omega)).trans e68) (hK _ _ (JL.next hst (hxl.trans hll.symm) hkW hR 69 (by omega) (Keeps.refl _ _) (by rw [← hKS]; exact rfl)))
    · cases ho
      refine wpOp_step rfl (fun K hK => ?_)
      refine want0 rfl ?_
      have e69 : xs.getD 69 undef = .bool true := by have h := (hR 69 (by omega) (hdep ⟨69, .data⟩ (by simp) rfl)); rw [← hKS] at h; exact h
      exact pl_move (.tmp 74) rfl _ ((JL.slot ss (hxl.trans hll.symm) 69 (by omega)).trans e69) (hK _ _ (JL.next hst (hxl.trans hll.symm) hkW hR 70 (by omega) (Keeps.refl _ _) (by rw [← hKS]; exact rfl)))
    · cases ho
      refine wpOp_step rfl (fun K hK => ?_)
      have eg : xs.getD 70 undef = .bool true := by have h := (hR 70 (by omega) (hdep ⟨70, .guard⟩ (by simp) rfl)); rw [← hKS] at h; exact h
      refine wantG 70 75 _ rfl rfl rfl ((JL.slot ss (hxl.trans hll.symm) 70 (by omega)).trans eg) ?_
      exact pl_load 2 rfl _ x (JL.low 2 (by omega) s2) HBX (hK _ _ (JL.next hst (hxl.trans hll.symm) hkW hR 71 (by omega) (Keeps.refl _ _) (by rw [← hKS]; exact rfl)))
    · cases ho
      refine wpOp_step rfl (fun K hK => ?_)
      have eg : xs.getD 70 undef = .bool true := by have h := (hR 70 (by omega) (hdep ⟨70, .guard⟩ (by simp) rfl)); rw [← hKS] at h; exact h
      refine wantG 70 75 _ rfl rfl rfl ((JL.slot ss (hxl.trans hll.symm) 70 (by omega)).trans eg) ?_
      exact pl_move (.tmp 1) rfl _ (JL.low 1 (by omega) s1) (hK _ _ (JL.next hst (hxl.trans hll.symm) hkW hR 72 (by omega) (Keeps.refl _ _) (by rw [← hKS]; exact rfl)))
    · cases ho
      refine wpOp_step rfl (fun K hK => ?_)
      have eg : xs.getD 70 undef = .bool true := by have h := (hR 70 (by omega) (hdep ⟨70, .guard⟩ (by simp) rfl)); rw [← hKS] at h; exact h
      refine wantG 70 75 _ rfl rfl rfl ((JL.slot ss (hxl.trans hll.symm) 70 (by omega)).trans eg) ?_
      have e71 : xs.getD 71 undef = .agg #[x.a0, x.a1, x.a2, x.a3, x.a4, x.a5, x.a6, x.a7, x.a8, x.a9, x.a10, x.a11] := by have h := (hR 71 (by omega) (hdep ⟨71, .data⟩ (by simp) rfl)); rw [← hKS] at h; exact h
      have e72 : xs.getD 72 undef = .int .i64 c := by have h := (hR 72 (by omega) (hdep ⟨72, .data⟩ (by simp) rfl)); rw [← hKS] at h; exact h
      refine pl_call16 76 77 _ _ _ _ rfl ((JL.slot ss (hxl.trans hll.symm) 71 (by omega)).trans e71) ((JL.slot ss (hxl.trans hll.symm) 72 (by omega)).trans e72) (tscripts_at x T c l9 _ HT HKY.out.1 H9) ?_
      rintro e wn ⟨p, n, q, rfl, h1, h2, h3, hb⟩
      exact ⟨_, rfl, hK _ _ (JL.next hst (hxl.trans hll.symm) hkW hR 73 (by omega) (keepsF hb) (by rw [← hKS]; exact ⟨p, n, q, rfl, h1, h2, h3⟩))⟩
    · cases ho
      refine wpOp_step rfl (fun K hK => ?_)
      have eg : xs.getD 70 undef = .bool true := by have h := (hR 70 (by omega) (hdep ⟨70, .guard⟩ (by simp) rfl)); rw [← hKS] at h; exact h
      refine wantG 70 75 _ rfl rfl rfl ((JL.slot ss (hxl.trans hll.symm) 70 (by omega)).trans eg) ?_
      exact pl_load 2 rfl _ x (JL.low 2 (by omega) s2) HBX (hK _ _ (JL.next hst (hxl.trans hll.symm) hkW hR 74 (by omega) (Keeps.refl _ _) (by rw [← hKS]; exact rfl)))
    · cases ho
      refine wpOp_step rfl (fun K hK => ?_)
      have eg : xs.getD 70 undef = .bool true := by have h := (hR 70 (by omega) (hdep ⟨70, .guard⟩ (by simp) rfl)); rw [← hKS] at h; exact h
      refine wantG 70 75 _ rfl rfl rfl ((JL.slot ss (hxl.trans hll.symm) 70 (by omega)).trans eg) ?_
      exact pl_move (.tmp 1) rfl _ (JL.low 1 (by omega) s1) (hK _ _ (JL.next hst (hxl.trans hll.symm) hkW hR 75 (by omega) (Keeps.refl _ _) (by rw [← hKS]; exact rfl)))
    · cases ho
      refine wpOp_step rfl (fun K hK => ?_)
      have eg : xs.getD 70 undef = .bool true := by have h := (hR 70 (by omega) (hdep ⟨70, .guard⟩ (by simp) rfl)); rw [← hKS] at h; exact h
      refine wantG 70 75 _ rfl rfl rfl ((JL.slot ss (hxl.trans hll.symm) 70 (by omega)).trans eg) ?_
      have e74 : xs.getD 74 undef = .agg #[x.a0, x.a1, x.a2, x.a3, x.a4, x.a5, x.a6, x.a7, x.a8, x.a9, x.a10, x.a11] := by have h := (hR 74 (by omega) (hdep ⟨74, .data⟩ (by simp) rfl)); rw [← hKS] at h; exact h
      have e75 : xs.getD 75 undef = .int .i64 c := by have h := (hR 75 (by omega) (hdep ⟨75, .data⟩ (by simp) rfl)); rw [← hKS] at h; exact h
      refine pl_call20 79 80 _ _ _ _ rfl ((JL.slot ss (hxl.trans hll.symm) 74 (by omega)).trans e74) ((JL.slot ss (hxl.trans hll.symm) 75 (by omega)).trans e75) (rscripts_at x T c l9 _ HT H9) ?_
      rintro e wn ⟨p, n, q, rfl, h1, h2, h3, hb⟩
      exact ⟨_, rfl, hK _ _ (JL.next hst (hxl.trans hll.symm) hkW hR 76 (by omega) (keepsF hb) (by rw [← hKS]; exact ⟨p, n, q, rfl, h1, h2, h3⟩))⟩
    · cases ho
      refine wpOp_step rfl (fun K hK => ?_)
      have eg : xs.getD 70 undef = .bool true := by have h := (hR 70 (by omega) (hdep ⟨70, .guard⟩ (by simp) rfl)); rw [← hKS] at h; exact h
      refine wantG 70 75 _ rfl rfl rfl ((JL.slot ss (hxl.trans hll.symm) 70 (by omega)).trans eg) ?_
      obtain ⟨pA, nA, qA, e73, hA1, hA2, hA3⟩ : kList l9 (xs.getD 73 undef) wz := by have h := (hR 73 (by omega) (hdep ⟨73, .data⟩ (by simp) rfl)); rw [← hKS] at h; exact h
      obtain ⟨pB, nB, qB, e76, hB1, hB2, hB3⟩ : kList l9 (xs.getD 76 undef) wz := by have h := (hR 76 (by omega) (hdep ⟨76, .data⟩ (by simp) rfl)); rw [← hKS] at h; exact h
      refine pl_call24 78 81 _ _ _ _ rfl ((JL.slot ss (hxl.trans hll.symm) 73 (by omega)).trans e73) ((JL.slot ss (hxl.trans hll.symm) 76 (by omega)).trans e76) (same_len pA pB nA nB qA qB l9 _ hA3 hB3 hA1 hB1 hA2) ?_
      rintro e wn ⟨rfl, hb⟩
      exact ⟨_, rfl, hK _ _ (JL.next hst (hxl.trans hll.symm) hkW hR 77 (by omega) (keepsF hb) (by rw [← hKS]; exact rfl))⟩
    · cases ho
      refine wpOp_step rfl (fun K hK => ?_)
      refine want0 rfl ?_
      have e70 : xs.getD 70 undef = .bool true := by have h := (hR 70 (by omega) (hdep ⟨70, .data⟩ (by simp) rfl)); rw [← hKS] at h; exact h
      have e77 : xs.getD 77 undef = .bool true := by have h := (hR 77 (by omega) (hdep ⟨77, .data⟩ (by simp) rfl)); rw [← hKS] at h; exact h
      exact pl_pick 75 82 _ rfl ((JL.slot ss (hxl.trans hll.symm) 70 (by omega)).trans e70) ((JL.slot ss (hxl.trans hll.symm) 77 (by omega)).trans e77) (hK _ _ (JL.next hst (hxl.trans hll.symm) hkW hR 78 (by omega) (Keeps.refl _ _) (by rw [← hKS]; exact rfl)))
    · cases ho
      refine wpOp_step rfl (fun K hK => ?_)
      refine want0 rfl ?_
      have e78 : xs.getD 78 undef = .bool true := by have h := (hR 78 (by omega) (hdep ⟨78, .data⟩ (by simp) rfl)); rw [← hKS] at h; exact h
      exact pl_move (.tmp 83) rfl _ ((JL.slot ss (hxl.trans hll.symm) 78 (by omega)).trans e78) (hK _ _ (JL.next hst (hxl.trans hll.symm) hkW hR 79 (by omega) (Keeps.refl _ _) (by rw [← hKS]; exact rfl)))
    · cases ho
      refine wpOp_step rfl (fun K hK => ?_)
      have eg : xs.getD 79 undef = .bool true := by have h := (hR 79 (by omega) (hdep ⟨79, .guard⟩ (by simp) rfl)); rw [← hKS] at h; exact h
      refine wantG 79 84 _ rfl rfl rfl ((JL.slot ss (hxl.trans hll.symm) 79 (by omega)).trans eg) ?_
      exact pl_load 2 rfl _ x (JL.low 2 (by omega) s2) HBX (hK _ _ (JL.next hst (hxl.trans hll.symm) hkW hR 80 (by omega) (Keeps.refl _ _) (by rw [← hKS]; exact rfl)))
    · cases ho
      refine wpOp_step rfl (fun K hK => ?_)
      have eg : xs.getD 79 undef = .bool true := by have h := (hR 79 (by omega) (hdep ⟨79, .guard⟩ (by simp) rfl)); rw [← hKS] at h; exact h
      refine wantG 79 84 _ rfl rfl rfl ((JL.slot ss (hxl.trans hll.symm) 79 (by omega)).trans eg) ?_
      exact pl_move (.tmp 1) rfl _ (JL.low 1 (by omega) s1) (hK _ _ (JL.next hst (hxl.trans hll.symm) hkW hR 81 (by omega) (Keeps.refl _ _) (by rw [← hKS]; exact rfl)))
    · cases ho
      refine wpOp_step rfl (fun K hK => ?_)
      have eg : xs.getD 79 undef = .bool true := by have h := (hR 79 (by omega) (hdep ⟨79, .guard⟩ (by simp) rfl)); rw [← hKS] at h; exact h
      refine wantG 79 84 _ rfl rfl rfl ((JL.slot ss (hxl.trans hll.symm) 79 (by omega)).trans eg) ?_
      have e80 : xs.getD 80 undef = .agg #[x.a0, x.a1, x.a2, x.a3, x.a4, x.a5, x.a6, x.a7, x.a8, x.a9, x.a10, x.a11] := by have h := (hR 80 (by omega) (hdep ⟨80, .data⟩ (by simp) rfl)); rw [← hKS] at h; exact h
      have e81 : xs.getD 81 undef = .int .i64 c := by have h := (hR 81 (by omega) (hdep ⟨81, .data⟩ (by simp) rfl)); rw [← hKS] at h; exact h
      refine pl_call17 85 86 _ _ _ _ rfl ((JL.slot ss (hxl.trans hll.symm) 80 (by omega)).trans e80) ((JL.slot ss (hxl.trans hll.symm) 81 (by omega)).trans e81) (tmaps_at x T c l10 _ HT HKY.out.2.1 H10) ?_
      rintro e wn ⟨p, n, q, rfl, h1, h2, h3, hb⟩
      exact ⟨_, rfl, hK _ _ (JL.next hst (hxl.trans hll.symm) hkW hR 82 (by omega) (keepsF hb) (by rw [← hKS]; exact ⟨p, n, q, rfl, h1, h2, h3⟩))⟩
    · cases ho
      refine wpOp_step rfl (fun K hK => ?_)
      have eg : xs.getD 79 undef = .bool true := by have h := (hR 79 (by omega) (hdep ⟨79, .guard⟩ (by simp) rfl)); rw [← hKS] at h; exact h
      refine wantG 79 84 _ rfl rfl rfl ((JL.slot ss (hxl.trans hll.symm) 79 (by omega)).trans eg) ?_
      exact pl_load 2 rfl _ x (JL.low 2 (by omega) s2) HBX (hK _ _ (JL.next hst (hxl.trans hll.symm) hkW hR 83 (by omega) (Keeps.refl _ _) (by rw [← hKS]; exact rfl)))
    · cases ho
      refine wpOp_step rfl (fun K hK => ?_)
      have eg : xs.getD 79 undef = .bool true := by have h := (hR 79 (by omega) (hdep ⟨79, .guard⟩ (by simp) rfl)); rw [← hKS] at h; exact h
      refine wantG 79 84 _ rfl rfl rfl ((JL.slot ss (hxl.trans hll.symm) 79 (by omega)).trans eg) ?_
      exact pl_move (.tmp 1) rfl _ (JL.low 1 (by omega) s1) (hK _ _ (JL.next hst (hxl.trans hll.symm) hkW hR 84 (by omega) (Keeps.refl _ _) (by rw [← hKS]; exact rfl)))
    · cases ho
      refine wpOp_step rfl (fun K hK => ?_)
      have eg : xs.getD 79 undef = .bool true := by have h := (hR 79 (by omega) (hdep ⟨79, .guard⟩ (by simp) rfl)); rw [← hKS] at h; exact h
      refine wantG 79 84 _ rfl rfl rfl ((JL.slot ss (hxl.trans hll.symm) 79 (by omega)).trans eg) ?_
      have e83 : xs.getD 83 undef = .agg #[x.a0, x.a1, x.a2, x.a3, x.a4, x.a5, x.a6, x.a7, x.a8, x.a9, x.a10, x.a11] := by have h := (hR 83 (by omega) (hdep ⟨83, .data⟩ (by simp) rfl)); rw [← hKS] at h; exact h
      have e84 : xs.getD 84 undef = .int .i64 c := by have h := (hR 84 (by omega) (hdep ⟨84, .data⟩ (by simp) rfl)); rw [← hKS] at h; exact h
      refine pl_call21 88 89 _ _ _ _ rfl ((JL.slot ss (hxl.trans hll.symm) 83 (by omega)).trans e83) ((JL.slot ss (hxl.trans hll.symm) 84 (by omega)).trans e84) (rmapsOf_at x T c l10 _ HT H10) ?_
      rintro e wn ⟨p, n, q, rfl, h1, h2, h3, hb⟩
      exact ⟨_, rfl, hK _ _ (JL.next hst (hxl.trans hll.symm) hkW hR 85 (by omega) (keepsF hb) (by rw [← hKS]; exact ⟨p, n, q, rfl, h1, h2, h3⟩))⟩
    · cases ho
      refine wpOp_step rfl (fun K hK => ?_)
      have eg : xs.getD 79 undef = .bool true := by have h := (hR 79 (by omega) (hdep ⟨79, .guard⟩ (by simp) rfl)); rw [← hKS] at h; exact h
      refine wantG 79 84 _ rfl rfl rfl ((JL.slot ss (hxl.trans hll.symm) 79 (by omega)).trans eg) ?_
      obtain ⟨pA, nA, qA, e82, hA1, hA2, hA3⟩ : kList l10 (xs.getD 82 undef) wz := by have h := (hR 82 (by omega) (hdep ⟨82, .data⟩ (by simp) rfl)); rw [← hKS] at h; exact h
      obtain ⟨pB, nB, qB, e85, hB1, hB2, hB3⟩ : kList l10 (xs.getD 85 undef) wz := by have h := (hR 85 (by omega) (hdep ⟨85, .data⟩ (by simp) rfl)); rw [← hKS] at h; exact h
      refine pl_call24 87 90 _ _ _ _ rfl ((JL.slot ss (hxl.trans hll.symm) 82 (by omega)).trans e82) ((JL.slot ss (hxl.trans hll.symm) 85 (by omega)).trans e85) (same_len pA pB nA nB qA qB l10 _ hA3 hB3 hA1 hB1 hA2) ?_
      rintro e wn ⟨rfl, hb⟩
      exact ⟨_, rfl, hK _ _ (JL.next hst (hxl.trans hll.symm) hkW hR 86 (by omega) (keepsF hb) (by rw [← hKS]; exact rfl))⟩
    · cases ho
      refine wpOp_step rfl (fun K hK => ?_)
      refine want0 rfl ?_
      have e79 : xs.getD 79 undef = .bool true := by have h := (hR 79 (by omega) (hdep ⟨79, .data⟩ (by simp) rfl)); rw [← hKS] at h; exact h
      have e86 : xs.getD 86 undef = .bool true := by have h := (hR 86 (by omega) (hdep ⟨86, .data⟩ (by simp) rfl)); rw [← hKS] at h; exact h
      exact pl_pick 84 91 _ rfl ((JL.slot ss (hxl.trans hll.symm) 79 (by omega)).trans e79) ((JL.slot ss (hxl.trans hll.symm) 86 (by omega)).trans e86) (hK _ _ (JL.next hst (hxl.trans hll.symm) hkW hR 87 (by omega) (Keeps.refl _ _) (by rw [← hKS]; exact rfl)))
    · cases ho
      refine wpOp_step rfl (fun K hK => ?_)
      refine want0 rfl ?_
      have e87 : xs.getD 87 undef = .bool true := by have h := (hR 87 (by omega) (hdep ⟨87, .data⟩ (by simp) rfl)); rw [← hKS] at h; exact h
      exact pl_move (.tmp 92) rfl _ ((JL.slot ss (hxl.trans hll.symm) 87 (by omega)).trans e87) (hK _ _ (JL.next hst (hxl.trans hll.symm) hkW hR 88 (by omega) (Keeps.refl _ _) (by rw [← hKS]; exact rfl)))
    · cases ho
      refine wpOp_step rfl (fun K hK => ?_)
      have eg : xs.getD 88 undef = .bool true := by have h := (hR 88 (by omega) (hdep ⟨88, .guard⟩ (by simp) rfl)); rw [← hKS] at h; exact h
      refine wantG 88 93 _ rfl rfl rfl ((JL.slot ss (hxl.trans hll.symm) 88 (by omega)).trans eg) ?_
      exact pl_load 2 rfl _ x (JL.low 2 (by omega) s2) HBX (hK _ _ (JL.next hst (hxl.trans hll.symm) hkW hR 89 (by omega) (Keeps.refl _ _) (by rw [← hKS]; exact rfl)))
    · cases ho
      refine wpOp_step rfl (fun K hK => ?_)
      have eg : xs.getD 88 undef = .bool true := by have h := (hR 88 (by omega) (hdep ⟨88, .guard⟩ (by simp) rfl)); rw [← hKS] at h; exact h
      refine wantG 88 93 _ rfl rfl rfl ((JL.slot ss (hxl.trans hll.symm) 88 (by omega)).trans eg) ?_
      exact pl_move (.tmp 1) rfl _ (JL.low 1 (by omega) s1) (hK _ _ (JL.next hst (hxl.trans hll.symm) hkW hR 90 (by omega) (Keeps.refl _ _) (by rw [← hKS]; exact rfl)))
    · cases ho
      refine wpOp_step rfl (fun K hK => ?_)
      have eg : xs.getD 88 undef = .bool true := by have h := (hR 88 (by omega) (hdep ⟨88, .guard⟩ (by simp) rfl)); rw [← hKS] at h; exact h
      refine wantG 88 93 _ rfl rfl rfl ((JL.slot ss (hxl.trans hll.symm) 88 (by omega)).trans eg) ?_
      have e89 : xs.getD 89 undef = .agg #[x.a0, x.a1, x.a2, x.a3, x.a4, x.a5, x.a6, x.a7, x.a8, x.a9, x.a10, x.a11] := by have h := (hR 89 (by omega) (hdep ⟨89, .data⟩ (by simp) rfl)); rw [← hKS] at h; exact h
      have e90 : xs.getD 90 undef = .int .i64 c := by have h := (hR 90 (by omega) (hdep ⟨90, .data⟩ (by simp) rfl)); rw [← hKS] at h; exact h
      refine pl_call18 94 95 _ _ _ _ rfl ((JL.slot ss (hxl.trans hll.symm) 89 (by omega)).trans e89) ((JL.slot ss (hxl.trans hll.symm) 90 (by omega)).trans e90) (tdecomp_at x T c l11 _ HT HKY.out.2.2.1 H11) ?_
      rintro e wn ⟨p, n, q, rfl, h1, h2, h3, hb⟩
      exact ⟨_, rfl, hK _ _ (JL.next hst (hxl.trans hll.symm) hkW hR 91 (by omega) (keepsF hb) (by rw [← hKS]; exact ⟨p, n, q, rfl, h1, h2, h3⟩))⟩
    · cases ho
      refine wpOp_step rfl (fun K hK => ?_)
      have eg : xs.getD 88 undef = .bool true := by have h := (hR 88 (by omega) (hdep ⟨88, .guard⟩ (by simp) rfl)); rw [← hKS] at h; exact h
      refine wantG 88 93 _ rfl rfl rfl ((JL.slot ss (hxl.trans hll.symm) 88 (by omega)).trans eg) ?_
      exact pl_load 2 rfl _ x (JL.low 2 (by omega) s2) HBX (hK _ _ (JL.next hst (hxl.trans hll.symm) hkW hR 92 (by omega) (Keeps.refl _ _) (by rw [← hKS]; exact rfl)))
    · cases ho
      refine wpOp_step rfl (fun K hK => ?_)
      have eg : xs.getD 88 undef = .bool true := by have h := (hR 88 (by omega) (hdep ⟨88, .guard⟩ (by simp) rfl)); rw [← hKS] at h; exact h
      refine wantG 88 93 _ rfl rfl rfl ((JL.slot ss (hxl.trans hll.symm) 88 (by omega)).trans eg) ?_
      exact pl_move (.tmp 1) rfl _ (JL.low 1 (by omega) s1) (hK _ _ (JL.next hst (hxl.trans hll.symm) hkW hR 93 (by omega) (Keeps.refl _ _) (by rw [← hKS]; exact rfl)))
    · cases ho
      refine wpOp_step rfl (fun K hK => ?_)
      have eg : xs.getD 88 undef = .bool true := by have h := (hR 88 (by omega) (hdep ⟨88, .guard⟩ (by simp) rfl)); rw [← hKS] at h; exact h
      refine wantG 88 93 _ rfl rfl rfl ((JL.slot ss (hxl.trans hll.symm) 88 (by omega)).trans eg) ?_
      have e92 : xs.getD 92 undef = .agg #[x.a0, x.a1, x.a2, x.a3, x.a4, x.a5, x.a6, x.a7, x.a8, x.a9, x.a10, x.a11] := by have h := (hR 92 (by omega) (hdep ⟨92, .data⟩ (by simp) rfl)); rw [← hKS] at h; exact h
      have e93 : xs.getD 93 undef = .int .i64 c := by have h := (hR 93 (by omega) (hdep ⟨93, .data⟩ (by simp) rfl)); rw [← hKS] at h; exact h
      refine pl_call22 97 98 _ _ _ _ rfl ((JL.slot ss (hxl.trans hll.symm) 92 (by omega)).trans e92) ((JL.slot ss (hxl.trans hll.symm) 93 (by omega)).trans e93) (rdecomp_at x T c l11 _ HT H11) ?_
      rintro e wn ⟨p, n, q, rfl, h1, h2, h3, hb⟩
      exact ⟨_, rfl, hK _ _ (JL.next hst (hxl.trans hll.symm) hkW hR 94 (by omega) (keepsF hb) (by rw [← hKS]; exact ⟨p, n, q, rfl, h1, h2, h3⟩))⟩
    · cases ho
      refine wpOp_step rfl (fun K hK => ?_)
      have eg : xs.getD 88 undef = .bool true := by have h := (hR 88 (by omega) (hdep ⟨88, .guard⟩ (by simp) rfl)); rw [← hKS] at h; exact h
      refine wantG 88 93 _ rfl rfl rfl ((JL.slot ss (hxl.trans hll.symm) 88 (by omega)).trans eg) ?_
      obtain ⟨pA, nA, qA, e91, hA1, hA2, hA3⟩ : kList l11 (xs.getD 91 undef) wz := by have h := (hR 91 (by omega) (hdep ⟨91, .data⟩ (by simp) rfl)); rw [← hKS] at h; exact h
      obtain ⟨pB, nB, qB, e94, hB1, hB2, hB3⟩ : kList l11 (xs.getD 94 undef) wz := by have h := (hR 94 (by omega) (hdep ⟨94, .data⟩ (by simp) rfl)); rw [← hKS] at h; exact h
      refine pl_call24 96 99 _ _ _ _ rfl ((JL.slot ss (hxl.trans hll.symm) 91 (by omega)).trans e91) ((JL.slot ss (hxl.trans hll.symm) 94 (by omega)).trans e94) (same_len pA pB nA nB qA qB l11 _ hA3 hB3 hA1 hB1 hA2) ?_
      rintro e wn ⟨rfl, hb⟩
      exact ⟨_, rfl, hK _ _ (JL.next hst (hxl.trans hll.symm) hkW hR 95 (by omega) (keepsF hb) (by rw [← hKS]; exact rfl))⟩
    · cases ho
      refine wpOp_step rfl (fun K hK => ?_)
      refine want0 rfl ?_
      have e88 : xs.getD 88 undef = .bool true := by have h := (hR 88 (by omega) (hdep ⟨88, .data⟩ (by simp) rfl)); rw [← hKS] at h; exact h
      have e95 : xs.getD 95 undef = .bool true := by have h := (hR 95 (by omega) (hdep ⟨95, .data⟩ (by simp) rfl)); rw [← hKS] at h; exact h
      exact pl_pick 93 100 _ rfl ((JL.slot ss (hxl.trans hll.symm) 88 (by omega)).trans e88) ((JL.slot ss (hxl.trans hll.symm) 95 (by omega)).trans e95) (hK _ _ (JL.next hst (hxl.trans hll.symm) hkW hR 96 (by omega) (Keeps.refl _ _) (by rw [← hKS]; exact rfl)))
    · cases ho
      refine wpOp_step rfl (fun K hK => ?_)
      refine want0 rfl ?_
      have e96 : xs.getD 96 undef = .bool true := by have h := (hR 96 (by omega) (hdep ⟨96, .data⟩ (by simp) rfl)); rw [← hKS] at h; exact h
      exact pl_move (.tmp 101) rfl _ ((JL.slot ss (hxl.trans hll.symm) 96 (by omega)).trans e96) (hK _ _ (JL.next hst (hxl.trans hll.symm) hkW hR 97 (by omega) (Keeps.refl _ _) (by rw [← hKS]; exact rfl)))
    · cases ho
      refine wpOp_step rfl (fun K hK => ?_)
      have eg : xs.getD 97 undef = .bool true := by have h := (hR 97 (by omega) (hdep ⟨97, .guard⟩ (by simp) rfl)); rw [← hKS] at h; exact h
      refine wantG 97 102 _ rfl rfl rfl ((JL.slot ss (hxl.trans hll.symm) 97 (by omega)).trans eg) ?_
      exact pl_load 2 rfl _ x (JL.low 2 (by omega) s2) HBX (hK _ _ (JL.next hst (hxl.trans hll.symm) hkW hR 98 (by omega) (Keeps.refl _ _) (by rw [← hKS]; exact rfl)))
    · cases ho
      refine wpOp_step rfl (fun K hK => ?_)
      have eg : xs.getD 97 undef = .bool true := by have h := (hR 97 (by omega) (hdep ⟨97, .guard⟩ (by simp) rfl)); rw [← hKS] at h; exact h
      refine wantG 97 102 _ rfl rfl rfl ((JL.slot ss (hxl.trans hll.symm) 97 (by omega)).trans eg) ?_
      exact pl_move (.tmp 1) rfl _ (JL.low 1 (by omega) s1) (hK _ _ (JL.next hst (hxl.trans hll.symm) hkW hR 99 (by omega) (Keeps.refl _ _) (by rw [← hKS]; exact rfl)))
    · cases ho
      refine wpOp_step rfl (fun K hK => ?_)
      have eg : xs.getD 97 undef = .bool true := by have h := (hR 97 (by omega) (hdep ⟨97, .guard⟩ (by simp) rfl)); rw [← hKS] at h; exact h
      refine wantG 97 102 _ rfl rfl rfl ((JL.slot ss (hxl.trans hll.symm) 97 (by omega)).trans eg) ?_
      have e98 : xs.getD 98 undef = .agg #[x.a0, x.a1, x.a2, x.a3, x.a4, x.a5, x.a6, x.a7, x.a8, x.a9, x.a10, x.a11] := by have h := (hR 98 (by omega) (hdep ⟨98, .data⟩ (by simp) rfl)); rw [← hKS] at h; exact h
      have e99 : xs.getD 99 undef = .int .i64 c := by have h := (hR 99 (by omega) (hdep ⟨99, .data⟩ (by simp) rfl)); rw [← hKS] at h; exact h
      refine pl_call19 103 104 _ _ _ _ rfl ((JL.slot ss (hxl.trans hll.symm) 98 (by omega)).trans e98) ((JL.slot ss (hxl.trans hll.symm) 99 (by omega)).trans e99) (tproto_at x T c l12 _ HT HKY.out.2.2.2.1 H12) ?_
      rintro e wn ⟨p, n, q, rfl, h1, h2, h3, hb⟩
      exact ⟨_, rfl, hK _ _ (JL.next hst (hxl.trans hll.symm) hkW hR 100 (by omega) (keepsF hb) (by rw [← hKS]; exact ⟨p, n, q, rfl, h1, h2, h3⟩))⟩
    · cases ho
      refine wpOp_step rfl (fun K hK => ?_)
      have eg : xs.getD 97 undef = .bool true := by have h := (hR 97 (by omega) (hdep ⟨97, .guard⟩ (by simp) rfl)); rw [← hKS] at h; exact h
      refine wantG 97 102 _ rfl rfl rfl ((JL.slot ss (hxl.trans hll.symm) 97 (by omega)).trans eg) ?_
      exact pl_load 2 rfl _ x (JL.low 2 (by omega) s2) HBX (hK _ _ (JL.next hst (hxl.trans hll.symm) hkW hR 101 (by omega) (Keeps.refl _ _) (by rw [← hKS]; exact rfl)))
    · cases ho
      refine wpOp_step rfl (fun K hK => ?_)
      have eg : xs.getD 97 undef = .bool true := by have h := (hR 97 (by omega) (hdep ⟨97, .guard⟩ (by simp) rfl)); rw [← hKS] at h; exact h
      refine wantG 97 102 _ rfl rfl rfl ((JL.slot ss (hxl.trans hll.symm) 97 (by omega)).trans eg) ?_
      exact pl_move (.tmp 1) rfl _ (JL.low 1 (by omega) s1) (hK _ _ (JL.next hst (hxl.trans hll.symm) hkW hR 102 (by omega) (Keeps.refl _ _) (by rw [← hKS]; exact rfl)))
    · cases ho
      refine wpOp_step rfl (fun K hK => ?_)
      have eg : xs.getD 97 undef = .bool true := by have h := (hR 97 (by omega) (hdep ⟨97, .guard⟩ (by simp) rfl)); rw [← hKS] at h; exact h
      refine wantG 97 102 _ rfl rfl rfl ((JL.slot ss (hxl.trans hll.symm) 97 (by omega)).trans eg) ?_
      have e101 : xs.getD 101 undef = .agg #[x.a0, x.a1, x.a2, x.a3, x.a4, x.a5, x.a6, x.a7, x.a8, x.a9, x.a10, x.a11] := by have h := (hR 101 (by omega) (hdep ⟨101, .data⟩ (by simp) rfl)); rw [← hKS] at h; exact h
      have e102 : xs.getD 102 undef = .int .i64 c := by have h := (hR 102 (by omega) (hdep ⟨102, .data⟩ (by simp) rfl)); rw [← hKS] at h; exact h
      refine pl_call23 106 107 _ _ _ _ rfl ((JL.slot ss (hxl.trans hll.symm) 101 (by omega)).trans e101) ((JL.slot ss (hxl.trans hll.symm) 102 (by omega)).trans e102) (rproto_at x T c l12 _ HT H12) ?_
      rintro e wn ⟨p, n, q, rfl, h1, h2, h3, hb⟩
      exact ⟨_, rfl, hK _ _ (JL.next hst (hxl.trans hll.symm) hkW hR 103 (by omega) (keepsF hb) (by rw [← hKS]; exact ⟨p, n, q, rfl, h1, h2, h3⟩))⟩
    · cases ho
      refine wpOp_step rfl (fun K hK => ?_)
      have eg : xs.getD 97 undef = .bool true := by have h := (hR 97 (by omega) (hdep ⟨97, .guard⟩ (by simp) rfl)); rw [← hKS] at h; exact h
      refine wantG 97 102 _ rfl rfl rfl ((JL.slot ss (hxl.trans hll.symm) 97 (by omega)).trans eg) ?_
      obtain ⟨pA, nA, qA, e100, hA1, hA2, hA3⟩ : kList l12 (xs.getD 100 undef) wz := by have h := (hR 100 (by omega) (hdep ⟨100, .data⟩ (by simp) rfl)); rw [← hKS] at h; exact h
      obtain ⟨pB, nB, qB, e103, hB1, hB2, hB3⟩ : kList l12 (xs.getD 103 undef) wz := by have h := (hR 103 (by omega) (hdep ⟨103, .data⟩ (by simp) rfl)); rw [← hKS] at h; exact h
      refine pl_call24 105 108 _ _ _ _ rfl ((JL.slot ss (hxl.trans hll.symm) 100 (by omega)).trans e100) ((JL.slot ss (hxl.trans hll.symm) 103 (by omega)).trans e103) (same_len pA pB nA nB qA qB l12 _ hA3 hB3 hA1 hB1 hA2) ?_
      rintro e wn ⟨rfl, hb⟩
      exact ⟨_, rfl, hK _ _ (JL.next hst (hxl.trans hll.symm) hkW hR 104 (by omega) (keepsF hb) (by rw [← hKS]; exact rfl))⟩
    · cases ho
      refine wpOp_step rfl (fun K hK => ?_)
      refine want0 rfl ?_
      have e97 : xs.getD 97 undef = .bool true := by have h := (hR 97 (by omega) (hdep ⟨97, .data⟩ (by simp) rfl)); rw [← hKS] at h; exact h
      have e104 : xs.getD 104 undef = .bool true := by have h := (hR 104 (by omega) (hdep ⟨104, .data⟩ (by simp) rfl)); rw [← hKS] at h; exact h
      exact pl_pick 102 109 _ rfl ((JL.slot ss (hxl.trans hll.symm) 97 (by omega)).trans e97) ((JL.slot ss (hxl.trans hll.symm) 104 (by omega)).trans e104) (hK _ _ (JL.next hst (hxl.trans hll.symm) hkW hR 105 (by omega) (Keeps.refl _ _) (by rw [← hKS]; exact rfl)))
  · intro d a wz hall hJ
    obtain ⟨xs, hxl, rfl, hkW, hR⟩ := hJ
    have hW := HE0.out.step hkW.belowF
    have eL : xs.getD 105 undef = .bool true := by have h := hR 105 (by omega) (hall 105 (by omega)); rw [← hKS] at h; exact h
    have hev := (JL.slot ss hxl 105 (by omega)).trans eL
    have HBL := Lib.hid hW.bel
    refine wpAny_ready (rs := [106]) (by kernel_rfl) (by simp) (AllReady.cons rfl (fun K hK => ?_) AllReady.nil)
    refine want0 rfl ?_
    refine pl_assign (.tmp 110) rfl _ hev (hK _ _ ?_)
    refine wpAny_done (by kernel_rfl) ?_ _
    clear hK K
    go_wp2
    have hsz : 4 < (putsA a0 5 xs).tmps.size := by rw [putsA_size]; omega
    have hfin := put_at (putsA a0 5 xs) 4 (.bool true) hsz
    refine bodyPost_ret (v := .bool true) ?_ ?_ ⟨rfl, HBL.out⟩
    · rw [results_tmp (t := 4) rfl]
      exact congrArg (fun v => Result.ok v wz) hfin
    · show (Act.put (putsA a0 5 xs) (some 4) (.bool true)).defers = []
      exact (putsA_defers a0 5 xs).trans sd
  · have hl2 : (Array.replicate 107 false).getD j false = true := hl
    rw [getD_replicate_false] at hl2
    cases hl2
  · rfl
  · exact ⟨List.replicate 106 undef, by rw [hll]; simp, s0, ⟨rfl, rfl, rfl, Nat.le_refl _, fun _ _ _ => rfl⟩, fun j hj hd => by
      have hd2 : (Array.replicate 107 false).getD j false = true := hd
      rw [getD_replicate_false] at hd2
      cases hd2⟩

end Go.Proofs.YtmkaclfjekjabaaGreatDoor
