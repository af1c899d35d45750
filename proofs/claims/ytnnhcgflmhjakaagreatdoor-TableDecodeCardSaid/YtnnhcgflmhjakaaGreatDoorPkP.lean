/-
  The reader of table: read.
  The reader of table: mappings.
-/
import Derived.Test.YtnnhcgflmhjakaaGreatDoorPkO
import Derived.Test.YtnnhcgflmhjakaaGreatDoorQTabK
import Derived.Test.YtnnhcgflmhjakaaGreatDoorQEncR
import Derived.Test.YtnnhcgflmhjakaaGreatDoorQTblC
import Derived.Test.YtnnhcgflmhjakaaGreatDoorPkC
set_option linter.unusedSimpArgs false
set_option linter.unusedVariables false
namespace Go.Proofs.YtnnhcgflmhjakaaGreatDoor
open Go Go.RowKit
set_option linter.unusedVariables false

/-- A sticky reading of a number, a list, a list of spans. -/
def rdI (s : ByteArray) (i er : Int) : Int × Int × Int :=
  if er ≠ 0 then (0, i, er) else if (getS s i).2.2 ≠ 0 then (0, i, (getS s i).2.2) else ((getS s i).1, (getS s i).2.1, 0)
def rdL (s : ByteArray) (i er : Int) : List Int × Int × Int :=
  if er ≠ 0 then ([], i, er) else if (getListS s i).2.2 ≠ 0 then ([], i, (getListS s i).2.2) else ((getListS s i).1, (getListS s i).2.1, 0)
def rdS (s : ByteArray) (i er : Int) : List Sp × Int × Int :=
  if er ≠ 0 then ([], i, er) else if (getSpansS s i).2.2 ≠ 0 then ([], i, (getSpansS s i).2.2) else ((getSpansS s i).1, (getSpansS s i).2.1, 0)

def PostI (g : Nat) (s : ByteArray) (v i er : Int) (w : World) (e : Ending) (w' : World) : Prop :=
  e = .returned (.int .i64 v) ∧ Rd w' g s i er ∧ w.grownBy w' (some g)
def PostL (g : Nat) (s : ByteArray) (L : List Int) (i er : Int) (w : World) (e : Ending) (w' : World) : Prop :=
  ∃ v, e = .returned v ∧ Hid (Ints w' w.heap.size v L) ∧ Rd w' g s i er ∧ w.grownBy w' (some g)
def PostS (g : Nat) (s : ByteArray) (L : List Sp) (i er : Int) (w : World) (e : Ending) (w' : World) : Prop :=
  ∃ v, e = .returned v ∧ Hid (Spans w' w.heap.size v L) ∧ Rd w' g s i er ∧ w.grownBy w' (some g)

abbrev fnV (f : Nat) : Value := .func (.func f) #[] #[]

set_option maxRecDepth 100000 in
set_option maxHeartbeats 2000000 in
theorem read_int (g : Nat) (s : ByteArray) (i er v j er' : Int) (w : World) (hs : s.size ≤ maxLen) (hr : Rd w g s i er) (hE : Hid (rdI s i er = (v, j, er'))) :
    Calls Tryz.prog 158 #[.pointer (some ⟨g, 0, none⟩), .func (.func 159) #[] #[]] w (PostI g s v j er' w) := by
  have HR := Lib.hid hr
  have HS := Lib.hid hs
  obtain ⟨r0, r1, r2, r3, r4, r5⟩ := hr
  clear hs
  by_cases h0 : er = 0
  · subst h0
    obtain ⟨x, k, ge, hg⟩ : ∃ x k ge, getS s i = (x, k, ge) := ⟨_, _, _, rfl⟩
    have hE' := hE.out
    rw [rdI, if_neg (by simp), hg] at hE'
    simp only at hE'
    have HG := Lib.hid hg
    clear hg
    have hd : ((0 : Int) != 0) = false := rfl
    by_cases h1 : ge = 0
    · subst h1
      rw [if_neg (by simp)] at hE'
      injection hE' with e1 e2
      injection e2 with e2 e3
      subst e1; subst e2; subst e3
      go_enter Tryz.func158, Tryz.ntmps158
      go_wp2
      go_quiet ((go_at_call 159; exact Calls.quiet_of (getInt_quiet s i x k 0 _ HS.out HG)))
      go_wp2
      go_ret
      exact ⟨rfl, (HR.out.drewN _).setNext k, pk_grownBy_trans (rd_drewN w _ _) (sp_grownBy_store _ g 1 _)⟩
    · have hd2 : (ge != 0) = true := by simp [h1]
      rw [if_pos h1] at hE'
      injection hE' with e1 e2
      injection e2 with e2 e3
      subst e1; subst e2; subst e3
      clear h1
      go_enter Tryz.func158, Tryz.ntmps158
      go_wp2
      go_quiet ((go_at_call 159; exact Calls.quiet_of (getInt_quiet s i x k ge _ HS.out HG)))
      go_wp2
      go_ret
      exact ⟨rfl, (HR.out.drewN _).setErr ge, pk_grownBy_trans (rd_drewN w _ _) (sp_grownBy_store _ g 2 _)⟩
  · have hd : (er != 0) = true := by simp [h0]
    have hE' := hE.out
    rw [rdI, if_pos h0] at hE'
    injection hE' with e1 e2
    injection e2 with e2 e3
    subst e1; subst e2; subst e3
    clear h0
    go_enter Tryz.func158, Tryz.ntmps158
    go_wp2
    go_ret
    exact ⟨rfl, HR.out, grownBy_refl _ _⟩

set_option maxRecDepth 100000 in
set_option maxHeartbeats 2000000 in
theorem number_t (g : Nat) (s : ByteArray) (i er v j er' : Int) (w : World) (hs : s.size ≤ maxLen) (hr : Rd w g s i er) (hE : Hid (rdI s i er = (v, j, er'))) :
    Calls Tryz.prog 139 #[.pointer (some ⟨g, 0, none⟩)] w (PostI g s v j er' w) := by
  go_enter Tryz.func139, Tryz.ntmps139
  go_wp2_with fail
  refine (read_int g s i er v j er' _ hs hr hE).mono ?_
  rintro e w1 ⟨rfl, h1, h2⟩
  go_wp2
  go_ret
  exact ⟨rfl, h1, h2⟩

set_option maxRecDepth 100000 in
set_option maxHeartbeats 2000000 in
theorem read_list (g : Nat) (s : ByteArray) (i er : Int) (L : List Int) (j er' : Int) (w : World) (hs : s.size ≤ maxLen) (hr : Rd w g s i er) (hE : Hid (rdL s i er = (L, j, er'))) :
    Calls Tryz.prog 156 #[.pointer (some ⟨g, 0, none⟩), .func (.func 157) #[] #[]] w (PostL g s L j er' w) := by
  have HR := Lib.hid hr
  have HS := Lib.hid hs
  obtain ⟨r0, r1, r2, r3, r4, r5⟩ := hr
  have HL5 := Lib.hid r5
  clear hs
  by_cases h0 : er = 0
  · subst h0
    obtain ⟨x, k, ge, hg⟩ : ∃ x k ge, getListS s i = (x, k, ge) := ⟨_, _, _, rfl⟩
    have hE' := hE.out
    rw [rdL, if_neg (by simp), hg] at hE'
    simp only at hE'
    have HG := Lib.hid hg
    clear hg
    have hd : ((0 : Int) != 0) = false := rfl
    by_cases h1 : ge = 0
    · subst h1
      rw [if_neg (by simp)] at hE'
      injection hE' with e1 e2
      injection e2 with e2 e3
      subst e1; subst e2; subst e3
      go_enter Tryz.func156, Tryz.ntmps156
      go_wp2
      go_region_held3 (fun w' => w'.cell? ⟨g, 0, none⟩ = some (.string s) ∧ w'.cell? ⟨g, 1, none⟩ = some (.int .i64 i))
        (first
          | go_keep
          | (refine pair_below ?_ hb2; assumption))
        (first
          | (go_at_call 157; (with_reducible refine (getList_own s i x k 0 _ HS.out HG).mono ?_); rintro e w2 ⟨vL, rfl, ho, hb2⟩))
      all_goals
        have hgr : w.grownBy w2 none := pk_grownBy_trans (rd_drewN w 1 none) (below_grownBy hb2 none)
        have HR2 := Lib.hid (HR.out.grown hgr (by simp))
        have HGR := Lib.hid hgr
        clear hb2 hgr
        obtain ⟨_, _, _, q3, q4, _⟩ := HR2.out
        go_wp2
        go_ret
        exact ⟨_, rfl, ho.out.kept (sp_grownBy_store _ g 1 _) (by rintro k ⟨⟩; exact HL5.out), HR2.out.setNext k, pk_grownBy_trans ⟨HGR.out.os, HGR.out.tape, HGR.out.output, HGR.out.size, fun a b _ => HGR.out.block a b (by simp)⟩ (sp_grownBy_store _ g 1 _)⟩
    · have hd2 : (ge != 0) = true := by simp [h1]
      rw [if_pos h1] at hE'
      injection hE' with e1 e2
      injection e2 with e2 e3
      subst e1; subst e2; subst e3
      clear h1
      go_enter Tryz.func156, Tryz.ntmps156
      go_wp2
      go_region_held3 (fun w' => w'.cell? ⟨g, 0, none⟩ = some (.string s) ∧ w'.cell? ⟨g, 1, none⟩ = some (.int .i64 i))
        (first
          | go_keep
          | (refine pair_below ?_ hb2; assumption))
        (first
          | (go_at_call 157; (with_reducible refine (getList_own s i x k ge _ HS.out HG).mono ?_); rintro e w2 ⟨vL, rfl, ho, hb2⟩))
      all_goals
        have hgr : w.grownBy w2 none := pk_grownBy_trans (rd_drewN w 1 none) (below_grownBy hb2 none)
        have HR2 := Lib.hid (HR.out.grown hgr (by simp))
        have HGR := Lib.hid hgr
        clear hb2 hgr
        obtain ⟨_, _, _, q3, q4, _⟩ := HR2.out
        go_wp2
        go_ret
        exact ⟨_, rfl, Ints.nil _ _, HR2.out.setErr ge, pk_grownBy_trans ⟨HGR.out.os, HGR.out.tape, HGR.out.output, HGR.out.size, fun a b _ => HGR.out.block a b (by simp)⟩ (sp_grownBy_store _ g 2 _)⟩
  · have hd : (er != 0) = true := by simp [h0]
    have hE' := hE.out
    rw [rdL, if_pos h0] at hE'
    injection hE' with e1 e2
    injection e2 with e2 e3
    subst e1; subst e2; subst e3
    clear h0
    go_enter Tryz.func156, Tryz.ntmps156
    go_wp2
    go_ret
    exact ⟨_, rfl, Ints.nil _ _, HR.out, grownBy_refl _ _⟩

set_option maxRecDepth 100000 in
set_option maxHeartbeats 2000000 in
theorem read_spans (g : Nat) (s : ByteArray) (i er : Int) (L : List Sp) (j er' : Int) (w : World) (hs : s.size ≤ maxLen) (hr : Rd w g s i er) (hE : Hid (rdS s i er = (L, j, er'))) :
    Calls Tryz.prog 154 #[.pointer (some ⟨g, 0, none⟩), .func (.func 155) #[] #[]] w (PostS g s L j er' w) := by
  have HR := Lib.hid hr
  have HS := Lib.hid hs
  obtain ⟨r0, r1, r2, r3, r4, r5⟩ := hr
  have HL5 := Lib.hid r5
  clear hs
  by_cases h0 : er = 0
  · subst h0
    obtain ⟨x, k, ge, hg⟩ : ∃ x k ge, getSpansS s i = (x, k, ge) := ⟨_, _, _, rfl⟩
    have hE' := hE.out
    rw [rdS, if_neg (by simp), hg] at hE'
    simp only at hE'
    have HG := Lib.hid hg
    clear hg
    have hd : ((0 : Int) != 0) = false := rfl
    by_cases h1 : ge = 0
    · subst h1
      rw [if_neg (by simp)] at hE'
      injection hE' with e1 e2
      injection e2 with e2 e3
      subst e1; subst e2; subst e3
      go_enter Tryz.func154, Tryz.ntmps154
      go_wp2
      go_region_held3 (fun w' => w'.cell? ⟨g, 0, none⟩ = some (.string s) ∧ w'.cell? ⟨g, 1, none⟩ = some (.int .i64 i))
        (first
          | go_keep
          | (refine pair_below ?_ hb2; assumption))
        (first
          | (go_at_call 155; (with_reducible refine (getSpans_own s i x k 0 _ HS.out HG).mono ?_); rintro e w2 ⟨vL, rfl, ho, hb2⟩))
      all_goals
        have hgr : w.grownBy w2 none := pk_grownBy_trans (rd_drewN w 1 none) (below_grownBy hb2 none)
        have HR2 := Lib.hid (HR.out.grown hgr (by simp))
        have HGR := Lib.hid hgr
        clear hb2 hgr
        obtain ⟨_, _, _, q3, q4, _⟩ := HR2.out
        go_wp2
        go_ret
        exact ⟨_, rfl, ho.out.kept (sp_grownBy_store _ g 1 _) (by rintro k ⟨⟩; exact HL5.out), HR2.out.setNext k, pk_grownBy_trans ⟨HGR.out.os, HGR.out.tape, HGR.out.output, HGR.out.size, fun a b _ => HGR.out.block a b (by simp)⟩ (sp_grownBy_store _ g 1 _)⟩
    · have hd2 : (ge != 0) = true := by simp [h1]
      rw [if_pos h1] at hE'
      injection hE' with e1 e2
      injection e2 with e2 e3
      subst e1; subst e2; subst e3
      clear h1
      go_enter Tryz.func154, Tryz.ntmps154
      go_wp2
      go_region_held3 (fun w' => w'.cell? ⟨g, 0, none⟩ = some (.string s) ∧ w'.cell? ⟨g, 1, none⟩ = some (.int .i64 i))
        (first
          | go_keep
          | (refine pair_below ?_ hb2; assumption))
        (first
          | (go_at_call 155; (with_reducible refine (getSpans_own s i x k ge _ HS.out HG).mono ?_); rintro e w2 ⟨vL, rfl, ho, hb2⟩))
      all_goals
        have hgr : w.grownBy w2 none := pk_grownBy_trans (rd_drewN w 1 none) (below_grownBy hb2 none)
        have HR2 := Lib.hid (HR.out.grown hgr (by simp))
        have HGR := Lib.hid hgr
        clear hb2 hgr
        obtain ⟨_, _, _, q3, q4, _⟩ := HR2.out
        go_wp2
        go_ret
        exact ⟨_, rfl, Spans.nil _ _, HR2.out.setErr ge, pk_grownBy_trans ⟨HGR.out.os, HGR.out.tape, HGR.out.output, HGR.out.size, fun a b _ => HGR.out.block a b (by simp)⟩ (sp_grownBy_store _ g 2 _)⟩
  · have hd : (er != 0) = true := by simp [h0]
    have hE' := hE.out
    rw [rdS, if_pos h0] at hE'
    injection hE' with e1 e2
    injection e2 with e2 e3
    subst e1; subst e2; subst e3
    clear h0
    go_enter Tryz.func154, Tryz.ntmps154
    go_wp2
    go_ret
    exact ⟨_, rfl, Spans.nil _ _, HR.out, grownBy_refl _ _⟩

set_option maxRecDepth 100000 in
set_option maxHeartbeats 2000000 in
theorem list_t (g : Nat) (s : ByteArray) (i er : Int) (L : List Int) (j er' : Int) (w : World) (hs : s.size ≤ maxLen) (hr : Rd w g s i er) (hE : Hid (rdL s i er = (L, j, er'))) :
    Calls Tryz.prog 137 #[.pointer (some ⟨g, 0, none⟩)] w (PostL g s L j er' w) := by
  go_enter Tryz.func137, Tryz.ntmps137
  go_wp2_with fail
  refine (read_list g s i er L j er' _ hs hr hE).mono ?_
  rintro e w1 ⟨v, rfl, ho, h1, h2⟩
  go_wp2
  go_ret
  exact ⟨v, rfl, ho, h1, h2⟩

set_option maxRecDepth 100000 in
set_option maxHeartbeats 2000000 in
theorem spans_t (g : Nat) (s : ByteArray) (i er : Int) (L : List Sp) (j er' : Int) (w : World) (hs : s.size ≤ maxLen) (hr : Rd w g s i er) (hE : Hid (rdS s i er = (L, j, er'))) :
    Calls Tryz.prog 135 #[.pointer (some ⟨g, 0, none⟩)] w (PostS g s L j er' w) := by
  go_enter Tryz.func135, Tryz.ntmps135
  go_wp2_with fail
  refine (read_spans g s i er L j er' _ hs hr hE).mono ?_
  rintro e w1 ⟨v, rfl, ho, h1, h2⟩
  go_wp2
  go_ret
  exact ⟨v, rfl, ho, h1, h2⟩

end Go.Proofs.YtnnhcgflmhjakaaGreatDoor

namespace Go.Proofs.YtnnhcgflmhjakaaGreatDoor
open Go Go.RowKit
set_option linter.unusedVariables false

def rdMF (s : ByteArray) : Nat → Int → List Mp → List Mp × Int × Int
  | 0, i, out => (out, i, 0)
  | n + 1, i, out =>
    if (rdL s (rdI s i 0).2.1 (rdI s i 0).2.2).2.2 ≠ 0 then ([], (rdL s (rdI s i 0).2.1 (rdI s i 0).2.2).2.1, (rdL s (rdI s i 0).2.1 (rdI s i 0).2.2).2.2)
    else rdMF s n (rdL s (rdI s i 0).2.1 (rdI s i 0).2.2).2.1 (out ++ [((rdI s i 0).1, (rdL s (rdI s i 0).2.1 (rdI s i 0).2.2).1)])

def rdM (s : ByteArray) (i er : Int) : List Mp × Int × Int :=
  if (rdI s i er).2.2 ≠ 0 then ([], (rdI s i er).2.1, (rdI s i er).2.2)
  else if (rdI s i er).1 < 0 ∨ 256 < (rdI s i er).1 then ([], (rdI s i er).2.1, 4)
  else rdMF s (rdI s i er).1.toNat (rdI s i er).2.1 []

theorem rdL_len (s : ByteArray) (i er : Int) : (rdL s i er).1.length ≤ 4096 := by
  unfold rdL
  split
  · simp
  · split
    · simp
    · exact getListS_len s i

/-- The block that make lays for c mappings. -/
def madeM (c : Nat) : Obj := .cells (madeCells (Value.cells (.agg #[.int .i64 0, .slice none 0 0])) (c * 2)) 55

theorem run_make_maps (c : Nat) (hc : c ≤ 65536) (w : World) :
    (Instr.makeSlice 27 (.int .i64 0) (.int .i64 (c : Int))).run Tryz.prog w = .ok (.slice (some ⟨w.heap.size, 0, none⟩) 0 c) (w.alloc (madeM c)) := by
  obtain ⟨i0, hi, hz0, hz1, hz2⟩ := info_parts Tryz.infoMap
  have h := run_make_rowN (P := Tryz.prog) 27 55 i0 _ Tryz.underlying27 hi hz0 .i64 .i64 0 c (Nat.zero_le _) (by rw [hz2]; omega) (by omega) w
  rw [hz1] at h
  exact h

theorem Hot.made (w : World) (B c : Nat) (P : Nat → Prop) (hB : B ≤ w.heap.size) (hc : c ≤ 65536) : Hot (w.alloc (madeM c)) B P (.slice (some ⟨w.heap.size, 0, none⟩) 0 c) [] :=
  ⟨World.ownsRow_made w _ c hB (by unfold maxLen; omega) (size_madeCells _ _), by simp⟩

theorem wpList_append_map {w : World} {ops : Array Oper} {rest : List Oper} {o : Oper} {a : Act} {Z : Exit → Act → World → Prop} (s x : Operand)
    (ho : o.op = .call { callee := .builtin .append, args := #[s, x], argTypes := #[27, 27] })
    (hgd : o.guard = none)
    (base : Nat) (v : Value) (Q : List Mq) (hs : a.eval s = v) (hown : w.ownsRow base 55 2 v Q.length (cellsQ Q))
    (b c : Nat) (q : Mq) (hx : a.eval x = .slice (some ⟨b, 0, none⟩) 1 c) (c0 : w.cell? ⟨b, 0, none⟩ = some (.int .i64 q.1.1)) (c1 : w.cell? ⟨b, 1, none⟩ = some q.2) (hq : q.2.oneCell' = true)
    (hlen : Q.length ≤ 1000) (hbase : base ≤ w.heap.size)
    (h : ∀ v' w', w'.ownsRow base 55 2 v' (Q ++ [q]).length (cellsQ (Q ++ [q])) → w.grownBy w' v.ownBlock → (v'.ownBlock = v.ownBlock ∨ v'.ownBlock = some w.heap.size) → wpList Tryz.prog ops Z rest (a.put o.dst v') w') : wpList Tryz.prog ops Z (o :: rest) a w := by
  unfold wpList
  have hw : Region.wanted o (yielded ops a.tmps) = true := by simp [Region.wanted, hgd]
  rw [if_pos hw]
  refine .inl ?_
  have := step_append_map (w := w) (ops := ops) (o := o) (a := a) (K := fun a' w' => wpList Tryz.prog ops Z rest a' w') (Z := Z) (E := True) hgd s x ho base v Q hs hown b c q hx c0 c1 hq hlen hbase h
  rwa [if_pos hw] at this

/-- What mappings keeps while it reads: the reader g and the row v of its own. -/
structure MqSt (w0 w : World) (g : Nat) (s : ByteArray) (i er : Int) (v : Value) (Q : List Mq) : Prop where
  rd : Rd w g s i er
  hot : Hot w w0.heap.size (fun b => w0.heap.size ≤ b ∧ v.ownBlock ≠ some b) v Q
  keep : w0.grownBy w (some g)
  lt : g < w0.heap.size

theorem MqSt.step {w0 w w' : World} {g : Nat} {s : ByteArray} {i er i' er' : Int} {v : Value} {Q : List Mq} (h : MqSt w0 w g s i er v Q) (hr : Rd w' g s i' er') (hg : w.grownBy w' (some g)) : MqSt w0 w' g s i' er' v Q := by
  have hl := h.lt
  have hk := Keeps.of_grown hg
  refine ⟨hr, h.hot.keeps hk (fun k hk e => ?_) (fun k hk e hh => ?_), pk_grownBy_trans h.keep hg, hl⟩
  · injection e with e; have := (World.ownsRow.lt h.hot.own k hk).1; omega
  · injection e with e; omega

theorem MqSt.addQ {w0 w w2 w' : World} {g : Nat} {s : ByteArray} {i er : Int} {v v' : Value} {Q : List Mq} {q : Mq} (h : MqSt w0 w g s i er v Q) (hq : InO w (fun b => w0.heap.size ≤ b ∧ v.ownBlock ≠ some b) q.2 q.1.2)
    (ho : w'.ownsRow w0.heap.size 55 2 v' (Q ++ [q]).length (cellsQ (Q ++ [q]))) (hg : w2.grownBy w' v.ownBlock) (hv : v'.ownBlock = v.ownBlock ∨ v'.ownBlock = some w2.heap.size) (hb : Below w.heap.size w w2) :
    MqSt w0 w' g s i er v' (Q ++ [q]) := by
  have hl := h.lt
  have hz := hb.size
  have hz0 := h.keep.size
  have h8 := fun b hb => World.ownsRow.lt h.hot.own b hb
  have hgr : w.grownBy w' v.ownBlock := pk_grownBy_trans (below_grownBy hb _) hg
  have hk1 : Keeps w w' (fun b => v.ownBlock = some b) := Keeps.of_grown hgr
  have hg8 : v.ownBlock ≠ some g := fun e => by have := h8 g e; omega
  have hnew : ∀ b, b < w.heap.size → v.ownBlock ≠ some b → v'.ownBlock ≠ some b := by
    intro b hb hn e
    rcases hv with hv | hv
    · exact hn (by rw [← hv, e])
    · rw [hv] at e; injection e with e; omega
  have key : ∀ u l, InO w (fun b => w0.heap.size ≤ b ∧ v.ownBlock ≠ some b) u l → InO w' (fun b => w0.heap.size ≤ b ∧ v'.ownBlock ≠ some b) u l := by
    intro u l hu
    have h1 := hu.weak (Q := fun b => (w0.heap.size ≤ b ∧ v.ownBlock ≠ some b) ∧ b < w.heap.size) (fun b hb e => ⟨e, hb⟩)
    have h2 := h1.keeps hk1 (fun b hb e hh => hh.1.2 e)
    exact h2.weak (fun b hb e => ⟨e.1.1, hnew b e.2 e.1.2⟩)
  refine ⟨h.rd.grown hgr hg8, ⟨ho, fun q' hq' => ?_⟩, ⟨hgr.os.trans h.keep.os, hgr.tape.trans h.keep.tape, hgr.output.trans h.keep.output, Nat.le_trans hz0 hgr.size, fun k hk hne => ?_⟩, hl⟩
  · rcases List.mem_append.1 hq' with h1 | h1
    · exact key _ _ (h.hot.tos q' h1)
    · simp only [List.mem_singleton] at h1; subst h1; exact key _ _ hq
  · refine (hgr.block k (by omega) (fun e => ?_)).trans (h.keep.block k hk hne)
    have := h8 k e.symm; omega

/-- A new slice of ints, as a row that lies behind B. -/
theorem Ints.rdO {w : World} {B : Nat} {v : Value} {l : List Int} (h : Ints w B v l) (hl : l.length ≤ 17592186043904) : InO w (fun b => B ≤ b) v l :=
  ⟨h.inV hl, fun b off n c e => by have := World.ownsRow.lt h b (by rw [e]; rfl); exact ⟨this.1, this.2⟩⟩

def PostM (g : Nat) (s : ByteArray) (L : List Mp) (i er : Int) (w : World) (e : Ending) (w' : World) : Prop :=
  ∃ v, e = .returned v ∧ Hid (MpO w' (fun b => w.heap.size ≤ b) v L) ∧ Rd w' g s i er ∧ w.grownBy w' (some g)

set_option maxRecDepth 100000 in
set_option maxHeartbeats 4000000 in
theorem mappings_t (g : Nat) (s : ByteArray) (i er : Int) (L : List Mp) (j er' : Int) (w : World) (hs : s.size ≤ maxLen) (hr : Rd w g s i er) (hE : Hid (rdM s i er = (L, j, er'))) :
    Calls Tryz.prog 136 #[.pointer (some ⟨g, 0, none⟩)] w (PostM g s L j er' w) := by
  have HS := Lib.hid hs
  have HR := Lib.hid hr
  have HLT := Lib.hid hr.2.2.2.2.2
  clear hs hr
  obtain ⟨n, i1, e1, hn⟩ : ∃ n i1 e1, Hid (rdI s i er = (n, i1, e1)) := ⟨_, _, _, rfl⟩
  have hE' := hE.out
  rw [rdM, hn.out] at hE'
  simp only at hE'
  go_enter Tryz.func136, Tryz.ntmps136
  go_wp2_with fail
  refine (number_t g s i er n i1 e1 _ HS.out HR.out hn).mono ?_
  rintro e w1 ⟨rfl, hr1, hg1⟩
  have HR1 := Lib.hid hr1
  have HG1 := Lib.hid hg1
  clear hr1 hg1
  obtain ⟨q0, q1, q2, q3, q4, q5⟩ := HR1.out
  by_cases h1 : e1 = 0
  · subst h1
    rw [if_neg (by simp)] at hE'
    have hd : ((0 : Int) == 0) = true := rfl
    have hd2 : ((0 : Int) != 0) = false := rfl
    have hd4 : ((4 : Int) != 0) = true := rfl
    by_cases h2 : n < 0 ∨ 256 < n
    · rw [if_pos h2] at hE'
      injection hE' with f1 f2
      injection f2 with f2 f3
      subst f1; subst f2; subst f3
      have HR2 := Lib.hid (HR1.out.setErr 4)
      have HG2 := Lib.hid (pk_grownBy_trans HG1.out (sp_grownBy_store w1 g 2 (.int .i64 4)))
      rcases h2 with h2 | h2
      · go_wp2
        go_ret
        exact ⟨_, rfl, MpO.nil _ _, HR2.out, HG2.out⟩
      · have h3 : ¬ n < 0 := by omega
        go_wp2
        go_ret
        exact ⟨_, rfl, MpO.nil _ _, HR2.out, HG2.out⟩
    · rw [if_neg h2] at hE'
      obtain ⟨m, hm⟩ : ∃ m : Nat, n = m := ⟨n.toNat, by omega⟩
      subst hm
      have hm256 : m ≤ 256 := by omega
      have HE := Lib.hid hE'
      have hmk := run_make_maps m (by omega)
      clear hE' h2
      have HST : Hid (MqSt w (w1.alloc (madeM m)) g s i1 0 (.slice (some ⟨w1.heap.size, 0, none⟩) 0 m) []) :=
        ⟨HR1.out.grown (World.grownBy_alloc w1 (madeM m) none) (by simp), Hot.made w1 _ m _ HG1.out.size (by omega), pk_grownBy_trans HG1.out (World.grownBy_alloc w1 (madeM m) _), HLT.out⟩
      go_wp2
      clear q0 q1 q2 q3 q4 q5
      go_loopw [4, 33] (fun vx i wr => ∃ (k : Nat) (ic : Int) (vv : Value) (Q : List Mq), k ≤ m ∧ i = .int .i64 k ∧ vx = vv ∧ Q.length = k ∧ Hid (MqSt w wr g s ic 0 vv Q) ∧ Hid (rdMF s (m - k) ic (Q.map (·.1)) = (L, j, er'))) (fun _ i _ => m - (intOf i).toNat)
      case atStart => exact ⟨0, i1, _, [], Nat.zero_le _, rfl, rfl, rfl, HST, HE⟩
      case round =>
        clear HST HE hmk HR1 HG1
        obtain ⟨k, ic, vv, Q, hk, rfl, hvv, hQ, hst, hEq⟩ := hrel
        replace hvv := hvv.symm
        subst hvv
        by_cases hlt : k < m
        · obtain ⟨r, hr⟩ : ∃ r, m - k = r + 1 := ⟨m - k - 1, by omega⟩
          obtain ⟨f, ia, ea, hf⟩ : ∃ f ia ea, Hid (rdI s ic 0 = (f, ia, ea)) := ⟨_, _, _, rfl⟩
          obtain ⟨tl, ib, eb, ht⟩ : ∃ tl ib eb, Hid (rdL s ia ea = (tl, ib, eb)) := ⟨_, _, _, rfl⟩
          have hEq2 := hEq.out
          rw [hr, rdMF, hf.out] at hEq2
          simp only at hEq2
          rw [ht.out] at hEq2
          simp only at hEq2
          have htl : tl.length ≤ 4096 := by have := rdL_len s ia ea; rw [ht.out] at this; exact this
          clear hEq
          go_wp2_with fail
          refine (number_t g s ic 0 f ia ea _ HS.out hst.out.rd hf).mono ?_
          rintro e w2 ⟨rfl, hr2, hg2⟩
          have hst2 := Lib.hid (hst.out.step hr2 hg2)
          clear hr2 hg2 hst
          go_wp2_with fail
          refine (list_t g s ia ea tl ib eb _ HS.out hst2.out.rd ht).mono ?_
          rintro e w3 ⟨vl, rfl, hol, hr3, hg3⟩
          have hst3 := Lib.hid (hst2.out.step hr3 hg3)
          obtain ⟨q0, q1, q2, q3, q4, q5⟩ := hr3
          obtain ⟨nt, hnt⟩ : ∃ n, tl.length = n := ⟨_, rfl⟩
          have HTO : Hid (InO w3 (fun b => w.heap.size ≤ b ∧ vv.ownBlock ≠ some b) vl tl) := by
            refine (hol.out.rdO (by omega)).weak fun b hb e => ⟨Nat.le_trans hst2.out.keep.size e, fun e8 => ?_⟩
            have := (World.ownsRow.lt hst2.out.hot.own b e8).2
            omega
          obtain ⟨pl, cl, rfl, _⟩ := hol.out.inn
          rw [hnt] at HTO
          clear hol hg3 hst2
          by_cases hb0 : eb = 0
          · subst hb0
            have hd3 : ((0 : Int) != 0) = false := rfl
            rw [if_neg (by simp)] at hEq2
            have HEq := Lib.hid hEq2
            have HQa := Lib.hid (World.ownsRow.alloc hst3.out.hot.own (.cells #[.int .i64 f, .slice pl nt cl] 55))
            have HSZ := Lib.hid (Nat.le_trans hst3.out.keep.size (by simp : w3.heap.size ≤ (w3.alloc (.cells #[.int .i64 f, .slice pl nt cl] 55)).heap.size))
            clear hEq2
            rw [hnt]
            go_wp2_with (at_builtin; refine wpList_append_map _ _ rfl rfl w.heap.size vv Q (by rfl) HQa.out _ 1 ((f, tl), .slice pl nt cl) (by rfl) (by simp [World.cell?_alloc_new]) (by simp [World.cell?_alloc_new]) rfl (by omega) HSZ.out ?_)
            intro v8 w8 ho8 hg8 hv8
            have hst8 := Lib.hid (hst3.out.addQ (v' := v8) (q := ((f, tl), .slice pl nt cl)) (w2 := w3.alloc (.cells #[.int .i64 f, .slice pl nt cl] 55)) HTO.out (by rw [show (Q ++ [((f, tl), Value.slice pl nt cl)]).length = k + 1 by simp [hQ]]; exact ho8) hg8 (by simpa using hv8) ((Below.refl w3.heap.size w3).alloc (Nat.le_refl _) _))
            clear ho8 hg8 hv8 HQa HSZ hst3 HTO q0 q1 q2 q3 q4 q5
            go_wp2
            go_roundw
            case rel => exact ⟨k + 1, ib, _, Q ++ [((f, tl), .slice pl nt cl)], by omega, by go_num, rfl, by simp [hQ], hst8, by unfold Hid; rw [show m - (k + 1) = r by omega, List.map_append]; exact HEq.out⟩
            case measure => simp [intOf]; omega
          · have hd3 : (eb != 0) = true := by simp [hb0]
            rw [if_pos hb0] at hEq2
            injection hEq2 with f1 f2
            injection f2 with f2 f3
            subst f1; subst f2; subst f3
            clear hb0
            go_wp2
            go_ret
            exact ⟨_, rfl, MpO.nil _ _, hst3.out.rd, hst3.out.keep⟩
        · obtain rfl : k = m := by omega
          have hEq2 := hEq.out
          rw [Nat.sub_self, rdMF] at hEq2
          injection hEq2 with f1 f2
          injection f2 with f2 f3
          subst f1; subst f2; subst f3
          go_wp2
          go_ret
          exact ⟨_, rfl, hst.out.hot.mpO (by omega) (fun b _ e => e.1) (fun b e _ => e), hst.out.rd, hst.out.keep⟩
  · have hd : (e1 == 0) = false := by simp [h1]
    have hd2 : (e1 != 0) = true := by simp [h1]
    rw [if_pos h1] at hE'
    injection hE' with f1 f2
    injection f2 with f2 f3
    subst f1; subst f2; subst f3
    clear h1
    go_wp2
    go_ret
    exact ⟨_, rfl, MpO.nil _ _, HR1.out, HG1.out⟩

end Go.Proofs.YtnnhcgflmhjakaaGreatDoor
