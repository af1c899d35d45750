/-
  Canonical order, plain mathematics: insertion, exchange of neighbours, runs.
  Runs, plain mathematics: the places at which the classes turn from 0 or to 0.
  The contracts of order: isOpen, classesOf, placeOf, moveBack.
  The contracts of order: placeOf, moveBack.
  The contracts of order: Order, Sorted, Runs.
  The contracts of order: Sorted, Runs.
-/
import Derived.Test.YtddphlindcabpaaGreatDoorSSlPkB
import Derived.Test.YtddphlindcabpaaGreatDoorSSlPkE
import Derived.Test.YtddphlindcabpaaGreatDoorSSlPkC
import Derived.Test.YtddphlindcabpaaGreatDoorSSlTabJ
import Derived.Laws.CopyOwn
import Derived.Test.YtddphlindcabpaaGreatDoorSSlPkG
import Derived.Laws.OwnMore
import Derived.StillTailTactics
set_option linter.unusedSimpArgs false
set_option linter.unusedVariables false
namespace Go.Proofs.YtddphlindcabpaaGreatDoor
set_option linter.unusedVariables false

theorem take_snoc_any (l : List Int) (k : Nat) (h : k < l.length) : l.take (k + 1) = l.take k ++ [l.getD k 0] := by
  rw [List.take_succ_eq_append_getElem h]; simp [h]

end Go.Proofs.YtddphlindcabpaaGreatDoor

namespace Go.Proofs.YtddphlindcabpaaGreatDoor
set_option linter.unusedVariables false

/-- Place i has a class other than 0. -/
def openA (bs : List Bool) (i : Nat) : Bool := bs.getD i false
def openB (bs : List Bool) : Nat → Bool
  | 0 => false
  | i + 1 => openA bs i
def edgeA (bs : List Bool) (i : Nat) : Bool := openB bs i != openA bs i

/-- The edges in front of place n. -/
def edgesN (bs : List Bool) : Nat → List Int
  | 0 => []
  | n + 1 => edgesN bs n ++ if edgeA bs n then [(n : Int)] else []

theorem edges_succ (bs : List Bool) (n : Nat) : edgesN bs (n + 1) = edgesN bs n ++ if edgeA bs n then [(n : Int)] else [] := rfl

/-- All bounds of runs. -/
def runsS (bs : List Bool) : List Int := edgesN bs (bs.length + 1)

theorem edges_odd (bs : List Bool) (n : Nat) : (edgesN bs n).length % 2 = if openB bs n then 1 else 0 := by
  induction n with
  | zero => rfl
  | succ m ih =>
    rw [edges_succ]; unfold edgeA
    rw [List.length_append]
    show _ = if openA bs m = true then 1 else 0
    cases h1 : openB bs m <;> cases h2 : openA bs m <;> simp [h1] at ih ⊢ <;> omega

theorem edges_len (bs : List Bool) (n : Nat) : (edgesN bs n).length ≤ n := by
  induction n with
  | zero => simp [edgesN]
  | succ m ih => rw [edges_succ]; split <;> simp <;> omega

theorem openB_end (bs : List Bool) : openA bs bs.length = false := by simp [openA]

/-- Where nothing turns, nothing is added. -/
theorem edges_still (bs : List Bool) (i j : Nat) (hij : i ≤ j) (h : ∀ m, i ≤ m → m < j → edgeA bs m = false) : edgesN bs j = edgesN bs i := by
  induction j with
  | zero => have : i = 0 := by omega
            subst this; rfl
  | succ m ih =>
    by_cases e : i = m + 1
    · subst e; rfl
    · rw [edges_succ, h m (by omega) (by omega), ih (by omega) (fun x h1 h2 => h x h1 (by omega))]
      simp

/-- One run, from i up to k. -/
theorem edges_run (bs : List Bool) (i k : Nat) (hik : i < k) (h0 : openB bs i = false) (h1 : ∀ m, i ≤ m → m < k → openA bs m = true) (h2 : openA bs k = false) : edgesN bs (k + 1) = edgesN bs i ++ [(i : Int), (k : Int)] := by
  have hb : ∀ m, i < m → m ≤ k → openB bs m = true := by
    intro m a b
    cases m with
    | zero => omega
    | succ n => exact h1 n (by omega) (by omega)
  have e1 : edgesN bs (i + 1) = edgesN bs i ++ [(i : Int)] := by
    rw [edges_succ]
    have : edgeA bs i = true := by unfold edgeA; rw [h0, h1 i (Nat.le_refl _) hik]; rfl
    rw [this]; rfl
  have e2 : edgesN bs k = edgesN bs (i + 1) := edges_still bs (i + 1) k (by omega) (fun m a b => by unfold edgeA; rw [hb m (by omega) (by omega), h1 m (by omega) b]; rfl)
  rw [edges_succ]
  have : edgeA bs k = true := by unfold edgeA; rw [hb k hik (Nat.le_refl _), h2]; rfl
  rw [this, e2, e1]
  simp

end Go.Proofs.YtddphlindcabpaaGreatDoor

namespace Go.Proofs.YtddphlindcabpaaGreatDoor
open Go.RowKit
set_option linter.unusedVariables false

/-- The error that the functions of order share. -/
def accE (T : Tb) (l : List Int) : Int := if checkT T ≠ 0 then 2 else if 4096 < l.length then 7 else if l.all scaB then 0 else 3
def clsL (T : Tb) (l : List Int) : List Int := if accE T l = 0 then l.map (clsT T) else []

theorem accE_ok {T : Tb} {l : List Int} (h : accE T l = 0) : checkT T = 0 ∧ l.length ≤ 4096 ∧ l.all scaB = true := by
  unfold accE at h
  split at h
  · cases h
  · split at h
    · cases h
    · split at h
      · exact ⟨by omega, by omega, by assumption⟩
      · cases h
theorem accE_table {T : Tb} {l : List Int} (h : checkT T ≠ 0) : accE T l = 2 := by unfold accE; rw [if_pos h]
theorem accE_full {T : Tb} {l : List Int} (h : checkT T = 0) (hl : 4096 < l.length) : accE T l = 7 := by unfold accE; rw [if_neg (by omega), if_pos hl]
theorem accE_range {T : Tb} {l : List Int} (h : checkT T = 0) (hl : l.length ≤ 4096) (ha : l.all scaB = false) : accE T l = 3 := by unfold accE; rw [if_neg (by omega), if_neg (by omega), ha]; rfl
theorem accE_zero {T : Tb} {l : List Int} (h : checkT T = 0) (hl : l.length ≤ 4096) (ha : l.all scaB = true) : accE T l = 0 := by unfold accE; rw [if_neg (by omega), if_neg (by omega), ha]; rfl

theorem check_asc {T : Tb} (h : checkT T = 0) : ascB 0 T.cls = true ∧ r3 T = true := by
  unfold checkT at h
  cases h1 : r1 T with
  | false => rw [h1] at h; simp at h
  | true =>
    cases h2 : r2 T with
    | false => rw [h1, h2] at h; simp at h
    | true =>
      cases h3 : r3 T with
      | false => rw [h1, h2, h3] at h; simp at h
      | true => exact ⟨(r2_sp h2).2.1, rfl⟩

/-- A call that returns a new slice of numbers and an error, and only makes memory. -/
def LRet (L : List Int) (E : Int) (w : World) (e : Ending) (w' : World) : Prop :=
  ∃ v, e = .returned (.tuple #[v, .int .i64 E]) ∧ Ints w' w.heap.size v L ∧ Below w.heap.size w w'

theorem all_at {l : List Int} {q : Int → Bool} {k : Nat} (hk : k < l.length) (h : (l.take k).all q = true) : (l.take (k + 1)).all q = q (l.getD k 0) := by
  rw [take_snoc_any l k hk, List.all_append, h]; simp

theorem all_no {l : List Int} {q : Int → Bool} (k : Nat) (h : (l.take k).all q = false) : l.all q = false := by
  rw [← List.take_append_drop k l, List.all_append, h]; rfl

theorem BoxT.row {w w' : World} {g : Nat} {x : TV} {row : Option Nat} (h : BoxT w g x) (hg : w.grownBy w' row) (hr : ∀ k, row = some k → g < k) : BoxT w' g x := by
  obtain ⟨⟨h0, h1, h2, h3, h4, h5⟩, ⟨h6, h7, h8, h9, h10, h11⟩⟩ := h
  have key : ∀ i v, w.cell? ⟨g, i, none⟩ = some v → w'.cell? ⟨g, i, none⟩ = some v := fun i v hc => hg.cell hc (fun e => by have := hr g e.symm; omega)
  exact ⟨⟨key _ _ h0, key _ _ h1, key _ _ h2, key _ _ h3, key _ _ h4, key _ _ h5⟩, ⟨key _ _ h6, key _ _ h7, key _ _ h8, key _ _ h9, key _ _ h10, key _ _ h11⟩⟩

/-- The tables stay where a row behind their box is written. -/
theorem Env.app {w0 w w' : World} {x : TV} {T : Tb} {v : Value} {l : List Int} (e : Env w0 x T w) (hx : TabV w0 x T) (ho : Ints w (w0.heap.size + 1) v l) (hg : w.grownBy w' v.ownBlock) : Env w0 x T w' := by
  have hb : Below w0.heap.size w0 w' := below_appI e.bel (ho.mono (Nat.le_succ _)) (Nat.le_refl _) hg
  exact ⟨hx.below hb, e.box.row hg (fun k hk => ho.base k hk), hb⟩

theorem isOpen_any (p : Option Addr) (n c : Nat) (B : Bool) (w : World) (hB : Hid (decide (n % 2 = 1) = B)) (hn : n ≤ 17592186043904) :
    Calls Tryz.prog 48 #[.slice p n c] w fun e w' => e = .returned (.bool B) ∧ w = w' := by
  have h1 : ((n : Int)).tmod 2 = ((n % 2 : Nat) : Int) := by rw [Int.tmod_eq_emod_of_nonneg (by omega)]; omega
  have h3 : ((n : Int)) % 2 = ((n % 2 : Nat) : Int) := by omega
  have h2 : ((((n % 2 : Nat) : Int)) == 1) = B := by rw [← hB.out, Bool.eq_iff_iff]; simp; omega
  generalize n % 2 = m at h1 h2 h3
  clear hB
  go_enter Tryz.func48, Tryz.ntmps48
  go_wp2
  go_ret
  exact ⟨rfl, rfl⟩

set_option maxRecDepth 100000 in
set_option maxHeartbeats 4000000 in
theorem classesOf_at (x : TV) (T : Tb) (p : Option Addr) (cap : Nat) (zs : List Int) (E : Int) (L : List Int) (w : World) (hx : TabV w x T) (hr : Rsv w) (hin : IntsIn w p zs) (hl : zs.length ≤ 17592186043904)
    (hE : Hid (accE T zs = E)) (hL : Hid (clsL T zs = L)) :
    Calls Tryz.prog 47 #[x.agg, .slice p zs.length cap] w (LRet L E w) := by
  obtain ⟨V, hV⟩ : ∃ V, Hid (checkT T = V) := ⟨_, rfl⟩
  have HE := Lib.hid (Env.new hx)
  have HX := Lib.hid hx
  have HI := Lib.hid hin
  have HR := Lib.hid hr
  obtain ⟨n, hn⟩ : ∃ n, zs.length = n := ⟨_, rfl⟩
  rw [hn] at hl ⊢
  have HN := Lib.hid hn
  clear hx hr hin hn
  simp only [TV.agg]
  go_enter Tryz.func47, Tryz.ntmps47
  obtain ⟨⟨k0, k1, k2, k3, k4, k5⟩, ⟨k6, k7, k8, k9, k10, k11⟩⟩ := HE.out.box.load
  go_wp2_with fail
  refine (check_tab_at x T V _ HE.out.tab (HR.out.below HE.out.bel) hV).mono ?_
  rintro e w1 ⟨rfl, hb1⟩
  have HZ : Hid (w.heap.size + 1 ≤ w1.heap.size) := by have := hb1.size; unfold Hid; simpa using this
  replace HE := Lib.hid (HE.out.step hb1)
  clear hb1 k0 k1 k2 k3 k4 k5 k6 k7 k8 k9 k10 k11
  by_cases h0 : V = 0
  · have d0 : (V != 0) = false := by simp [h0]
    have HV : Hid (checkT T = 0) := hV.out.trans h0
    by_cases hbig : 4096 < n
    · have d1 : decide ((4096 : Int) < (n : Int)) = true := decide_eq_true (by omega)
      have HEE : Hid (E = 7) := by unfold Hid; rw [← hE.out]; exact accE_full HV.out (by rw [HN.out]; exact hbig)
      have HLL : Hid (L = []) := by unfold Hid; rw [← hL.out]; unfold clsL; rw [hE.out, HEE.out]; rfl
      clear h0 hbig
      go_wp2
      go_ret2
      rw [HEE.out, HLL.out]
      exact ⟨_, rfl, Ints.nil _ _, HE.out.bel⟩
    · have d1 : decide ((4096 : Int) < (n : Int)) = false := decide_eq_false (by omega)
      have d2 : ¬ (4096 < n) := hbig
      have hn4 : n ≤ 4096 := by omega
      have hmk := run_make_ints0 n (by omega)
      clear h0 hbig
      go_wp2
      go_loopw [6, 8, 22] (fun v _ i wr => ∃ k : Nat, k ≤ n ∧ i = .int .i64 k ∧ Hid ((zs.take k).all scaB = true) ∧ Hid (Ints wr (w.heap.size + 1) v ((zs.take k).map (clsT T))) ∧ Hid (Env w x T wr) ∧ Hid (w1.heap.size ≤ wr.heap.size)) (fun _ _ i _ => n - (intOf i).toNat)
      case atStart => exact ⟨0, Nat.zero_le _, rfl, rfl, Ints.made w1 (w.heap.size + 1) n HZ.out (by omega), HE.out.step ((Below.refl _ _).alloc (Nat.le_refl _) _), by simp [Hid]⟩
      case round =>
        obtain ⟨k, hk, rfl, hall, ho, he, HH⟩ := hrel
        by_cases hlt : k < n
        · have hkl : k < zs.length := by rw [HN.out]; exact hlt
          obtain ⟨b, off, rfl, hck⟩ := (HI.out.below he.out.bel) k hkl
          obtain ⟨c, hc⟩ : ∃ c, zs.getD k 0 = c := ⟨_, rfl⟩
          have hs1 := all_at hkl hall.out
          have hs2 := take_snoc_any zs k hkl
          rw [hc] at hck hs1 hs2
          have HS1 := Lib.hid hs1
          have HS2 := Lib.hid hs2
          have HLK : Hid (((zs.take k).map (clsT T)).length ≤ 4096) := by unfold Hid; simp; omega
          obtain ⟨z, hz⟩ : ∃ z, Hid (clsT T c = z) := ⟨_, rfl⟩
          clear hc hs1 hs2
          go_wp2_with fail
          refine (len_any c _).mono ?_
          rintro e w2 ⟨m, rfl, hm, rfl⟩
          by_cases hm0 : m = 0
          · have d3 : (m == 0) = true := by simp [hm0]
            have HEE : Hid (E = 3) := by unfold Hid; rw [← hE.out]; exact accE_range HV.out (by rw [HN.out]; exact hn4) (all_no (k + 1) (by rw [HS1.out]; exact hm.1 hm0))
            have HLL : Hid (L = []) := by unfold Hid; rw [← hL.out]; unfold clsL; rw [hE.out, HEE.out]; rfl
            clear hm hm0
            go_wp2
            go_ret2
            rw [HEE.out, HLL.out]
            exact ⟨_, rfl, Ints.nil _ _, he.out.bel⟩
          · have d3 : (m == 0) = false := by simp [hm0]
            have hsc : scaB c = true := by
              cases hb : scaB c with
              | true => rfl
              | false => exact absurd (hm.2 hb) hm0
            have HAL : Hid ((zs.take (k + 1)).all scaB = true) := by unfold Hid; rw [HS1.out]; exact hsc
            obtain ⟨⟨k0, k1, k2, k3, k4, k5⟩, ⟨k6, k7, k8, k9, k10, k11⟩⟩ := he.out.box.load
            clear hm hm0 hsc
            go_wp2_with fail
            refine (class_at x T c z _ he.out.tab (check_asc HV.out).1 hz).mono ?_
            rintro e w2 ⟨rfl, hb2⟩
            have HE2 := Lib.hid (he.out.step hb2)
            have HO2 := Lib.hid (ho.out.below hb2)
            have hbz : w.heap.size + 1 ≤ w2.heap.size := Nat.le_trans HZ.out (Nat.le_trans HH.out hb2.size)
            have HS := Lib.hid hb2.size
            clear hb2 k0 k1 k2 k3 k4 k5 k6 k7 k8 k9 k10 k11
            go_wp2_with (at_builtin; (refine wpList_append_int (.tmp 29) (.tmp 33) rfl rfl (w.heap.size + 1) u6 ((zs.take k).map (clsT T)) rfl HO2.out z 1 _ rfl (by simp) (by have := HLK.out; omega) hbz ?_); intro v1 w3 ho1 hg1)
            have HO3 : Hid (Ints w3 (w.heap.size + 1) v1 ((zs.take (k + 1)).map (clsT T))) := by
              unfold Hid; rw [HS2.out, List.map_append, List.map_singleton, hz.out]; exact ho1
            have HE3 : Hid (Env w x T w3) := HE2.out.app HX.out HO2.out hg1
            have HH3 : Hid (w1.heap.size ≤ w3.heap.size) := Nat.le_trans HH.out (Nat.le_trans HS.out hg1.size)
            clear ho1 hg1 hbz
            go_wp2
            go_roundw
            case rel => exact ⟨k + 1, by omega, by go_num, HAL, HO3, HE3, HH3⟩
            case measure => simp [intOf]; omega
        · obtain rfl : k = n := by omega
          have HEE : Hid (E = 0) := by
            unfold Hid; rw [← hE.out]
            exact accE_zero HV.out (by rw [HN.out]; exact hn4) (by have := hall.out; rwa [List.take_of_length_le (Nat.le_of_eq HN.out)] at this)
          have HLL : Hid (L = (zs.take k).map (clsT T)) := by
            unfold Hid; rw [← hL.out]; unfold clsL; rw [hE.out, HEE.out, if_pos rfl, List.take_of_length_le (Nat.le_of_eq HN.out)]
          go_wp2
          go_ret2
          rw [HEE.out, HLL.out]
          exact ⟨_, rfl, ho.out.mono (Nat.le_succ _), he.out.bel⟩
  · have d0 : (V != 0) = true := by simp [h0]
    have HEE : Hid (E = 2) := by unfold Hid; rw [← hE.out]; exact accE_table (by rw [hV.out]; exact h0)
    have HLL : Hid (L = []) := by unfold Hid; rw [← hL.out]; unfold clsL; rw [hE.out, HEE.out]; rfl
    clear h0
    go_wp2
    go_ret2
    rw [HEE.out, HLL.out]
    exact ⟨_, rfl, Ints.nil _ _, HE.out.bel⟩

end Go.Proofs.YtddphlindcabpaaGreatDoor

namespace Go.Proofs.YtddphlindcabpaaGreatDoor
open Go.RowKit
set_option linter.unusedVariables false

theorem row_cells {w : World} {g : Nat} {cur : Array Value} {ty : TypeId} {xs : List Int} (hg : w.heap[g]? = some (.cells cur ty (0, 0))) (ht : cur.toList.take xs.length = xs.map (.int .i64)) (k : Nat) (hk : k < xs.length) :
    w.cell? ⟨g, k, none⟩ = some (.int .i64 (xs.getD k 0)) := by
  rw [cell_of_row w g k cur _ (0, 0) hg]
  have e : (cur.toList.take xs.length)[k]? = (xs.map (Value.int .i64))[k]? := by rw [ht]
  rw [List.getElem?_take, if_pos (by omega)] at e
  simpa [List.getD, List.getElem?_eq_getElem hk] using e

end Go.Proofs.YtddphlindcabpaaGreatDoor

namespace Go.Proofs.YtddphlindcabpaaGreatDoor
open Go.RowKit
set_option linter.unusedVariables false

def opens (T : Tb) (l : List Int) : List Bool := l.map fun c => decide (clsT T c ≠ 0)
def runsL (T : Tb) (l : List Int) : List Int := if accE T l = 0 then runsS (opens T l) else []

/-- Two rows of a call's own: the classes, and what is put into order. -/
structure OSt (w0 : World) (B1 B2 : Nat) (vC vO : Value) (C O : List Int) (w : World) : Prop where
  cls : Ints w B1 vC C
  ord : Ints w B2 vO O
  lo : ∀ b, vC.ownBlock = some b → b < B2
  bel : Below w0.heap.size w0 w
  h1 : w0.heap.size ≤ B1
  h2 : w0.heap.size ≤ B2

end Go.Proofs.YtddphlindcabpaaGreatDoor

namespace Go.Proofs.YtddphlindcabpaaGreatDoor
open Go.RowKit
set_option linter.unusedVariables false

theorem opens_length (T : Tb) (l : List Int) : (opens T l).length = l.length := by simp [opens]
theorem opens_at (T : Tb) (l : List Int) (k : Nat) (hk : k < l.length) : openA (opens T l) k = decide ((l.map (clsT T)).getD k 0 ≠ 0) := by
  unfold openA opens
  simp [List.getD, List.getElem?_eq_getElem hk]

theorem odd_open (bs : List Bool) (k : Nat) : decide ((edgesN bs k).length % 2 = 1) = openB bs k := by
  rw [edges_odd]
  cases openB bs k <;> simp

set_option maxRecDepth 100000 in
set_option maxHeartbeats 4000000 in
theorem runs_at (x : TV) (T : Tb) (p : Option Addr) (cap : Nat) (zs : List Int) (E : Int) (L : List Int) (w : World) (hx : TabV w x T) (hr : Rsv w) (hin : IntsIn w p zs) (hl : zs.length ≤ 17592186043904)
    (hE : Hid (accE T zs = E)) (hL : Hid (runsL T zs = L)) :
    Calls Tryz.prog 41 #[x.agg, .slice p zs.length cap] w (LRet L E w) := by
  have HE := Lib.hid (Env.new hx)
  have HI := Lib.hid hin
  have HR := Lib.hid hr
  obtain ⟨C, hC⟩ : ∃ C, Hid (clsL T zs = C) := ⟨_, rfl⟩
  obtain ⟨n, hn⟩ : ∃ n, zs.length = n := ⟨_, rfl⟩
  have hcc := fun W hw hr' hi => classesOf_at x T p cap zs E C W hw hr' hi hl hE hC
  rw [hn] at hl hcc ⊢
  have HN := Lib.hid hn
  have HCC := Lib.hid hcc
  clear hx hr hin hn hcc
  simp only [TV.agg]
  go_enter Tryz.func41, Tryz.ntmps41
  obtain ⟨⟨k0, k1, k2, k3, k4, k5⟩, ⟨k6, k7, k8, k9, k10, k11⟩⟩ := HE.out.box.load
  go_wp2_with fail
  refine (HCC.out _ HE.out.tab (HR.out.below HE.out.bel) (HI.out.below HE.out.bel)).mono ?_
  rintro e w1 ⟨vC, rfl, hc1, hb1⟩
  replace HE := Lib.hid (HE.out.step hb1)
  by_cases h0 : E = 0
  · subst h0
    have HV : Hid (checkT T = 0) := (accE_ok hE.out).1
    have hn4 : n ≤ 4096 := by rw [← HN.out]; exact (accE_ok hE.out).2.1
    have HCK : Hid (C = zs.map (clsT T)) := by unfold Hid; rw [← hC.out]; unfold clsL; rw [hE.out, if_pos rfl]
    obtain ⟨bs, hbs⟩ : ∃ bs, Hid (opens T zs = bs) := ⟨_, rfl⟩
    have HLL : Hid (L = runsS bs) := by unfold Hid; rw [← hL.out, ← hbs.out]; unfold runsL; rw [hE.out, if_pos rfl]
    have HBL : Hid (bs.length = n) := by unfold Hid; rw [← hbs.out, opens_length]; exact HN.out
    obtain ⟨pC, cC, hvC, hqC⟩ := hc1.inn
    have hcl : C.length = n := by rw [HCK.out, List.length_map]; exact HN.out
    rw [hcl] at hvC
    subst hvC
    have HQ := Lib.hid hqC
    have HCL := Lib.hid hcl
    clear hcl hqC hc1 hb1 k0 k1 k2 k3 k4 k5 k6 k7 k8 k9 k10 k11
    go_wp2
    go_loopw [8, 9, 10, 22] (fun v _ _ i wr => ∃ k : Nat, k ≤ n ∧ i = .int .i64 k ∧ Hid (Ints wr w1.heap.size v (edgesN bs k)) ∧ Hid (Below w1.heap.size w1 wr)) (fun _ _ _ i _ => n - (intOf i).toNat)
    case atStart => exact ⟨0, Nat.zero_le _, rfl, Ints.nil _ _, Below.refl _ _⟩
    case round =>
      obtain ⟨k, hk, rfl, ho, hb⟩ := hrel
      obtain ⟨A, hA⟩ : ∃ A, edgesN bs k = A := ⟨_, rfl⟩
      have hsn := edges_succ bs k
      rw [hA] at ho hsn
      obtain ⟨B, hB⟩ : ∃ B, Hid (openB bs k = B) := ⟨_, rfl⟩
      have hodd := odd_open bs k
      rw [hA, hB.out] at hodd
      have hAk : A.length ≤ 4097 := by rw [← hA]; exact Nat.le_trans (edges_len bs k) (by omega)
      obtain ⟨pb, cb, hv, hqb⟩ := ho.out.inn
      subst hv
      obtain ⟨m, hm⟩ : ∃ m, A.length = m := ⟨_, rfl⟩
      rw [hm] at hodd hAk ho ⊢
      have HM := Lib.hid hm
      have HODD := Lib.hid hodd
      have HSN := Lib.hid hsn
      clear hqb hA hsn hodd hm
      by_cases hlt : k < n
      · obtain ⟨bc, offc, rfl, hck⟩ := (HQ.out.below hb.out) k (by rw [HCL.out]; exact hlt)
        obtain ⟨c, hc⟩ : ∃ c, C.getD k 0 = c := ⟨_, rfl⟩
        rw [hc] at hck
        have hoa : openA bs k = decide (c ≠ 0) := by rw [← hbs.out, opens_at T zs k (by rw [HN.out]; exact hlt), ← HCK.out, hc]
        obtain ⟨D, hD⟩ : ∃ D, (c != 0) = D := ⟨_, rfl⟩
        have hoD : openA bs k = D := by rw [hoa, ← hD, Bool.eq_iff_iff]; simp
        have HED : Hid (edgeA bs k = (B != D)) := by unfold Hid edgeA; rw [hB.out, hoD]
        clear hc hoa hoD
        go_wp2_with fail
        refine (isOpen_any pb m cb B _ HODD (by omega)).mono ?_
        rintro e w3 ⟨rfl, rfl⟩
        cases B with
        | false =>
          cases D with
          | false =>
            have HAS : Hid (Ints wr w1.heap.size (.slice pb m cb) (edgesN bs (k + 1))) := by
              unfold Hid; rw [HSN.out, HED.out]; simpa using ho.out
            go_wp2
            go_roundw
            case rel => exact ⟨k + 1, by omega, by go_num, HAS, hb⟩
            case measure => simp [intOf]; omega
          | true =>
            have hbz := hb.out.size
            go_wp2_with (at_builtin; (refine wpList_append_int (.tmp 32) (.tmp 34) rfl rfl w1.heap.size (.slice pb m cb) A rfl ho.out k 1 _ rfl (by simp) (by have := HM.out; omega) hbz ?_); intro v1 w3 ho1 hg1)
            have HAS : Hid (Ints w3 w1.heap.size v1 (edgesN bs (k + 1))) := by
              unfold Hid; rw [HSN.out, HED.out]; simpa using ho1
            have HB3 : Hid (Below w1.heap.size w1 w3) := below_appI hb.out ho.out (Nat.le_refl _) hg1
            clear ho1 hg1 hbz
            go_wp2
            go_roundw
            case rel => exact ⟨k + 1, by omega, by go_num, HAS, HB3⟩
            case measure => simp [intOf]; omega
        | true =>
          cases D with
          | false =>
            have hbz := hb.out.size
            go_wp2_with (at_builtin; (refine wpList_append_int (.tmp 32) (.tmp 34) rfl rfl w1.heap.size (.slice pb m cb) A rfl ho.out k 1 _ rfl (by simp) (by have := HM.out; omega) hbz ?_); intro v1 w3 ho1 hg1)
            have HAS : Hid (Ints w3 w1.heap.size v1 (edgesN bs (k + 1))) := by
              unfold Hid; rw [HSN.out, HED.out]; simpa using ho1
            have HB3 : Hid (Below w1.heap.size w1 w3) := below_appI hb.out ho.out (Nat.le_refl _) hg1
            clear ho1 hg1 hbz
            go_wp2
            go_roundw
            case rel => exact ⟨k + 1, by omega, by go_num, HAS, HB3⟩
            case measure => simp [intOf]; omega
          | true =>
            have HAS : Hid (Ints wr w1.heap.size (.slice pb m cb) (edgesN bs (k + 1))) := by
              unfold Hid; rw [HSN.out, HED.out]; simpa using ho.out
            go_wp2
            go_roundw
            case rel => exact ⟨k + 1, by omega, by go_num, HAS, hb⟩
            case measure => simp [intOf]; omega
      · obtain rfl : k = n := by omega
        have HED : Hid (edgeA bs k = B) := by
          have : openA bs k = false := by rw [← HBL.out]; exact openB_end bs
          unfold Hid edgeA; rw [hB.out, this]; simp
        have hRS : runsS bs = A ++ if edgeA bs k then [(k : Int)] else [] := by
          unfold runsS; rw [HBL.out]; exact HSN.out
        rw [HED.out] at hRS
        have HRS := Lib.hid hRS
        clear hRS
        go_wp2_with fail
        refine (isOpen_any pb m cb B _ HODD (by omega)).mono ?_
        rintro e w3 ⟨rfl, rfl⟩
        cases B with
        | false =>
          have HAL : Hid (L = A) := by unfold Hid; rw [HLL.out, HRS.out]; simp
          go_wp2
          go_ret2
          exact ⟨_, rfl, by rw [HAL.out]; exact ho.out.mono HE.out.bel.size, HE.out.bel.trans (hb.out.mono HE.out.bel.size)⟩
        | true =>
          have HAL : Hid (L = A ++ [(k : Int)]) := by unfold Hid; rw [HLL.out, HRS.out]; simp
          have hbz := hb.out.size
          go_wp2_with (at_builtin; (refine wpList_append_int (.tmp 39) (.tmp 42) rfl rfl w1.heap.size (.slice pb m cb) A rfl ho.out k 1 _ rfl (by simp) (by have := HM.out; omega) hbz ?_); intro v1 w3 ho1 hg1)
          have HO1 := Lib.hid ho1
          have HB3 : Hid (Below w1.heap.size w1 w3) := below_appI hb.out ho.out (Nat.le_refl _) hg1
          clear ho1 hg1 hbz
          go_wp2
          go_ret2
          exact ⟨_, rfl, by rw [HAL.out]; exact HO1.out.mono HE.out.bel.size, HE.out.bel.trans (HB3.out.mono HE.out.bel.size)⟩
  · have d0 : (E != 0) = true := by simp [h0]
    have HLL : Hid (L = []) := by unfold Hid; rw [← hL.out]; unfold runsL; rw [hE.out, if_neg h0]
    clear h0 hc1 hb1 k0 k1 k2 k3 k4 k5 k6 k7 k8 k9 k10 k11
    go_wp2
    go_ret2
    rw [HLL.out]
    exact ⟨_, rfl, Ints.nil _ _, HE.out.bel⟩

end Go.Proofs.YtddphlindcabpaaGreatDoor
