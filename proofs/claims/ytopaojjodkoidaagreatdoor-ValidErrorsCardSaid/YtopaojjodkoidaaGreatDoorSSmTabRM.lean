/- A region that draws its order, whose operations read and who -/
import Derived.Test.YtopaojjodkoidaaGreatDoorSSmTabRJ
import Derived.Test.YtopaojjodkoidaaGreatDoorSSmTabR
import Derived.BigQuiet
import Derived.Test.YtopaojjodkoidaaGreatDoorSSmPkF
set_option linter.unusedSimpArgs false
set_option linter.unusedVariables false
namespace Go.Proofs.YtopaojjodkoidaaGreatDoor
open Go.RowKit
theorem has_find {T : Tb} (H : CmpH T) (c : Int) : hasM T.dec c = decide (findM T.dec c ≠ []) := by
 cases h : hasM T.dec c with
 | false => rw [findM_nil h]; rfl
 | true => exact (decide_eq_true (H.has h)).symm
abbrev boxS (w0 : World) (x : TV) (b off : Nat) (a0 a1 : Int) (w' : World) : Prop :=
 w'.cell? ⟨w0.heap.size, 0, none⟩ = some x.a0 ∧ w'.cell? ⟨w0.heap.size, 1, none⟩ = some x.a1 ∧ w'.cell? ⟨w0.heap.size, 2, none⟩ = some x.a2 ∧ w'.cell? ⟨w0.heap.size, 3, none⟩ = some x.a3 ∧ w'.cell? ⟨w0.heap.size, 4, none⟩ = some x.a4 ∧ w'.cell? ⟨w0.heap.size, 5, none⟩ = some x.a5 ∧
  w'.cell? ⟨w0.heap.size, 6, none⟩ = some x.a6 ∧ w'.cell? ⟨w0.heap.size, 7, none⟩ = some x.a7 ∧ w'.cell? ⟨w0.heap.size, 8, none⟩ = some x.a8 ∧ w'.cell? ⟨w0.heap.size, 9, none⟩ = some x.a9 ∧ w'.cell? ⟨w0.heap.size, 10, none⟩ = some x.a10 ∧ w'.cell? ⟨w0.heap.size, 11, none⟩ = some x.a11 ∧
  w'.cell? ⟨b, off, none⟩ = some (.int .i64 a0) ∧ w'.cell? ⟨b, off + 1, none⟩ = some (.int .i64 a1)
theorem two_below {w w' : World} {b off : Nat} {a0 a1 : Int} (h : w.cell? ⟨b, off, none⟩ = some (.int .i64 a0) ∧ w.cell? ⟨b, off + 1, none⟩ = some (.int .i64 a1)) (hb : Below w.heap.size w w') :
 w'.cell? ⟨b, off, none⟩ = some (.int .i64 a0) ∧ w'.cell? ⟨b, off + 1, none⟩ = some (.int .i64 a1) :=
 ⟨(hb.cell (p := ⟨b, off, none⟩) (World.block_lt_of_cell? w _ h.1)).trans h.1, (hb.cell (p := ⟨b, off + 1, none⟩) (World.block_lt_of_cell? w _ h.2)).trans h.2⟩
structure Env2 (w0 : World) (x : TV) (T : Tb) (b off : Nat) (a0 a1 : Int) (w : World) : Prop where
 env : Env w0 x T w
 two : w.cell? ⟨b, off, none⟩ = some (.int .i64 a0) ∧ w.cell? ⟨b, off + 1, none⟩ = some (.int .i64 a1)
theorem Env2.step {w0 w w' : World} {x : TV} {T : Tb} {b off : Nat} {a0 a1 : Int} (h : Env2 w0 x T b off a0 a1 w) (hb : Below w.heap.size w w') : Env2 w0 x T b off a0 a1 w' := ⟨h.env.step hb, two_below h.two hb⟩
theorem Env2.cells {w0 w : World} {x : TV} {T : Tb} {b off : Nat} {a0 a1 : Int} (h : Env2 w0 x T b off a0 a1 w) : boxS w0 x b off a0 a1 w := h.env.cells h.two.1 h.two.2
set_option maxRecDepth 100000 in
set_option maxHeartbeats 8000000 in
theorem rcomp_short (x : TV) (T : Tb) (f : Int) (y : List Int) (w : World) (hx : TabV w x T) (hf : Hid (findM T.dec f = y)) (hy : y.length ≠ 2) :
 Calls Tryz.prog 77 #[x.agg, .int .i64 f] w (Gives (.bool (compT T f)) w) := by
 have HE := Lib.hid (Env.new hx)
 have HC : Hid (compT T f = false) := compT_not (by rw [hf.out]; exact hy)
 have k9 := HE.out.at9
 clear hx
 simp only [TV.agg]
 go_enter Tryz.func77, Tryz.ntmps77
 go_wp2_with fail
 refine (rfind_at x.a9 T.dec f y _ HE.out.tab.dec hf).mono ?_
 rintro e w1 ⟨p, n, cp, rfl, hn, _, _, hb⟩
 have HB := Lib.hid (HE.out.step hb)
 have hd : ((n : Int) != 2) = true := by simp; omega
 clear hb k9 hn
 go_wp2_with fail
 go_quiet (fail)
 generalize hwq : World.drewN w1 _ = wq
 have hq : Below w1.heap.size w1 wq := by rw [← hwq]; exact drew_ref _ _
 have HE2 := Lib.hid (HB.out.step hq)
 clear hwq hq
 go_wp2
 go_ret
 rw [HC.out]
 exact ⟨rfl, HE2.out.bel⟩
theorem first_uniq {l : List Mp} {c : Int} {i j : Nat} (hi : i < l.length) (hj : j < l.length) (h1 : hasM (l.take i) c = false) (e1 : (l.getD i mp0).1 = c) (h2 : hasM (l.take j) c = false) (e2 : (l.getD j mp0).1 = c) : i = j := by
 apply Classical.byContradiction
 intro hne
 have key : ∀ a b, a < b → b < l.length → (l.getD a mp0).1 = c → hasM (l.take b) c = false → False := by
  intro a b hab hb hc h
  have : hasM (l.take b) c = true := by
   rw [hasM_iff]
   refine ⟨l.getD a mp0, ?_, hc⟩
   have hlen : a < (l.take b).length := by simp; omega
   have : l.getD a mp0 = (l.take b)[a] := by simp [show a < l.length by omega]
   rw [this]; exact List.getElem_mem hlen
  rw [h] at this; cases this
 rcases Nat.lt_or_gt_of_ne hne with h | h
 ·exact key i j h hj e1 h2
 ·exact key j i h hi e2 h1
set_option maxHeartbeats 4000000 in
theorem rfind_walk (p : Option Addr) (n cp : Nat) (l : List Mp) (c : Int) (w0 W : World) (v : Value) (hl : Hid (l.length = n)) (hn : n ≤ 17592186043904) (hin : MpIn w0 p l) (hW : Below w0.heap.size w0 W)
 (hyes : Hid (∀ k, k < l.length → hasM (l.take k) c = false → (l.getD k mp0).1 = c → ∀ b off, p = some ⟨b, off, none⟩ → w0.cell? ⟨b, off + k * 2 + 1, none⟩ = some v))
 (hno : Hid (hasM l c = false → v = .slice none 0 0)) :
 Calls Tryz.prog 109 #[.slice p n cp, .int .i64 c] W (Gives v W) := by
 have HI := Lib.hid hin
 have HW := Lib.hid hW
 clear hin hW
 go_enter Tryz.func109, Tryz.ntmps109
 go_wp2
 go_loopw [9] (fun i wr => ∃ k : Nat, k ≤ n ∧ i = .int .i64 k ∧ Hid (hasM (l.take k) c = false) ∧ Hid (Below W.heap.size W wr)) (fun i _ => n - (intOf i).toNat)
 case atStart => exact ⟨0, Nat.zero_le _, rfl, rfl, Below.refl _ _⟩
 case round =>
  obtain ⟨k, hk, rfl, hnk, hb⟩ := hrel
  by_cases hlt : k < n
  ·have hkl : k < l.length := by rw [hl.out]; exact hlt
   have hwr := HW.out.trans (hb.out.mono HW.out.size)
   obtain ⟨b, off, v1, rfl, hc1, hc2, hv1⟩ := HI.out k hkl
   have hyk := hyes.out k hkl hnk.out
   have hfs := Lib.hid (has_snoc hkl hnk.out)
   obtain ⟨⟨f, tl⟩, hs⟩ : ∃ s, l.getD k mp0 = s := ⟨_, rfl⟩
   rw [hs] at hc1 hv1 hfs hyk
   obtain ⟨pv, cv, rfl, _, _⟩ := hv1
   obtain ⟨nt, hnt⟩ : ∃ n, tl.length = n := ⟨_, rfl⟩
   simp only at hc1 hc2 hfs hyk
   rw [hnt] at hc2
   have HC2 := Lib.hid hc2
   have HYK := Lib.hid hyk
   have e1 := (hwr.cell (p := ⟨b, off + k * 2, none⟩) (World.block_lt_of_cell? _ _ hc1)).trans hc1
   have e2 := (hwr.cell (p := ⟨b, off + k * 2 + 1, none⟩) (World.block_lt_of_cell? _ _ hc2)).trans hc2
   have HBa := Lib.hid (hb.out.alloc hb.out.size (.cells #[.int .i64 f, .slice pv nt cv] 47))
   clear hs hnt hyk hc1 hc2 hwr
   by_cases h1 : f = c
   ·have d1 : (f == c) = true := by simp [h1]
    have HR : Hid (v = .slice pv nt cv) := by
     have h2 := (HYK.out h1 _ _ rfl).symm.trans HC2.out
     injection h2
    clear h1
    go_wp2
    go_ret
    rw [HR.out]
    exact ⟨rfl, HBa.out⟩
   ·have d1 : (f == c) = false := by simp [h1]
    have HN : Hid (hasM (l.take (k + 1)) c = false) := hfs.out h1
    clear h1
    go_wp2
    go_roundw
    case rel => exact ⟨k + 1, by omega, by go_num, HN, HBa⟩
    case measure => simp [intOf]; omega
  ·obtain rfl : k = n := by omega
   have HR : Hid (v = .slice none 0 0) := by
    have := hnk.out
    rw [List.take_of_length_le (Nat.le_of_eq hl.out)] at this
    exact hno.out this
   go_wp2
   go_ret
   rw [HR.out]
   exact ⟨rfl, hb.out⟩
theorem rfind_val (v9 : Value) (l : List Mp) (c : Int) (fl : List Int) (w0 : World) (hv : MpV w0 v9 l) (hz : findM l c = fl) :
 ∃ p n cp, fl.length = n ∧ n ≤ 17592186043904 ∧ IntsIn w0 p fl ∧ ∀ W, Below w0.heap.size w0 W → Calls Tryz.prog 109 #[v9, .int .i64 c] W (Gives (.slice p n cp) W) := by
 obtain ⟨p, cp, rfl, hin, hn⟩ := hv
 cases hh : hasM l c with
 | false =>
  rw [findM_nil hh] at hz
  subst hz
  refine ⟨none, 0, 0, rfl, by omega, fun k hk => absurd hk (Nat.not_lt_zero _), fun W hW => ?_⟩
  refine rfind_walk p _ cp l c w0 W (.slice none 0 0) rfl hn hin hW ?_ (fun _ => rfl)
  intro k hk _ hc
  exfalso
  have : hasM l c = true := hasM_iff.2 ⟨_, mp_getD_mem l k hk, hc⟩
  rw [hh] at this; cases this
 | true =>
  have hex : ∃ k, k < l.length ∧ hasM (l.take k) c = false ∧ (l.getD k mp0).1 = c := by
   clear hz hin hn
   induction l with
   | nil => simp [hasM] at hh
   | cons m r ih =>
    by_cases hm : m.1 = c
    ·exact ⟨0, by simp, rfl, hm⟩
    ·have : hasM r c = true := by
      simp only [hasM, List.any_cons, Bool.or_eq_true, decide_eq_true_eq] at hh
      exact hh.resolve_left hm
     obtain ⟨k, h1, h2, h3⟩ := ih this
     refine ⟨k + 1, by simpa using h1, ?_, by simpa using h3⟩
     simp only [List.take_succ_cons, hasM, List.any_cons, decide_eq_false hm, Bool.false_or]
     exact h2
  obtain ⟨k, hk, h1, h2⟩ := hex
  obtain ⟨b, off, v, rfl, c1, c2, qv, qc, rfl, hqi, hql⟩ := hin k hk
  have hfl := find_at hk h1 h2
  rw [hz] at hfl
  rw [← hfl] at hqi hql c2
  refine ⟨qv, fl.length, qc, rfl, hql, hqi, fun W hW => ?_⟩
  refine rfind_walk _ _ cp l c w0 W _ rfl hn hin hW ?_ (fun h => by rw [hh] at h; cases h)
  intro k' hk' h1' h2' b' off' e
  obtain rfl := first_uniq hk hk' h1 h2 h1' h2'
  injection e with e
  injection e with e1 e2
  subst e1; subst e2
  exact c2
end Go.Proofs.YtopaojjodkoidaaGreatDoor
