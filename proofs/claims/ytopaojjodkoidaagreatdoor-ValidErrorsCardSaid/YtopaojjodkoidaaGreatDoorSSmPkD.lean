/- The sizes of full decompositions as the program keeps them,  -/
import Derived.Test.YtopaojjodkoidaaGreatDoorSSmPkC
import Derived.Test.YtopaojjodkoidaaGreatDoorSSmTabL
import Derived.Test.YtopaojjodkoidaaGreatDoorSSmPkA
import Derived.Deep.DeepCutAuto
set_option linter.unusedSimpArgs false
set_option linter.unusedVariables false
namespace Go.Proofs.YtopaojjodkoidaaGreatDoor
abbrev keyAt (l : List Mp) (i : Nat) : Int := (l.getD i mp0).1
def Ext (l : List Mp) (S S' : List Int) : Prop :=
 S'.length = S.length ∧ ∀ i, i < S.length → (S.getD i 0 ≠ 0 → S'.getD i 0 = S.getD i 0) ∧ (S.getD i 0 = 0 → S'.getD i 0 = 0 ∨ S'.getD i 0 = siz l (keyAt l i))
def Kn (l : List Mp) (S : List Int) (c : Int) : Prop :=
 ∀ i, i < S.length → S.getD i 0 ≠ 0 → S.getD i 0 = siz l (keyAt l i) ∨ (S.getD i 0 = 19 ∧ Rch l (keyAt l i) c)
def zeros : List Int → Nat
 | [] => 0
 | z :: r => (if z = 0 then 1 else 0) + zeros r
theorem Ext.refl (l : List Mp) (S : List Int) : Ext l S S := ⟨rfl, fun _ _ => ⟨fun _ => rfl, fun h => .inl h⟩⟩
theorem siz_pos (l : List Mp) (c : Int) : (siz l c : Int) ≠ 0 := by have := siz_bd l c; omega
theorem Ext.trans {l : List Mp} {A B C : List Int} (h : Ext l A B) (k : Ext l B C) : Ext l A C := by
 refine ⟨k.1.trans h.1, fun i hi => ?_⟩
 have h2 := h.2 i hi
 have k2 := k.2 i (by rw [h.1]; exact hi)
 refine ⟨fun hn => ?_, fun hz => ?_⟩
 ·have e := h2.1 hn
  rw [k2.1 (by rw [e]; exact hn), e]
 ·rcases h2.2 hz with e | e
  ·exact k2.2 e
  ·exact .inr ((k2.1 (by rw [e]; exact siz_pos _ _)).trans e)
theorem zeros_le : ∀ (A B : List Int), B.length = A.length → (∀ i, i < A.length → A.getD i 0 ≠ 0 → B.getD i 0 ≠ 0) → zeros B ≤ zeros A
 | [], B, hl, _ => by
  have : B = [] := List.eq_nil_of_length_eq_zero hl
  subst this; exact Nat.le_refl _
 | a :: A, [], hl, _ => by simp at hl
 | a :: A, b :: B, hl, h => by
  have h0 := h 0 (by simp)
  have ih := zeros_le A B (by simpa using hl) fun i hi hn => by
   have := h (i + 1) (by simpa using hi)
   simp only [List.getD_cons_succ] at this
   exact this hn
  simp only [List.getD_cons_zero] at h0
  simp only [zeros]
  by_cases ha : a = 0
  ·rw [if_pos ha]; split <;> omega
  ·rw [if_neg ha, if_neg (h0 ha)]; omega
theorem Ext.zeros {l : List Mp} {A B : List Int} (h : Ext l A B) : zeros B ≤ zeros A :=
 zeros_le A B h.1 fun i hi hn => by rw [(h.2 i hi).1 hn]; exact hn
theorem zeros_set : ∀ (A : List Int) (i : Nat) (v : Int), i < A.length → A.getD i 0 = 0 → v ≠ 0 → zeros (A.set i v) + 1 = zeros A
 | [], _, _, hi, _, _ => by simp at hi
 | a :: A, 0, v, _, h0, hv => by
  simp only [List.getD_cons_zero] at h0
  simp only [List.set_cons_zero, zeros, if_pos h0, if_neg hv]; omega
 | a :: A, i + 1, v, hi, h0, hv => by
  have := zeros_set A i v (by simpa using hi) (by simpa using h0) hv
  simp only [List.set_cons_succ, zeros]; omega
theorem getD_set (A : List Int) (i j : Nat) (v : Int) (hi : i < A.length) : (A.set i v).getD j 0 = if j = i then v else A.getD j 0 := by
 simp only [List.getD_eq_getElem?_getD, List.getElem?_set]
 by_cases h : i = j
 ·subst h; simp [hi]
 ·rw [if_neg h, if_neg (fun e => h e.symm)]
theorem Kn.part {l : List Mp} {S S1 : List Int} {c d : Int} {i : Nat} (hS : Kn l S c) (hi : i < S.length) (hc : keyAt l i = c) (hd : d ∈ findM l c) (hE : Ext l (S.set i 19) S1) : Kn l S1 d := by
 intro j hj hn
 have hjS : j < S.length := by rw [hE.1, List.length_set] at hj; exact hj
 have e2 := hE.2 j (by rw [List.length_set]; exact hjS)
 rw [getD_set S i j 19 hi] at e2
 by_cases hji : j = i
 ·rw [if_pos hji] at e2
  have e := e2.1 (by omega)
  rw [e, hji, hc]
  exact .inr ⟨rfl, .one hd⟩
 ·rw [if_neg hji] at e2
  by_cases h0 : S.getD j 0 = 0
  ·rcases e2.2 h0 with e | e
   ·exact absurd e hn
   ·exact .inl e
  ·have e := e2.1 h0
   rw [e]
   rcases hS j hjS h0 with h | h
   ·exact .inl h
   ·exact .inr ⟨h.1, h.2.snoc hd⟩
theorem Ext.done {l : List Mp} {S S1 : List Int} {i : Nat} {v : Int} (hi : i < S.length) (h0 : S.getD i 0 = 0) (hE : Ext l (S.set i 19) S1) (hv : v = siz l (keyAt l i)) : Ext l S (S1.set i v) := by
 have hl : S1.length = S.length := by rw [hE.1, List.length_set]
 refine ⟨by rw [List.length_set, hl], fun j hj => ?_⟩
 have e2 := hE.2 j (by rw [List.length_set]; exact hj)
 rw [getD_set S i j 19 hi] at e2
 rw [getD_set S1 i j v (by rw [hl]; exact hi)]
 by_cases hji : j = i
 ·subst hji
  rw [if_pos rfl]
  exact ⟨fun h => absurd h0 h, fun _ => .inr hv⟩
 ·rw [if_neg hji] at e2 ⊢
  exact e2
theorem Kn.found {l : List Mp} {S : List Int} {c : Int} {i : Nat} (hS : Kn l S c) (hi : i < S.length) (hc : keyAt l i = c) (hn : S.getD i 0 ≠ 0) : S.getD i 0 = siz l c := by
 rcases hS i hi hn with h | h
 ·rw [h, hc]
 ·rw [h.1]
  have := h.2
  rw [hc] at this
  rw [siz_ring this]; rfl
def sumZ (l : List Mp) (y : List Int) : Nat := (y.map (siz l)).sum
theorem sumZ_snoc (l : List Mp) (y : List Int) (d : Int) : sumZ l (y ++ [d]) = sumZ l y + siz l d := by simp [sumZ]
open Go.RowKit
structure SzSt (w0 w : World) (g h : Nat) (p : Option Addr) (n c : Nat) (S : List Int) : Prop where
 dec : w.cell? ⟨g, 0, none⟩ = some (.slice p n c)
 szs : w.cell? ⟨g, 1, none⟩ = some (.slice (some ⟨h, 0, none⟩) n n)
 cel : ∀ i, i < n → w.cell? ⟨h, i, none⟩ = some (.int .i64 (S.getD i 0))
 fro : ∀ i, i < n → w.frozen? ⟨h, i, none⟩ = false
 len : S.length = n
 bel : Below w0.heap.size w0 w
 hlt : h < w.heap.size
 glt : g < w.heap.size
theorem SzSt.below {w0 w w' : World} {g h n c : Nat} {p : Option Addr} {S : List Int} (s : SzSt w0 w g h p n c S) (hb : Below w.heap.size w w') : SzSt w0 w' g h p n c S :=
 ⟨(hb.cell (p := ⟨g, 0, none⟩) s.glt).trans s.dec, (hb.cell (p := ⟨g, 1, none⟩) s.glt).trans s.szs, fun i hi => (hb.cell (p := ⟨h, i, none⟩) s.hlt).trans (s.cel i hi), fun i hi => (hb.frozen (p := ⟨h, i, none⟩) s.hlt).trans (s.fro i hi), s.len,
  s.bel.trans (hb.mono s.bel.size), Nat.lt_of_lt_of_le s.hlt hb.size, Nat.lt_of_lt_of_le s.glt hb.size⟩
theorem SzSt.set {w0 w : World} {g h n c : Nat} {p : Option Addr} {S : List Int} (s : SzSt w0 w g h p n c S) (hg : g ≠ h) (hh : w0.heap.size ≤ h) (i : Nat) (hi : i < n) (v : Int) : SzSt w0 (w.setCell ⟨h, i, none⟩ (.int .i64 v)) g h p n c (S.set i v) := by
 have hl := s.len
 refine ⟨(World.cell?_setCell_other _ _ _ _ (by simp [hg])).trans s.dec, (World.cell?_setCell_other _ _ _ _ (by simp [hg])).trans s.szs, fun j hj => ?_, fun j hj => (World.frozen?_setCell _ _ _ _).trans (s.fro j hj), by rw [List.length_set, hl],
  s.bel.setCell (p := ⟨h, i, none⟩) hh _, by simpa [World.setCell] using s.hlt, by simpa [World.setCell] using s.glt⟩
 rw [getD_set S i j v (by omega)]
 by_cases hji : j = i
 ·subst hji
  rw [if_pos rfl]
  exact World.cell?_setCell_same _ _ _ (s.cel j hj)
 ·rw [if_neg hji]
  exact (World.cell?_setCell_other _ _ _ _ (by first | (simp; done) | (simp; omega))).trans (s.cel j hj)
theorem grown_below {w w' : World} {h : Nat} (hb : Below w.heap.size w w') : w.grownBy w' (some h) := below_grownBy hb _
theorem grown_trans {w w1 w2 : World} {row : Option Nat} (h : w.grownBy w1 row) (k : w1.grownBy w2 row) : w.grownBy w2 row :=
 ⟨k.os.trans h.os, k.tape.trans h.tape, k.output.trans h.output, Nat.le_trans h.size k.size, fun i hi hne => (k.block i (Nat.lt_of_lt_of_le hi h.size) hne).trans (h.block i hi hne)⟩
def SzPost (w0 : World) (g h : Nat) (p : Option Addr) (n c : Nat) (l : List Mp) (S : List Int) (z : Nat) (w : World) (e : Ending) (w' : World) : Prop :=
 ∃ S', e = .returned (.int .i64 z) ∧ SzSt w0 w' g h p n c S' ∧ Ext l S S' ∧ w.grownBy w' (some h)
set_option maxRecDepth 100000 in
set_option maxHeartbeats 8000000 in
theorem size_any (w0 : World) (g h : Nat) (p : Option Addr) (n cp : Nat) (l : List Mp) (hl : l.length = n) (hn : n ≤ 256) (hin : MpIn w0 p l) (ha : ascI 0 1114111 (froms l) = true)
 (h2 : ∀ m ∈ l, m.2.length ≤ 2) (h1 : ∀ m ∈ l, m.2 ≠ []) (hh : w0.heap.size ≤ h) (hg : g ≠ h) (N : Nat) :
 ∀ (S : List Int) (c : Int) (w : World), zeros S ≤ N → SzSt w0 w g h p n cp S → Kn l S c →
  Calls Tryz.prog 167 #[.pointer (some ⟨g, 0, none⟩), .int .i64 c] w (SzPost w0 g h p n cp l S (siz l c) w) := by
 have HI := Lib.hid hin
 have HL := Lib.hid hl
 have HA := Lib.hid ha
 have H2 := Lib.hid h2
 have H1 := Lib.hid h1
 have HG := Lib.hid hg
 clear hin hl ha h2 h1
 induction N using Nat.strongRecOn with
 | _ N ih0 =>
  have IH := Lib.hid ih0
  clear ih0
  intro S c w hz hs hk
  have HS := Lib.hid hs
  have HK := Lib.hid hk
  have HZ := Lib.hid hz
  clear hk hz
  cases hm : hasM l c with
  | false =>
   have HM := Lib.hid hm
   have HV : Hid (siz l c = 1) := siz_nil (findM_nil hm)
   obtain ⟨d1, d2, _, _, _, _, _, _⟩ := hs
   clear hm
   go_enter Tryz.func167, Tryz.ntmps167
   go_wp2_with fail
   refine (findMp_any (.slice p n cp) l c _ ⟨p, cp, by rw [HL.out], HI.out.below HS.out.bel, by rw [HL.out]; omega⟩ HA.out).mono ?_
   rintro e w1 ⟨i, rfl, hi, _, hb⟩
   have HB := Lib.hid hb
   clear hb
   rw [HM.out]
   go_wp2
   go_ret
   exact ⟨S, by rw [HV.out]; rfl, HS.out.below HB.out, Ext.refl _ _, grown_below HB.out⟩
  | true =>
   have HM := Lib.hid hm
   obtain ⟨d1, d2, _, _, _, _, _, _⟩ := hs
   clear hm
   go_enter Tryz.func167, Tryz.ntmps167
   go_wp2_with fail
   refine (findMp_any (.slice p n cp) l c _ ⟨p, cp, by rw [HL.out], HI.out.below HS.out.bel, by rw [HL.out]; omega⟩ HA.out).mono ?_
   rintro e w1 ⟨i, rfl, hi, hf, hb⟩
   obtain ⟨hil, hkey, hto⟩ := hf HM.out
   rw [HM.out]
   have hin : i < n := by rw [← HL.out]; exact hil
   have HS1 := Lib.hid (HS.out.below hb)
   have HB := Lib.hid hb
   have hiS : Hid (i < S.length) := by unfold Hid; rw [HS.out.len]; exact hin
   have HKEY := Lib.hid hkey
   clear hb d1 d2 hf hi hkey
   obtain ⟨d1, d2, d3, d4, _, _, _, _⟩ := HS1.out
   have c3 := d3 i hin
   have f3 := d4 i hin
   clear d3 d4
   obtain ⟨s, hsv⟩ : ∃ s, S.getD i 0 = s := ⟨_, rfl⟩
   rw [hsv] at c3
   by_cases hs0 : s = 0
   ·have hb0 : (s == 0) = true := by simp [hs0]
    have HS0 : Hid (S.getD i 0 = 0) := hsv.trans hs0
    have HZ1 : Hid (zeros (S.set i 19) + 1 = zeros S) := zeros_set S i 19 hiS.out HS0.out (by omega)
    have hmem := mp_getD_mem l i hil
    have HY2 := Lib.hid (H2.out _ hmem)
    have HY1 := Lib.hid (H1.out _ hmem)
    have HFM := Lib.hid hto
    have HX0 := Lib.hid (HS1.out.set HG.out hh i hin 19)
    have HG0 := Lib.hid (grown_trans (grown_below HB.out) (sp_grownBy_store w1 h i (.int .i64 19)))
    obtain ⟨b, off, v, rfl, q1, q2, qa, cq, rfl, hy, hyl⟩ := (HI.out.below (HX0.out.bel)) i hil
    obtain ⟨y, hy0⟩ : ∃ y, (l.getD i mp0).2 = y := ⟨_, rfl⟩
    rw [hy0] at q2 hy hyl HY2 HY1 HFM
    obtain ⟨m, hm⟩ : ∃ m, y.length = m := ⟨_, rfl⟩
    rw [hm] at q2 hyl HY2
    have hm2 := HY2.out
    have HYL := Lib.hid hm
    have HYI0 : Hid (IntsIn w0 qa y) := by
     obtain ⟨b', off', v', e', r1, r2, qa', cq', e2, r4, _⟩ := HI.out i hil
     have hbw := HX0.out.bel
     have hlt := World.block_lt_of_cell? w0 _ r2
     injection e' with e'
     injection e' with e3 e4
     subst e3; subst e4
     have h5 := (hbw.cell (p := ⟨b, off + i * 2 + 1, none⟩) hlt).trans r2
     rw [q2] at h5
     injection h5 with h5
     rw [e2, hy0] at h5
     injection h5 with h6 _ _
     subst h6
     rw [hy0] at r4
     exact r4
    obtain ⟨x1, x2, _, _, _, _, _, _⟩ := HX0.out
    clear hsv hs0 hto hy0 hm hmem hy
    go_wp2
    go_loopw [7, 44] (fun vv jj wr => ∃ (j : Nat) (S1 : List Int) (t : Nat), j ≤ m ∧ jj = .int .i64 j ∧ vv = .int .i64 t ∧ t ≤ 19 * j ∧ Hid (sumZ l (y.take j) = t) ∧ Hid (SzSt w0 wr g h (some ⟨b, off, none⟩) n cp S1) ∧ Hid (Ext l (S.set i 19) S1) ∧ Hid (w.grownBy wr (some h))) (fun _ jj _ => m - (intOf jj).toNat)
    case atStart => exact ⟨0, S.set i 19, 0, Nat.zero_le _, rfl, rfl, by omega, rfl, HX0, Ext.refl _ _, HG0⟩
    case round =>
     clear c3 f3 d1 d2 q1 q2 x1 x2
     obtain ⟨j, S1, t, hj, rfl, rfl, ht, hsum, hst, hext, hgr⟩ := hrel
     by_cases hlt : j < m
     ·have hjl : j < y.length := by rw [HYL.out]; exact hlt
      obtain ⟨b3, off3, rfl, hc3⟩ := (HYI0.out.below hst.out.bel) j hjl
      have hsn : sumZ l (y.take (j + 1)) = t + siz l (y.getD j 0) := by rw [take_snoc_int y j hjl, sumZ_snoc, hsum.out]
      have hd : y.getD j 0 ∈ findM l c := by rw [HFM.out]; simp [hjl]
      obtain ⟨d, hdd⟩ : ∃ d, y.getD j 0 = d := ⟨_, rfl⟩
      rw [hdd] at hc3 hsn hd
      have hbd := siz_bd l d
      have hkn := HK.out.part hiS.out HKEY.out hd hext.out
      have hzz : zeros S1 ≤ N - 1 := by
       have := hext.out.zeros; have := HZ1.out; have := HZ.out; omega
      have hN : N - 1 < N := by have := HZ1.out; have := HZ.out; omega
      have HC := Lib.hid (IH.out (N - 1) hN S1 d _ hzz hst.out hkn)
      obtain ⟨u, hu⟩ : ∃ u, siz l d = u := ⟨_, rfl⟩
      rw [hu] at hsn hbd HC
      have HSN := Lib.hid hsn
      clear hdd hd hkn hzz hN hsn hu
      go_wp2_with fail
      refine HC.out.mono ?_
      rintro e w3 ⟨S2, rfl, hst2, hext2, hgr2⟩
      have HST := Lib.hid hst2
      have HEX := Lib.hid (hext.out.trans hext2)
      have HGR := Lib.hid (grown_trans hgr.out hgr2)
      clear hst2 hext2 hgr2 hc3 HC
      go_wp2
      go_roundw
      case rel => exact ⟨j + 1, S2, t + u, by omega, by go_num, by go_num, by omega, HSN, HST, HEX, HGR⟩
      case measure => simp [intOf]; omega
     ·obtain rfl : j = m := by omega
      have hsz : siz l c = min 19 t := by
       rw [siz_eq (by rw [HL.out]; exact hn) (by rw [HFM.out]; exact HY1.out), HFM.out]
       have := hsum.out
       rw [List.take_of_length_le (Nat.le_of_eq HYL.out)] at this
       rw [← this]; rfl
      have HSZ := Lib.hid hsz
      obtain ⟨d1, d2, d3, d4, d5, _, _, _⟩ := hst.out
      have c3 := d3 i hin
      have f3 := d4 i hin
      obtain ⟨s1, hs1⟩ : ∃ s, S1.getD i 0 = s := ⟨_, rfl⟩
      rw [hs1] at c3
      clear d3 d4 hs1 hsz
      by_cases h19 : 19 < t
      ·have hd : decide ((19 : Int) < (t : Int)) = true := decide_eq_true (by omega)
       have HV : Hid (((19 : Int)) = siz l (keyAt l i)) := by show (19 : Int) = siz l (l.getD i mp0).1; rw [HKEY.out, HSZ.out]; omega
       have HV2 : Hid ((siz l c : Int) = 19) := by unfold Hid; rw [HSZ.out]; omega
       have HE := Lib.hid (Ext.done hiS.out HS0.out hext.out HV.out)
       have HX := Lib.hid (hst.out.set HG.out hh i hin 19)
       have HGR := Lib.hid (grown_trans hgr.out (sp_grownBy_store wr h i (.int .i64 19)))
       go_wp2
       go_ret
       exact ⟨_, by rw [HV2.out]; rfl, HX.out, HE.out, HGR.out⟩
      ·have hd : decide ((19 : Int) < (t : Int)) = false := decide_eq_false (by omega)
       have HV : Hid (((t : Int)) = siz l (keyAt l i)) := by show (t : Int) = siz l (l.getD i mp0).1; rw [HKEY.out, HSZ.out]; omega
       have HV2 : Hid ((siz l c : Int) = t) := by unfold Hid; rw [HSZ.out]; omega
       have HE := Lib.hid (Ext.done hiS.out HS0.out hext.out HV.out)
       have HX := Lib.hid (hst.out.set HG.out hh i hin t)
       have HGR := Lib.hid (grown_trans hgr.out (sp_grownBy_store wr h i (.int .i64 t)))
       go_wp2
       go_ret
       exact ⟨_, by rw [HV2.out]; rfl, HX.out, HE.out, HGR.out⟩
   ·have hb0 : (s == 0) = false := by simp [hs0]
    have HV : Hid ((siz l c : Int) = s) := by
     unfold Hid; rw [← hsv]
     exact (HK.out.found hiS.out HKEY.out (by rw [hsv]; exact hs0)).symm
    clear hs0 hsv hto f3
    go_wp2
    go_ret
    exact ⟨S, by rw [HV.out]; rfl, HS1.out, Ext.refl _ _, grown_below HB.out⟩
theorem run_make_full (c : Nat) (hc : c ≤ 4194304) (w : World) :
 (Instr.makeSlice 22 (.int .i64 (c : Int)) (.int .i64 (c : Int))).run Tryz.prog w = .ok (.slice (some ⟨w.heap.size, 0, none⟩) c c) (w.alloc (madeI c)) := by
 obtain ⟨i0, hi, hz0, hz1, hz2⟩ := info_parts Tryz.info3
 have h := run_make_rowN (P := Tryz.prog) 22 3 i0 _ Tryz.underlying22 hi hz0 .i64 .i64 c c (Nat.le_refl _) (by rw [hz2]; omega) (by omega) w
 rw [hz1] at h
 exact h
theorem madeI_cell (w : World) (n i : Nat) (hi : i < n) : (w.alloc (madeI n)).cell? ⟨w.heap.size, i, none⟩ = some (.int .i64 0) := by
 unfold madeI
 rw [World.cell?_alloc_new]
 simp [madeCells, hi, Nat.mod_one, Value.cells]
theorem testForb (w : World) : TestI 166 #[] forb w := fun c W _ => (forb_any c W).mono fun e w' h => ⟨h.1, by rw [h.2]; exact Below.refl _ _⟩
theorem entersForb : ∀ args w, (callFunc 166 args).run Tryz.prog w = .ok (.enter 166 args) w := enters_of Tryz.func166 (by kernel_rfl) rfl
theorem short2_parts {f : Int} {y : List Int} {m : Nat} {B : Bool} (hm : y.length = m) (hB : y.any forb = B) : short2 (f, y) = (decide (m ≤ 2) && !B) := by
 rw [short2, ← not_any hB, hm]
theorem SzSt.new {w0 w : World} {g h n c : Nat} {p : Option Addr} (d : w.cell? ⟨g, 0, none⟩ = some (.slice p n c)) (s : w.cell? ⟨g, 1, none⟩ = some (.slice (some ⟨h, 0, none⟩) n n))
 (hc : ∀ i, i < n → w.cell? ⟨h, i, none⟩ = some (.int .i64 0)) (hf : ∀ i, i < n → w.frozen? ⟨h, i, none⟩ = false) (hb : Below w0.heap.size w0 w) (hl : h < w.heap.size) : SzSt w0 w g h p n c (List.replicate n 0) :=
 ⟨d, s, fun i hi => by rw [hc i hi]; simp [List.getD, hi], hf, by simp, hb, hl, World.block_lt_of_cell? w _ d⟩
theorem getD_rep (n i : Nat) : (List.replicate n (0 : Int)).getD i 0 = 0 := by
 simp only [List.getD_eq_getElem?_getD, List.getElem?_replicate]
 split <;> rfl
def Good (l : List Mp) (S : List Int) : Prop := ∀ i, i < S.length → S.getD i 0 ≠ 0 → S.getD i 0 = siz l (keyAt l i)
theorem Good.new (l : List Mp) (n : Nat) : Good l (List.replicate n 0) := fun i _ h => absurd (getD_rep n i) h
theorem Good.kn {l : List Mp} {S : List Int} (h : Good l S) (c : Int) : Kn l S c := fun i hi hn => .inl (h i hi hn)
theorem Good.ext {l : List Mp} {S S' : List Int} (h : Good l S) (k : Ext l S S') : Good l S' := fun i hi hn => by
 have hi' : i < S.length := by rw [← k.1]; exact hi
 by_cases h0 : S.getD i 0 = 0
 ·rcases (k.2 i hi').2 h0 with e | e
  ·exact absurd e hn
  ·exact e
 ·rw [(k.2 i hi').1 h0]; exact h i hi' h0
theorem szst_a (w : World) (p : Option Addr) (k c : Nat) (t : TypeId) : SzSt w ((w.alloc (madeI k)).alloc (.cells #[.slice p k c, .slice (some ⟨w.heap.size, 0, none⟩) k k] t)) (w.heap.size + 1) w.heap.size p k c (List.replicate k 0) := by
 refine SzSt.new ?_ ?_ (fun i hi => ?_) (fun i _ => ?_) (((Below.refl _ _).alloc (Nat.le_refl _) _).alloc (by simp) _) (by simp; omega)
 ·have := World.cell?_alloc_new (w.alloc (madeI k)) #[.slice p k c, .slice (some ⟨w.heap.size, 0, none⟩) k k] t
  simp at this ⊢
 ·simp
 ·exact (World.cell?_alloc_lt (w.alloc (madeI k)) _ ⟨w.heap.size, i, none⟩ (by simp)).trans (madeI_cell w k i hi)
 ·simp [madeI]
theorem szst_b (w : World) (p : Option Addr) (k c : Nat) (t : TypeId) : SzSt w ((w.alloc (.cells #[.slice p k c, .slice (some ⟨w.heap.size + 1, 0, none⟩) k k] t)).alloc (madeI k)) w.heap.size (w.heap.size + 1) p k c (List.replicate k 0) := by
 refine SzSt.new ?_ ?_ (fun i hi => ?_) (fun i _ => ?_) (((Below.refl _ _).alloc (Nat.le_refl _) _).alloc (by simp) _) (by simp)
 ·exact (World.cell?_alloc_lt _ _ ⟨w.heap.size, 0, none⟩ (by simp)).trans (by simp [World.cell?_alloc_new])
 ·exact (World.cell?_alloc_lt _ _ ⟨w.heap.size, 1, none⟩ (by simp)).trans (by simp [World.cell?_alloc_new])
 ·have := madeI_cell (w.alloc (.cells #[.slice p k c, .slice (some ⟨w.heap.size + 1, 0, none⟩) k k] t)) k i hi
  simpa using this
 ·simp [madeI]
theorem Env.grown {w0 w w' : World} {x : TV} {T : Tb} {h : Nat} (e : Env w0 x T w) (hx : TabV w0 x T) (hg : w.grownBy w' (some h)) (hh : w0.heap.size < h) : Env w0 x T w' := by
 have hb : Below w0.heap.size w0 w' := e.bel.grown hg e.bel.size (by rintro k ⟨⟩; omega)
 obtain ⟨⟨h0, h1, h2, h3, h4, h5⟩, ⟨h6, h7, h8, h9, h10, h11⟩⟩ := e.box
 have key : ∀ i v, w.cell? ⟨w0.heap.size, i, none⟩ = some v → w'.cell? ⟨w0.heap.size, i, none⟩ = some v := fun i v hc => hg.cell (a := ⟨w0.heap.size, i, none⟩) hc (by simp; omega)
 exact ⟨hx.below hb, ⟨⟨key _ _ h0, key _ _ h1, key _ _ h2, key _ _ h3, key _ _ h4, key _ _ h5⟩, ⟨key _ _ h6, key _ _ h7, key _ _ h8, key _ _ h9, key _ _ h10, key _ _ h11⟩⟩, hb⟩
set_option maxRecDepth 100000 in
set_option maxHeartbeats 8000000 in
theorem finite_any (x : TV) (T : Tb) (w : World) (hx : TabV w x T) (hl : T.dec.length ≤ 256) (ha : ascI 0 1114111 (froms T.dec) = true) (h1 : ∀ m ∈ T.dec, m.2 ≠ []) :
 Calls Tryz.prog 134 #[x.agg] w (Gives (.bool (r6 T)) w) := by
 obtain ⟨a0, a1, a2, a3, a4, a5, a6, a7, a8, a9, a10, a11⟩ := x
 obtain ⟨pm, cm, hm, hmin, hml⟩ := hx.dec
 obtain ⟨n, hn⟩ : ∃ n, T.dec.length = n := ⟨_, rfl⟩
 rw [hn] at hm hml hl
 simp only at hm
 subst hm
 have HE := Lib.hid (Env.new hx)
 have HX := Lib.hid hx
 have HA := Lib.hid ha
 have HN := Lib.hid hn
 have HMI := Lib.hid hmin
 have H1 := Lib.hid h1
 have hmk := run_make_full n (by omega)
 have HMK := Lib.hid hmk
 have HF : Hid (T.dec.all short2 = false → r6 T = false) := fun h => by unfold r6; rw [h]; rfl
 clear hx ha hn hmin h1 hmk
 simp only [TV.agg]
 go_enter Tryz.func134, Tryz.ntmps134
 go_wp2
 go_loopw [11] (fun i wr => ∃ k : Nat, k ≤ n ∧ i = .int .i64 k ∧ Hid ((T.dec.take k).all short2 = true) ∧ Hid (Env w ⟨a0, a1, a2, a3, a4, a5, a6, a7, a8, .slice pm n cm, a10, a11⟩ T wr)) (fun i _ => n - (intOf i).toNat)
 case atStart => exact ⟨0, Nat.zero_le _, rfl, by simp [Hid], HE⟩
 case round =>
  obtain ⟨k, hk, rfl, hall, he⟩ := hrel
  by_cases hlt : k < n
  ·have hkl : k < T.dec.length := by rw [HN.out]; exact hlt
   obtain ⟨b, off, v, rfl, hc1, hc2, qa, cq, rfl, hi2, hm2⟩ := (HMI.out.below he.out.bel) k hkl
   have hsn := all_take_snoc short2 T.dec k mp0 hkl
   rw [hall.out, Bool.true_and] at hsn
   have hno : short2 (T.dec.getD k mp0) = false → r6 T = false := fun h => HF.out (all_of_take _ T.dec (k + 1) (by rw [hsn, h]))
   obtain ⟨⟨f, y⟩, hs⟩ : ∃ s, T.dec.getD k mp0 = s := ⟨_, rfl⟩
   rw [hs] at hc1 hc2 hsn hno hi2 hm2
   simp only at hc1 hc2 hsn hno hi2 hm2
   obtain ⟨m, hm3⟩ : ∃ m, y.length = m := ⟨_, rfl⟩
   obtain ⟨B, hB⟩ : ∃ B, Hid (y.any forb = B) := ⟨_, rfl⟩
   rw [short2_parts hm3 hB.out] at hsn hno
   rw [hm3] at hc2 hm2
   have HSN := Lib.hid hsn
   have HNO := Lib.hid hno
   have HEb := Lib.hid (he.out.step ((Below.refl _ _).alloc (Nat.le_refl _) (.cells #[.int .i64 f, .slice qa m cq] 47)))
   have HV : Hid (InV (wr.alloc (.cells #[.int .i64 f, .slice qa m cq] 47)) (.slice qa m cq) y) := ⟨qa, cq, by rw [hm3], RowIn.alloc hi2 _, by rw [hm3]; exact hm2⟩
   clear hs hsn hno hi2 hm3
   by_cases h2 : 2 < m
   ·have d2 : decide ((2 : Int) < (m : Int)) = true := decide_eq_true (by omega)
    have HFF := Lib.hid (HNO.out (by simp; omega))
    go_wp2
    go_ret
    rw [HFF.out]
    exact ⟨rfl, HEb.out.bel⟩
   ·have d2 : decide ((2 : Int) < (m : Int)) = false := decide_eq_false (by omega)
    go_wp2_with fail
    refine (conI_any _ y 166 #[] forb B _ HV.out (testForb _) entersForb hB).mono ?_
    rintro e w2 ⟨rfl, hb2⟩
    have HE2 := Lib.hid (HEb.out.step hb2)
    clear hb2
    cases B with
    | true =>
     have HFF := Lib.hid (HNO.out (by simp))
     go_wp2
     go_ret
     rw [HFF.out]
     exact ⟨rfl, HE2.out.bel⟩
    | false =>
     have HT : Hid ((T.dec.take (k + 1)).all short2 = true) := by unfold Hid; rw [HSN.out]; simp; omega
     go_wp2
     go_roundw
     case rel => exact ⟨k + 1, by omega, by go_num, HT, HE2⟩
     case measure => simp [intOf]; omega
  ·obtain rfl : k = n := by omega
   have HT : Hid (T.dec.all short2 = true) := by
    have := hall.out
    rwa [List.take_of_length_le (Nat.le_of_eq HN.out)] at this
   have HR : Hid (r6 T = T.dec.all fun m => decide (siz T.dec m.1 ≤ 18)) := by unfold Hid r6; rw [HT.out]; rfl
   have H2 : Hid (∀ m ∈ T.dec, m.2.length ≤ 2) := by
    have := HT.out
    rw [List.all_eq_true] at this
    intro m hm
    have := this m hm
    simp only [short2, Bool.and_eq_true, decide_eq_true_eq] at this
    exact this.1
   obtain ⟨wo, rfl⟩ : ∃ wo : World, wo = wr := ⟨_, rfl⟩
   have HMI1 := Lib.hid (HMI.out.below he.out.bel)
   have hbx := he.out.box
   simp only [BoxT] at hbx
   obtain ⟨_, ⟨_, _, _, k9, _, _⟩⟩ := hbx
   have hmk := HMK.out
   go_upto_region 7 with (fail)
   go_cut [5] (fun v wx => ∃ g h, v = .pointer (some ⟨g, 0, none⟩) ∧ Hid (SzSt wo wx g h pm k cm (List.replicate k 0)) ∧ Hid (wo.heap.size ≤ h) ∧ Hid (wo.heap.size ≤ g) ∧ Hid (g ≠ h))
   case first =>
    go_region_held3 (fun w' => w'.cell? ⟨w.heap.size, 9, none⟩ = some (.slice pm k cm)) (go_keep) (first | fail)
    all_goals
     go_wp2_with fail
     go_meet
     first
      | exact ⟨wo.heap.size + 1, wo.heap.size, rfl, (szst_a wo pm k cm 134).below (drew_one _), Nat.le_refl _, Nat.le_succ _, Nat.succ_ne_self _⟩
      | exact ⟨wo.heap.size, wo.heap.size + 1, rfl, (szst_b wo pm k cm 134).below (drew_one _), Nat.le_succ _, Nat.le_refl _, (Nat.succ_ne_self _).symm⟩
   case rest =>
    obtain ⟨g, h, rfl, hst, hh, hgg, hgh⟩ := hcut
    have hwr : w.heap.size < wo.heap.size := World.block_lt_of_cell? wo ⟨w.heap.size, 9, none⟩ k9
    have HWR := Lib.hid hwr
    have HE1 := Lib.hid (he.out.step hst.out.bel)
    have k9' := HE1.out.at9
    simp only at k9'
    clear hmk k9 hwr
    go_wp2
    clear k9'
    go_loopw [35] (fun i wr => ∃ (j : Nat) (S : List Int), j ≤ k ∧ i = .int .i64 j ∧ Hid (SzSt wo wr g h pm k cm S) ∧ Hid (Good T.dec S) ∧ Hid ((T.dec.take j).all (fun m => decide (siz T.dec m.1 ≤ 18)) = true) ∧ Hid (Env w ⟨a0, a1, a2, a3, a4, a5, a6, a7, a8, .slice pm k cm, a10, a11⟩ T wr)) (fun i _ => k - (intOf i).toNat)
    case atStart => exact ⟨0, List.replicate k 0, Nat.zero_le _, rfl, hst, Good.new _ _, by simp [Hid], HE1⟩
    case round =>
     obtain ⟨j, S, hj, rfl, hs, hgood, hall2, he2⟩ := hrel
     by_cases hlt2 : j < k
     ·have hjl : j < T.dec.length := by rw [HN.out]; exact hlt2
      obtain ⟨b, off, v, rfl, hc1, hc2, qa, cq, rfl, _, _⟩ := (HMI1.out.below hs.out.bel) j hjl
      have hs2 := all_take_snoc (fun m : Mp => decide (siz T.dec m.1 ≤ 18)) T.dec j mp0 hjl
      rw [hall2.out, Bool.true_and] at hs2
      obtain ⟨⟨f, y⟩, hfy⟩ : ∃ s, T.dec.getD j mp0 = s := ⟨_, rfl⟩
      rw [hfy] at hc1 hc2 hs2
      simp only at hc1 hc2 hs2
      obtain ⟨m, hm3⟩ : ∃ m, y.length = m := ⟨_, rfl⟩
      rw [hm3] at hc2
      obtain ⟨z, hz⟩ : ∃ z, siz T.dec f = z := ⟨_, rfl⟩
      rw [hz] at hs2
      have HS2 := Lib.hid hs2
      have hb0 : Below wr.heap.size wr (wr.alloc (.cells #[.int .i64 f, .slice qa m cq] 47)) := (Below.refl _ _).alloc (Nat.le_refl _) _
      have HSb := Lib.hid (hs.out.below hb0)
      have HEb := Lib.hid (he2.out.step hb0)
      have hcall := size_any wo g h (some ⟨b, off, none⟩) k cm T.dec HN.out hl HMI1.out HA.out H2.out H1.out hh.out hgh.out (zeros S) S f _ (Nat.le_refl _) HSb.out (hgood.out.kn f)
      rw [hz] at hcall
      have HC := Lib.hid hcall
      clear hfy hs2 hz hm3 hb0 hcall
      go_wp2_with fail
      refine HC.out.mono ?_
      rintro e w3 ⟨S2, rfl, hst2, hext2, hgr2⟩
      have HST := Lib.hid hst2
      have HGOOD := Lib.hid (hgood.out.ext hext2)
      have hwh : w.heap.size < h := Nat.lt_of_lt_of_le HWR.out hh.out
      have HE3 := Lib.hid (HEb.out.grown HX.out hgr2 hwh)
      clear hst2 hext2 hgr2 HC hc1 hc2 hwh
      by_cases h18 : 18 < z
      ·have d : decide ((18 : Int) < (z : Int)) = true := decide_eq_true (by omega)
       have HFF : Hid (r6 T = false) := by
        unfold Hid; rw [HR.out]
        exact all_of_take _ T.dec (j + 1) (by rw [HS2.out]; simp; omega)
       go_wp2
       go_ret
       rw [HFF.out]
       exact ⟨rfl, HE3.out.bel⟩
      ·have d : decide ((18 : Int) < (z : Int)) = false := decide_eq_false (by omega)
       have HT2 : Hid ((T.dec.take (j + 1)).all (fun m => decide (siz T.dec m.1 ≤ 18)) = true) := by unfold Hid; rw [HS2.out]; simp; omega
       go_wp2
       go_roundw
       case rel => exact ⟨j + 1, S2, by omega, by go_num, HST, HGOOD, HT2, HE3⟩
       case measure => simp [intOf]; omega
     ·obtain rfl : j = k := by omega
      have HFF : Hid (r6 T = true) := by
       unfold Hid; rw [HR.out]
       have := hall2.out
       rwa [List.take_of_length_le (Nat.le_of_eq HN.out)] at this
      go_wp2
      go_ret
      rw [HFF.out]
      exact ⟨rfl, he2.out.bel⟩
def notHas (T : Tb) (c : Int) : Bool := !hasM T.dec c
theorem exc1_any (c : Int) (g : Nat) (x : TV) (T : Tb) (w : World) (hb : BoxT w g x) (hx : TabV w x T) (ha : ascI 0 1114111 (froms T.dec) = true) :
 Calls Tryz.prog 168 #[.int .i64 c, .pointer (some ⟨g, 0, none⟩)] w (Gives (.bool (notHas T c)) w) := by
 obtain ⟨B, hB⟩ : ∃ B, Hid (hasM T.dec c = B) := ⟨_, rfl⟩
 have HN : Hid (notHas T c = !B) := by unfold Hid notHas; rw [hB.out]
 have HX := Lib.hid hx
 have HA := Lib.hid ha
 obtain ⟨⟨k0, k1, k2, k3, k4, k5⟩, ⟨k6, k7, k8, k9, k10, k11⟩⟩ := hb
 clear hx ha
 go_enter Tryz.func168, Tryz.ntmps168
 go_wp2_with fail
 refine (hasDecomp_at x T c B _ HX.out HA.out hB).mono ?_
 rintro e w1 ⟨rfl, hb1⟩
 have HB1 := Lib.hid hb1
 clear hb1
 go_wp2
 go_ret
 exact ⟨by rw [HN.out]; rfl, HB1.out⟩
theorem testExc (g : Nat) (x : TV) (T : Tb) (w : World) (hb : BoxT w g x) (hx : TabV w x T) (ha : ascI 0 1114111 (froms T.dec) = true) : TestI 168 #[.pointer (some ⟨g, 0, none⟩)] (notHas T) w :=
 fun c W hW => exc1_any c g x T W (hb.below hW) (hx.below hW) ha
theorem entersExc : ∀ args w, (callFunc 168 args).run Tryz.prog w = .ok (.enter 168 args) w := enters_of Tryz.func168 (by kernel_rfl) rfl
theorem exclDecomps_any (x : TV) (T : Tb) (w : World) (hx : TabV w x T) (ha : ascI 0 1114111 (froms T.dec) = true) :
 Calls Tryz.prog 135 #[x.agg] w (Gives (.bool (r7 T)) w) := by
 have HE := Lib.hid (Env.new hx)
 have HA := Lib.hid ha
 obtain ⟨B, hB⟩ : ∃ B, Hid (T.exc.any (notHas T) = B) := ⟨_, rfl⟩
 have HR : Hid (r7 T = !B) := by
  unfold Hid; rw [← not_any hB.out, r7]; congr 1; funext c; simp [notHas]
 clear hx ha
 simp only [TV.agg]
 go_enter Tryz.func135, Tryz.ntmps135
 go_wp2_with fail
 refine (conI_any x.a10 T.exc _ _ (notHas T) B _ HE.out.tab.exc (testExc w.heap.size x T _ HE.out.box HE.out.tab HA.out) entersExc hB).mono ?_
 rintro e w1 ⟨rfl, hb⟩
 have HE1 := Lib.hid (HE.out.step hb)
 clear hb
 go_wp2
 go_ret
 exact ⟨by rw [HR.out]; rfl, HE1.out.bel⟩
theorem ignorable_at (x : TV) (T : Tb) (c : Int) (B : Bool) (w : World) (hx : TabV w x T) (ha : ascB 0 T.ign = true) (hB : Hid (ignT T c = B)) :
 Calls Tryz.prog 181 #[x.agg, .int .i64 c] w (Gives (.bool B) w) := by
 have HE := Lib.hid (Env.new hx)
 have HA := Lib.hid ha
 clear hx ha
 simp only [TV.agg]
 go_enter Tryz.func181, Tryz.ntmps181
 go_wp2_with fail
 refine (findSpan_any x.a6 T.ign c _ HE.out.tab.ign HA.out).mono ?_
 rintro e w1 ⟨i, rfl, hi, _, hb⟩
 have HE1 := Lib.hid (HE.out.step hb)
 clear hb
 go_wp2
 go_ret
 exact ⟨by rw [← hB.out]; rfl, HE1.out.bel⟩
set_option maxHeartbeats 1000000 in
theorem plain_at (x : TV) (T : Tb) (c : Int) (B : Bool) (w : World) (hx : TabV w x T) (ha : ascI 0 1114111 (froms T.dec) = true) (hi : ascB 0 T.ign = true) (hB : Hid (plain T c = B)) :
 Calls Tryz.prog 171 #[x.agg, .int .i64 c] w (Gives (.bool B) w) := by
 have HE := Lib.hid (Env.new hx)
 have HA := Lib.hid ha
 have HI := Lib.hid hi
 obtain ⟨B1, hB1⟩ : ∃ B, Hid (hasM T.dec c = B) := ⟨_, rfl⟩
 obtain ⟨B2, hB2⟩ : ∃ B, Hid (ignT T c = B) := ⟨_, rfl⟩
 have HBB : Hid (B = (!B1 && !B2)) := by unfold Hid; rw [← hB.out, plain, hB1.out, hB2.out]
 clear hx ha hi
 simp only [TV.agg]
 go_enter Tryz.func171, Tryz.ntmps171
 go_wp2_with fail
 refine (hasDecomp_at x T c B1 _ HE.out.tab HA.out hB1).mono ?_
 rintro e w1 ⟨rfl, hb⟩
 have HE1 := Lib.hid (HE.out.step hb)
 clear hb
 cases B1 with
 | true =>
  go_wp2
  go_ret
  exact ⟨by rw [HBB.out]; rfl, HE1.out.bel⟩
 | false =>
  obtain ⟨⟨k0, k1, k2, k3, k4, k5⟩, ⟨k6, k7, k8, k9, k10, k11⟩⟩ := HE1.out.box
  go_wp2_with fail
  refine (ignorable_at x T c B2 _ HE1.out.tab HI.out hB2).mono ?_
  rintro e w2 ⟨rfl, hb⟩
  have HE2 := Lib.hid (HE1.out.step hb)
  clear hb k0 k1 k2 k3 k4 k5 k6 k7 k8 k9 k10 k11
  go_wp2
  go_ret
  exact ⟨by rw [HBB.out]; rfl, HE2.out.bel⟩
def proC (T : Tb) (c : Int) : Bool := !hasM T.pro c && (!sylB c && plain T c)
theorem proOk_parts {T : Tb} {f : Int} {y : List Int} : proOk T (f, y) = (plain T f && y.all (proC T)) := rfl
set_option maxRecDepth 100000 in
set_option maxHeartbeats 8000000 in
theorem protos_any (x : TV) (T : Tb) (w : World) (hx : TabV w x T) (hd : ascI 0 1114111 (froms T.dec) = true) (hp : ascI 0 1114111 (froms T.pro) = true) (ha : ascB 0 T.ign = true) :
 Calls Tryz.prog 137 #[x.agg] w (Gives (.bool (r9 T)) w) := by
 obtain ⟨a0, a1, a2, a3, a4, a5, a6, a7, a8, a9, a10, a11⟩ := x
 obtain ⟨pm, cm, hm, hmin, hml⟩ := hx.pro
 obtain ⟨n, hn⟩ : ∃ n, T.pro.length = n := ⟨_, rfl⟩
 rw [hn] at hm hml
 simp only at hm
 subst hm
 have HE := Lib.hid (Env.new hx)
 have HA := Lib.hid ha
 have HD := Lib.hid hd
 have HP := Lib.hid hp
 have HN := Lib.hid hn
 have HMI := Lib.hid hmin
 clear hx ha hd hp hn hmin
 simp only [TV.agg]
 go_enter Tryz.func137, Tryz.ntmps137
 go_wp2
 go_loopw [12] (fun i wr => ∃ k : Nat, k ≤ n ∧ i = .int .i64 k ∧ Hid ((T.pro.take k).all (proOk T) = true) ∧ Hid (Env w ⟨a0, a1, a2, a3, a4, a5, a6, a7, a8, a9, a10, .slice pm n cm⟩ T wr)) (fun i _ => n - (intOf i).toNat)
 case atStart => exact ⟨0, Nat.zero_le _, rfl, by simp [Hid], HE⟩
 case round =>
  obtain ⟨k, hk, rfl, hall, he⟩ := hrel
  by_cases hlt : k < n
  ·have hkl : k < T.pro.length := by rw [HN.out]; exact hlt
   obtain ⟨b, off, v, rfl, hc1, hc2, qa, cq, rfl, hi2, hm2⟩ := (HMI.out.below he.out.bel) k hkl
   have hsn := all_take_snoc (proOk T) T.pro k mp0 hkl
   rw [hall.out, Bool.true_and] at hsn
   have hno : proOk T (T.pro.getD k mp0) = false → r9 T = false := fun h => all_of_take _ T.pro (k + 1) (by rw [hsn, h])
   obtain ⟨⟨f, y⟩, hs⟩ : ∃ s, T.pro.getD k mp0 = s := ⟨_, rfl⟩
   rw [hs] at hc1 hc2 hsn hno hi2 hm2
   simp only at hc1 hc2 hsn hno hi2 hm2
   rw [proOk_parts] at hsn hno
   obtain ⟨m, hm3⟩ : ∃ m, y.length = m := ⟨_, rfl⟩
   rw [hm3] at hc2 hm2
   have HSN := Lib.hid hsn
   have HNO := Lib.hid hno
   have HYL := Lib.hid hm3
   have hb0 : Below wr.heap.size wr (wr.alloc (.cells #[.int .i64 f, .slice qa m cq] 47)) := (Below.refl _ _).alloc (Nat.le_refl _) _
   have HEb := Lib.hid (he.out.step hb0)
   have HBM := Lib.hid (BoxM.new wr f (.slice qa m cq) 47)
   have HY1 := Lib.hid (RowIn.alloc hi2 (.cells #[.int .i64 f, .slice qa m cq] 47))
   obtain ⟨z, hz⟩ : ∃ z, Hid (plain T f = z) := ⟨_, rfl⟩
   clear hs hsn hno hi2 hm3 hb0
   have hbx := HEb.out.box
   simp only [BoxT] at hbx
   obtain ⟨⟨k0, k1, k2, k3, k4, k5⟩, ⟨k6, k7, k8, k9, k10, k11⟩⟩ := hbx
   go_wp2_with fail
   refine (plain_at _ T f z _ HEb.out.tab HD.out HA.out hz).mono ?_
   rintro e w2 ⟨rfl, hb2⟩
   have HE2 := Lib.hid (HEb.out.step hb2)
   have HBM2 := Lib.hid (HBM.out.below hb2)
   have HY2 := Lib.hid (HY1.out.below hb2)
   clear hb2 k0 k1 k2 k3 k4 k5 k6 k7 k8 k9 k10 k11 hc1 hc2
   cases z with
   | false =>
    have HFF : Hid (r9 T = false) := HNO.out (by rw [hz.out]; rfl)
    go_wp2
    go_ret
    rw [HFF.out]
    exact ⟨rfl, HE2.out.bel⟩
   | true =>
    have hbm := HBM2.out
    simp only [BoxM] at hbm
    obtain ⟨c1, c2⟩ := hbm
    go_wp2
    obtain ⟨wo, rfl⟩ : ∃ wo : World, wo = w2 := ⟨_, rfl⟩
    go_loopw [24] (fun i wr2 => ∃ j : Nat, j ≤ m ∧ i = .int .i64 j ∧ Hid ((y.take j).all (proC T) = true) ∧ Hid (Env w ⟨a0, a1, a2, a3, a4, a5, a6, a7, a8, a9, a10, .slice (some ⟨b, off, none⟩) n cm⟩ T wr2) ∧ Hid (IntsIn wr2 qa y)) (fun i _ => m - (intOf i).toNat)
    case atStart => exact ⟨0, Nat.zero_le _, rfl, by simp [Hid], HE2, HY2⟩
    case round =>
     obtain ⟨j, hj, rfl, hall2, he2, hy2⟩ := hrel
     clear c1 c2
     by_cases hlt2 : j < m
     ·have hjl : j < y.length := by rw [HYL.out]; exact hlt2
      obtain ⟨b3, off3, rfl, hc3⟩ := hy2.out j hjl
      have hs2 := all_take_snoc (proC T) y j 0 hjl
      rw [hall2.out, Bool.true_and] at hs2
      obtain ⟨c, hcc⟩ : ∃ c, y.getD j 0 = c := ⟨_, rfl⟩
      rw [hcc] at hc3 hs2
      obtain ⟨B1, hB1⟩ : ∃ B, Hid (hasM T.pro c = B) := ⟨_, rfl⟩
      obtain ⟨B2, hB2⟩ : ∃ B, Hid (sylB c = B) := ⟨_, rfl⟩
      obtain ⟨B3, hB3⟩ : ∃ B, Hid (plain T c = B) := ⟨_, rfl⟩
      rw [proC, hB1.out, hB2.out, hB3.out] at hs2
      have HS2 := Lib.hid hs2
      have HNOC : Hid ((!B1 && (!B2 && B3)) = false → r9 T = false) := fun h => HNO.out (by
       rw [all_of_take (proC T) y (j + 1) (by rw [HS2.out, h]), Bool.and_false])
      have hbx := he2.out.box
      simp only [BoxT] at hbx
      obtain ⟨_, ⟨_, _, _, _, _, k11⟩⟩ := hbx
      clear hcc hs2
      go_wp2_with fail
      refine (findMp_any _ T.pro c _ he2.out.tab.pro HP.out).mono ?_
      rintro e w3 ⟨i3, rfl, _, _, hb3⟩
      have HE3 := Lib.hid (he2.out.step hb3)
      have HY3 := Lib.hid (hy2.out.below hb3)
      rw [hB1.out]
      clear hb3 k11 hc3
      cases B1 with
      | true =>
       have HFF := Lib.hid (HNOC.out rfl)
       go_wp2
       go_ret
       rw [HFF.out]
       exact ⟨rfl, HE3.out.bel⟩
      | false =>
       have hsy := syl_any c w3
       rw [hB2.out] at hsy
       have HSY := Lib.hid hsy
       clear hsy
       cases B2 with
       | true =>
        have HFF := Lib.hid (HNOC.out rfl)
        go_wp2_with (go_at_call 90; refine HSY.out.mono ?_; rintro e w' ⟨rfl, rfl⟩)
        go_ret
        rw [HFF.out]
        exact ⟨rfl, HE3.out.bel⟩
       | false =>
        have hbx := HE3.out.box
        simp only [BoxT] at hbx
        obtain ⟨⟨k0, k1, k2, k3, k4, k5⟩, ⟨k6, k7, k8, k9, k10, k11⟩⟩ := hbx
        go_wp2_with (go_at_call 90; refine HSY.out.mono ?_; rintro e w' ⟨rfl, rfl⟩)
        refine (plain_at _ T c B3 _ HE3.out.tab HD.out HA.out hB3).mono ?_
        rintro e w4 ⟨rfl, hb4⟩
        have HE4 := Lib.hid (HE3.out.step hb4)
        have HY4 := Lib.hid (HY3.out.below hb4)
        clear hb4 k0 k1 k2 k3 k4 k5 k6 k7 k8 k9 k10 k11
        cases B3 with
        | false =>
         have HFF := Lib.hid (HNOC.out rfl)
         go_wp2
         go_ret
         rw [HFF.out]
         exact ⟨rfl, HE4.out.bel⟩
        | true =>
         have HT : Hid ((y.take (j + 1)).all (proC T) = true) := HS2.out
         go_wp2
         go_roundw
         case rel => exact ⟨j + 1, by omega, by go_num, HT, HE4, HY4⟩
         case measure => simp [intOf]; omega
     ·obtain rfl : j = m := by omega
      have HT : Hid ((T.pro.take (k + 1)).all (proOk T) = true) := by
       have h := hall2.out
       rw [List.take_of_length_le (Nat.le_of_eq HYL.out)] at h
       unfold Hid; rw [HSN.out, hz.out, h]; rfl
      go_wp2
      go_roundw
      case rel => exact ⟨k + 1, by omega, by go_num, HT, he2⟩
      case measure => simp [intOf]; omega
  ·obtain rfl : k = n := by omega
   have HT : Hid (r9 T = true) := by
    have := hall.out
    rwa [List.take_of_length_le (Nat.le_of_eq HN.out)] at this
   go_wp2
   go_ret
   rw [HT.out]
   exact ⟨rfl, he.out.bel⟩
end Go.Proofs.YtopaojjodkoidaaGreatDoor
