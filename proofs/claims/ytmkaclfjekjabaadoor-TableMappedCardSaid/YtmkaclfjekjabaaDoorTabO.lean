/-
  table: expansion.size.
-/
import Derived.Test.YtmkaclfjekjabaaDoorTabSize
import Derived.Test.YtmkaclfjekjabaaDoorTabL
import Derived.Test.YtmkaclfjekjabaaDoorRanAppAt
namespace Go.Proofs.YtmkaclfjekjabaaDoor
open Go.RowKit

/-- Block g is an expansion: its decompositions lie in memory older than w0's end, its sizes S in block h. -/
structure SzSt (w0 w : World) (g h : Nat) (p : Option Addr) (n c : Nat) (S : List Int) : Prop where
  dec : w.cell? ⟨g, 0, none⟩ = some (.slice p n c)
  szs : w.cell? ⟨g, 1, none⟩ = some (.slice (some ⟨h, 0, none⟩) n n)
  cel : ∀ i, i < n → w.cell? ⟨h, i, none⟩ = some (.int .i64 (S.getD i 0))
  fro : ∀ i, i < n → w.frozen? ⟨h, i, none⟩ = false
  len : S.length = n
  bel : Below w0.heap.size w0 w
  hlt : h < w.heap.size
  glt : g < w.heap.size

theorem SzSt.below {w0 w w' : World} {g h n c : Nat} {p : Option Addr} {S : List Int} (s : SzSt w0 w g h p n c S) (hb : Below w.heap.size w w') : SzSt w0 w' g h p n c S :=
  ⟨(hb.cell (p := ⟨g, 0, none⟩) s.glt).trans s.dec, (hb.cell (p := ⟨g, 1, none⟩) s.glt).trans s.szs, fun i hi => (hb.cell (p := ⟨h, i, none⟩) s.hlt).trans (s.cel i hi), fun i hi => (hb.frozen (p := ⟨h, i, none⟩) s.hlt).trans (s.fro i hi), s.len,
    s.bel.trans (hb.mono s.bel.size), Nat.lt_of_lt_of_le s.hlt hb.size, Nat.lt_of_lt_of_le s.glt hb.size⟩

theorem SzSt.set {w0 w : World} {g h n c : Nat} {p : Option Addr} {S : List Int} (s : SzSt w0 w g h p n c S) (hg : g ≠ h) (hh : w0.heap.size ≤ h) (i : Nat) (hi : i < n) (v : Int) : SzSt w0 (w.setCell ⟨h, i, none⟩ (.int .i64 v)) g h p n c (S.set i v) := by
  have hl := s.len
  refine ⟨(World.cell?_setCell_other _ _ _ _ (by simp [hg])).trans s.dec, (World.cell?_setCell_other _ _ _ _ (by simp [hg])).trans s.szs, fun j hj => ?_, fun j hj => (World.frozen?_setCell _ _ _ _).trans (s.fro j hj), by rw [List.length_set, hl],
    s.bel.setCell (p := ⟨h, i, none⟩) hh _, by simpa [World.setCell] using s.hlt, by simpa [World.setCell] using s.glt⟩
  rw [getD_set S i j v (by omega)]
  by_cases hji : j = i
  · subst hji
    rw [if_pos rfl]
    exact World.cell?_setCell_same _ _ _ (s.cel j hj)
  · rw [if_neg hji]
    exact (World.cell?_setCell_other _ _ _ _ (by first | (simp; done) | (simp; omega))).trans (s.cel j hj)

theorem grown_below {w w' : World} {h : Nat} (hb : Below w.heap.size w w') : w.grownBy w' (some h) := below_grownBy hb _
theorem grown_trans {w w1 w2 : World} {row : Option Nat} (h : w.grownBy w1 row) (k : w1.grownBy w2 row) : w.grownBy w2 row :=
  ⟨k.os.trans h.os, k.tape.trans h.tape, k.output.trans h.output, Nat.le_trans h.size k.size, fun i hi hne => (k.block i (Nat.lt_of_lt_of_le hi h.size) hne).trans (h.block i hi hne)⟩

def SzPost (w0 : World) (g h : Nat) (p : Option Addr) (n c : Nat) (l : List Mp) (S : List Int) (z : Nat) (w : World) (e : Ending) (w' : World) : Prop :=
  ∃ S', e = .returned (.int .i64 z) ∧ SzSt w0 w' g h p n c S' ∧ Ext l S S' ∧ w.grownBy w' (some h)

set_option maxRecDepth 100000 in
set_option maxHeartbeats 8000000 in
theorem size_any (w0 : World) (g h : Nat) (p : Option Addr) (n cp : Nat) (l : List Mp) (hl : l.length = n) (hn : n ≤ 256) (hin : MpIn w0 p l) (ha : ascI 0 1114111 (froms l) = true)
    (h2 : ∀ m ∈ l, m.2.length ≤ 2) (h1 : ∀ m ∈ l, m.2 ≠ []) (hh : w0.heap.size ≤ h) (hg : g ≠ h) (N : Nat) :
    ∀ (S : List Int) (c : Int) (w : World), zeros S ≤ N → SzSt w0 w g h p n cp S → Kn l S c →
      Calls Tryd.prog 68 #[.pointer (some ⟨g, 0, none⟩), .int .i64 c] w (SzPost w0 g h p n cp l S (siz l c) w) := by
  have HI := Lib.hid hin
  have HL := Lib.hid hl
  have HA := Lib.hid ha
  have H2 := Lib.hid h2
  have H1 := Lib.hid h1
  have HG := Lib.hid hg
  clear hin hl ha h2 h1
  induction N using Nat.strongRecOn with
  | _ N ih0 =>
    have IH := Lib.hid ih0
    clear ih0
    intro S c w hz hs hk
    have HS := Lib.hid hs
    have HK := Lib.hid hk
    have HZ := Lib.hid hz
    clear hk hz
    cases hm : hasM l c with
    | false =>
      have HM := Lib.hid hm
      have HV : Hid (siz l c = 1) := siz_nil (findM_nil hm)
      obtain ⟨d1, d2, _, _, _, _, _, _⟩ := hs
      clear hm
      go_enter Tryd.func68, Tryd.ntmps68
      go_wp2_with fail
      refine (findMp_any (.slice p n cp) l c _ ⟨p, cp, by rw [HL.out], HI.out.below HS.out.bel, by rw [HL.out]; omega⟩ HA.out).mono ?_
      rintro e w1 ⟨i, rfl, hi, _, hb⟩
      have HB := Lib.hid hb
      clear hb
      rw [HM.out]
      go_wp2
      go_ret
      exact ⟨S, by rw [HV.out]; rfl, HS.out.below HB.out, Ext.refl _ _, grown_below HB.out⟩
    | true =>
      have HM := Lib.hid hm
      obtain ⟨d1, d2, _, _, _, _, _, _⟩ := hs
      clear hm
      go_enter Tryd.func68, Tryd.ntmps68
      go_wp2_with fail
      refine (findMp_any (.slice p n cp) l c _ ⟨p, cp, by rw [HL.out], HI.out.below HS.out.bel, by rw [HL.out]; omega⟩ HA.out).mono ?_
      rintro e w1 ⟨i, rfl, hi, hf, hb⟩
      obtain ⟨hil, hkey, hto⟩ := hf HM.out
      rw [HM.out]
      have hin : i < n := by rw [← HL.out]; exact hil
      have HS1 := Lib.hid (HS.out.below hb)
      have HB := Lib.hid hb
      have hiS : Hid (i < S.length) := by unfold Hid; rw [HS.out.len]; exact hin
      have HKEY := Lib.hid hkey
      clear hb d1 d2 hf hi hkey
      obtain ⟨d1, d2, d3, d4, _, _, _, _⟩ := HS1.out
      have c3 := d3 i hin
      have f3 := d4 i hin
      clear d3 d4
      obtain ⟨s, hsv⟩ : ∃ s, S.getD i 0 = s := ⟨_, rfl⟩
      rw [hsv] at c3
      by_cases hs0 : s = 0
      · have hb0 : (s == 0) = true := by simp [hs0]
        have HS0 : Hid (S.getD i 0 = 0) := hsv.trans hs0
        have HZ1 : Hid (zeros (S.set i 19) + 1 = zeros S) := zeros_set S i 19 hiS.out HS0.out (by omega)
        have hmem := mp_getD_mem l i hil
        have HY2 := Lib.hid (H2.out _ hmem)
        have HY1 := Lib.hid (H1.out _ hmem)
        have HFM := Lib.hid hto
        have HX0 := Lib.hid (HS1.out.set HG.out hh i hin 19)
        have HG0 := Lib.hid (grown_trans (grown_below HB.out) (sp_grownBy_store w1 h i (.int .i64 19)))
        obtain ⟨b, off, v, rfl, q1, q2, qa, cq, rfl, hy, hyl⟩ := (HI.out.below (HX0.out.bel)) i hil
        obtain ⟨y, hy0⟩ : ∃ y, (l.getD i mp0).2 = y := ⟨_, rfl⟩
        rw [hy0] at q2 hy hyl HY2 HY1 HFM
        obtain ⟨m, hm⟩ : ∃ m, y.length = m := ⟨_, rfl⟩
        rw [hm] at q2 hyl HY2
        have hm2 := HY2.out
        have HYL := Lib.hid hm
        have HYI0 : Hid (IntsIn w0 qa y) := by
          obtain ⟨b', off', v', e', r1, r2, qa', cq', e2, r4, _⟩ := HI.out i hil
          have hbw := HX0.out.bel
          have hlt := World.block_lt_of_cell? w0 _ r2
          injection e' with e'
          injection e' with e3 e4
          subst e3; subst e4
          have h5 := (hbw.cell (p := ⟨b, off + i * 2 + 1, none⟩) hlt).trans r2
          rw [q2] at h5
          injection h5 with h5
          rw [e2, hy0] at h5
          injection h5 with h6 _ _
          subst h6
          rw [hy0] at r4
          exact r4
        obtain ⟨x1, x2, _, _, _, _, _, _⟩ := HX0.out
        clear hsv hs0 hto hy0 hm hmem hy
        go_wp2
        go_loopw [7, 44] (fun vv jj wr => ∃ (j : Nat) (S1 : List Int) (t : Nat), j ≤ m ∧ jj = .int .i64 j ∧ vv = .int .i64 t ∧ t ≤ 19 * j ∧ Hid (sumZ l (y.take j) = t) ∧ Hid (SzSt w0 wr g h (some ⟨b, off, none⟩) n cp S1) ∧ Hid (Ext l (S.set i 19) S1) ∧ Hid (w.grownBy wr (some h))) (fun _ jj _ => m - (intOf jj).toNat)
        case atStart => exact ⟨0, S.set i 19, 0, Nat.zero_le _, rfl, rfl, by omega, rfl, HX0, Ext.refl _ _, HG0⟩
        case round =>
          clear c3 f3 d1 d2 q1 q2 x1 x2
          obtain ⟨j, S1, t, hj, rfl, rfl, ht, hsum, hst, hext, hgr⟩ := hrel
          by_cases hlt : j < m
          · have hjl : j < y.length := by rw [HYL.out]; exact hlt
            obtain ⟨b3, off3, rfl, hc3⟩ := (HYI0.out.below hst.out.bel) j hjl
            have hsn : sumZ l (y.take (j + 1)) = t + siz l (y.getD j 0) := by rw [take_snoc_int y j hjl, sumZ_snoc, hsum.out]
            have hd : y.getD j 0 ∈ findM l c := by rw [HFM.out]; simp [hjl]
            obtain ⟨d, hdd⟩ : ∃ d, y.getD j 0 = d := ⟨_, rfl⟩
            rw [hdd] at hc3 hsn hd
            have hbd := siz_bd l d
            have hkn := HK.out.part hiS.out HKEY.out hd hext.out
            have hzz : zeros S1 ≤ N - 1 := by
              have := hext.out.zeros; have := HZ1.out; have := HZ.out; omega
            have hN : N - 1 < N := by have := HZ1.out; have := HZ.out; omega
            have HC := Lib.hid (IH.out (N - 1) hN S1 d _ hzz hst.out hkn)
            obtain ⟨u, hu⟩ : ∃ u, siz l d = u := ⟨_, rfl⟩
            rw [hu] at hsn hbd HC
            have HSN := Lib.hid hsn
            clear hdd hd hkn hzz hN hsn hu
            go_wp2_with fail
            refine HC.out.mono ?_
            rintro e w3 ⟨S2, rfl, hst2, hext2, hgr2⟩
            have HST := Lib.hid hst2
            have HEX := Lib.hid (hext.out.trans hext2)
            have HGR := Lib.hid (grown_trans hgr.out hgr2)
            clear hst2 hext2 hgr2 hc3 HC
            go_wp2
            go_roundw
            case rel => exact ⟨j + 1, S2, t + u, by omega, by go_num, by go_num, by omega, HSN, HST, HEX, HGR⟩
            case measure => simp [intOf]; omega
          · obtain rfl : j = m := by omega
            have hsz : siz l c = min 19 t := by
              rw [siz_eq (by rw [HL.out]; exact hn) (by rw [HFM.out]; exact HY1.out), HFM.out]
              have := hsum.out
              rw [List.take_of_length_le (Nat.le_of_eq HYL.out)] at this
              rw [← this]; rfl
            have HSZ := Lib.hid hsz
            obtain ⟨d1, d2, d3, d4, d5, _, _, _⟩ := hst.out
            have c3 := d3 i hin
            have f3 := d4 i hin
            obtain ⟨s1, hs1⟩ : ∃ s, S1.getD i 0 = s := ⟨_, rfl⟩
            rw [hs1] at c3
            clear d3 d4 hs1 hsz
            by_cases h19 : 19 < t
            · have hd : decide ((19 : Int) < (t : Int)) = true := decide_eq_true (by omega)
              have HV : Hid (((19 : Int)) = siz l (keyAt l i)) := by show (19 : Int) = siz l (l.getD i mp0).1; rw [HKEY.out, HSZ.out]; omega
              have HV2 : Hid ((siz l c : Int) = 19) := by unfold Hid; rw [HSZ.out]; omega
              have HE := Lib.hid (Ext.done hiS.out HS0.out hext.out HV.out)
              have HX := Lib.hid (hst.out.set HG.out hh i hin 19)
              have HGR := Lib.hid (grown_trans hgr.out (sp_grownBy_store wr h i (.int .i64 19)))
              go_wp2
              go_ret
              exact ⟨_, by rw [HV2.out]; rfl, HX.out, HE.out, HGR.out⟩
            · have hd : decide ((19 : Int) < (t : Int)) = false := decide_eq_false (by omega)
              have HV : Hid (((t : Int)) = siz l (keyAt l i)) := by show (t : Int) = siz l (l.getD i mp0).1; rw [HKEY.out, HSZ.out]; omega
              have HV2 : Hid ((siz l c : Int) = t) := by unfold Hid; rw [HSZ.out]; omega
              have HE := Lib.hid (Ext.done hiS.out HS0.out hext.out HV.out)
              have HX := Lib.hid (hst.out.set HG.out hh i hin t)
              have HGR := Lib.hid (grown_trans hgr.out (sp_grownBy_store wr h i (.int .i64 t)))
              go_wp2
              go_ret
              exact ⟨_, by rw [HV2.out]; rfl, HX.out, HE.out, HGR.out⟩
      · have hb0 : (s == 0) = false := by simp [hs0]
        have HV : Hid ((siz l c : Int) = s) := by
          unfold Hid; rw [← hsv]
          exact (HK.out.found hiS.out HKEY.out (by rw [hsv]; exact hs0)).symm
        clear hs0 hsv hto f3
        go_wp2
        go_ret
        exact ⟨S, by rw [HV.out]; rfl, HS1.out, Ext.refl _ _, grown_below HB.out⟩

end Go.Proofs.YtmkaclfjekjabaaDoor
