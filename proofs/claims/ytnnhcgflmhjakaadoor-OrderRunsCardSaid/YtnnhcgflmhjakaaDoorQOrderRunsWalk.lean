/-
  The walk of OrderRuns (genOU.py).
-/
import Derived.Test.YtnnhcgflmhjakaaDoorPkS
set_option linter.unusedSimpArgs false
set_option linter.unusedVariables false
namespace Go.Proofs.YtnnhcgflmhjakaaDoor
open Go.RowKit
set_option linter.unusedVariables false

/-- Sixteen marks. -/
def InB (w : World) (g : Nat) (f : Nat → Bool) : Prop := ∀ i, i < 16 → w.cell? ⟨g, i, none⟩ = some (.bool (f i)) ∧ w.frozen? ⟨g, i, none⟩ = false

theorem InB.new (w : World) (t : TypeId) (f : Nat → Bool) (hf : ∀ i, f i = false) : InB (w.alloc (.cells #[.bool false, .bool false, .bool false, .bool false, .bool false, .bool false, .bool false, .bool false, .bool false, .bool false, .bool false, .bool false, .bool false, .bool false, .bool false, .bool false] t)) w.heap.size f := by
  intro i hi
  rw [hf i]
  have e : (#[.bool false, .bool false, .bool false, .bool false, .bool false, .bool false, .bool false, .bool false, .bool false, .bool false, .bool false, .bool false, .bool false, .bool false, .bool false, .bool false] : Array Value) = Array.replicate 16 (.bool false) := rfl
  refine ⟨?_, ?_⟩
  · rw [World.cell?_alloc_new, e]; simp [hi]
  · simp
theorem InB.below {w w' : World} {g : Nat} {f : Nat → Bool} (h : InB w g f) (hb : Below w.heap.size w w') : InB w' g f := by
  intro i hi
  obtain ⟨h1, h2⟩ := h i hi
  have hlt := World.block_lt_of_cell? w _ h1
  exact ⟨(hb.cell (p := ⟨g, i, none⟩) hlt).trans h1, (hb.frozen (p := ⟨g, i, none⟩) hlt).trans h2⟩
theorem InB.set {w : World} {g i : Nat} {f f' : Nat → Bool} (h : InB w g f) (hi : i < 16) (h1 : f' i = true) (h2 : ∀ j, j ≠ i → f' j = f j) : InB (w.setCell ⟨g, i, none⟩ (.bool true)) g f' := by
  intro j hj
  obtain ⟨a1, a2⟩ := h j hj
  refine ⟨?_, (World.frozen?_setCell _ _ _ _).trans a2⟩
  by_cases e : j = i
  · subst e; rw [h1]; exact World.cell?_setCell_same _ _ _ a1
  · rw [h2 j e]; exact (World.cell?_setCell_other _ _ _ _ (by intro e2; cases e2; exact e rfl)).trans a1
theorem InB.congr {w : World} {g : Nat} {f f' : Nat → Bool} (h : InB w g f) (hf : ∀ i, f' i = f i) : InB w g f' := fun i hi => by rw [hf i]; exact h i hi

def endAt (R : List Int) : Nat → Int
  | 0 => 0
  | t + 1 => R.getD t 0

/-- Up to e all marks are set. -/
def markF (bs : List Bool) (e : Int) (x : Nat) : Bool := openA bs x && decide ((x : Int) < e)

theorem markF_zero (bs : List Bool) (x : Nat) : markF bs 0 x = false := by simp [markF]
theorem markF_step (bs : List Bool) (i : Nat) (h : openA bs i = true) : markF bs ((i + 1 : Nat) : Int) i = true ∧ ∀ j, j ≠ i → markF bs ((i + 1 : Nat) : Int) j = markF bs (i : Int) j := by
  refine ⟨by simp [markF, h]; omega, fun j hj => ?_⟩
  unfold markF
  congr 1
  rw [Bool.eq_iff_iff]
  simp
  omega
/-- Between two runs nothing is open. -/
theorem markF_gap (bs : List Bool) (k : Nat) (hk : k % 2 = 0) (hkm : k < (runsS bs).length) {i : Nat} (hi : (runsS bs).getD k 0 = (i : Int)) (x : Nat) : markF bs (i : Int) x = markF bs (endAt (runsS bs) k) x := by
  unfold markF
  cases hb : openA bs x with
  | false => simp
  | true =>
    simp only [Bool.true_and]
    rw [Bool.eq_iff_iff]
    simp only [decide_eq_true_eq]
    cases k with
    | zero =>
      simp only [endAt]
      have := edges_first bs (bs.length + 1) hkm hi
      constructor
      · intro h
        have := this x (by omega)
        rw [hb] at this; cases this
      · intro h; omega
    | succ t =>
      simp only [endAt]
      obtain ⟨j, hj, _⟩ := runs_bd bs t (by omega)
      obtain ⟨hji, hgap⟩ := edges_next bs (bs.length + 1) t hkm hj hi
      rw [hj]
      constructor
      · intro h
        rcases Nat.lt_or_ge x j with h2 | h2
        · omega
        · have := hgap x h2 (by omega)
          rw [hb] at this
          have : t % 2 = 0 := of_decide_eq_true this.symm
          omega
      · intro h; omega

theorem markF_end (bs : List Bool) (x : Nat) : markF bs (endAt (runsS bs) (runsS bs).length) x = openA bs x := by
  unfold markF
  cases hb : openA bs x with
  | false => simp
  | true =>
    simp only [Bool.true_and, decide_eq_true_eq]
    cases hl : (runsS bs).length with
    | zero => have := runs_none bs hl x; rw [hb] at this; cases this
    | succ t =>
      simp only [endAt]
      obtain ⟨j, hj, _⟩ := runs_bd bs t (by omega)
      rw [hj]
      rcases Nat.lt_or_ge x j with h2 | h2
      · omega
      · have := runs_last bs (by omega) (by rw [hl]; exact hj) x h2
        rw [hb] at this; cases this

/-- What is known of the two ends of a run. -/
theorem runs_pair (bs : List Bool) (k : Nat) (hk : k % 2 = 0) (hkm : k < (runsS bs).length) : ∃ i j : Nat, (runsS bs).getD k 0 = (i : Int) ∧ (runsS bs).getD (k + 1) 0 = (j : Int) ∧ i < j ∧ j ≤ bs.length ∧ ∀ m, i ≤ m → m < j → openA bs m = true := by
  have he := runs_even bs
  obtain ⟨i, hi, _⟩ := runs_bd bs k hkm
  obtain ⟨j, hj, hjl⟩ := runs_bd bs (k + 1) (by omega)
  obtain ⟨h1, h2⟩ := edges_next bs (bs.length + 1) k (by unfold runsS at *; omega) hi hj
  exact ⟨i, j, hi, hj, h1, hjl, fun m a b => by rw [h2 m a b]; exact decide_eq_true hk⟩

theorem runs_less (bs : List Bool) (t : Nat) (ht : t + 1 < (runsS bs).length) : (runsS bs).getD t 0 < (runsS bs).getD (t + 1) 0 := by
  obtain ⟨i, hi, _⟩ := runs_bd bs t (by omega)
  obtain ⟨j, hj, _⟩ := runs_bd bs (t + 1) ht
  have := (edges_next bs (bs.length + 1) t ht hi hj).1
  rw [hi, hj]; omega

set_option maxRecDepth 100000 in
set_option maxHeartbeats 8000000 in
theorem orderRuns_walk (p : Option Addr) (cap : Nat) (zs : List Int) (q : Option Addr) (cq : Nat) (ms : List Int) (w : World) (hin : IntsIn w p zs) (hl : zs.length ≤ 17592186043904) (him : IntsIn w q ms) (hml : ms.length ≤ 17592186043904) (hr : Rsv w) :
    Calls Tryd.prog 6 #[.slice p zs.length cap, .slice q ms.length cq] w (Gives (.bool true) w) := by
  have HI := Lib.hid hin
  have HL := Lib.hid hl
  have HMI := Lib.hid him
  have HML := Lib.hid hml
  have HR := Lib.hid hr
  clear hin hl him hml hr
  go_enter Tryd.func6, Tryd.ntmps6
  go_wp2_with fail
  refine (tables_any p cap zs _ HI.out HL.out).mono ?_
  rintro e w1 ⟨⟨a0, a1, a2, a3, a4, a5, a6, a7, a8, a9, a10, a11⟩, T, rfl, htv, hm, hcap1, hb1⟩
  obtain ⟨pa0, na0, qa0, hsl0⟩ : Slc a0 := htv.cat.slc
  subst hsl0
  obtain ⟨pa1, na1, qa1, hsl1⟩ : Slc a1 := htv.cls.slc
  subst hsl1
  obtain ⟨pa2, na2, qa2, hsl2⟩ : Slc a2 := htv.joi.slc
  subst hsl2
  obtain ⟨pa3, na3, qa3, hsl3⟩ : Slc a3 := htv.bid.slc
  subst hsl3
  obtain ⟨pa4, na4, qa4, hsl4⟩ : Slc a4 := htv.scr.slc
  subst hsl4
  obtain ⟨pa5, na5, qa5, hsl5⟩ : Slc a5 := htv.sta.slc
  subst hsl5
  obtain ⟨pa6, na6, qa6, hsl6⟩ : Slc a6 := htv.ign.slc
  subst hsl6
  obtain ⟨pa7, na7, qa7, hsl7⟩ : Slc a7 := htv.ext.slc
  subst hsl7
  obtain ⟨pa8, na8, qa8, hsl8⟩ : Slc a8 := htv.map.slc
  subst hsl8
  obtain ⟨pa9, na9, qa9, hsl9⟩ : Slc a9 := htv.dec.slc
  subst hsl9
  obtain ⟨pa10, na10, qa10, hsl10⟩ : Slc a10 := htv.exc.slc
  subst hsl10
  obtain ⟨pa11, na11, qa11, hsl11⟩ : Slc a11 := htv.pro.slc
  subst hsl11
  have hba1 : Below w1.heap.size w1 (w1.alloc (.cells (tabCells ⟨.slice pa0 na0 qa0, .slice pa1 na1 qa1, .slice pa2 na2 qa2, .slice pa3 na3 qa3, .slice pa4 na4 qa4, .slice pa5 na5 qa5, .slice pa6 na6 qa6, .slice pa7 na7 qa7, .slice pa8 na8 qa8, .slice pa9 na9 qa9, .slice pa10 na10 qa10, .slice pa11 na11 qa11⟩) 26)) := (Below.refl _ _).alloc (Nat.le_refl _) _
  have HT1 : Hid (TabV (w1.alloc (.cells (tabCells ⟨.slice pa0 na0 qa0, .slice pa1 na1 qa1, .slice pa2 na2 qa2, .slice pa3 na3 qa3, .slice pa4 na4 qa4, .slice pa5 na5 qa5, .slice pa6 na6 qa6, .slice pa7 na7 qa7, .slice pa8 na8 qa8, .slice pa9 na9 qa9, .slice pa10 na10 qa10, .slice pa11 na11 qa11⟩) 26)) ⟨.slice pa0 na0 qa0, .slice pa1 na1 qa1, .slice pa2 na2 qa2, .slice pa3 na3 qa3, .slice pa4 na4 qa4, .slice pa5 na5 qa5, .slice pa6 na6 qa6, .slice pa7 na7 qa7, .slice pa8 na8 qa8, .slice pa9 na9 qa9, .slice pa10 na10 qa10, .slice pa11 na11 qa11⟩ T) := htv.below hba1
  have HX1 : Hid (BoxT (w1.alloc (.cells (tabCells ⟨.slice pa0 na0 qa0, .slice pa1 na1 qa1, .slice pa2 na2 qa2, .slice pa3 na3 qa3, .slice pa4 na4 qa4, .slice pa5 na5 qa5, .slice pa6 na6 qa6, .slice pa7 na7 qa7, .slice pa8 na8 qa8, .slice pa9 na9 qa9, .slice pa10 na10 qa10, .slice pa11 na11 qa11⟩) 26)) w1.heap.size ⟨.slice pa0 na0 qa0, .slice pa1 na1 qa1, .slice pa2 na2 qa2, .slice pa3 na3 qa3, .slice pa4 na4 qa4, .slice pa5 na5 qa5, .slice pa6 na6 qa6, .slice pa7 na7 qa7, .slice pa8 na8 qa8, .slice pa9 na9 qa9, .slice pa10 na10 qa10, .slice pa11 na11 qa11⟩) := BoxT.new _ _ _
  have HB1 : Hid (Below w.heap.size w (w1.alloc (.cells (tabCells ⟨.slice pa0 na0 qa0, .slice pa1 na1 qa1, .slice pa2 na2 qa2, .slice pa3 na3 qa3, .slice pa4 na4 qa4, .slice pa5 na5 qa5, .slice pa6 na6 qa6, .slice pa7 na7 qa7, .slice pa8 na8 qa8, .slice pa9 na9 qa9, .slice pa10 na10 qa10, .slice pa11 na11 qa11⟩) 26))) := hb1.trans (hba1.mono hb1.size)
  have HM := Lib.hid hm
  have HCAP : Hid (CapOf ⟨.slice pa0 na0 qa0, .slice pa1 na1 qa1, .slice pa2 na2 qa2, .slice pa3 na3 qa3, .slice pa4 na4 qa4, .slice pa5 na5 qa5, .slice pa6 na6 qa6, .slice pa7 na7 qa7, .slice pa8 na8 qa8, .slice pa9 na9 qa9, .slice pa10 na10 qa10, .slice pa11 na11 qa11⟩) := hcap1
  clear htv hm hcap1 hb1 hba1
  simp only [tabCells] at HT1 HX1 HB1
  go_wp2_with fail
  generalize (w1.alloc (.cells #[.slice pa0 na0 qa0, .slice pa1 na1 qa1, .slice pa2 na2 qa2, .slice pa3 na3 qa3, .slice pa4 na4 qa4, .slice pa5 na5 qa5, .slice pa6 na6 qa6, .slice pa7 na7 qa7, .slice pa8 na8 qa8, .slice pa9 na9 qa9, .slice pa10 na10 qa10, .slice pa11 na11 qa11] 26)) = W at HT1 HX1 HB1 ⊢
  generalize w1.heap.size = g at HX1 ⊢
  generalize (⟨.slice pa0 na0 qa0, .slice pa1 na1 qa1, .slice pa2 na2 qa2, .slice pa3 na3 qa3, .slice pa4 na4 qa4, .slice pa5 na5 qa5, .slice pa6 na6 qa6, .slice pa7 na7 qa7, .slice pa8 na8 qa8, .slice pa9 na9 qa9, .slice pa10 na10 qa10, .slice pa11 na11 qa11⟩ : TV) = x at HT1 HX1 HCAP
  have HE : Hid (LEnv w g x T W) := ⟨HT1.out, HX1.out, HB1.out⟩
  clear HT1 HX1 HB1
  refine (marks_any q cq ms _ (HMI.out.below HE.out.bel) HML.out).mono ?_
  rintro e w2 ⟨xs, v2, rfl, hlen, hsca, hi2, hb2⟩
  obtain ⟨pi, ci, rfl, hii⟩ := hi2.inn
  replace HE := Lib.hid (HE.out.step hb2)
  have HRI := Lib.hid hii
  obtain ⟨n, hn⟩ : ∃ n, xs.length = n := ⟨_, rfl⟩
  obtain ⟨bs, hbs⟩ : ∃ bs, opens T xs = bs := ⟨_, rfl⟩
  obtain ⟨R, hR⟩ : ∃ R, runsS bs = R := ⟨_, rfl⟩
  have HAC := Lib.hid (accE_zero (T := T) HM.out.check (by omega) hsca)
  have HRO : Hid (runsL T xs = R) := by unfold Hid runsL; rw [HAC.out, if_pos rfl, hbs, hR]
  have HBL : Hid (bs.length = n) := by unfold Hid; rw [← hbs, opens_length]; exact hn
  have hev := runs_even bs
  rw [hR] at hev
  have hoc := fun W (h1 : TabV W x T) h2 h3 => runs_at x T pi ci xs 0 R W h1 h2 h3 (by omega) HAC HRO
  rw [hn] at hlen hoc ⊢
  have HOC := Lib.hid hoc
  have HN := Lib.hid hn
  have HBS := Lib.hid hbs
  have HRR := Lib.hid hR
  obtain ⟨m, hm⟩ : ∃ m, R.length = m := ⟨_, rfl⟩
  rw [hm] at hev
  have hmb : m ≤ 10 := by
    have := edges_len bs (bs.length + 1)
    rw [← hm, ← hR]; unfold runsS
    have h2 := HBL.out
    omega
  have HMM := Lib.hid hm
  clear hii hi2 hsca hb2 hoc hn hbs hR hm
  obtain ⟨⟨k0, k1, k2, k3, k4, k5⟩, ⟨k6, k7, k8, k9, k10, k11⟩⟩ := HE.out.box.load
  go_wp2_with fail
  refine (HOC.out _ HE.out.tab (HR.out.below HE.out.bel) HRI.out).mono ?_
  rintro e w3 ⟨v3, rfl, ho3, hb3⟩
  obtain ⟨pR, cR, hv3, hR3⟩ := ho3.inn
  rw [HMM.out] at hv3
  subst hv3
  replace HE := Lib.hid (HE.out.step hb3)
  replace HRI := Lib.hid (HRI.out.below hb3)
  have HRX := Lib.hid hR3
  have e1 : (m : Int).tmod 2 = 0 := by rw [Int.tmod_eq_emod_of_nonneg (by omega)]; omega
  have e2 : (m : Int) % 2 = 0 := by omega
  clear ho3 hb3 hR3 k0 k1 k2 k3 k4 k5 k6 k7 k8 k9 k10 k11
  have HIN : Hid (InB (w3.alloc (.cells #[.bool false, .bool false, .bool false, .bool false, .bool false, .bool false, .bool false, .bool false, .bool false, .bool false, .bool false, .bool false, .bool false, .bool false, .bool false, .bool false] 39)) w3.heap.size (markF bs (endAt R 0))) := InB.new _ _ _ (markF_zero bs)
  have HB0 : Hid (Below w3.heap.size w3 (w3.alloc (.cells #[.bool false, .bool false, .bool false, .bool false, .bool false, .bool false, .bool false, .bool false, .bool false, .bool false, .bool false, .bool false, .bool false, .bool false, .bool false, .bool false] 39))) := (Below.refl _ _).alloc (Nat.le_refl _) _
  go_wp2
  go_loopw [10] (fun i wr => ∃ k : Nat, k ≤ m ∧ k % 2 = 0 ∧ i = .int .i64 k ∧ Hid (Below w3.heap.size w3 wr) ∧ Hid (InB wr w3.heap.size (markF bs (endAt R k)))) (fun i _ => m - (intOf i).toNat)
  case atStart => exact ⟨0, Nat.zero_le _, rfl, rfl, HB0, HIN⟩
  case round =>
    obtain ⟨k, hk, hk2, rfl, hb, hb0⟩ := hrel
    by_cases hlt : k < m
    · have hkr : k < (runsS bs).length := by rw [HRR.out, HMM.out]; exact hlt
      obtain ⟨i0, i1, r0, r1, h01, h1n, hop⟩ := runs_pair bs k hk2 hkr
      have hgap := fun x => markF_gap bs k hk2 hkr r0 x
      rw [HRR.out] at r0 r1 hgap
      have h1n' : i1 ≤ n := by rw [← HBL.out]; exact h1n
      obtain ⟨ka, hka⟩ : ∃ ka, k + 1 = ka := ⟨_, rfl⟩
      have hkam : ka < m := by omega
      obtain ⟨bR, oR, e3, q0⟩ := (HRX.out.below hb.out) k (by rw [HMM.out]; exact hlt)
      subst e3
      obtain ⟨bR', oR', e4, q1⟩ := (HRX.out.below hb.out) ka (by rw [HMM.out]; exact hkam)
      cases e4
      rw [r0] at q0
      rw [hka] at r1
      rw [r1] at q1
      have HSTART : Hid (InB wr w3.heap.size (markF bs (i0 : Int))) := hb0.out.congr hgap
      have HOP := Lib.hid hop
      have HR1 := Lib.hid r1
      have HR0 := Lib.hid r0
      have w1 : IntKind.i64.wrap ((k : Int) + 1) = (ka : Int) := by rw [IntWalk.i64_in _ (by omega)]; omega
      have w1' : (k : Int) + 1 = (ka : Int) := by omega
      have w1b : IntKind.i64.wrap (ka : Int) = (ka : Int) := IntWalk.i64_in _ (by omega)
      have w3' : (ka : Int) < (m : Int) := by omega
      have w4' : (k : Int) < (m : Int) := by omega
      have d1 : decide ((i0 : Int) < 0) = false := decide_eq_false (by omega)
      have d2 : decide ((i1 : Int) ≤ (i0 : Int)) = false := decide_eq_false (by omega)
      have d3 : decide ((n : Int) < (i1 : Int)) = false := decide_eq_false (by omega)
      have d2n : ¬ (i1 ≤ i0) := by omega
      have d2m : decide (i1 ≤ i0) = false := decide_eq_false d2n
      have d3n : ¬ (n < i1) := by omega
      have d3m : decide (n < i1) = false := decide_eq_false d3n
      have HK := Lib.hid hka
      have hi16 : i1 ≤ 15 := by omega
      clear hgap hop r0 r1 hka hb0 h1n
      by_cases hz : k = 0
      · have d4 : decide ((0 : Int) < (k : Int)) = false := decide_eq_false (by omega)
        have d5 : ¬ ((0 : Int) < (k : Int)) := by omega
        have d6 : ¬ (0 < k) := by omega
        have d6m : decide (0 < k) = false := decide_eq_false d6
        have hk0 : k ≤ m := by omega
        clear hz
        go_upto_region 10 with (fail)
        go_quiet (fail)
        generalize hwq : World.drewN wr _ = wq
        have hq : Below wr.heap.size wr wq := by rw [← hwq]; exact drew_ref _ _
        have HBQ := Lib.hid (hb.out.trans (hq.mono hb.out.size))
        have HSQ := Lib.hid (HSTART.out.below hq)
        clear hwq hq hb HSTART q0 q1
        obtain ⟨bR3, oR3, e7, q0⟩ := (HRX.out.below HBQ.out) k (by rw [HMM.out]; exact hlt)
        cases e7
        rw [HR0.out] at q0
        go_wp2
        obtain ⟨wo, rfl⟩ : ∃ wo : World, wo = wq := ⟨_, rfl⟩
        clear q0
        go_loopw [11] (fun i wr2 => ∃ j : Nat, i0 ≤ j ∧ j ≤ i1 ∧ i = .int .i64 j ∧ Hid (Below w3.heap.size w3 wr2) ∧ Hid (InB wr2 w3.heap.size (markF bs (j : Int)))) (fun i _ => i1 - (intOf i).toNat)
        case atStart => exact ⟨i0, Nat.le_refl _, by omega, rfl, HBQ, HSQ⟩
        case round =>
          obtain ⟨j, hj0, hj1, rfl, hb2, hf2⟩ := hrel
          obtain ⟨bR4, oR4, e8, q1⟩ := (HRX.out.below hb2.out) ka (by rw [HMM.out]; exact hkam)
          cases e8
          rw [HR1.out] at q1
          by_cases hlj : j < i1
          · obtain ⟨hcj, hfj⟩ := hf2.out j (by omega)
            have hj16 : (j : Int) < 16 := by omega
            obtain ⟨m1, m2⟩ := markF_step bs j (HOP.out j hj0 hlj)
            have HF3 := Lib.hid (hf2.out.set (by omega) m1 m2)
            have HB3 := Lib.hid (hb2.out.grown (grownBy_store _ w3.heap.size j (.bool true)) hb2.out.size (by intro z hz; injection hz with hz; omega))
            obtain ⟨b9, hb9⟩ : ∃ b, markF bs (j : Int) j = b := ⟨_, rfl⟩
            rw [hb9] at hcj
            clear hb9 m1 m2
            go_wp2
            go_roundw
            case rel => exact ⟨j + 1, by omega, by omega, by go_num, HB3, HF3⟩
            case measure => simp [intOf]; omega
          · obtain rfl : j = i1 := by omega
            have HF4 : Hid (InB wr w3.heap.size (markF bs (endAt R (k + 2)))) := by
              have e9 : endAt R (k + 2) = (j : Int) := by show R.getD (k + 1) 0 = _; rw [HK.out]; exact HR1.out
              unfold Hid; rw [e9]; exact hf2.out
            go_wp2
            go_roundw
            case rel => exact ⟨k + 2, by omega, by omega, by go_num, hb2, HF4⟩
            case measure => simp [intOf]; omega
      · have d4 : decide ((0 : Int) < (k : Int)) = true := decide_eq_true (by omega)
        have d5 : (0 : Int) < (k : Int) := by omega
        have d6 : 0 < k := by omega
        have d6m : decide (0 < k) = true := decide_eq_true d6
        obtain ⟨kb, hkb⟩ : ∃ kb, k = kb + 1 := ⟨k - 1, by omega⟩
        have w2 : IntKind.i64.wrap ((k : Int) - 1) = (kb : Int) := by rw [IntWalk.i64_in _ (by omega)]; omega
        obtain ⟨ip, hip, _⟩ := runs_bd bs kb (by omega)
        have hless := runs_less bs kb (by rw [← hkb]; exact hkr)
        obtain ⟨bR2, oR2, e5, q2⟩ := (HRX.out.below hb.out) kb (by rw [HMM.out]; omega)
        cases e5
        have hkbm : kb < m := by omega
        have w5' : (kb : Int) < (m : Int) := by omega
        have w5b : IntKind.i64.wrap (kb : Int) = (kb : Int) := IntWalk.i64_in _ (by omega)
        have w6' : (k : Int) - 1 = (kb : Int) := by omega
        have r0' : R.getD k 0 = (i0 : Int) := by
          obtain ⟨i0', _, r0', _, _, _, _⟩ := runs_pair bs k hk2 hkr
          have q0b := (HRX.out.below hb.out) k (by rw [HMM.out]; exact hlt)
          obtain ⟨b3, o3, e6, q3⟩ := q0b
          cases e6
          rw [q0] at q3
          simpa using q3.symm
        rw [HRR.out] at hip hless
        rw [hip] at q2
        rw [← hkb, r0', hip] at hless
        have d7 : decide ((i0 : Int) ≤ (ip : Int)) = false := decide_eq_false (by omega)
        have d7n : ¬ (i0 ≤ ip) := by omega
        have d7m : decide (i0 ≤ ip) = false := decide_eq_false d7n
        have hk0 : k ≤ m := by omega
        clear hz hip hless r0' hkb
        go_upto_region 10 with (fail)
        go_quiet (fail)
        generalize hwq : World.drewN wr _ = wq
        have hq : Below wr.heap.size wr wq := by rw [← hwq]; exact drew_ref _ _
        have HBQ := Lib.hid (hb.out.trans (hq.mono hb.out.size))
        have HSQ := Lib.hid (HSTART.out.below hq)
        clear hwq hq hb HSTART q0 q1
        obtain ⟨bR3, oR3, e7, q0⟩ := (HRX.out.below HBQ.out) k (by rw [HMM.out]; exact hlt)
        cases e7
        rw [HR0.out] at q0
        go_wp2
        obtain ⟨wo, rfl⟩ : ∃ wo : World, wo = wq := ⟨_, rfl⟩
        clear q0
        go_loopw [11] (fun i wr2 => ∃ j : Nat, i0 ≤ j ∧ j ≤ i1 ∧ i = .int .i64 j ∧ Hid (Below w3.heap.size w3 wr2) ∧ Hid (InB wr2 w3.heap.size (markF bs (j : Int)))) (fun i _ => i1 - (intOf i).toNat)
        case atStart => exact ⟨i0, Nat.le_refl _, by omega, rfl, HBQ, HSQ⟩
        case round =>
          obtain ⟨j, hj0, hj1, rfl, hb2, hf2⟩ := hrel
          obtain ⟨bR4, oR4, e8, q1⟩ := (HRX.out.below hb2.out) ka (by rw [HMM.out]; exact hkam)
          cases e8
          rw [HR1.out] at q1
          by_cases hlj : j < i1
          · obtain ⟨hcj, hfj⟩ := hf2.out j (by omega)
            have hj16 : (j : Int) < 16 := by omega
            obtain ⟨m1, m2⟩ := markF_step bs j (HOP.out j hj0 hlj)
            have HF3 := Lib.hid (hf2.out.set (by omega) m1 m2)
            have HB3 := Lib.hid (hb2.out.grown (grownBy_store _ w3.heap.size j (.bool true)) hb2.out.size (by intro z hz; injection hz with hz; omega))
            obtain ⟨b9, hb9⟩ : ∃ b, markF bs (j : Int) j = b := ⟨_, rfl⟩
            rw [hb9] at hcj
            clear hb9 m1 m2
            go_wp2
            go_roundw
            case rel => exact ⟨j + 1, by omega, by omega, by go_num, HB3, HF3⟩
            case measure => simp [intOf]; omega
          · obtain rfl : j = i1 := by omega
            have HF4 : Hid (InB wr w3.heap.size (markF bs (endAt R (k + 2)))) := by
              have e9 : endAt R (k + 2) = (j : Int) := by show R.getD (k + 1) 0 = _; rw [HK.out]; exact HR1.out
              unfold Hid; rw [e9]; exact hf2.out
            go_wp2
            go_roundw
            case rel => exact ⟨k + 2, by omega, by omega, by go_num, hb2, HF4⟩
            case measure => simp [intOf]; omega
    · obtain rfl : k = m := by omega
      have HFIN : Hid (InB wr w3.heap.size (openA bs)) := hb0.out.congr (fun x => by rw [← markF_end bs x, HRR.out, HMM.out])
      clear hb0
      go_wp2
      go_loopw [98] (fun i wr2 => ∃ j : Nat, j ≤ n ∧ i = .int .i64 j ∧ Hid (Below w3.heap.size w3 wr2) ∧ Hid (InB wr2 w3.heap.size (openA bs))) (fun i _ => n - (intOf i).toNat)
      case atStart => exact ⟨0, Nat.zero_le _, rfl, hb, HFIN⟩
      case round =>
        obtain ⟨j, hj, rfl, hb2, hf2⟩ := hrel
        have HE2 := Lib.hid (HE.out.step hb2.out)
        by_cases hlj : j < n
        · obtain ⟨c, hc⟩ : ∃ c, xs.getD j 0 = c := ⟨_, rfl⟩
          obtain ⟨bi, oi, e1, hci⟩ := (HRI.out.below hb2.out) j (by rw [HN.out]; exact hlj)
          subst e1
          rw [hc] at hci
          obtain ⟨z, hz⟩ : ∃ z, Hid (clsT T c = z) := ⟨_, rfl⟩
          obtain ⟨D, hD⟩ : ∃ D, (z != 0) = D := ⟨_, rfl⟩
          have hop : openA bs j = D := by
            rw [← HBS.out, opens_at T xs j (by rw [HN.out]; exact hlj), getD_map_cls T xs j (by rw [HN.out]; exact hlj), hc, hz.out, ← hD, Bool.eq_iff_iff]; simp
          obtain ⟨hcb, _⟩ := hf2.out j (by omega)
          rw [hop] at hcb
          have KI := fun p => layB_cell hcb p
          obtain ⟨⟨k0, k1, k2, k3, k4, k5⟩, ⟨k6, k7, k8, k9, k10, k11⟩⟩ := HE2.out.box.load
          have K0 := fun p => layB_cell k0 p
          have K1 := fun p => layB_cell k1 p
          have K2 := fun p => layB_cell k2 p
          have K3 := fun p => layB_cell k3 p
          have K4 := fun p => layB_cell k4 p
          have K5 := fun p => layB_cell k5 p
          have K6 := fun p => layB_cell k6 p
          have K7 := fun p => layB_cell k7 p
          have K8 := fun p => layB_cell k8 p
          have K9 := fun p => layB_cell k9 p
          have K10 := fun p => layB_cell k10 p
          have K11 := fun p => layB_cell k11 p
          have cc1 := fun p => layB_call (p := p) fun W2 hW2 => rclass_at x T c z W2 (HE2.out.tab.below hW2) hz
          simp only [TV.agg] at cc1
          have C1 := Lib.hid cc1
          have hj16 : (j : Int) < 16 := by omega
          have hDD : (D != D) = false := by cases D <;> rfl
          clear hc hop hcb cc1 k0 k1 k2 k3 k4 k5 k6 k7 k8 k9 k10 k11
          go_upto_region 19 with (fail)
          refine wp_region_layB (by kernel_rfl) (by kernel_rfl) ?_
          repeat (go_big_quiet_step (first
            | (go_at_call 12; with_reducible exact C1.out _)))
          refine wpQuiet_nil ?_
          intro _ hw'
          obtain ⟨pq, hw''⟩ := hw'
          subst hw''
          have hbq := layB_below wr pq
          have HB3 := Lib.hid (hb2.out.trans (hbq.mono hb2.out.size))
          have HF3 := Lib.hid (hf2.out.below hbq)
          generalize layB wr pq = w4 at hbq HB3 HF3 ⊢
          clear hbq K0 K1 K2 K3 K4 K5 K6 K7 K8 K9 K10 K11 KI C1 hci
          go_wp2
          go_roundw
          case rel => exact ⟨j + 1, by omega, by go_num, HB3, HF3⟩
          case measure => simp [intOf]; omega
        · obtain rfl : j = n := by omega
          go_wp2_with fail
          refine (awake6_any _ (HR.out.below HE2.out.bel)).mono ?_
          rintro e w8 ⟨rfl, hb8⟩
          have HB8 := Lib.hid (HE2.out.bel.trans (hb8.mono HE2.out.bel.size))
          clear hb8
          go_wp2
          go_ret
          exact ⟨rfl, HB8.out⟩

end Go.Proofs.YtnnhcgflmhjakaaDoor
