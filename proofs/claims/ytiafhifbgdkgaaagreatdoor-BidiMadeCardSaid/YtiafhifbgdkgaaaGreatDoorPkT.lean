/-
  What the references of order carry: plain mathematics.
  The references of order: acceptable, ordered, Order, Same, Sorted, Runs (genRR.py).
-/
import Derived.Test.YtiafhifbgdkgaaaGreatDoorPkR
import Derived.Test.YtiafhifbgdkgaaaGreatDoorPkK
import Derived.Test.YtiafhifbgdkgaaaGreatDoorQTabRG
import Derived.Test.YtiafhifbgdkgaaaGreatDoorQTabRO
import Derived.Test.YtiafhifbgdkgaaaGreatDoorPkF
import Derived.Test.YtiafhifbgdkgaaaGreatDoorPkD
import Derived.Test.YtiafhifbgdkgaaaGreatDoorPkS
import Derived.BigRegion
set_option linter.unusedSimpArgs false
set_option linter.unusedVariables false
namespace Go.Proofs.YtiafhifbgdkgaaaGreatDoor
open Go.RowKit
set_option linter.unusedVariables false

/-- What the reference has gathered in front of place i. -/
def RInv (bs : List Bool) (i : Nat) (L : List Int) : Prop :=
  (openB bs i = false ∧ L = edgesN bs i) ∨
  (openB bs i = true ∧ ∃ e, i ≤ e ∧ (∀ x, i ≤ x → x < e → openA bs x = true) ∧ openA bs e = false ∧ L = edgesN bs (e + 1))

theorem RInv.zero (bs : List Bool) : RInv bs 0 [] := .inl ⟨rfl, rfl⟩

theorem RInv.shut {bs : List Bool} {i : Nat} {L : List Int} (h : RInv bs i L) (ha : openA bs i = false) : RInv bs (i + 1) L := by
  refine .inl ⟨ha, ?_⟩
  rcases h with ⟨h1, h2⟩ | ⟨h1, e, h2, h3, h4, h5⟩
  · rw [edges_succ]; unfold edgeA; rw [h1, ha, h2]; simp
  · have : e = i := by
      rcases Nat.lt_or_ge i e with h | h
      · have := h3 i (Nat.le_refl _) h; rw [ha] at this; cases this
      · omega
    subst this; exact h5

theorem RInv.inside {bs : List Bool} {i : Nat} {L : List Int} (h : RInv bs i L) (ha : openA bs i = true) (hb : openB bs i = true) : RInv bs (i + 1) L := by
  rcases h with ⟨h1, _⟩ | ⟨h1, e, h2, h3, h4, h5⟩
  · rw [hb] at h1; cases h1
  · have hne : i ≠ e := by intro h; subst h; rw [ha] at h4; cases h4
    exact .inr ⟨ha, e, by omega, fun x a b => h3 x (by omega) b, h4, h5⟩

theorem RInv.run {bs : List Bool} {i k : Nat} {L : List Int} (h : RInv bs i L) (hik : i < k) (hb : openB bs i = false) (h1 : ∀ m, i ≤ m → m < k → openA bs m = true) (h2 : openA bs k = false) : RInv bs (i + 1) (L ++ [(i : Int), (k : Int)]) := by
  rcases h with ⟨_, hL⟩ | ⟨h3, _⟩
  · refine .inr ⟨h1 i (Nat.le_refl _) hik, k, by omega, fun x a b => h1 x (by omega) b, h2, ?_⟩
    rw [hL]; exact (edges_run bs i k hik hb h1 h2).symm
  · rw [hb] at h3; cases h3

theorem RInv.fin {bs : List Bool} {L : List Int} (h : RInv bs bs.length L) : L = runsS bs := by
  have ha := openB_end bs
  unfold runsS
  rcases h with ⟨h1, h2⟩ | ⟨h1, e, h2, h3, h4, h5⟩
  · rw [edges_succ]; unfold edgeA; rw [h1, ha, h2]; simp
  · have : e = bs.length := by
      rcases Nat.lt_or_ge bs.length e with h | h
      · have := h3 _ (Nat.le_refl _) h; rw [ha] at this; cases this
      · omega
    subst this; exact h5

theorem RInv.len {bs : List Bool} {i : Nat} {L : List Int} (h : RInv bs i L) (hb : openB bs i = false) : L.length ≤ i := by
  rcases h with ⟨_, h2⟩ | ⟨h1, _⟩
  · rw [h2]; exact edges_len _ _
  · rw [hb] at h1; cases h1

/-- The numbers of a row, read off the world. -/
def readL (w : World) (g n : Nat) : List Int := (List.range n).map fun k => match w.cell? ⟨g, k, none⟩ with | some (.int _ z) => z | _ => 0

theorem readL_eq {w : World} {g n : Nat} {xs : List Int} (hn : xs.length = n) (h : ∀ k, k < n → w.cell? ⟨g, k, none⟩ = some (.int .i64 (xs.getD k 0))) : readL w g n = xs := by
  subst hn
  apply List.ext_getElem
  · simp [readL]
  · intro k h1 h2
    simp only [readL, List.getElem_map, List.getElem_range]
    rw [h k h2]
    simp [h2]

def moreN : Value → Nat
  | .bool true => 1
  | _ => 0

end Go.Proofs.YtiafhifbgdkgaaaGreatDoor

namespace Go.Proofs.YtiafhifbgdkgaaaGreatDoor
open Go.RowKit
set_option linter.unusedVariables false

set_option maxRecDepth 100000 in
set_option maxHeartbeats 4000000 in
theorem racc_at (x : TV) (T : Tb) (p : Option Addr) (cap : Nat) (zs : List Int) (E : Int) (w : World) (hx : TabV w x T) (hcap : CapOf x) (hin : IntsIn w p zs) (hl : zs.length ≤ 17592186043904) (hE : Hid (accE T zs = E)) :
    Calls Tryz.prog 51 #[x.agg, .slice p zs.length cap] w (Gives (.int .i64 E) w) := by
  obtain ⟨V, hV⟩ : ∃ V, Hid (checkT T = V) := ⟨_, rfl⟩
  have HE := Lib.hid (Env.new hx)
  have HI := Lib.hid hin
  have HC := Lib.hid hcap
  obtain ⟨n, hn⟩ : ∃ n, zs.length = n := ⟨_, rfl⟩
  rw [hn] at hl ⊢
  have HN := Lib.hid hn
  clear hx hin hn hcap
  simp only [TV.agg]
  go_enter Tryz.func51, Tryz.ntmps51
  obtain ⟨⟨k0, k1, k2, k3, k4, k5⟩, ⟨k6, k7, k8, k9, k10, k11⟩⟩ := HE.out.box.load
  go_wp2_with fail
  refine (rcheck_tab x T V _ HE.out.tab HC.out hV).mono ?_
  rintro e w1 ⟨rfl, hb1⟩
  replace HE := Lib.hid (HE.out.step hb1)
  clear hb1 k0 k1 k2 k3 k4 k5 k6 k7 k8 k9 k10 k11
  by_cases h0 : V = 0
  · have d0 : (V != 0) = false := by simp [h0]
    have HV : Hid (checkT T = 0) := hV.out.trans h0
    by_cases hbig : 4096 < n
    · have d1 : decide ((4096 : Int) < (n : Int)) = true := decide_eq_true (by omega)
      have HEE : Hid (E = 7) := by unfold Hid; rw [← hE.out]; exact accE_full HV.out (by rw [HN.out]; exact hbig)
      clear h0 hbig
      go_wp2
      go_ret
      exact ⟨by rw [HEE.out]; rfl, HE.out.bel⟩
    · have d1 : decide ((4096 : Int) < (n : Int)) = false := decide_eq_false (by omega)
      have d2 : ¬ (4096 < n) := hbig
      have hn4 : n ≤ 4096 := by omega
      clear h0 hbig
      go_wp2
      go_loopw [15] (fun i wr => ∃ k : Nat, k ≤ n ∧ i = .int .i64 k ∧ Hid ((zs.take k).all scaB = true) ∧ w1 = wr) (fun i _ => n - (intOf i).toNat)
      case atStart => exact ⟨0, Nat.zero_le _, rfl, rfl, rfl⟩
      case round =>
        obtain ⟨k, hk, rfl, hall, rfl⟩ := hrel
        by_cases hlt : k < n
        · have hkl : k < zs.length := by rw [HN.out]; exact hlt
          obtain ⟨b, off, rfl, hck⟩ := (HI.out.below HE.out.bel) k hkl
          obtain ⟨c, hc⟩ : ∃ c, zs.getD k 0 = c := ⟨_, rfl⟩
          have hs1 := all_at hkl hall.out
          rw [hc] at hck hs1
          have HS1 := Lib.hid hs1
          obtain ⟨B, hB⟩ : ∃ B, Hid (scaB c = B) := ⟨_, rfl⟩
          clear hc hs1
          go_wp2_with fail
          refine (rsca_at c B _ hB).mono ?_
          rintro e w2 ⟨rfl, rfl⟩
          cases B with
          | false =>
            have HEE : Hid (E = 3) := by unfold Hid; rw [← hE.out]; exact accE_range HV.out (by rw [HN.out]; exact hn4) (all_no (k + 1) (by rw [HS1.out]; exact hB.out))
            go_wp2
            go_ret
            exact ⟨by rw [HEE.out]; rfl, HE.out.bel⟩
          | true =>
            have HAL : Hid ((zs.take (k + 1)).all scaB = true) := by unfold Hid; rw [HS1.out]; exact hB.out
            go_wp2
            go_roundw
            case rel => exact ⟨k + 1, by omega, by go_num, HAL, trivial⟩
            case measure => simp [intOf]; omega
        · obtain rfl : k = n := by omega
          have HEE : Hid (E = 0) := by
            unfold Hid; rw [← hE.out]
            exact accE_zero HV.out (by rw [HN.out]; exact hn4) (by have := hall.out; rwa [List.take_of_length_le (Nat.le_of_eq HN.out)] at this)
          go_wp2
          go_ret
          exact ⟨by rw [HEE.out]; rfl, HE.out.bel⟩
  · have d0 : (V != 0) = true := by simp [h0]
    have HEE : Hid (E = 2) := by unfold Hid; rw [← hE.out]; exact accE_table (by rw [hV.out]; exact h0)
    clear h0
    go_wp2
    go_ret
    exact ⟨by rw [HEE.out]; rfl, HE.out.bel⟩

/-- A new slice of numbers. -/
def NRet (L : List Int) (w : World) (e : Ending) (w' : World) : Prop := ∃ v, e = .returned v ∧ Ints w' w.heap.size v L ∧ Below w.heap.size w w'

/-- The tables, and the row that is put into order. -/
structure BSt (w0 : World) (x : TV) (T : Tb) (g n c : Nat) (O : List Int) (w : World) : Prop where
  env : Env w0 x T w
  row : Ints w (w0.heap.size + 1) (.slice (some ⟨g, 0, none⟩) n c) O
  len : O.length = n

theorem BSt.step {w0 w w' : World} {x : TV} {T : Tb} {g n c : Nat} {O : List Int} (h : BSt w0 x T g n c O w) (hb : Below w.heap.size w w') : BSt w0 x T g n c O w' := ⟨h.env.step hb, h.row.below hb, h.len⟩

theorem BSt.cells {w0 w : World} {x : TV} {T : Tb} {g n c : Nat} {O : List Int} (h : BSt w0 x T g n c O w) (hn : 0 < n) : w0.heap.size < g ∧ g < w.heap.size ∧ (∀ k, k < n → w.cell? ⟨g, k, none⟩ = some (.int .i64 (O.getD k 0))) ∧ ∀ k, w.frozen? ⟨g, k, none⟩ = false := by
  obtain ⟨g', c', e, h1, h2, h3, h4⟩ := h.row.row (by rw [h.len]; exact hn)
  cases e
  exact ⟨h1, h2, fun k hk => h3 k (by rw [h.len]; exact hk), h4⟩

theorem BSt.read {w0 w : World} {x : TV} {T : Tb} {g n c : Nat} {O : List Int} (h : BSt w0 x T g n c O w) : readL w g n = O := by
  by_cases hn : 0 < n
  · exact readL_eq h.len (h.cells hn).2.2.1
  · obtain rfl : n = 0 := by omega
    have : O = [] := List.eq_nil_of_length_eq_zero h.len
    rw [this]; rfl

theorem BSt.swap {w0 w : World} {x : TV} {T : Tb} {g n c : Nat} {O : List Int} (h : BSt w0 x T g n c O w) (hx : TabV w0 x T) (k : Nat) (hk : k + 1 < n) {A B : Int} (hA : O.getD k 0 = A) (hB : O.getD (k + 1) 0 = B) :
    BSt w0 x T g n c (swp O k) (((w.setCell ⟨g, k, none⟩ (.int .i64 B)).setCell ⟨g, k + 1, none⟩ (.int .i64 A)).drew) := by
  have hlo := (h.cells (by omega)).1
  have hg : w.grownBy ((w.setCell ⟨g, k, none⟩ (.int .i64 B)).setCell ⟨g, k + 1, none⟩ (.int .i64 A)) (some g) := grownBy_trans (grownBy_store w g k _) (grownBy_store _ g (k + 1) _)
  have he := (h.env.grown hx hg hlo).step (drew_one _)
  refine ⟨he, ?_, by rw [swp_length]; exact h.len⟩
  refine World.ownsRow.drew ?_
  unfold swp
  rw [hA, hB]
  exact (h.row.set h.len k B).set (by simp [h.len]) (k + 1) A

theorem bad_not {K : Int → Int} {O : List Int} {k : Nat} {A B za zb : Int} (hA : O.getD k 0 = A) (hB : O.getD (k + 1) 0 = B) (ha : K A = za) (hb : K B = zb) (h : ¬ (0 < zb ∧ zb < za)) : ¬ (0 < K (O.getD (k + 1) 0) ∧ K (O.getD (k + 1) 0) < K (O.getD k 0)) := by
  rw [hA, hB, ha, hb]; exact h

end Go.Proofs.YtiafhifbgdkgaaaGreatDoor
