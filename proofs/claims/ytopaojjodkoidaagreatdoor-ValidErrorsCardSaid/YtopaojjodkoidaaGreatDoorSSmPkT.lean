/- What the references of order carry: plain mathematics. The r -/
import Derived.Test.YtopaojjodkoidaaGreatDoorSSmPkR
import Derived.Test.YtopaojjodkoidaaGreatDoorSSmPkK
import Derived.Test.YtopaojjodkoidaaGreatDoorSSmPkZZR
import Derived.Test.YtopaojjodkoidaaGreatDoorSSmTabRO
import Derived.Test.YtopaojjodkoidaaGreatDoorSSmPkF
import Derived.Test.YtopaojjodkoidaaGreatDoorSSmPkD
import Derived.Test.YtopaojjodkoidaaGreatDoorSSmPkS
import Derived.BigRegion
set_option linter.unusedSimpArgs false
set_option linter.unusedVariables false
namespace Go.Proofs.YtopaojjodkoidaaGreatDoor
open Go.RowKit
def RInv (bs : List Bool) (i : Nat) (L : List Int) : Prop :=
 (openB bs i = false ∧ L = edgesN bs i) ∨
 (openB bs i = true ∧ ∃ e, i ≤ e ∧ (∀ x, i ≤ x → x < e → openA bs x = true) ∧ openA bs e = false ∧ L = edgesN bs (e + 1))
theorem RInv.zero (bs : List Bool) : RInv bs 0 [] := .inl ⟨rfl, rfl⟩
theorem RInv.run {bs : List Bool} {i k : Nat} {L : List Int} (h : RInv bs i L) (hik : i < k) (hb : openB bs i = false) (h1 : ∀ m, i ≤ m → m < k → openA bs m = true) (h2 : openA bs k = false) : RInv bs (i + 1) (L ++ [(i : Int), (k : Int)]) := by
 rcases h with ⟨_, hL⟩ | ⟨h3, _⟩
 ·refine .inr ⟨h1 i (Nat.le_refl _) hik, k, by omega, fun x a b => h1 x (by omega) b, h2, ?_⟩
  rw [hL]; exact (edges_run bs i k hik hb h1 h2).symm
 ·rw [hb] at h3; cases h3
theorem RInv.fin {bs : List Bool} {L : List Int} (h : RInv bs bs.length L) : L = runsS bs := by
 have ha := openB_end bs
 unfold runsS
 rcases h with ⟨h1, h2⟩ | ⟨h1, e, h2, h3, h4, h5⟩
 ·rw [edges_succ]; unfold edgeA; rw [h1, ha, h2]; simp
 ·have : e = bs.length := by
   rcases Nat.lt_or_ge bs.length e with h | h
   ·have := h3 _ (Nat.le_refl _) h; rw [ha] at this; cases this
   ·omega
  subst this; exact h5
theorem RInv.len {bs : List Bool} {i : Nat} {L : List Int} (h : RInv bs i L) (hb : openB bs i = false) : L.length ≤ i := by
 rcases h with ⟨_, h2⟩ | ⟨h1, _⟩
 ·rw [h2]; exact edges_len _ _
 ·rw [hb] at h1; cases h1
def readL (w : World) (g n : Nat) : List Int := (List.range n).map fun k => match w.cell? ⟨g, k, none⟩ with | some (.int _ z) => z | _ => 0
theorem readL_eq {w : World} {g n : Nat} {xs : List Int} (hn : xs.length = n) (h : ∀ k, k < n → w.cell? ⟨g, k, none⟩ = some (.int .i64 (xs.getD k 0))) : readL w g n = xs := by
 subst hn
 apply List.ext_getElem
 ·simp [readL]
 ·intro k h1 h2
  simp only [readL, List.getElem_map, List.getElem_range]
  rw [h k h2]
  simp [h2]
def moreN : Value → Nat
 | .bool true => 1
 | _ => 0
set_option maxRecDepth 100000 in
set_option maxHeartbeats 4000000 in
theorem racc_at (x : TV) (T : Tb) (p : Option Addr) (cap : Nat) (zs : List Int) (E : Int) (w : World) (hx : TabV w x T) (hcap : CapOf x) (hin : IntsIn w p zs) (hl : zs.length ≤ 17592186043904) (hE : Hid (accE T zs = E)) :
 Calls Tryz.prog 70 #[x.agg, .slice p zs.length cap] w (Gives (.int .i64 E) w) := by
 obtain ⟨V, hV⟩ : ∃ V, Hid (checkT T = V) := ⟨_, rfl⟩
 have HE := Lib.hid (Env.new hx)
 have HI := Lib.hid hin
 have HC := Lib.hid hcap
 obtain ⟨n, hn⟩ : ∃ n, zs.length = n := ⟨_, rfl⟩
 rw [hn] at hl ⊢
 have HN := Lib.hid hn
 clear hx hin hn hcap
 simp only [TV.agg]
 go_enter Tryz.func70, Tryz.ntmps70
 obtain ⟨⟨k0, k1, k2, k3, k4, k5⟩, ⟨k6, k7, k8, k9, k10, k11⟩⟩ := HE.out.box.load
 go_wp2_with fail
 refine (rcheck_tab x T V _ HE.out.tab HC.out hV).mono ?_
 rintro e w1 ⟨rfl, hb1⟩
 replace HE := Lib.hid (HE.out.step hb1)
 clear hb1 k0 k1 k2 k3 k4 k5 k6 k7 k8 k9 k10 k11
 by_cases h0 : V = 0
 ·have d0 : (V != 0) = false := by simp [h0]
  have HV : Hid (checkT T = 0) := hV.out.trans h0
  by_cases hbig : 4096 < n
  ·have d1 : decide ((4096 : Int) < (n : Int)) = true := decide_eq_true (by omega)
   have HEE : Hid (E = 7) := by unfold Hid; rw [← hE.out]; exact accE_full HV.out (by rw [HN.out]; exact hbig)
   clear h0 hbig
   go_wp2
   go_ret
   exact ⟨by rw [HEE.out]; rfl, HE.out.bel⟩
  ·have d1 : decide ((4096 : Int) < (n : Int)) = false := decide_eq_false (by omega)
   have d2 : ¬ (4096 < n) := hbig
   have hn4 : n ≤ 4096 := by omega
   clear h0 hbig
   go_wp2
   go_loopw [15] (fun i wr => ∃ k : Nat, k ≤ n ∧ i = .int .i64 k ∧ Hid ((zs.take k).all scaB = true) ∧ w1 = wr) (fun i _ => n - (intOf i).toNat)
   case atStart => exact ⟨0, Nat.zero_le _, rfl, rfl, rfl⟩
   case round =>
    obtain ⟨k, hk, rfl, hall, rfl⟩ := hrel
    by_cases hlt : k < n
    ·have hkl : k < zs.length := by rw [HN.out]; exact hlt
     obtain ⟨b, off, rfl, hck⟩ := (HI.out.below HE.out.bel) k hkl
     obtain ⟨c, hc⟩ : ∃ c, zs.getD k 0 = c := ⟨_, rfl⟩
     have hs1 := all_at hkl hall.out
     rw [hc] at hck hs1
     have HS1 := Lib.hid hs1
     obtain ⟨B, hB⟩ : ∃ B, Hid (scaB c = B) := ⟨_, rfl⟩
     clear hc hs1
     go_wp2_with fail
     refine (rsca_at c B _ hB).mono ?_
     rintro e w2 ⟨rfl, rfl⟩
     cases B with
     | false =>
      have HEE : Hid (E = 3) := by unfold Hid; rw [← hE.out]; exact accE_range HV.out (by rw [HN.out]; exact hn4) (all_no (k + 1) (by rw [HS1.out]; exact hB.out))
      go_wp2
      go_ret
      exact ⟨by rw [HEE.out]; rfl, HE.out.bel⟩
     | true =>
      have HAL : Hid ((zs.take (k + 1)).all scaB = true) := by unfold Hid; rw [HS1.out]; exact hB.out
      go_wp2
      go_roundw
      case rel => exact ⟨k + 1, by omega, by go_num, HAL, trivial⟩
      case measure => simp [intOf]; omega
    ·obtain rfl : k = n := by omega
     have HEE : Hid (E = 0) := by
      unfold Hid; rw [← hE.out]
      exact accE_zero HV.out (by rw [HN.out]; exact hn4) (by have := hall.out; rwa [List.take_of_length_le (Nat.le_of_eq HN.out)] at this)
     go_wp2
     go_ret
     exact ⟨by rw [HEE.out]; rfl, HE.out.bel⟩
 ·have d0 : (V != 0) = true := by simp [h0]
  have HEE : Hid (E = 2) := by unfold Hid; rw [← hE.out]; exact accE_table (by rw [hV.out]; exact h0)
  clear h0
  go_wp2
  go_ret
  exact ⟨by rw [HEE.out]; rfl, HE.out.bel⟩
set_option maxHeartbeats 1000000 in
theorem rsame_at (v u : Value) (xs ys : List Int) (B : Bool) (w : World) (hv : InV w v xs) (hu : InV w u ys) (hB : Hid ((xs == ys) = B)) :
 Calls Tryz.prog 52 #[v, u] w (Gives (.bool B) w) := by
 obtain ⟨p, c, rfl, hx, hxl⟩ := hv
 obtain ⟨q, d, rfl, hy, hyl⟩ := hu
 by_cases hl : xs.length = ys.length
 ·have hne : ((xs.length : Int) != (ys.length : Int)) = false := by simp [hl]
  have HX := Lib.hid hx
  have HY := Lib.hid hy
  have HL := Lib.hid hl
  clear hl hx hy
  go_enter Tryz.func52, Tryz.ntmps52
  go_wp2
  go_loopw [13] (fun i wr => ∃ k : Nat, k ≤ xs.length ∧ i = .int .i64 k ∧ Hid (xs.take k = ys.take k) ∧ Below w.heap.size w wr) (fun i _ => xs.length - (intOf i).toNat)
  case atStart => exact ⟨0, Nat.zero_le _, rfl, rfl, Below.refl _ _⟩
  case round =>
   obtain ⟨k, hk, rfl, ht, hbel⟩ := hrel
   by_cases hlt : k < xs.length
   ·obtain ⟨b1, o1, rfl, hc1⟩ := (HX.out.below hbel) k hlt
    obtain ⟨b2, o2, rfl, hc2⟩ := (HY.out.below hbel) k (by rw [← HL.out]; exact hlt)
    have hlt2 : k < ys.length := by rw [← HL.out]; exact hlt
    obtain ⟨x, hxx⟩ : ∃ x, xs.getD k 0 = x := ⟨_, rfl⟩
    obtain ⟨y, hyy⟩ : ∃ y, ys.getD k 0 = y := ⟨_, rfl⟩
    rw [hxx] at hc1
    rw [hyy] at hc2
    by_cases hxy : x = y
    ·have hb : (x != y) = false := by simp [hxy]
     have HS : Hid (xs.take (k + 1) = ys.take (k + 1)) := beq_take_snoc xs ys k hlt hlt2 ht.out (by rw [hxx, hyy, hxy])
     clear hxx hyy hxy
     go_wp2
     go_quiet (fail)
     go_wp2
     go_roundw
     case rel => exact ⟨k + 1, by omega, by go_num, HS, below_drewN hbel _⟩
     case measure => simp [intOf]; omega
    ·have hb : (x != y) = true := by simp [hxy]
     have HS : Hid (B = false) := by unfold Hid; rw [← hB.out]; exact ne_of_getD xs ys k (by rw [hxx, hyy]; exact hxy)
     clear hxx hyy hxy
     go_wp2
     go_quiet (fail)
     go_wp2
     go_ret
     rw [HS.out]
     exact ⟨rfl, below_drewN hbel _⟩
   ·obtain rfl : k = xs.length := by omega
    have HS : Hid (B = true) := by
     have := ht.out
     rw [List.take_length, HL.out, List.take_length] at this
     unfold Hid; rw [← hB.out]; simp [this]
    go_wp2
    go_ret
    rw [HS.out]
    exact ⟨rfl, hbel⟩
 ·have hne : ((xs.length : Int) != (ys.length : Int)) = true := by simp; omega
  have HS : Hid (B = false) := by
   unfold Hid; rw [← hB.out]
   simp only [beq_eq_false_iff_ne, ne_eq]
   rintro rfl
   exact hl rfl
  clear hl hx hy
  go_enter Tryz.func52, Tryz.ntmps52
  go_wp2
  go_ret
  rw [HS.out]
  exact ⟨rfl, Below.refl _ _⟩
def NRet (L : List Int) (w : World) (e : Ending) (w' : World) : Prop := ∃ v, e = .returned v ∧ Ints w' w.heap.size v L ∧ Below w.heap.size w w'
structure BSt (w0 : World) (x : TV) (T : Tb) (g n c : Nat) (O : List Int) (w : World) : Prop where
 env : Env w0 x T w
 row : Ints w (w0.heap.size + 1) (.slice (some ⟨g, 0, none⟩) n c) O
 len : O.length = n
theorem BSt.step {w0 w w' : World} {x : TV} {T : Tb} {g n c : Nat} {O : List Int} (h : BSt w0 x T g n c O w) (hb : Below w.heap.size w w') : BSt w0 x T g n c O w' := ⟨h.env.step hb, h.row.below hb, h.len⟩
theorem BSt.cells {w0 w : World} {x : TV} {T : Tb} {g n c : Nat} {O : List Int} (h : BSt w0 x T g n c O w) (hn : 0 < n) : w0.heap.size < g ∧ g < w.heap.size ∧ (∀ k, k < n → w.cell? ⟨g, k, none⟩ = some (.int .i64 (O.getD k 0))) ∧ ∀ k, w.frozen? ⟨g, k, none⟩ = false := by
 obtain ⟨g', c', e, h1, h2, h3, h4⟩ := h.row.row (by rw [h.len]; exact hn)
 cases e
 exact ⟨h1, h2, fun k hk => h3 k (by rw [h.len]; exact hk), h4⟩
theorem BSt.read {w0 w : World} {x : TV} {T : Tb} {g n c : Nat} {O : List Int} (h : BSt w0 x T g n c O w) : readL w g n = O := by
 by_cases hn : 0 < n
 ·exact readL_eq h.len (h.cells hn).2.2.1
 ·obtain rfl : n = 0 := by omega
  have : O = [] := List.eq_nil_of_length_eq_zero h.len
  rw [this]; rfl
theorem BSt.swap {w0 w : World} {x : TV} {T : Tb} {g n c : Nat} {O : List Int} (h : BSt w0 x T g n c O w) (hx : TabV w0 x T) (k : Nat) (hk : k + 1 < n) {A B : Int} (hA : O.getD k 0 = A) (hB : O.getD (k + 1) 0 = B) :
 BSt w0 x T g n c (swp O k) (((w.setCell ⟨g, k, none⟩ (.int .i64 B)).setCell ⟨g, k + 1, none⟩ (.int .i64 A)).drew) := by
 have hlo := (h.cells (by omega)).1
 have hg : w.grownBy ((w.setCell ⟨g, k, none⟩ (.int .i64 B)).setCell ⟨g, k + 1, none⟩ (.int .i64 A)) (some g) := grownBy_trans (grownBy_store w g k _) (grownBy_store _ g (k + 1) _)
 have he := (h.env.grown hx hg hlo).step (drew_one _)
 refine ⟨he, ?_, by rw [swp_length]; exact h.len⟩
 refine World.ownsRow.drew ?_
 unfold swp
 rw [hA, hB]
 exact (h.row.set h.len k B).set (by simp [h.len]) (k + 1) A
theorem bad_not {K : Int → Int} {O : List Int} {k : Nat} {A B za zb : Int} (hA : O.getD k 0 = A) (hB : O.getD (k + 1) 0 = B) (ha : K A = za) (hb : K B = zb) (h : ¬ (0 < zb ∧ zb < za)) : ¬ (0 < K (O.getD (k + 1) 0) ∧ K (O.getD (k + 1) 0) < K (O.getD k 0)) := by
 rw [hA, hB, ha, hb]; exact h
set_option maxRecDepth 100000 in
set_option maxHeartbeats 8000000 in
theorem rordered_at (x : TV) (T : Tb) (p : Option Addr) (cap : Nat) (zs S : List Int) (w : World) (hx : TabV w x T) (hin : IntsIn w p zs) (hl : zs.length ≤ 4096) (hS : Hid (ordS (clsT T) zs = S)) :
 Calls Tryz.prog 75 #[x.agg, .slice p zs.length cap] w (NRet S w) := by
 have HE := Lib.hid (Env.new hx)
 have HX := Lib.hid hx
 have HI := Lib.hid hin
 obtain ⟨n, hn⟩ : ∃ n, zs.length = n := ⟨_, rfl⟩
 rw [hn] at hl ⊢
 have HN := Lib.hid hn
 have HI1 : Hid (IntsIn (w.alloc (.cells (tabCells x) 26)) p zs) := hin.alloc _
 clear hx hin hn
 simp only [TV.agg]
 go_enter Tryz.func75, Tryz.ntmps75
 simp only [tabCells] at HE HI1
 go_wp2_with (at_builtin; refine wpList_append_ints (.const (.slice none 0 0)) (.tmp 10) rfl rfl (w.heap.size + 1) (.slice none 0 0) [] rfl (Ints.nil _ _) p n cap zs HN.out rfl HI1.out (by rw [HN.out]; simp; omega) (by simp) ?_; intro v1 w1 ho1 hg1)
 rw [List.nil_append] at ho1
 have HE1 := Lib.hid (HE.out.app HX.out (Ints.nil _ _) hg1)
 have HO1 := Lib.hid ho1
 clear HE HI1 ho1 hg1
 by_cases hn0 : n = 0
 ·have hz : zs = [] := List.eq_nil_of_length_eq_zero (HN.out.trans hn0)
  have HSS : Hid (S = zs) := by unfold Hid; rw [← hS.out, hz]; rfl
  obtain ⟨p1, c1, hv1, hi1⟩ := HO1.out.inn
  rw [HN.out, hn0] at hv1
  subst hv1
  clear hz hi1 hn0
  go_wp2
  go_loopw [6, 7, 8, 9] (fun b _ _ _ wr => (b = .bool true ∨ b = .bool false) ∧ w1 = wr) (fun b _ _ _ _ => moreN b)
  case atStart => exact ⟨.inl rfl, rfl⟩
  case round =>
   obtain ⟨hb, rfl⟩ := hrel
   rcases hb with rfl | rfl
   ·go_wp2
    go_loopw [6, 7, 8, 9] (fun b i _ _ wr => b = .bool false ∧ i = .int .i64 1 ∧ w1 = wr) (fun _ _ _ _ _ => 0)
    case atStart => exact ⟨rfl, rfl, rfl⟩
    case round =>
     obtain ⟨rfl, rfl, rfl⟩ := hrel
     go_wp2
     go_roundw
     case rel => exact ⟨.inr rfl, trivial⟩
     case measure => simp [moreN]
   ·go_wp2
    go_ret
    exact ⟨_, rfl, by rw [HSS.out]; exact HO1.out.mono (Nat.le_succ _), HE1.out.bel⟩
 ·obtain ⟨g, c, hv1, _⟩ := HO1.out.row (by rw [HN.out]; omega)
  rw [HN.out] at hv1
  subst hv1
  have HST : Hid (BSt w x T g n c zs w1) := ⟨HE1.out, HO1.out, HN.out⟩
  have hnpos : 0 < n := by omega
  clear HE1 HO1 hn0
  go_wp2
  go_loopw [6, 7, 8, 9] (fun b _ _ _ wr => ∃ O : List Int, ∃ M : Bool, b = .bool M ∧ Hid (BSt w x T g n c O wr) ∧ Hid (ordS (clsT T) O = S) ∧ Hid (M = false → inOrd (clsT T) O)) (fun b _ _ _ wr => moreN b + invs (clsT T) (readL wr g n))
  case atStart => exact ⟨zs, true, rfl, HST, hS, fun h => by cases h⟩
  case round =>
   obtain ⟨O0, M, rfl, hst, hor, hio⟩ := hrel
   clear HST
   cases M with
   | false =>
    have HSS : Hid (S = O0) := by unfold Hid; rw [← hor.out]; exact ordS_id _ _ (hio.out rfl)
    go_wp2
    go_ret
    exact ⟨_, rfl, by rw [HSS.out]; exact hst.out.row.mono (Nat.le_succ _), hst.out.env.bel⟩
   | true =>
    have HRD : Hid (readL wr g n = O0) := hst.out.read
    clear hio
    go_wp2
    obtain ⟨w5, rfl⟩ : ∃ w5 : World, w5 = wr := ⟨_, rfl⟩
    go_loopw [6, 7, 8, 9] (fun b i _ _ wr2 => ∃ O : List Int, ∃ M : Bool, ∃ k : Nat, b = .bool M ∧ i = .int .i64 (k + 1 : Nat) ∧ k ≤ n ∧ Hid (BSt w x T g n c O wr2) ∧ Hid (ordS (clsT T) O = S) ∧ Hid (M = false → O = O0 ∧ ∀ j, j < k → ¬ (0 < clsT T (O.getD (j + 1) 0) ∧ clsT T (O.getD (j + 1) 0) < clsT T (O.getD j 0))) ∧ Hid (M = true → invs (clsT T) O < invs (clsT T) O0)) (fun _ i _ _ _ => n + 1 - (intOf i).toNat)
    case atStart => exact ⟨O0, false, 0, rfl, rfl, Nat.zero_le _, hst, hor, fun _ => ⟨rfl, fun j h => absurd h (Nat.not_lt_zero _)⟩, fun h => by cases h⟩
    case round =>
     obtain ⟨O, M, k, rfl, rfl, hk, hst2, hor2, hno, hyes⟩ := hrel
     obtain ⟨j, hj⟩ : ∃ j, k + 1 = j := ⟨_, rfl⟩
     rw [hj]
     by_cases hlt : j < n
     ·have hkn : k < n := by omega
      obtain ⟨hlo, hgl, hcells, hfro⟩ := hst2.out.cells hnpos
      obtain ⟨A, hA⟩ : ∃ A, O.getD k 0 = A := ⟨_, rfl⟩
      obtain ⟨B, hB⟩ : ∃ B, O.getD j 0 = B := ⟨_, rfl⟩
      have cA := hcells k hkn
      have cB := hcells j hlt
      rw [hA] at cA
      rw [hB] at cB
      have fA := hfro k
      have fB := hfro j
      obtain ⟨za, hza⟩ : ∃ z, Hid (clsT T A = z) := ⟨_, rfl⟩
      obtain ⟨zb, hzb⟩ : ∃ z, Hid (clsT T B = z) := ⟨_, rfl⟩
      have HA := Lib.hid hA
      have HB := Lib.hid hB
      have HJ := Lib.hid hj
      have j1 : (j : Int) - 1 = (k : Int) := by omega
      have j2 : IntKind.i64.wrap ((j : Int) - 1) = (k : Int) := by rw [IntWalk.i64_in _ (by omega)]; omega
      have j3 : IntKind.i64.wrap (k : Int) = (k : Int) := IntWalk.i64_in _ (by omega)
      have j4 : (k : Int) < (n : Int) := by omega
      have j5 : (j : Int) < (n : Int) := by omega
      have KA := fun p => layB_cell cA p
      have KB := fun p => layB_cell cB p
      obtain ⟨⟨k0, k1, k2, k3, k4, k5⟩, ⟨k6, k7, k8, k9, k10, k11⟩⟩ := hst2.out.env.box.load
      have K0 := fun p => layB_cell k0 p
      have K1 := fun p => layB_cell k1 p
      have K2 := fun p => layB_cell k2 p
      have K3 := fun p => layB_cell k3 p
      have K4 := fun p => layB_cell k4 p
      have K5 := fun p => layB_cell k5 p
      have K6 := fun p => layB_cell k6 p
      have K7 := fun p => layB_cell k7 p
      have K8 := fun p => layB_cell k8 p
      have K9 := fun p => layB_cell k9 p
      have K10 := fun p => layB_cell k10 p
      have K11 := fun p => layB_cell k11 p
      have cc1 := fun p => layB_call (p := p) fun W2 hW2 => rclass_at x T A za W2 (hst2.out.env.tab.below hW2) hza
      have cc2 := fun p => layB_call (p := p) fun W2 hW2 => rclass_at x T B zb W2 (hst2.out.env.tab.below hW2) hzb
      simp only [TV.agg] at cc1 cc2
      have C1 := Lib.hid cc1
      have C2 := Lib.hid cc2
      clear hA hB hcells hfro cc1 cc2 k0 k1 k2 k3 k4 k5 k6 k7 k8 k9 k10 k11 cA cB fA fB hlo hgl
      go_upto_region 8 with (fail)
      refine wp_region_layB (by kernel_rfl) (by kernel_rfl) ?_
      repeat (go_big_quiet_step (first
       | (go_at_call 49; with_reducible exact C1.out _)
       | (go_at_call 49; with_reducible exact C2.out _)))
      refine wpQuiet_nil ?_
      intro _ hw'
      obtain ⟨pq, hw''⟩ := hw'
      subst hw''
      have hbq := layB_below wr pq
      have HS3 := Lib.hid (hst2.out.step hbq)
      generalize layB wr pq = w6 at hbq HS3 ⊢
      clear hbq K0 K1 K2 K3 K4 K5 K6 K7 K8 K9 K10 K11 KA KB C1 C2
      by_cases hpos : 0 < zb
      ·have d1 : decide (0 < zb) = true := decide_eq_true hpos
       by_cases hgt : zb < za
       ·have d2 : decide (zb < za) = true := decide_eq_true hgt
        obtain ⟨hlo, hgl, hcells, hfro⟩ := HS3.out.cells hnpos
        have cA := hcells k hkn
        have cB := hcells j hlt
        rw [HA.out] at cA
        rw [HB.out] at cB
        have fA := hfro k
        have fB := hfro j
        have hne : (⟨g, k, none⟩ : Addr) ≠ ⟨g, j, none⟩ := by intro h; have h2 := HJ.out; injection h with _ h3; omega
        have cB2 : (w6.setCell ⟨g, k, none⟩ (.int .i64 B)).drew.cell? ⟨g, j, none⟩ = some (.int .i64 B) := (World.cell?_setCell_other _ _ _ _ hne).trans cB
        have fB2 : (w6.setCell ⟨g, k, none⟩ (.int .i64 B)).drew.frozen? ⟨g, j, none⟩ = false := (World.frozen?_setCell _ _ _ _).trans fB
        have HSW := Lib.hid (HS3.out.swap HX.out k (by have := HJ.out; omega) (A := A) (B := B) HA.out (HJ.out.symm ▸ HB.out))
        rw [HJ.out] at HSW
        have hso := swp_ord (clsT T) O k (by have h1 := HS3.out.len; have h2 := HJ.out; omega) (by rw [HJ.out, HB.out, hzb.out]; exact hpos) (by rw [HJ.out, HB.out, HA.out, hzb.out, hza.out]; exact hgt)
        have HOR := Lib.hid (hso.1.trans hor2.out)
        have HLT : Hid (invs (clsT T) (swp O k) < invs (clsT T) O0) := by
         unfold Hid
         have h1 := hso.2
         cases M with
         | false => rw [← (hno.out rfl).1]; exact h1
         | true => exact Nat.lt_trans h1 (hyes.out rfl)
        clear hpos hgt hne hso hcells hfro hlo hgl
        go_wp2
        go_region
        clear cA cB fA fB cB2 fB2
        go_wp2
        go_roundw
        case rel => exact ⟨swp O k, true, k + 1, rfl, by rw [HJ.out]; go_num, by omega, HSW, HOR, (fun h => by cases h), fun _ => HLT.out⟩
        case measure => simp [intOf]; omega
       ·have d2 : decide (zb < za) = false := decide_eq_false hgt
        have HNO : Hid (M = false → O = O0 ∧ ∀ j, j < k + 1 → ¬ (0 < clsT T (O.getD (j + 1) 0) ∧ clsT T (O.getD (j + 1) 0) < clsT T (O.getD j 0))) := fun hM => ⟨(hno.out hM).1, fun i hi => by
         by_cases e : i = k
         ·subst e; exact bad_not HA.out (by rw [HJ.out]; exact HB.out) hza.out hzb.out (fun h => hgt h.2)
         ·exact (hno.out hM).2 i (by omega)⟩
        clear hpos hgt
        go_wp2
        go_roundw
        case rel => exact ⟨O, M, k + 1, rfl, by rw [HJ.out]; go_num, by omega, HS3, hor2, HNO, hyes⟩
        case measure => simp [intOf]; omega
      ·have d1 : decide (0 < zb) = false := decide_eq_false hpos
       have HNO : Hid (M = false → O = O0 ∧ ∀ j, j < k + 1 → ¬ (0 < clsT T (O.getD (j + 1) 0) ∧ clsT T (O.getD (j + 1) 0) < clsT T (O.getD j 0))) := fun hM => ⟨(hno.out hM).1, fun i hi => by
        by_cases e : i = k
        ·subst e; exact bad_not HA.out (by rw [HJ.out]; exact HB.out) hza.out hzb.out (fun h => hpos h.1)
        ·exact (hno.out hM).2 i (by omega)⟩
       clear hpos
       go_wp2
       go_roundw
       case rel => exact ⟨O, M, k + 1, rfl, by rw [HJ.out]; go_num, by omega, HS3, hor2, HNO, hyes⟩
       case measure => simp [intOf]; omega
     ·have HIO : Hid (M = false → inOrd (clsT T) O) := fun hM => by
       rw [inOrd_iff]
       intro i hi
       rw [hst2.out.len] at hi
       exact (hno.out hM).2 i (by omega)
      have HME : Hid (moreN (.bool M) + invs (clsT T) (readL wr g n) < 1 + invs (clsT T) O0) := by
       unfold Hid
       rw [hst2.out.read]
       cases M with
       | false => rw [(hno.out rfl).1]; simp [moreN]
       | true => have := hyes.out rfl; simp [moreN]; omega
      clear hno hyes hj
      go_wp2
      go_roundw
      case rel => exact ⟨O, M, rfl, hst2, hor2, HIO⟩
      case measure => have := HME.out; rw [HRD.out]; simpa [moreN] using this
end Go.Proofs.YtopaojjodkoidaaGreatDoor
