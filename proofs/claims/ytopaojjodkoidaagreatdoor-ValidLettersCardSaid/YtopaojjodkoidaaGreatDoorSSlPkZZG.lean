/-
  mapping: plain mathematics: what the statuses make of a sequence.
  mapping: contracts of the references Map, Stable, Deviations.
-/
import Derived.Test.YtopaojjodkoidaaGreatDoorSSlPkZ
import Derived.Test.YtopaojjodkoidaaGreatDoorSSlTblQ
import Derived.Test.YtopaojjodkoidaaGreatDoorSSlPkT
import Derived.Test.YtopaojjodkoidaaGreatDoorSSlPkZZS
import Derived.Test.YtopaojjodkoidaaGreatDoorSSlPkS
import Derived.Test.YtopaojjodkoidaaGreatDoorSSlTabRN
set_option linter.unusedSimpArgs false
set_option linter.unusedVariables false
namespace Go.Proofs.YtopaojjodkoidaaGreatDoor
set_option linter.unusedVariables false

/-- What becomes of one code point that is not disallowed. -/
def map1 (T : Tb) (c : Int) : List Int := if staT T c = 3 then mapsT T c else if staT T c = 1 ∨ staT T c = 4 then [c] else []
def mapF (T : Tb) (l : List Int) : List Int := l.flatMap (map1 T)
/-- The first disallowed code point, from k on. -/
def badK (T : Tb) : Nat → List Int → Option Nat
  | _, [] => none
  | k, c :: r => if staT T c = 0 then some k else badK T (k + 1) r
/-- Map: the result, the index, the error (16 status, 7 full). -/
def mapR (T : Tb) (l : List Int) : List Int × Nat × Int :=
  if accE T l ≠ 0 then ([], 0, accE T l) else match badK T 0 l with
    | some i => ([], i, 16)
    | none => if 4096 < (mapF T l).length then ([], 0, 7) else (mapF T l, 0, 0)
def stbB (T : Tb) (l : List Int) : Bool := decide ((mapR T l).2.2 = 0) && ((mapR T l).1 == l)
theorem badK_none {T : Tb} : ∀ (k : Nat) (l : List Int), badK T k l = none ↔ ∀ c ∈ l, staT T c ≠ 0
  | _, [] => by simp [badK]
  | k, c :: r => by
    rw [badK]
    by_cases h : staT T c = 0
    · rw [if_pos h]; simp [h]
    · rw [if_neg h, badK_none (k + 1) r]; simp [h]
theorem mapF_append (T : Tb) (a b : List Int) : mapF T (a ++ b) = mapF T a ++ mapF T b := by unfold mapF; rw [List.flatMap_append]

/-- What is mapped to in well-formed tables: at most eighteen scalar values. -/
theorem map1_sca {T : Tb} (h : checkT T = 0) {c : Int} (hc : scaB c = true) : (map1 T c).length ≤ 18 ∧ ∀ y ∈ map1 T c, scaB y = true := by
  have h4 := (check_rules h).2.2.2.1
  unfold map1
  split
  · unfold mapsT
    split
    · rename_i hu
      have := uppB_iff.1 hu
      refine ⟨by simp, fun y hy => ?_⟩
      rw [List.mem_singleton] at hy
      subst hy
      unfold scaB; simp; omega
    · by_cases hm : findM T.map c = []
      · rw [hm]; exact ⟨by simp, fun y hy => by cases hy⟩
      · have hmem := findM_mem hm
        unfold r4 at h4
        simp only [Bool.and_eq_true] at h4
        have := List.all_eq_true.1 h4.2.1 _ hmem
        unfold seqS at this
        simp only [Bool.and_eq_true, decide_eq_true_eq] at this
        exact ⟨this.1.2, fun y hy => List.all_eq_true.1 this.2 y hy⟩
  · split
    · refine ⟨by simp, fun y hy => ?_⟩
      rw [List.mem_singleton] at hy
      subst hy
      exact hc
    · exact ⟨by simp, fun y hy => by cases hy⟩
theorem mapF_sca {T : Tb} (h : checkT T = 0) : ∀ (l : List Int), l.all scaB = true → (mapF T l).length ≤ 18 * l.length ∧ (mapF T l).all scaB = true
  | [], _ => by simp [mapF]
  | c :: r, hl => by
    simp only [List.all_cons, Bool.and_eq_true] at hl
    obtain ⟨h1, h2⟩ := map1_sca h hl.1
    obtain ⟨h3, h4⟩ := mapF_sca h r hl.2
    have e : mapF T (c :: r) = map1 T c ++ mapF T r := by unfold mapF; rw [List.flatMap_cons]
    rw [e]
    refine ⟨by rw [List.length_append, List.length_cons]; omega, ?_⟩
    rw [List.all_append, h4, List.all_eq_true.2 h2]; rfl

theorem mapF_same {T : Tb} : ∀ {l : List Int}, (∀ y ∈ l, staT T y = 1 ∨ staT T y = 4) → mapF T l = l
  | [], _ => rfl
  | c :: r, h => by
    have e : mapF T (c :: r) = map1 T c ++ mapF T r := by unfold mapF; rw [List.flatMap_cons]
    have hc := h c (by simp)
    rw [e, mapF_same (fun y hy => h y (by simp [hy]))]
    unfold map1
    rw [if_neg (by omega), if_pos hc]; rfl

theorem mapR_mk {T : Tb} {l : List Int} (h1 : accE T l = 0) (h2 : badK T 0 l = none) (h3 : (mapF T l).length ≤ 4096) : mapR T l = (mapF T l, 0, 0) := by
  unfold mapR
  rw [if_neg (by omega), h2]
  simp only
  rw [if_neg (by omega)]

end Go.Proofs.YtopaojjodkoidaaGreatDoor

namespace Go.Proofs.YtopaojjodkoidaaGreatDoor
open Go.RowKit
set_option linter.unusedVariables false

theorem badK_first {T : Tb} : ∀ (m : Nat) (l : List Int) (k : Nat), k < l.length → (∀ j, j < k → staT T (l.getD j 0) ≠ 0) → staT T (l.getD k 0) = 0 → badK T m l = some (m + k)
  | m, [], k, h, _, _ => by simp at h
  | m, c :: r, 0, h, _, hz => by
    rw [badK, if_pos (by simpa using hz)]; rfl
  | m, c :: r, k + 1, h, hg, hz => by
    have h0 := hg 0 (by omega)
    rw [badK, if_neg (by simpa using h0), badK_first (m + 1) r k (by simpa using h) (fun j hj => by have := hg (j + 1) (by omega); simpa only [List.getD_cons_succ] using this) (by simpa only [List.getD_cons_succ] using hz)]
    rw [show m + 1 + k = m + (k + 1) by omega]
theorem badK_all {T : Tb} {l : List Int} (hg : ∀ j, j < l.length → staT T (l.getD j 0) ≠ 0) : badK T 0 l = none :=
  (badK_none 0 l).2 fun c hc => by
    obtain ⟨i, hi, rfl⟩ := List.getElem_of_mem hc
    have := hg i hi
    rwa [show l.getD i 0 = l[i] by simp [hi]] at this
theorem mapF_snoc (T : Tb) (l : List Int) (k : Nat) (h : k < l.length) : mapF T (l.take (k + 1)) = mapF T (l.take k) ++ map1 T (l.getD k 0) := by
  rw [take_snoc_int l k h, mapF_append]
  unfold mapF
  simp
theorem map1_map {T : Tb} {c : Int} (h : staT T c = 3) : map1 T c = mapsT T c := if_pos h
theorem map1_self {T : Tb} {c : Int} (h : staT T c = 1 ∨ staT T c = 4) : map1 T c = [c] := by unfold map1; rw [if_neg (by omega), if_pos h]
theorem map1_none {T : Tb} {c : Int} (h1 : staT T c ≠ 3) (h : ¬ (staT T c = 1 ∨ staT T c = 4)) : map1 T c = [] := by unfold map1; rw [if_neg h1, if_neg h]
theorem mapF_lenT {T : Tb} (hc : checkT T = 0) {l : List Int} (hs : l.all scaB = true) (k : Nat) : (mapF T (l.take k)).length ≤ 18 * k := by
  have h1 := (mapF_sca hc (l.take k) (by
    rw [List.all_eq_true] at hs ⊢
    exact fun c h => hs c (List.mem_of_mem_take h))).1
  have h2 : (l.take k).length ≤ k := by simp; omega
  omega
theorem mapR_acc {T : Tb} {l : List Int} (h : accE T l ≠ 0) : mapR T l = ([], 0, accE T l) := by unfold mapR; rw [if_pos h]
theorem mapR_bad {T : Tb} {l : List Int} {i : Nat} (h : accE T l = 0) (hb : badK T 0 l = some i) : mapR T l = ([], i, 16) := by unfold mapR; rw [if_neg (by omega), hb]
theorem mapR_end {T : Tb} {l : List Int} (h : accE T l = 0) (hb : badK T 0 l = none) : mapR T l = if 4096 < (mapF T l).length then ([], 0, 7) else (mapF T l, 0, 0) := by unfold mapR; rw [if_neg (by omega), hb]

theorem mapR_len (T : Tb) (l : List Int) : (mapR T l).1.length ≤ 4096 := by
  unfold mapR
  split
  · simp
  · cases badK T 0 l with
    | some i => simp
    | none =>
      simp only
      split
      · simp
      · simp only; omega

theorem racce_at (x : TV) (T : Tb) (p : Option Addr) (cap : Nat) (zs : List Int) (E : Int) (w : World) (hx : TabV w x T) (hcap : CapOf x) (hin : IntsIn w p zs) (hl : zs.length ≤ 17592186043904) (hE : Hid (accE T zs = E)) :
    Calls Tryz.prog 42 #[x.agg, .slice p zs.length cap] w (Gives (.int .i64 E) w) := by
  have hac := fun W (h1 : TabV W x T) h2 => racc_at x T p cap zs E W h1 hcap h2 hl hE
  have HE := Lib.hid (Env.new hx)
  have HI := Lib.hid hin
  obtain ⟨n, hn⟩ : ∃ n, zs.length = n := ⟨_, rfl⟩
  rw [hn] at hl hac ⊢
  have HAC := Lib.hid hac
  clear hx hin hn hcap hac
  simp only [TV.agg]
  go_enter Tryz.func42, Tryz.ntmps42
  obtain ⟨⟨k0, k1, k2, k3, k4, k5⟩, ⟨k6, k7, k8, k9, k10, k11⟩⟩ := HE.out.box.load
  go_wp2_with fail
  refine (HAC.out _ HE.out.tab (HI.out.below HE.out.bel)).mono ?_
  rintro e w1 ⟨rfl, hb1⟩
  replace HE := Lib.hid (HE.out.step hb1)
  clear hb1 k0 k1 k2 k3 k4 k5 k6 k7 k8 k9 k10 k11
  go_wp2
  go_ret
  exact ⟨rfl, HE.out.bel⟩

theorem map_one (w : World) (c : Int) : IntsIn (w.alloc (.cells #[.int .i64 c] 3)) (some ⟨w.heap.size, 0, none⟩) [c] := by
  intro k hk
  have : k = 0 := by simp at hk; exact hk
  subst this
  exact ⟨_, _, rfl, by simp [World.cell?_alloc_new]⟩

/-- What Map leaves. -/
def MapRet (L : List Int) (K : Nat) (E : Int) (w : World) (e : Ending) (w' : World) : Prop :=
  ∃ v, e = .returned (.tuple #[v, .int .i64 K, .int .i64 E]) ∧ Ints w' w.heap.size v L ∧ Below w.heap.size w w'

set_option maxRecDepth 100000 in
set_option maxHeartbeats 8000000 in
theorem rmap_at (x : TV) (T : Tb) (p : Option Addr) (cap : Nat) (zs : List Int) (L : List Int) (K : Nat) (E : Int) (w : World) (hx : TabV w x T) (hcap : CapOf x) (hin : IntsIn w p zs) (hl : zs.length ≤ 17592186043904) (hR : Hid (mapR T zs = (L, K, E))) :
    Calls Tryz.prog 51 #[x.agg, .slice p zs.length cap] w (MapRet L K E w) := by
  obtain ⟨A, hA⟩ : ∃ A, Hid (accE T zs = A) := ⟨_, rfl⟩
  have HE := Lib.hid (Env.new hx)
  have HX := Lib.hid hx
  have HI := Lib.hid hin
  have hac := fun W (h1 : TabV W x T) h2 => racce_at x T p cap zs A W h1 hcap h2 hl hA
  obtain ⟨n, hn⟩ : ∃ n, zs.length = n := ⟨_, rfl⟩
  rw [hn] at hl hac ⊢
  have HN := Lib.hid hn
  have HAC := Lib.hid hac
  clear hx hin hn hcap hac
  simp only [TV.agg]
  go_enter Tryz.func51, Tryz.ntmps51
  obtain ⟨⟨k0, k1, k2, k3, k4, k5⟩, ⟨k6, k7, k8, k9, k10, k11⟩⟩ := HE.out.box.load
  go_wp2_with fail
  refine (HAC.out _ HE.out.tab (HI.out.below HE.out.bel)).mono ?_
  rintro e w1 ⟨rfl, hb1⟩
  have HZ : Hid (w.heap.size + 1 ≤ w1.heap.size) := by have := hb1.size; unfold Hid; simpa using this
  replace HE := Lib.hid (HE.out.step hb1)
  clear hb1 k0 k1 k2 k3 k4 k5 k6 k7 k8 k9 k10 k11
  by_cases h0 : A = 0
  · subst h0
    have hn4 : n ≤ 4096 := by rw [← HN.out]; exact (accE_ok hA.out).2.1
    have HV : Hid (checkT T = 0) := (accE_ok hA.out).1
    have HSC : Hid (zs.all scaB = true) := (accE_ok hA.out).2.2
    have HSTA : Hid (spOk T.sta = true) := r2_sta (check_rules HV.out).2.1
    go_wp2
    go_loopw [8, 19] (fun u i wr => ∃ k : Nat, k ≤ n ∧ i = .int .i64 k ∧ Hid (Ints wr (w.heap.size + 1) u (mapF T (zs.take k))) ∧ Hid (∀ j, j < k → staT T (zs.getD j 0) ≠ 0) ∧ Hid (Env w x T wr) ∧ Hid (w.heap.size + 1 ≤ wr.heap.size)) (fun _ i _ => n - (intOf i).toNat)
    case atStart => exact ⟨0, Nat.zero_le _, rfl, by simpa [Hid, mapF] using Ints.nil _ _, fun j hj => by omega, HE, HZ⟩
    case round =>
      obtain ⟨k, hk, rfl, hown, hgd, he, HH⟩ := hrel
      by_cases hlt : k < n
      · have hkl : k < zs.length := by rw [HN.out]; exact hlt
        obtain ⟨b, off, rfl, hck⟩ := (HI.out.below he.out.bel) k hkl
        obtain ⟨c, hc⟩ : ∃ c, zs.getD k 0 = c := ⟨_, rfl⟩
        rw [hc] at hck
        obtain ⟨z, hz⟩ : ∃ z, Hid (staT T c = z) := ⟨_, rfl⟩
        have hsn := mapF_snoc T zs k hkl
        have hml := mapF_lenT HV.out HSC.out k
        rw [hc] at hsn
        have HSN := Lib.hid hsn
        have HGD2 : Hid (z ≠ 0 → ∀ j, j < k + 1 → staT T (zs.getD j 0) ≠ 0) := fun hz0 j hj => by
          by_cases e : j = k
          · subst e; rw [hc, hz.out]; exact hz0
          · exact hgd.out j (by omega)
        have HBAD : Hid (z = 0 → badK T 0 zs = some k) := fun hz0 => by
          have := badK_first 0 zs k hkl hgd.out (by rw [hc, hz.out]; exact hz0)
          rwa [Nat.zero_add] at this
        have HCS : Hid (scaB c = true) := by unfold Hid; exact List.all_eq_true.1 HSC.out c (by rw [← hc]; simp [hkl])
        have HML := Lib.hid hml
        clear hc hsn hml hgd hkl
        obtain ⟨⟨k0, k1, k2, k3, k4, k5⟩, ⟨k6, k7, k8, k9, k10, k11⟩⟩ := he.out.box.load
        go_wp2_with fail
        refine (rstatus_at x T c z _ he.out.tab HSTA.out hz).mono ?_
        rintro e w2 ⟨rfl, hb2⟩
        have HE2 := Lib.hid (he.out.step hb2)
        have HO2 := Lib.hid (hown.out.below hb2)
        have hbz : w.heap.size + 1 ≤ w2.heap.size := Nat.le_trans HH.out hb2.size
        clear hb2 hown he hck k0 k1 k2 k3 k4 k5 k6 k7 k8 k9 k10 k11
        by_cases hz0 : z = 0
        · have d0 : (z == 0) = true := by simp [hz0]
          have HR2 : Hid (L = [] ∧ K = k ∧ E = 16) := by
            have := hR.out
            rw [mapR_bad hA.out (HBAD.out hz0)] at this
            injection this with e1 e2
            injection e2 with e2 e3
            exact ⟨e1.symm, e2.symm, e3.symm⟩
          obtain ⟨e1, e2, e3⟩ := HR2.out
          subst e1; subst e2; subst e3
          clear hz0
          go_wp2
          go_ret3
          exact ⟨_, rfl, Ints.nil _ _, HE2.out.bel⟩
        · have d0 : (z == 0) = false := by simp [hz0]
          have HGD3 := Lib.hid (HGD2.out hz0)
          by_cases hz3 : z = 3
          · have d3 : (z == 3) = true := by simp [hz3]
            obtain ⟨X, hX⟩ : ∃ X, Hid (mapsT T c = X) := ⟨_, rfl⟩
            have HSN2 : Hid (mapF T (zs.take (k + 1)) = mapF T (zs.take k) ++ X) := by unfold Hid; rw [HSN.out, map1_map (by rw [hz.out, hz3]), hX.out]
            have HXL : Hid (X.length ≤ 18) := by
              have := (map1_sca HV.out HCS.out).1
              rw [map1_map (by rw [hz.out, hz3]), hX.out] at this
              exact this
            obtain ⟨⟨k0, k1, k2, k3, k4, k5⟩, ⟨k6, k7, k8, k9, k10, k11⟩⟩ := HE2.out.box.load
            clear hz0 hz3
            go_wp2_with fail
            refine (rmapsOf_at x T c X _ HE2.out.tab hX).mono ?_
            rintro e w3 ⟨p3, n3, c3, rfl, hl3, hn3, hi3, hb3⟩
            have HE3 := Lib.hid (HE2.out.step hb3)
            have HO3 := Lib.hid (HO2.out.below hb3)
            have hbz3 : w.heap.size + 1 ≤ w3.heap.size := Nat.le_trans hbz hb3.size
            have HL3 := Lib.hid hl3
            have HI3 := Lib.hid hi3
            clear hb3 hl3 hn3 hi3 k0 k1 k2 k3 k4 k5 k6 k7 k8 k9 k10 k11
            go_wp2_with (at_builtin; (refine wpList_append_ints (.tmp 32) (.tmp 35) rfl rfl (w.heap.size + 1) u8 (mapF T (zs.take k)) rfl HO3.out p3 n3 c3 X HL3.out rfl HI3.out (by have := HML.out; have := HXL.out; omega) hbz3 ?_); intro v4 w4 ho4 hg4)
            have HO4 : Hid (Ints w4 (w.heap.size + 1) v4 (mapF T (zs.take (k + 1)))) := by unfold Hid; rw [HSN2.out]; exact ho4
            have HE4 : Hid (Env w x T w4) := HE3.out.app HX.out HO3.out hg4
            have HH4 : Hid (w.heap.size + 1 ≤ w4.heap.size) := Nat.le_trans hbz3 hg4.size
            clear ho4 hg4 hbz3 hbz
            go_wp2
            go_roundw
            case rel => exact ⟨k + 1, by omega, by go_num, HO4, HGD3, HE4, HH4⟩
            case measure => simp [intOf]; omega
          · have d3 : (z == 3) = false := by simp [hz3]
            by_cases hz14 : z = 1 ∨ z = 4
            · have HSN2 : Hid (mapF T (zs.take (k + 1)) = mapF T (zs.take k) ++ [c]) := by unfold Hid; rw [HSN.out, map1_self (by rw [hz.out]; exact hz14)]
              rcases hz14 with e1 | e1
              · have d1 : (z == 1) = true := by rw [e1]; decide
                have HA2 := Lib.hid (HE2.out.step ((Below.refl w2.heap.size w2).alloc (Nat.le_refl _) (.cells #[.int .i64 c] 3)))
                have HO3 := Lib.hid (World.ownsRow.alloc HO2.out (.cells #[.int .i64 c] 3))
                have hsa : w.heap.size + 1 ≤ (w2.alloc (.cells #[.int .i64 c] 3)).heap.size := by simp; omega
                clear e1 hz0 hz3
                go_wp2_with (at_builtin; (refine wpList_append_ints (.tmp 40) (.tmp 42) rfl rfl (w.heap.size + 1) u8 (mapF T (zs.take k)) rfl HO3.out (some ⟨w2.heap.size, 0, none⟩) 1 1 [c] rfl rfl (map_one w2 c) (by have := HML.out; simp; omega) hsa ?_); intro v4 w4 ho4 hg4)
                have HO4 : Hid (Ints w4 (w.heap.size + 1) v4 (mapF T (zs.take (k + 1)))) := by unfold Hid; rw [HSN2.out]; exact ho4
                have HE4 : Hid (Env w x T w4) := HA2.out.app HX.out HO3.out hg4
                have HH4 : Hid (w.heap.size + 1 ≤ w4.heap.size) := Nat.le_trans hsa hg4.size
                clear ho4 hg4 hsa hbz
                go_wp2
                go_roundw
                case rel => exact ⟨k + 1, by omega, by go_num, HO4, HGD3, HE4, HH4⟩
                case measure => simp [intOf]; omega
              · have d1 : (z == 1) = false := by rw [e1]; decide
                have d4 : (z == 4) = true := by rw [e1]; decide
                have HA2 := Lib.hid (HE2.out.step ((Below.refl w2.heap.size w2).alloc (Nat.le_refl _) (.cells #[.int .i64 c] 3)))
                have HO3 := Lib.hid (World.ownsRow.alloc HO2.out (.cells #[.int .i64 c] 3))
                have hsa : w.heap.size + 1 ≤ (w2.alloc (.cells #[.int .i64 c] 3)).heap.size := by simp; omega
                clear e1 hz0 hz3
                go_wp2_with (at_builtin; (refine wpList_append_ints (.tmp 40) (.tmp 42) rfl rfl (w.heap.size + 1) u8 (mapF T (zs.take k)) rfl HO3.out (some ⟨w2.heap.size, 0, none⟩) 1 1 [c] rfl rfl (map_one w2 c) (by have := HML.out; simp; omega) hsa ?_); intro v4 w4 ho4 hg4)
                have HO4 : Hid (Ints w4 (w.heap.size + 1) v4 (mapF T (zs.take (k + 1)))) := by unfold Hid; rw [HSN2.out]; exact ho4
                have HE4 : Hid (Env w x T w4) := HA2.out.app HX.out HO3.out hg4
                have HH4 : Hid (w.heap.size + 1 ≤ w4.heap.size) := Nat.le_trans hsa hg4.size
                clear ho4 hg4 hsa hbz
                go_wp2
                go_roundw
                case rel => exact ⟨k + 1, by omega, by go_num, HO4, HGD3, HE4, HH4⟩
                case measure => simp [intOf]; omega
            · have d1 : (z == 1) = false := by simp; omega
              have d4 : (z == 4) = false := by simp; omega
              have HSN2 : Hid (mapF T (zs.take (k + 1)) = mapF T (zs.take k)) := by unfold Hid; rw [HSN.out, map1_none (by rw [hz.out]; exact hz3) (by rw [hz.out]; exact hz14), List.append_nil]
              have HO4 : Hid (Ints w2 (w.heap.size + 1) u8 (mapF T (zs.take (k + 1)))) := by unfold Hid; rw [HSN2.out]; exact HO2.out
              have HH4 : Hid (w.heap.size + 1 ≤ w2.heap.size) := hbz
              clear hz0 hz3 hz14 hbz
              go_wp2
              go_roundw
              case rel => exact ⟨k + 1, by omega, by go_num, HO4, HGD3, HE2, HH4⟩
              case measure => simp [intOf]; omega
      · obtain rfl : k = n := by omega
        have hown2 := hown.out
        rw [List.take_of_length_le (Nat.le_of_eq HN.out)] at hown2
        obtain ⟨pu, cu, hu, hiu⟩ := hown2.inn
        have HO5 := Lib.hid (ownsRow_mono hown2 (show w.heap.size ≤ w.heap.size + 1 by omega))
        have HML : Hid ((mapF T zs).length ≤ 18 * 4096) := by
          have := mapF_lenT HV.out HSC.out zs.length
          rw [List.take_of_length_le (Nat.le_refl _)] at this
          have := HN.out
          unfold Hid; omega
        have HEND := Lib.hid (mapR_end hA.out (badK_all (fun j hj => hgd.out j (by rw [← HN.out]; exact hj))))
        obtain ⟨nn, hnn⟩ : ∃ nn, (mapF T zs).length = nn := ⟨_, rfl⟩
        rw [hnn] at hu HEND HML
        subst hu
        have hml := HML.out
        clear hown2 hiu hown hgd
        by_cases hbig : 4096 < nn
        · have d1 : decide ((4096 : Int) < (nn : Int)) = true := decide_eq_true (by omega)
          have HR2 : Hid (L = [] ∧ K = 0 ∧ E = 7) := by
            have := hR.out
            rw [HEND.out, if_pos hbig] at this
            injection this with e1 e2
            injection e2 with e2 e3
            exact ⟨e1.symm, e2.symm, e3.symm⟩
          obtain ⟨e1, e2, e3⟩ := HR2.out
          subst e1; subst e2; subst e3
          go_wp2
          go_ret3
          exact ⟨_, rfl, Ints.nil _ _, he.out.bel⟩
        · have d1 : decide ((4096 : Int) < (nn : Int)) = false := decide_eq_false (by omega)
          have HR2 : Hid (L = mapF T zs ∧ K = 0 ∧ E = 0) := by
            have := hR.out
            rw [HEND.out, if_neg hbig] at this
            injection this with e1 e2
            injection e2 with e2 e3
            exact ⟨e1.symm, e2.symm, e3.symm⟩
          obtain ⟨e1, e2, e3⟩ := HR2.out
          subst e1; subst e2; subst e3
          go_wp2
          go_ret3
          rw [← hnn] at HO5
          exact ⟨_, rfl, by rw [← hnn]; exact HO5.out, he.out.bel⟩
  · have d0 : (A != 0) = true := by simp [h0]
    have HR2 : Hid (L = [] ∧ K = 0 ∧ E = A) := by
      have := hR.out
      rw [mapR_acc (by rw [hA.out]; exact h0), hA.out] at this
      injection this with e1 e2
      injection e2 with e2 e3
      exact ⟨e1.symm, e2.symm, e3.symm⟩
    obtain ⟨e1, e2, e3⟩ := HR2.out
    subst e1; subst e2; subst e3
    clear h0
    go_wp2
    go_ret3
    exact ⟨_, rfl, Ints.nil _ _, HE.out.bel⟩

set_option maxRecDepth 100000 in
set_option maxHeartbeats 4000000 in
theorem rstable_at (x : TV) (T : Tb) (p : Option Addr) (cap : Nat) (zs : List Int) (B : Bool) (w : World) (hx : TabV w x T) (hcap : CapOf x) (hin : IntsIn w p zs) (hl : zs.length ≤ 17592186043904) (hB : Hid (stbB T zs = B)) :
    Calls Tryz.prog 20 #[x.agg, .slice p zs.length cap] w (Gives (.bool B) w) := by
  obtain ⟨L, K, E, hR⟩ : ∃ L K E, Hid (mapR T zs = (L, K, E)) := ⟨_, _, _, rfl⟩
  have HE := Lib.hid (Env.new hx)
  have HI := Lib.hid hin
  have hmp := fun W (h1 : TabV W x T) h2 => rmap_at x T p cap zs L K E W h1 hcap h2 hl hR
  have HLL : Hid (L.length ≤ 17592186043904) := by unfold Hid; have := mapR_len T zs; rw [hR.out] at this; exact Nat.le_trans this (by decide)
  have HBE : Hid (B = (decide (E = 0) && (L == zs))) := by unfold Hid; rw [← hB.out]; unfold stbB; rw [hR.out]
  obtain ⟨n, hn⟩ : ∃ n, zs.length = n := ⟨_, rfl⟩
  rw [hn] at hl hmp ⊢
  have HN := Lib.hid hn
  have HMP := Lib.hid hmp
  clear hx hin hn hcap hmp
  simp only [TV.agg]
  go_enter Tryz.func20, Tryz.ntmps20
  obtain ⟨⟨k0, k1, k2, k3, k4, k5⟩, ⟨k6, k7, k8, k9, k10, k11⟩⟩ := HE.out.box.load
  go_wp2_with fail
  refine (HMP.out _ HE.out.tab (HI.out.below HE.out.bel)).mono ?_
  rintro e w1 ⟨v1, rfl, ho1, hb1⟩
  replace HE := Lib.hid (HE.out.step hb1)
  have HO1 := Lib.hid ho1
  clear ho1 hb1 k0 k1 k2 k3 k4 k5 k6 k7 k8 k9 k10 k11
  by_cases h0 : E = 0
  · subst h0
    obtain ⟨C, hC⟩ : ∃ C, Hid ((L == zs) = C) := ⟨_, rfl⟩
    have HBC : Hid (B = C) := by unfold Hid; rw [HBE.out, hC.out]; simp
    go_wp2_with fail
    refine (rsame_at v1 (.slice p n cap) L zs C _ (HO1.out.inV HLL.out) ⟨p, cap, by rw [HN.out], HI.out.below HE.out.bel, by rw [HN.out]; exact hl⟩ hC).mono ?_
    rintro e w2 ⟨rfl, hb2⟩
    replace HE := Lib.hid (HE.out.step hb2)
    clear hb2
    go_wp2
    go_ret
    exact ⟨by rw [HBC.out]; rfl, HE.out.bel⟩
  · have d0 : (E == 0) = false := by simp [h0]
    have HBC : Hid (B = false) := by unfold Hid; rw [HBE.out]; simp [h0]
    clear h0
    go_wp2
    go_ret
    exact ⟨by rw [HBC.out]; rfl, HE.out.bel⟩

end Go.Proofs.YtopaojjodkoidaaGreatDoor
