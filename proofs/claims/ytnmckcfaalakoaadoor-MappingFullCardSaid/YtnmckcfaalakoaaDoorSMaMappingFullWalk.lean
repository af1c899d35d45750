/-
  The walk of MappingFull (genML.py).
-/
import Derived.Test.YtnmckcfaalakoaaDoorSMaMapLaw
import Derived.Test.YtnmckcfaalakoaaDoorSMaPkD
import Derived.Laws.OwnMore
set_option linter.unusedSimpArgs false
set_option linter.unusedVariables false
namespace Go.Proofs.YtnmckcfaalakoaaDoor
open Go.RowKit
set_option linter.unusedVariables false

def fullT : Tb := ⟨[], [], [], [], [], [(128512, 128512, 3)], [], [], [(128512, [97, 98])], [], [], []⟩
def fullX (g : Nat) : TV := ⟨.slice none 0 0, .slice none 0 0, .slice none 0 0, .slice none 0 0, .slice none 0 0, .slice (some ⟨g, 0, none⟩) 1 1, .slice none 0 0, .slice none 0 0, .slice (some ⟨g + 1 + 1, 0, none⟩) 1 1, .slice none 0 0, .slice none 0 0, .slice none 0 0⟩
theorem full_check : checkT fullT = 0 := by decide +kernel
theorem full_one : map1 fullT 128512 = [97, 98] := by decide +kernel
theorem full_sta : staT fullT 128512 ≠ 0 := by decide +kernel
theorem full_map : ∀ k : Nat, (mapF fullT (List.replicate k 128512)).length = 2 * k
  | 0 => rfl
  | k + 1 => by
    have e : mapF fullT (List.replicate (k + 1) 128512) = map1 fullT 128512 ++ mapF fullT (List.replicate k 128512) := by unfold mapF; rw [List.replicate_succ, List.flatMap_cons]
    rw [e, full_one, List.length_append, full_map k]
    simp; omega
theorem full_res (k : Nat) (hk : k ≤ 2049) {L : List Int} {K : Nat} {E : Int} (h : mapR fullT (List.replicate k 128512) = (L, K, E)) : K = 0 ∧ (4096 < 2 * k → E = 7) ∧ (¬ 4096 < 2 * k → E = 0 ∧ L.length = 2 * k) := by
  have ha : accE fullT (List.replicate k 128512) = 0 := accE_zero full_check (by simp; omega) (by rw [List.all_eq_true]; intro c hc; rw [List.eq_of_mem_replicate hc]; decide)
  have hb : badK fullT 0 (List.replicate k 128512) = none := (badK_none 0 _).2 fun c hc => by rw [List.eq_of_mem_replicate hc]; exact full_sta
  rw [mapR_end ha hb, full_map] at h
  by_cases hk2 : 4096 < 2 * k
  · rw [if_pos hk2] at h
    injection h with h1 h2
    injection h2 with h2 h3
    exact ⟨h2.symm, fun _ => h3.symm, fun q => absurd hk2 q⟩
  · rw [if_neg hk2] at h
    injection h with h1 h2
    injection h2 with h2 h3
    exact ⟨h2.symm, fun q => absurd q hk2, fun _ => ⟨h3.symm, by rw [← h1, full_map]⟩⟩
theorem lit_cellsF (w : World) (C : Array Value) (t : TypeId) : ∀ k v, C[k]? = some v → (w.alloc (.cells C t)).cell? ⟨w.heap.size, k, none⟩ = some v := by
  intro k v h
  rw [World.cell?_alloc_new, h]
theorem cells_allocF {w : World} {g : Nat} {C : Array Value} (h : ∀ k v, C[k]? = some v → w.cell? ⟨g, k, none⟩ = some v) (o : Obj) : ∀ k v, C[k]? = some v → (w.alloc o).cell? ⟨g, k, none⟩ = some v := by
  intro k v hk
  have h1 := h k v hk
  exact (((Below.refl w.heap.size w).alloc (Nat.le_refl _) o).cell (p := ⟨g, k, none⟩) (World.block_lt_of_cell? w _ h1)).trans h1
theorem full_tab (W : World) (g : Nat) (h0 : ∀ k v, #[Value.int .i64 128512, .int .i64 128512, .int .i64 3][k]? = some v → W.cell? ⟨g, k, none⟩ = some v)
    (h1 : IntsIn W (some ⟨g + 1, 0, none⟩) [97, 98]) (h2 : ∀ k v, #[Value.int .i64 128512, .slice (some ⟨g + 1, 0, none⟩) 2 2][k]? = some v → W.cell? ⟨g + 1 + 1, k, none⟩ = some v) : TabV W (fullX g) fullT := by
  have hs : SpV W (.slice (some ⟨g, 0, none⟩) 1 1) fullT.sta := by
    refine ⟨_, 1, rfl, fun k hk => ?_, by decide⟩
    obtain rfl : k = 0 := by have : k < 1 := hk; omega
    exact ⟨g, 0, rfl, h0 0 _ rfl, h0 1 _ rfl, h0 2 _ rfl⟩
  have hm : MpV W (.slice (some ⟨g + 1 + 1, 0, none⟩) 1 1) fullT.map := by
    refine ⟨_, 1, rfl, fun k hk => ?_, by decide⟩
    obtain rfl : k = 0 := by have : k < 1 := hk; omega
    exact ⟨g + 1 + 1, 0, _, rfl, h2 0 _ rfl, h2 1 _ rfl, ⟨_, 2, rfl, h1, by decide⟩⟩
  exact ⟨nil_sp W, nil_sp W, nil_sp W, nil_sp W, nil_sp W, hs, nil_sp W, nil_mp W, hm, nil_mp W, nil_in W, nil_mp W⟩
theorem fullInts (w : World) (B c : Nat) (hB : B ≤ w.heap.size) (hc : c ≤ 4194304) : Ints (w.alloc (madeI c)) B (.slice (some ⟨w.heap.size, 0, none⟩) c c) (List.replicate c 0) := by
  unfold Ints madeI
  have e : (Value.cells (.int .i64 0)) = #[.int .i64 0] := rfl
  rw [e]
  refine ⟨by simp, .inr ⟨w.heap.size, c, _, by simp, hB, heap_alloc_new w _, by simp, by unfold maxLen; omega, by simp [size_madeCells], ?_⟩⟩
  rw [toList_madeCells_one]; simp
theorem fullRow {w : World} {B g n c : Nat} {xs : List Int} (h : Ints w B (.slice (some ⟨g, 0, none⟩) n c) xs) (hn : xs.length = n) (k : Nat) (hk : k < n) :
    w.cell? ⟨g, k, none⟩ = some (.int .i64 (xs.getD k 0)) ∧ w.frozen? ⟨g, k, none⟩ = false ∧ B ≤ g := by
  obtain ⟨g', c', e, h1, _, h3, h4⟩ := h.row (by omega)
  injection e with e1 _ _
  injection e1 with e1
  injection e1 with e1 _ _
  subst e1
  exact ⟨h3 k (by omega), h4 k, h1⟩
theorem full_set (c : Int) (j K : Nat) (h : j < K) : (List.replicate j c ++ List.replicate (K - j) 0).set j c = List.replicate (j + 1) c ++ List.replicate (K - (j + 1)) 0 := by
  obtain ⟨d, hd⟩ : ∃ d, K - j = d + 1 := ⟨K - j - 1, by omega⟩
  have hd2 : K - (j + 1) = d := by omega
  rw [hd, hd2, List.set_append_right _ _ (by simp), List.replicate_succ, List.replicate_succ']
  simp

set_option maxRecDepth 100000 in
set_option maxHeartbeats 8000000 in
theorem mappingFull_walk (n0 : Int) (w : World)  (hr : Rsv w) :
    Calls Tryd.prog 7 #[.int .i64 n0] w (Gives (.bool true) w) := by
  have HR := Lib.hid hr
  clear hr
  have b0 : Below w.heap.size w (w.alloc (.cells #[.int .i64 128512, .int .i64 128512, .int .i64 3] 41)) := (Below.refl _ _).alloc (Nat.le_refl _) _
  have b1 : Below w.heap.size w ((w.alloc (.cells #[.int .i64 128512, .int .i64 128512, .int .i64 3] 41)).alloc (.cells #[.int .i64 97, .int .i64 98] 3)) := b0.alloc (by simp) _
  have b2 : Below w.heap.size w (((w.alloc (.cells #[.int .i64 128512, .int .i64 128512, .int .i64 3] 41)).alloc (.cells #[.int .i64 97, .int .i64 98] 3)).alloc (.cells #[.int .i64 128512, .slice (some ⟨w.heap.size + 1, 0, none⟩) 2 2] 43)) := b1.alloc (by simp; omega) _
  have b3 : Below w.heap.size w ((((w.alloc (.cells #[.int .i64 128512, .int .i64 128512, .int .i64 3] 41)).alloc (.cells #[.int .i64 97, .int .i64 98] 3)).alloc (.cells #[.int .i64 128512, .slice (some ⟨w.heap.size + 1, 0, none⟩) 2 2] 43)).alloc (.cells (tabCells (fullX w.heap.size)) 26)) := b2.alloc (by simp; omega) _
  have z0 : (w.alloc (.cells #[.int .i64 128512, .int .i64 128512, .int .i64 3] 41)).heap.size = w.heap.size + 1 := by simp
  have z1 : ((w.alloc (.cells #[.int .i64 128512, .int .i64 128512, .int .i64 3] 41)).alloc (.cells #[.int .i64 97, .int .i64 98] 3)).heap.size = w.heap.size + 1 + 1 := by simp
  have z2 : (((w.alloc (.cells #[.int .i64 128512, .int .i64 128512, .int .i64 3] 41)).alloc (.cells #[.int .i64 97, .int .i64 98] 3)).alloc (.cells #[.int .i64 128512, .slice (some ⟨w.heap.size + 1, 0, none⟩) 2 2] 43)).heap.size = w.heap.size + 1 + 1 + 1 := by simp
  have c0 := cells_allocF (cells_allocF (cells_allocF (lit_cellsF w #[.int .i64 128512, .int .i64 128512, .int .i64 3] 41) (.cells #[.int .i64 97, .int .i64 98] 3)) (.cells #[.int .i64 128512, .slice (some ⟨w.heap.size + 1, 0, none⟩) 2 2] 43)) (.cells (tabCells (fullX w.heap.size)) 26)
  have c1 := RowIn.below (RowIn.below (lit_ints (w.alloc (.cells #[.int .i64 128512, .int .i64 128512, .int .i64 3] 41)) #[.int .i64 97, .int .i64 98] [97, 98] 3 rfl) ((Below.refl _ _).alloc (Nat.le_refl _) (.cells #[.int .i64 128512, .slice (some ⟨w.heap.size + 1, 0, none⟩) 2 2] 43))) ((Below.refl _ _).alloc (Nat.le_refl _) (.cells (tabCells (fullX w.heap.size)) 26))
  have c2 := cells_allocF (lit_cellsF ((w.alloc (.cells #[.int .i64 128512, .int .i64 128512, .int .i64 3] 41)).alloc (.cells #[.int .i64 97, .int .i64 98] 3)) #[.int .i64 128512, .slice (some ⟨w.heap.size + 1, 0, none⟩) 2 2] 43) (.cells (tabCells (fullX w.heap.size)) 26)
  rw [z0] at c1
  rw [z1] at c2
  have HT1 : Hid (TabV ((((w.alloc (.cells #[.int .i64 128512, .int .i64 128512, .int .i64 3] 41)).alloc (.cells #[.int .i64 97, .int .i64 98] 3)).alloc (.cells #[.int .i64 128512, .slice (some ⟨w.heap.size + 1, 0, none⟩) 2 2] 43)).alloc (.cells (tabCells (fullX w.heap.size)) 26)) (fullX w.heap.size) fullT) := full_tab _ _ c0 c1 c2
  have hx := BoxT.new (((w.alloc (.cells #[.int .i64 128512, .int .i64 128512, .int .i64 3] 41)).alloc (.cells #[.int .i64 97, .int .i64 98] 3)).alloc (.cells #[.int .i64 128512, .slice (some ⟨w.heap.size + 1, 0, none⟩) 2 2] 43)) (fullX w.heap.size) 26
  rw [z2] at hx
  have HX1 := Lib.hid hx
  have HB1 := Lib.hid b3
  clear b0 b1 b2 b3 z0 z1 z2 c0 c1 c2 hx
  simp only [tabCells, fullX] at HT1 HX1 HB1
  go_enter Tryd.func7, Tryd.ntmps7
  obtain ⟨j0, HJ, hj3⟩ := pickN_nm n0 3 (by omega)
  go_wp2_with fail
  generalize ((((w.alloc (.cells #[.int .i64 128512, .int .i64 128512, .int .i64 3] 41)).alloc (.cells #[.int .i64 97, .int .i64 98] 3)).alloc (.cells #[.int .i64 128512, .slice (some ⟨w.heap.size + 1, 0, none⟩) 2 2] 43)).alloc (.cells #[.slice none 0 0, .slice none 0 0, .slice none 0 0, .slice none 0 0, .slice none 0 0, .slice (some ⟨w.heap.size, 0, none⟩) 1 1, .slice none 0 0, .slice none 0 0, .slice (some ⟨w.heap.size + 1 + 1, 0, none⟩) 1 1, .slice none 0 0, .slice none 0 0, .slice none 0 0] 26)) = W at HT1 HX1 HB1 ⊢
  generalize w.heap.size + 1 + 1 + 1 = g at HX1 ⊢
  generalize (⟨.slice none 0 0, .slice none 0 0, .slice none 0 0, .slice none 0 0, .slice none 0 0, .slice (some ⟨w.heap.size, 0, none⟩) 1 1, .slice none 0 0, .slice none 0 0, .slice (some ⟨w.heap.size + 1 + 1, 0, none⟩) 1 1, .slice none 0 0, .slice none 0 0, .slice none 0 0⟩ : TV) = x at HT1 HX1
  have HE : Hid (LEnv w g x fullT W) := ⟨HT1.out, HX1.out, HB1.out⟩
  clear HT1 HX1 HB1
  refine (pickN_at n0 3 j0 _ (by omega) (by omega) HJ).mono ?_
  rintro e w2 ⟨rfl, rfl⟩
  obtain ⟨s, hs⟩ : ∃ s, 2048 + j0 = s := ⟨_, rfl⟩
  obtain ⟨K, hK⟩ : ∃ K, s - 1 = K := ⟨_, rfl⟩
  obtain ⟨P, hP⟩ : ∃ P, 2 * K = P := ⟨_, rfl⟩
  have hK1 : 2047 ≤ K := by omega
  have hK2 : K ≤ 2049 := by omega
  have s1 : (2048 : Int) + (j0 : Int) = (s : Int) := by omega
  have s2 : IntKind.i64.wrap (s : Int) = (s : Int) := IntWalk.i64_in _ (by omega)
  have s3 : (s : Int) - 1 = (K : Int) := by omega
  have s4 : IntKind.i64.wrap (K : Int) = (K : Int) := IntWalk.i64_in _ (by omega)
  have hPi : (2 : Int) * (K : Int) = (P : Int) := by omega
  have hPw : IntKind.i64.wrap (P : Int) = (P : Int) := IntWalk.i64_in _ (by omega)
  have HP := Lib.hid hP
  have HPI := Lib.hid hPi
  have HPW := Lib.hid hPw
  have hmk := run_make_full K (by omega)
  clear hs hK hP hPi hPw HJ
  go_wp2
  clear s1 s2 s3 hmk
  go_loopw [24] (fun i wr => ∃ j : Nat, j ≤ K ∧ i = .int .i64 j ∧ Hid (Ints wr W.heap.size (.slice (some ⟨W.heap.size, 0, none⟩) K K) (List.replicate j 128512 ++ List.replicate (K - j) 0)) ∧ Hid (Below W.heap.size W wr)) (fun i _ => K - (intOf i).toNat)
  case atStart => exact ⟨0, Nat.zero_le _, rfl, by simpa [Hid] using fullInts W W.heap.size K (Nat.le_refl _) (by omega), (Below.refl _ _).alloc (Nat.le_refl _) _⟩
  case round =>
    obtain ⟨j, hj, rfl, hown, hbel⟩ := hrel
    by_cases hlt : j < K
    · have hlen : (List.replicate j (128512 : Int) ++ List.replicate (K - j) 0).length = K := by simp; omega
      obtain ⟨hce, hfr, hge⟩ := fullRow hown.out hlen j hlt
      have hset := hown.out.set hlen j 128512
      rw [full_set 128512 j K hlt] at hset
      have HSET := Lib.hid hset
      have HBS : Hid (Below W.heap.size W (wr.setCell ⟨W.heap.size, j, none⟩ (.int .i64 128512))) := hbel.out.grown (grownBy_store wr W.heap.size j (.int .i64 128512)) hbel.out.size (fun k e => by injection e with e; omega)
      clear hset hge hlen
      go_wp2
      go_roundw
      case rel => exact ⟨j + 1, by omega, by go_num, HSET, HBS⟩
      case measure => simp [intOf]; omega
    · obtain rfl : j = K := by omega
      have hown2 := hown.out
      rw [Nat.sub_self, List.replicate_zero, List.append_nil] at hown2
      have HE3 := Lib.hid (HE.out.step hbel.out)
      have HIN := Lib.hid hown2.cells_in
      obtain ⟨L, I, F, hR⟩ : ∃ L I F, Hid (mapR fullT (List.replicate j 128512) = (L, I, F)) := ⟨_, _, _, rfl⟩
      obtain ⟨hI, h7, h0⟩ := full_res j hK2 hR.out
      subst hI
      rw [HP.out] at h7 h0
      obtain ⟨nl, hnl⟩ : ∃ n, L.length = n := ⟨_, rfl⟩
      have hmp := fun W9 (h1 : TabV W9 x fullT) h2 h3 => map_at x fullT (some ⟨W.heap.size, 0, none⟩) j (List.replicate j 128512) L 0 F W9 h1 h2 h3 (by simp; omega) hR
      rw [List.length_replicate] at hmp
      rw [hnl] at h0
      have HMP := Lib.hid hmp
      have HNL := Lib.hid hnl
      have H7 := Lib.hid h7
      have H0 := Lib.hid h0
      clear hown2 h7 h0 hmp hnl hown hbel hR
      obtain ⟨⟨k0, k1, k2, k3, k4, k5⟩, ⟨k6, k7, k8, k9, k10, k11⟩⟩ := HE3.out.box.load
      go_wp2_with fail
      refine (HMP.out _ HE3.out.tab (HR.out.below HE3.out.bel) HIN.out).mono ?_
      rintro e w6 ⟨v6, rfl, ho6, hb⟩
      obtain ⟨p6, c6, e6, _⟩ := ho6.inn
      rw [HNL.out] at e6
      subst e6
      replace HE3 := Lib.hid (HE3.out.step hb)
      clear ho6 hb k0 k1 k2 k3 k4 k5 k6 k7 k8 k9 k10 k11 HIN HMP HE
      have hPi := HPI.out
      have hPw := HPW.out
      by_cases hbig : 4096 < P
      · obtain rfl := H7.out hbig
        have t1 : decide ((4096 : Int) < (P : Int)) = true := decide_eq_true (by omega)
        have t2 : decide ((P : Int) ≤ 4096) = false := decide_eq_false (by omega)
        clear hbig
        go_wp2_with fail
        refine (awake13_any _ (HR.out.below HE3.out.bel)).mono ?_
        rintro e w9 ⟨rfl, hb⟩
        have HBZ := Lib.hid (HE3.out.step hb).bel
        clear hb
        go_wp2
        go_ret
        exact ⟨rfl, HBZ.out⟩
      · obtain ⟨rfl, rfl⟩ := H0.out hbig
        have t1 : decide ((4096 : Int) < (nl : Int)) = false := decide_eq_false (by omega)
        have t2 : decide ((nl : Int) ≤ 4096) = true := decide_eq_true (by omega)
        have t3 : ((nl : Int) == (nl : Int)) = true := by simp
        clear hbig
        go_wp2_with fail
        refine (awake13_any _ (HR.out.below HE3.out.bel)).mono ?_
        rintro e w9 ⟨rfl, hb⟩
        have HBZ := Lib.hid (HE3.out.step hb).bel
        clear hb
        go_wp2
        go_ret
        exact ⟨rfl, HBZ.out⟩

end Go.Proofs.YtnmckcfaalakoaaDoor
