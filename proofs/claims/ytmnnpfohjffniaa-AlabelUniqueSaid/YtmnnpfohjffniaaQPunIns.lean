/-
  slices.Insert of one int where there is room.
-/
import Derived.Test.YtmnnpfohjffniaaQPunRow
import Derived.Shelf.Spec.SlicesInsert
set_option linter.unusedSimpArgs false
set_option linter.unusedVariables false
namespace Go.Proofs.Ytmnnpfohjffniaa
open Go.RowKit Go.Sort Go.Lib
set_option linter.unusedVariables false

theorem row_setCells (g : Nat) (t : TypeId) (fz : Nat × Nat) : ∀ (vs : List Value) (o : Nat) (w : World) (cur : Array Value), w.heap[g]? = some (.cells cur t fz) →
    ∃ cur' : Array Value, (w.setCells g o vs).heap[g]? = some (.cells cur' t fz) ∧ cur'.size = cur.size
  | [], o, w, cur, h => ⟨cur, h, rfl⟩
  | v :: r, o, w, cur, h => by
    have h1 : (w.setCell ⟨g, o, none⟩ v).heap[g]? = some (.cells (cur.setIfInBounds o v) t fz) := by
      rw [setCell_eq_setRow w g o cur _ _ _ h]; exact setRow_heap w g cur _ _ _ h
    obtain ⟨c2, h2, h3⟩ := row_setCells g t fz r (o + 1) _ _ h1
    exact ⟨c2, h2, by rw [h3]; simp⟩

theorem grown_setCells (g : Nat) : ∀ (vs : List Value) (o : Nat) (w : World), w.grownBy (w.setCells g o vs) (some g)
  | [], o, w => grown_refl _ _
  | v :: r, o, w => grownBy_trans (grownBy_store w g o v) (grown_setCells g r (o + 1) _)

theorem SRow.of {w : World} {g cap : Nat} {cur : Array Value} {d : Array Int} (h : w.heap[g]? = some (.cells cur 3 (0, 0))) (hc : cur.size = cap) (hd : d.size ≤ cap) (hh : ∀ i, i < d.size → w.cell? ⟨g, i, none⟩ = some (.int .i64 d[i]!)) : SRow w g cap d :=
  ⟨cur, h, hc, hd, fun i hi => by have := hh i hi; simpa [World.cell?, h] using this⟩

theorem getBang_list (L : List Int) {i : Nat} (h : i < L.length) : (L.toArray)[i]! = L.getD i 0 := by
  rw [getElem!_pos _ i (by simpa using h)]; simp [h]

theorem putD_getD {L : List Int} {x : Int} {i k : Nat} (hi : i ≤ L.length) (hk : k < L.length + 1) : (putD L x i).getD k 0 = if k < i then L.getD k 0 else if k = i then x else L.getD (k - 1) 0 := by
  unfold putD
  have hl : (L.take i).length = i := by simp; omega
  rw [List.getD_eq_getElem?_getD]
  by_cases h1 : k < i
  · rw [if_pos h1, List.getElem?_append_left (by omega), List.getElem?_take, if_pos h1]; rfl
  · rw [if_neg h1, List.getElem?_append_right (by omega), hl]
    by_cases h2 : k = i
    · rw [if_pos h2, h2, Nat.sub_self]; rfl
    · rw [if_neg h2]
      obtain ⟨j, hj⟩ : ∃ j, k - i = j + 1 := ⟨k - i - 1, by omega⟩
      rw [hj, List.getElem?_cons_succ, List.getElem?_drop]
      rw [show i + j = k - 1 by omega]; rfl
theorem putD_length {L : List Int} {x : Int} {i : Nat} (hi : i ≤ L.length) : (putD L x i).length = L.length + 1 := by unfold putD; simp; omega

theorem pun_stepN {w w1 w2 : World} {row : Option Nat} (h : w.grownBy w1 none) (k : w1.grownBy w2 row) : w.grownBy w2 row :=
  ⟨k.os.trans h.os, k.tape.trans h.tape, k.output.trans h.output, Nat.le_trans h.size k.size, fun i hi hne => (k.block i (Nat.lt_of_lt_of_le hi h.size) hne).trans (h.block i hi (by simp))⟩

def InsPost (g cap : Nat) (L : List Int) (w : World) (e : Ending) (w' : World) : Prop :=
  e = .returned (.slice (some ⟨g, 0, none⟩) L.length cap) ∧ SRow w' g cap L.toArray ∧ w.grownBy w' (some g)

set_option maxHeartbeats 4000000 in
set_option maxRecDepth 100000 in
theorem insert_end (g cap : Nat) (L : List Int) (x : Int) (w : World) (hs : SRow w g cap L.toArray) (hroom : L.length + 1 ≤ cap) (hc : cap ≤ 4194304) :
    Calls Try.prog 54 #[.slice (some ⟨g, 0, none⟩) L.length cap, .int .i64 L.length, .slice (some ⟨w.heap.size, 0, none⟩) 1 1] (w.alloc (.cells #[.int .i64 x] 3)) (InsPost g cap (putD L x L.length) w) := by
  obtain ⟨n, hn⟩ : ∃ n, L.length = n := ⟨_, rfl⟩
  obtain ⟨cur, h1, h2, h3, h4⟩ := hs
  have hgl := (Array.getElem?_eq_some_iff.1 h1).1
  have hA : (w.alloc (.cells #[.int .i64 x] 3)).heap[g]? = some (.cells cur 3 (0, 0)) := by
    rw [(World.grownBy_alloc w (.cells #[.int .i64 x] 3) none).block g hgl (by simp)]; exact h1
  have hvx : (w.alloc (.cells #[.int .i64 x] 3)).cell? ⟨w.heap.size, 0, none⟩ = some (.int .i64 x) := by simp [World.cell?_alloc_new]
  obtain ⟨W, hW⟩ : ∃ W, w.alloc (.cells #[.int .i64 x] 3) = W := ⟨_, rfl⟩
  have HGW : Hid (w.grownBy W none) := by rw [← hW]; exact World.grownBy_alloc _ _ _
  obtain ⟨gv, hgv⟩ : ∃ gv, w.heap.size = gv := ⟨_, rfl⟩
  rw [hW, hgv] at hvx
  rw [hW] at hA
  rw [hW, hgv, hn]
  have hne : gv ≠ g := by omega
  have hsrc : Go.Src Try.prog 1 22 (.slice (some ⟨gv, 0, none⟩) 1 1) 1 [.int .i64 x] W := Go.Src.ofSlice W Try.underlying22 ⟨gv, 0, none⟩ 1 1 [.int .i64 x] (by simp) (fun j u hj => by
    rw [Addr.add_lit]
    cases j with
    | zero => simp at hj; subst hj; exact hvx
    | succ j => simp at hj) (by simp [Value.oneCell'])
  have HA := Lib.hid hA
  have hsp : ∀ j, j < [Value.int .i64 x].length → (W.cell? ⟨g, 0 + n + j, none⟩).isSome = true := by
    intro j hj
    simp at hj
    subst hj
    simp [World.cell?, hA]; omega
  have hfz : ∀ j, j < [Value.int .i64 x].length → W.frozen? ⟨g, 0 + n + j, none⟩ = false := by
    intro j hj; simp [World.frozen?, hA]
  have HSP := Lib.hid hsp
  have HFZ := Lib.hid hfz
  have HSRC := Lib.hid hsrc
  have HR : Hid (SRow (W.setCells g (0 + n) [.int .i64 x]) g cap (putD L x n).toArray) := by
    obtain ⟨c2, k1, k2⟩ := row_setCells g 3 (0, 0) [.int .i64 x] (0 + n) W cur hA
    refine SRow.of k1 (by rw [k2]; exact h2) (by simp [putD_length (show n ≤ L.length by omega)]; omega) (fun i hi => ?_)
    have hi2 : i < L.length + 1 := by simpa [putD_length (show n ≤ L.length by omega)] using hi
    rw [getBang_list _ (by rw [putD_length (show n ≤ L.length by omega)]; exact hi2), putD_getD (by omega) hi2]
    by_cases e : i < n
    · rw [if_pos e, World.cell?_setCells_out g _ _ _ _ (fun _ _ => .inl (by simp; omega))]
      have := h4 i (by simp; omega)
      rw [getBang_list _ (by omega)] at this
      simp [World.cell?, hA, this]
    · rw [if_neg e]
      obtain rfl : i = n := by omega
      rw [if_pos rfl]
      have := World.cell?_setCells_in g [.int .i64 x] (0 + i) W hsp 0 (by simp)
      simpa using this
  have HGR : Hid (w.grownBy (W.setCells g (0 + n) [.int .i64 x]) (some g)) := pun_stepN HGW.out (grown_setCells g _ _ _)
  clear hA hvx hsrc hsp hfz hW hgv h1 h4 HGW
  have HN := Lib.hid hn
  have h2' := Lib.hid h2
  clear h2
  have hb4 : ¬ (cap = n) := by omega
  go_enter Try.func54, Try.ntmps54
  go_wp2_with (at_builtin; refine wpList_append_room1 _ rfl _ _ 22 22 rfl 3 _ _ Try.underlying22 Try.info3 g 0 n cap rfl _ rfl 1 [.int .i64 x] HSRC.out (by omega) HSP.out HFZ.out ?_)
  rw [Nat.zero_add] at HR HGR
  go_ret
  refine ⟨?_, HR.out, HGR.out⟩
  rw [putD_length (by rw [HN.out]; exact Nat.le_refl n), HN.out]
  rfl

set_option maxHeartbeats 4000000 in
set_option maxRecDepth 100000 in
theorem insert_mid (g cap : Nat) (L : List Int) (x : Int) (i : Nat) (w : World) (hs : SRow w g cap L.toArray) (hi : i < L.length) (hroom : L.length + 1 ≤ cap) (hc : cap ≤ 4194304) :
    Calls Try.prog 54 #[.slice (some ⟨g, 0, none⟩) L.length cap, .int .i64 i, .slice (some ⟨w.heap.size, 0, none⟩) 1 1] (w.alloc (.cells #[.int .i64 x] 3)) (InsPost g cap (putD L x i) w) := by
  obtain ⟨n, hn⟩ : ∃ n, L.length = n := ⟨_, rfl⟩
  rw [hn] at hi hroom ⊢
  obtain ⟨cur, h1, h2, h3, h4⟩ := hs
  have hgl := (Array.getElem?_eq_some_iff.1 h1).1
  have hA : (w.alloc (.cells #[.int .i64 x] 3)).heap[g]? = some (.cells cur 3 (0, 0)) := by
    rw [(World.grownBy_alloc w (.cells #[.int .i64 x] 3) none).block g hgl (by simp)]; exact h1
  have hvx : (w.alloc (.cells #[.int .i64 x] 3)).cell? ⟨w.heap.size, 0, none⟩ = some (.int .i64 x) := by simp [World.cell?_alloc_new]
  have hvs : (w.alloc (.cells #[.int .i64 x] 3)).shape? w.heap.size = some (3, 1) := by rw [World.shape?, heap_alloc_new]; rfl
  have hvf : ∀ k, (w.alloc (.cells #[.int .i64 x] 3)).frozen? ⟨w.heap.size, k, none⟩ = false := by intro k; simp
  obtain ⟨W, hW⟩ : ∃ W, w.alloc (.cells #[.int .i64 x] 3) = W := ⟨_, rfl⟩
  have HGW : Hid (w.grownBy W none) := by rw [← hW]; exact World.grownBy_alloc _ _ _
  obtain ⟨gv, hgv⟩ : ∃ gv, w.heap.size = gv := ⟨_, rfl⟩
  rw [hW, hgv] at hvx hvs hvf
  rw [hW] at hA
  rw [hW, hgv]
  have hne : gv ≠ g := by omega
  have hsg : W.shape? g = some (3, cap) := by simp [World.shape?, hA, h2]
  have hov : ∀ lb cb, (callFunc 61 #[.slice (some ⟨gv, 0, none⟩) 1 1, .slice (some ⟨g, i + 1, none⟩) lb cb]).run Try.prog W = .ok (.value (.bool false)) W := fun lb cb => by
    rw [run_callFunc_extern Try.func61 (by kernel_rfl) (by kernel_rfl) (by kernel_rfl) (e := Extern.SlicesOverlaps.overlaps #[22, 22] #[4]) (by kernel_rfl),
      Lib.run_overlaps_apart W 22 4 3 Try.underlying22 1 Try.sizeOf3 ⟨gv, 0, none⟩ ⟨g, i + 1, none⟩ 1 1 lb cb hne 3 3 1 cap hvs hsg (by omega) (hvf 0) (hvf 1)]
    rfl
  obtain ⟨cs, hcs⟩ : ∃ cs, L.map (Value.int .i64) = cs := ⟨_, rfl⟩
  have hcl : cs.length = n := by rw [← hcs]; simpa using hn
  have hsz : (Try.prog.info? 3).map (·.size) = some 1 := by
    obtain ⟨i0, hi0, h0, h1, h2⟩ := info_parts Try.info3
    rw [hi0]; simp [h1]
  have hcc : ∀ j v, cs[j]? = some v → W.cell? ⟨g, j, none⟩ = some v := fun j v hj => by
    rw [← hcs, List.getElem?_map] at hj
    cases hLj : L[j]? with
    | none => rw [hLj] at hj; cases hj
    | some y =>
      rw [hLj] at hj
      simp only [Option.map_some, Option.some.injEq] at hj
      obtain ⟨k1, k2⟩ := List.getElem?_eq_some_iff.1 hLj
      have := h4 j (by simpa using k1)
      rw [getBang_list _ k1] at this
      simp only [World.cell?, hA, this]
      rw [← hj]
      simp [List.getD, hLj]
  have hsp : ∀ j, j < n + 1 → (W.cell? ⟨g, j, none⟩).isSome = true := by
    intro j hj
    simp [World.cell?, hA]; omega
  have hfz : ∀ j, W.frozen? ⟨g, j, none⟩ = false := by intro j; simp [World.frozen?, hA]
  have h1c : ∀ v ∈ cs, v.oneCell' = true := by
    intro v hv
    rw [← hcs] at hv
    obtain ⟨y, _, rfl⟩ := List.mem_map.1 hv
    rfl
  have hdl : (cs.drop i).length = n - i := by rw [List.length_drop, hcl]
  have hcp1 : ∀ ty dc sc, (Builtin.copy_ #[22, 22] ty #[.slice (some ⟨g, i + 1, none⟩) (n - i) dc, .slice (some ⟨g, i, none⟩) (n + 1 - i) sc]).run Try.prog W.drew = .ok (goInt (cs.drop i).length) (W.drew.setCells g (i + 1) (cs.drop i)) := fun ty dc sc =>
    run_copy_cells W.drew _ _ ty 3 g (i + 1) (n - i) dc ⟨g, i, none⟩ (n + 1 - i) sc (cs.drop i) Try.underlying22 hsz (by rw [hdl]; simp only [Nat.min_def]; split <;> omega)
      (fun j v hj => by rw [Addr.add_lit]; exact hcc (i + j) v (by rwa [List.getElem?_drop] at hj))
      (fun j hj => hsp _ (by omega)) (fun j hj => hfz _) (fun v hv => h1c v (List.mem_of_mem_drop hv))
  obtain ⟨W1, hW1⟩ : ∃ W1, W1 = W.drew.setCells g (i + 1) (cs.drop i) := ⟨_, rfl⟩
  have hsp1 : ∀ k, k < n + 1 → (W1.cell? ⟨g, k, none⟩).isSome = true := fun k hk => by
    rw [hW1]
    exact isSome_setCells g (cs.drop i) (i + 1) W.drew (fun j hj => hsp _ (by omega)) _ (hsp k hk)
  have hcp2 : ∀ (V : World), (∀ x, V.cell? x = W1.cell? x) → (∀ x, V.frozen? x = W1.frozen? x) → ∀ ty dc, (Builtin.copy_ #[22, 22] ty #[.slice (some ⟨g, i, none⟩) (n + 1 - i) dc, .slice (some ⟨gv, 0, none⟩) 1 1]).run Try.prog V = .ok (goInt ([Value.int .i64 x]).length) (V.setCells g i [Value.int .i64 x]) := fun V hWc hWf ty dc =>
    run_copy_cells V _ _ ty 3 g i (n + 1 - i) dc ⟨gv, 0, none⟩ 1 1 [Value.int .i64 x] Try.underlying22 hsz (by simp only [List.length_singleton, Nat.min_def]; split <;> omega)
      (fun j v hj => by
        rw [Addr.add_lit, hWc, hW1, World.cell?_setCells_out g _ _ _ _ (fun h _ => absurd h hne)]
        cases j with
        | zero => simp at hj; subst hj; exact hvx
        | succ j => simp at hj)
      (fun j hj => by simp at hj; subst hj; rw [hWc]; exact hsp1 _ (by omega)) (fun j hj => by rw [hWf, hW1, World.frozen?_setCells]; exact hfz _) (by simp [Value.oneCell'])
  have HR : ∀ V : World, V.heap = W1.heap → Hid (SRow (V.setCells g i [.int .i64 x]) g cap (putD L x i).toArray) := by
    intro V hV
    have hWh : W.drew.heap[g]? = some (.cells cur 3 (0, 0)) := hA
    obtain ⟨c2, k1, k2⟩ := row_setCells g 3 (0, 0) (cs.drop i) (i + 1) W.drew cur hWh
    rw [← hW1, ← hV] at k1
    obtain ⟨c3, m1, m2⟩ := row_setCells g 3 (0, 0) [.int .i64 x] i V c2 k1
    refine SRow.of m1 (by rw [m2, k2]; exact h2) (by simp [putD_length (show i ≤ L.length by omega)]; omega) (fun k hk => ?_)
    have hk2 : k < L.length + 1 := by simpa [putD_length (show i ≤ L.length by omega)] using hk
    rw [getBang_list _ (by rw [putD_length (show i ≤ L.length by omega)]; exact hk2), putD_getD (by omega) hk2]
    have hVc : ∀ a, V.cell? a = W1.cell? a := fun a => by simp [World.cell?, hV]
    by_cases e2 : k = i
    · subst e2
      rw [if_neg (by omega), if_pos rfl]
      have := World.cell?_setCells_in g [.int .i64 x] k V (fun j hj => by simp at hj; subst hj; rw [hVc]; exact hsp1 _ (by omega)) 0 (by simp)
      simpa using this
    · rw [World.cell?_setCells_out g _ _ _ _ (fun _ _ => by simp; omega), hVc, hW1]
      by_cases e : k < i
      · rw [if_pos e, World.cell?_setCells_out g _ _ _ _ (fun _ _ => .inl (by simp; omega))]
        have := h4 k (by simp; omega)
        rw [getBang_list _ (by omega)] at this
        simp [World.cell?, hWh, this]
      · rw [if_neg e, if_neg e2]
        obtain ⟨j, hj⟩ : ∃ j, k = i + 1 + j := ⟨k - (i + 1), by omega⟩
        subst hj
        have := World.cell?_setCells_in g (cs.drop i) (i + 1) W.drew (fun j hj => hsp _ (by omega)) j (by omega)
        rw [this, List.getElem_drop]
        have e3 : i + 1 + j - 1 = i + j := by omega
        rw [e3]
        simp only [← hcs, List.getElem_map]
        congr 2
        rw [List.getD_eq_getElem?_getD, List.getElem?_eq_getElem (by omega)]; rfl
  have HGR : ∀ V : World, V.heap = W1.heap → V.os = W1.os → V.tape = W1.tape → V.output = W1.output → Hid (w.grownBy (V.setCells g i [.int .i64 x]) (some g)) := by
    intro V e1 e2 e3 e4
    have k1 : W.grownBy W1 (some g) := by rw [hW1]; exact grownBy_trans (grown_drew (grown_refl W (some g))) (grown_setCells g _ _ _)
    have k2 : w.grownBy W1 (some g) := pun_stepN HGW.out k1
    have k3 : w.grownBy V (some g) := ⟨e2.trans k2.os, e3.trans k2.tape, e4.trans k2.output, by rw [e1]; exact k2.size, fun k hk hne => by rw [e1]; exact k2.block k hk hne⟩
    exact grownBy_trans k3 (grown_setCells g _ _ _)
  have HN := Lib.hid hn
  have HRR := Lib.hid HR
  have HGG := Lib.hid HGR
  have hz2 : ¬ ((i : Int) = (n : Int)) := by omega
  have hw1 : IntKind.i64.wrap ((i : Int) + 1) = (i : Int) + 1 := IntWalk.i64_in _ (by omega)
  have hb1 : (0 : Int) ≤ (i : Int) + 1 := by omega
  have htn : ((i : Int) + 1).toNat = i + 1 := by omega
  have hb2 : ¬ (cap = i + 1) := by omega
  have hb3 : (i : Int) ≤ (n : Int) + 1 := by omega
  have hb4 : ¬ (cap = i) := by omega
  have hin : i ≤ n := by omega
  have hin2 : i ≤ n + 1 := by omega
  have HCP2 := Lib.hid hcp2
  rw [← hW1] at hcp1
  clear hW1 HR HGR hcs hcl hsz hcc hsp hfz h1c hdl hsp1 hvx hvs hvf hsg hA hgl h1 h2 h3 h4 hn hW hgv hcp2
  go_enter Try.func54, Try.ntmps54
  go_wp2_with (simp only [hov])
  go_region_law (refine step_copy_runI rfl _ _ 22 22 rfl _ _ (by simp [Act.eval, Act.put]) (by simp [Act.eval, Act.put]) (hcp1 _ _ _) ?_)
  have hc2 := HCP2.out W1 (fun _ => rfl) (fun _ => rfl)
  clear HCP2 hcp1 hov
  go_wp2
  go_ret
  refine ⟨?_, (HRR.out _ rfl).out, (HGG.out _ rfl rfl rfl rfl).out⟩
  rw [putD_length (by rw [HN.out]; omega), HN.out]
  rfl

theorem insert_at (g cap n : Nat) (L M : List Int) (x : Int) (i : Nat) (w : World) (hs : SRow w g cap L.toArray) (hn : Hid (L.length = n)) (hi : i ≤ n) (hroom : n + 1 ≤ cap) (hc : cap ≤ 4194304) (hM : Hid (putD L x i = M)) :
    Calls Try.prog 54 #[.slice (some ⟨g, 0, none⟩) n cap, .int .i64 i, .slice (some ⟨w.heap.size, 0, none⟩) 1 1] (w.alloc (.cells #[.int .i64 x] 3)) (InsPost g cap M w) := by
  obtain rfl := hn.out
  rw [← hM.out]
  by_cases e : i = L.length
  · subst e; exact insert_end g cap L x w hs hroom hc
  · exact insert_mid g cap L x i w hs (by omega) hroom hc

end Go.Proofs.Ytmnnpfohjffniaa
