/-
  The walk of PunyLimits.
-/
import Derived.Test.YtaakdcelbnghoaaQPunEnv
import Derived.Test.YtaakdcelbnghoaaPkL
import Derived.Test.YtaakdcelbnghoaaPkG
import Derived.Test.YtaakdcelbnghoaaPkZZC
set_option linter.unusedSimpArgs false
set_option linter.unusedVariables false
namespace Go.Proofs.Ytaakdcelbnghoaa.punyLimitsW
open Go.RowKit

theorem pick_at (v n q : Int) (w : World) (h0 : 1 ≤ n) (h1 : n ≤ 1073741824) (hq : Hid (pickS v n = q)) :
    Calls Try.prog 15 #[.int .i64 v, .int .i64 n] w fun e w' => e = .returned (.int .i64 q) ∧ w = w' := hq.out ▸ pick_any v n w h0 h1

def letT (n k : Nat) : List Int := List.replicate k 97 ++ List.replicate (n - k) 0
theorem letT_set (n k : Nat) (h : k < n) : (letT n k).set k 97 = letT n (k + 1) := by
  unfold letT
  rw [List.set_append, if_neg (by simp)]
  simp only [List.length_replicate, Nat.sub_self]
  obtain ⟨m, hm⟩ : ∃ m, n - k = m + 1 := ⟨n - k - 1, by omega⟩
  rw [hm, List.replicate_succ, List.set_cons_zero, show n - (k + 1) = m by omega, List.replicate_succ']
  simp
theorem letT_at (n k : Nat) (t : IntKind) (h : k < n) : ((letT n k).map (Value.int t))[k]? = some (.int t 0) := by
  unfold letT
  obtain ⟨m, hm⟩ : ∃ m, n - k = m + 1 := ⟨n - k - 1, by omega⟩
  rw [hm, List.getElem?_map, List.getElem?_append_right (by simp)]
  simp
theorem letT_full (n : Nat) : letT n n = List.replicate n 97 := by simp [letT]
theorem letT_dash (m : Nat) : (letT (m + 1) (m + 1)).set m 45 = List.replicate m 97 ++ [45] := by
  rw [letT_full, List.replicate_succ', List.set_append, if_neg (by simp)]
  simp

theorem enc_lets (n : Nat) : (encP (List.replicate n 97)).2 = if 256 < n then 7 else 0 := by
  have h : (List.replicate n (97 : Int)).all scpB = true := by
    rw [List.all_eq_true]
    intro c hc
    rw [(List.mem_replicate.1 hc).2]
    decide
  unfold encP
  rw [List.length_replicate]
  by_cases hn : 256 < n
  · rw [if_pos hn, if_pos hn]
  · rw [if_neg hn, if_neg (by rw [h]; simp), if_neg hn]

theorem dec_lets (m : Nat) (hm : 1 ≤ m) : decP (List.replicate m 97 ++ [45]) = if 2048 < m + 1 then ([], 7) else (List.replicate m 97, 0) := by
  have hl : (List.replicate m (97 : Int) ++ [45]).length = m + 1 := by simp
  have hy : hyS (List.replicate m 97 ++ [45]) = m := by
    unfold hyS
    rw [hl]
    apply hyK_at _ m hm
    · rw [List.getD_eq_getElem?_getD, List.getElem?_append_right (by simp)]; simp
    · omega
    · intro i h1 h2; omega
  by_cases hn : 2048 < m + 1
  · rw [if_pos hn, decP_long (by omega)]
  · have ht : (List.replicate m (97 : Int) ++ [45]).take m = List.replicate m 97 := by rw [List.take_left' (by simp)]
    have hd : (List.replicate m (97 : Int) ++ [45]).drop (m + 1) = [] := by rw [List.drop_of_length_le (by omega)]
    rw [if_neg hn, decP_go (by omega) (by
      rw [hy, ht, List.any_eq_false]
      intro c hc
      rw [(List.mem_replicate.1 hc).2]
      decide), hy, ht, if_neg (by omega), hd, hl, pdecL]

theorem row_in {w : World} {g n B : Nat} {xs : List Int} (h : w.ownsRow B 3 1 (.slice (some ⟨g, 0, none⟩) n n) n (xs.map (.int .i64))) (hx : xs.length = n) : IntsIn w (some ⟨g, 0, none⟩) xs := by
  intro k hk
  refine ⟨g, 0, rfl, ?_⟩
  rw [Nat.zero_add, h.cellAt k (by omega)]
  simp [hk]

set_option maxRecDepth 100000 in
set_option maxHeartbeats 4000000 in
theorem walk (a : Int) (_ : (Lit.int .i64 a).wf = true) (w : World) :
    Calls Try.prog 10 #[.int .i64 a] w fun e w' => e = .returned (.bool true) ∧ Below w.heap.size w w' := by
  obtain ⟨i0, hi, hz0, hz1, hz2⟩ := info_parts Try.info5
  obtain ⟨i1, hi', hz0', hz1', hz2'⟩ := info_parts Try.info3
  obtain ⟨q, HQ, hq0, hq1⟩ : ∃ q, Hid (pickS a 3 = q) ∧ 0 ≤ q ∧ q < 3 := ⟨_, rfl, pickS_bd _ _ (by omega)⟩
  obtain ⟨n1, hn1⟩ : ∃ n1 : Nat, 256 + (q - 1) = (n1 : Int) := ⟨(256 + (q - 1)).toNat, by omega⟩
  obtain ⟨n2, hn2⟩ : ∃ n2 : Nat, 2048 + (q - 1) = (n2 : Int) := ⟨(2048 + (q - 1)).toNat, by omega⟩
  obtain ⟨m, hm⟩ : ∃ m : Nat, n2 = m + 1 := ⟨n2 - 1, by omega⟩
  obtain ⟨X, er1, hX⟩ : ∃ X er, encP (List.replicate n1 97) = (X, er) := ⟨_, _, rfl⟩
  obtain ⟨out, er2, hD⟩ : ∃ out er, decP (List.replicate m 97 ++ [45]) = (out, er) := ⟨_, _, rfl⟩
  have he1 := enc_lets n1
  rw [hX] at he1
  have he1' : er1 = if 256 < n1 then 7 else 0 := he1
  have hd1 := dec_lets m (by omega)
  rw [hD] at hd1
  have hcase : (0 < q - 1 ∧ er1 = 7 ∧ er2 = 7) ∨ (¬ 0 < q - 1 ∧ er1 = 0 ∧ er2 = 0 ∧ out.length = m) := by
    by_cases h : 0 < q - 1
    · rw [if_pos (by omega)] at he1' hd1
      injection hd1 with h1 h2
      exact .inl ⟨h, he1', h2⟩
    · rw [if_neg (by omega)] at he1' hd1
      injection hd1 with h1 h2
      exact .inr ⟨h, he1', h2, by rw [h1]; simp⟩
  obtain ⟨S, hS⟩ : ∃ S, strOfNums (List.replicate m 97 ++ [45]) = S := ⟨_, rfl⟩
  have hSs : S.size ≤ 140737488355328 := by rw [← hS, strOfNums_size]; simp; omega
  have HDS : Hid (decP (nums S) = (out, er2)) := by
    unfold Hid
    rw [← hS, nums_of _ (by
      intro c hc
      rcases List.mem_append.1 hc with h | h
      · rw [(List.mem_replicate.1 h).2]; decide
      · rw [List.mem_singleton.1 h]; decide)]
    exact hD
  obtain ⟨R, hR⟩ : ∃ R, strOfNums X = R := ⟨_, rfl⟩
  have HN1 := Lib.hid hn1
  have HN2 := Lib.hid hn2
  have HX := Lib.hid hX
  have HR := Lib.hid hR
  have HS := Lib.hid hS
  have HC := Lib.hid hcase
  have HM := Lib.hid hm
  have hb1 : n1 ≤ 300 := by omega
  have hb2 : n2 ≤ 2100 := by omega
  have hb3 : 2000 ≤ n2 := by omega
  clear hn1 hn2 hX hR hS hcase hm he1 he1' hd1 hD
  go_enter Try.func10, Try.ntmps10
  go_wp2_with fail
  refine (pick_at _ _ q _ (by omega) (by omega) HQ).mono ?_
  rintro e w' ⟨rfl, rfl⟩
  go_wp2_with (first
    | (at_make; refine wpList_make_full _ rfl _ _ 22 rfl w.heap.size 3 i1 (.int .i64 0) 1 Try.underlying22 hi' hz0' hz1' .i64 .i64 _ _ n1 rfl rfl HN1.out HN1.out (by rw [hz2']; omega) (by unfold maxLen; omega) (Nat.le_refl _) ?_; intro w0 hown0 hgrow0)
    | (at_make; refine wpList_make_full _ rfl _ _ 38 rfl w0.heap.size 5 i0 (.int .u8 0) 1 Try.underlying38 hi hz0 hz1 .i64 .i64 _ _ n2 rfl rfl HN2.out HN2.out (by rw [hz2]; omega) (by unfold maxLen; omega) (Nat.le_refl _) ?_; intro w1 hown1 hgrow1))
  have hrow0 : w0.ownsRow w.heap.size 3 1 (.slice (some ⟨w.heap.size, 0, none⟩) n1 n1) n1 ((letT n1 0).map (.int .i64)) := by
    have e : (madeCells (Value.int .i64 0).cells (n1 * 1)).toList = List.replicate (n1 * 1) (.int .i64 0) := toList_madeCells_one _ _
    rw [e] at hown0
    simpa [letT] using hown0
  have hbel0 : Below w.heap.size w w0 := (Below.refl _ _).grown hgrow0 (Nat.le_refl _) (by simp)
  have hlt0 : w.heap.size < w0.heap.size := (World.ownsRow.lt hrow0 w.heap.size rfl).2
  have HR0 := Lib.hid hrow0
  have HB0 := Lib.hid hbel0
  clear hrow0 hbel0 hown0 hgrow0
  have hrow1 : w1.ownsRow w0.heap.size 5 1 (.slice (some ⟨w0.heap.size, 0, none⟩) n2 n2) n2 ((letT n2 0).map (.int .u8)) := by
    have e : (madeCells (Value.int .u8 0).cells (n2 * 1)).toList = List.replicate (n2 * 1) (.int .u8 0) := toList_madeCells_one _ _
    rw [e] at hown1
    simpa [letT] using hown1
  have HA0 := Lib.hid (HR0.out.kept hgrow1 (.inr (by simp [Value.ownBlock])))
  have HA1 := Lib.hid hrow1
  have HAB := Lib.hid (HB0.out.grown hgrow1 HB0.out.size (by simp))
  clear hrow1 hown1 hgrow1 HR0 HB0
  go_loopw [23] (fun i wr => ∃ k : Nat, k ≤ n1 ∧ i = .int .i64 k ∧ Hid (wr.ownsRow w.heap.size 3 1 (.slice (some ⟨w.heap.size, 0, none⟩) n1 n1) n1 ((letT n1 k).map (.int .i64))) ∧ Hid (wr.ownsRow w0.heap.size 5 1 (.slice (some ⟨w0.heap.size, 0, none⟩) n2 n2) n2 ((letT n2 0).map (.int .u8))) ∧ Hid (Below w.heap.size w wr)) (fun i _ => n1 - (intOf i).toNat)
  case atStart => exact ⟨0, Nat.zero_le _, rfl, HA0, HA1, HAB⟩
  case round =>
    obtain ⟨k, hk, rfl, ha, hb, hbel⟩ := hrel
    by_cases hlt : k < n1
    · have hc := ha.out.cellAt k (by omega)
      rw [letT_at n1 k .i64 hlt] at hc
      have hf := ha.out.frozenAt k
      have hst := ha.out.stored k (.int .i64 97)
      rw [← List.map_set, letT_set n1 k hlt] at hst
      have HA2 := Lib.hid hst.1
      have HA3 := Lib.hid (hb.out.kept hst.2 (.inr (by simp [Value.ownBlock]; omega)))
      have HB2 := Lib.hid (hbel.out.setCell (p := ⟨w.heap.size, k, none⟩) (Nat.le_refl _) (.int .i64 97))
      clear hst ha hb
      go_wp2
      go_roundw
      case rel => exact ⟨k + 1, by omega, by go_num, HA2, HA3, HB2⟩
      case measure => simp [intOf]; omega
    · obtain rfl : k = n1 := by omega
      rw [letT_full] at ha
      go_wp2
      go_loopw [32] (fun i wx => ∃ j : Nat, j ≤ n2 ∧ i = .int .i64 j ∧ Hid (wx.ownsRow w.heap.size 3 1 (.slice (some ⟨w.heap.size, 0, none⟩) k k) k ((List.replicate k 97).map (.int .i64))) ∧ Hid (wx.ownsRow w0.heap.size 5 1 (.slice (some ⟨w0.heap.size, 0, none⟩) n2 n2) n2 ((letT n2 j).map (.int .u8))) ∧ Hid (Below w.heap.size w wx)) (fun i _ => n2 - (intOf i).toNat)
      case atStart => exact ⟨0, Nat.zero_le _, rfl, ha, hb, hbel⟩
      case round =>
        obtain ⟨j, hj, rfl, ha2, hb2, hbel2⟩ := hrel
        by_cases hlt2 : j < n2
        · have hc := hb2.out.cellAt j (by omega)
          rw [letT_at n2 j .u8 hlt2] at hc
          have hf := hb2.out.frozenAt j
          have hst := hb2.out.stored j (.int .u8 97)
          rw [← List.map_set, letT_set n2 j hlt2] at hst
          have HA2 := Lib.hid hst.1
          have HA3 := Lib.hid (ha2.out.kept hst.2 (.inr (by simp [Value.ownBlock]; omega)))
          have HB2 := Lib.hid (hbel2.out.setCell (p := ⟨w0.heap.size, j, none⟩) (Nat.le_of_lt hlt0) (.int .u8 97))
          clear hst ha2 hb2
          go_wp2
          go_roundw
          case rel => exact ⟨j + 1, by omega, by go_num, HA3, HA2, HB2⟩
          case measure => simp [intOf]; omega
        · obtain rfl : j = n2 := by omega
          have hmj : m < j := by have := HM.out; omega
          have hw : IntKind.i64.wrap ((j : Int) - 1) = m := by rw [IntWalk.i64_in _ (by omega)]; have := HM.out; omega
          have hc := hb2.out.cellAt m (by omega)
          rw [letT_full] at hc
          have hc2 : ((List.replicate j (97 : Int)).map (Value.int .u8))[m]? = some (.int .u8 97) := by simp [hmj]
          rw [hc2] at hc
          have hf := hb2.out.frozenAt m
          have hst := hb2.out.stored m (.int .u8 45)
          have hl : (letT j j).set m 45 = List.replicate m 97 ++ [45] := by rw [HM.out]; exact letT_dash m
          rw [← List.map_set, hl] at hst
          have HA2 := Lib.hid hst.1
          have HA3 := Lib.hid (ha2.out.kept hst.2 (.inr (by simp [Value.ownBlock]; omega)))
          have HB2 := Lib.hid (hbel2.out.setCell (p := ⟨w0.heap.size, m, none⟩) (Nat.le_of_lt hlt0) (.int .u8 45))
          have HIN := Lib.hid (row_in HA3.out (by simp))
          have HLN : Hid ((List.replicate k (97 : Int)).length = k) := by simp [Hid]
          obtain ⟨ol, hol⟩ : ∃ ol, out.length = ol := ⟨_, rfl⟩
          have HOL := Lib.hid hol
          clear hst ha2 hb2 ha hb hbel hbel2 hc2 hl HA0 HA1 HAB HA3 hol
          go_wp2_with fail
          refine (encode_at (some ⟨w.heap.size, 0, none⟩) k k (List.replicate k 97) X er1 R _ HIN.out HLN (Nat.le_refl _) (by omega) HX HR).mono ?_
          rintro e w5 ⟨rfl, hb5⟩
          have HB5 := Lib.hid (HB2.out.trans (hb5.mono HB2.out.size))
          have hrow5 := ownsRow_below HA2.out hb5
          have hcv := conv_own hrow5
          rw [HS.out] at hcv
          clear hb5 hrow5 HA2 HB2 HIN hc hf
          go_wp2_with fail
          refine (pdecode_at S out er2 _ hSs HDS).mono ?_
          rintro e w6 ⟨v6, rfl, hi6, hb6⟩
          have HB6 := Lib.hid (HB5.out.trans (hb6.mono HB5.out.size))
          obtain ⟨p6, c6, rfl, _⟩ := hi6.inn
          rw [HOL.out]
          clear hb6 hi6 hcv HB5
          rcases HC.out with ⟨h1, rfl, rfl⟩ | ⟨h1, rfl, rfl, h2⟩
          · clear HC HX HR HDS HS HOL
            go_wp2_with fail
            refine (awake10_any _).mono ?_
            rintro e w8 ⟨rfl, hb8⟩
            have HB8 := Lib.hid (HB6.out.trans (hb8.mono HB6.out.size))
            clear hb8
            go_wp2
            go_ret
            exact ⟨rfl, HB8.out⟩
          · obtain rfl : m = ol := by rw [← h2, HOL.out]
            clear HC HX HR HDS HS HOL h2
            go_wp2_with fail
            refine (awake10_any _).mono ?_
            rintro e w8 ⟨rfl, hb8⟩
            have HB8 := Lib.hid (HB6.out.trans (hb8.mono HB6.out.size))
            clear hb8
            go_wp2
            go_ret
            exact ⟨rfl, HB8.out⟩

end Go.Proofs.Ytaakdcelbnghoaa.punyLimitsW
