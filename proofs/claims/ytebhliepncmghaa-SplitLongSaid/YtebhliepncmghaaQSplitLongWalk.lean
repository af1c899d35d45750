/-
  The walk of SplitLong.
-/
import Derived.Test.YtebhliepncmghaaQSplLaw
import Derived.Test.YtebhliepncmghaaPkL
set_option linter.unusedSimpArgs false
set_option linter.unusedVariables false
namespace Go.Proofs.Ytebhliepncmghaa.splitLongW
open Go.RowKit
set_option linter.unusedVariables false

theorem gpick_at (v n q : Int) (w : World) (h0 : 1 ≤ n) (h1 : n ≤ 1073741824) (hq : Hid (pickS v n = q)) :
    Calls Try.prog 25 #[.int .i64 v, .int .i64 n] w fun e w' => e = .returned (.int .i64 q) ∧ w' = w := hq.out ▸ (pick_any v n w h0 h1).mono fun _ _ h => ⟨h.1, h.2.symm⟩

def zerB (n : Nat) : ByteArray := strOfNums (List.replicate n 0)
theorem zerB_size (n : Nat) : (zerB n).size = n := by unfold zerB; rw [strOfNums_size]; simp
def padS (n k : Nat) : List ByteArray := List.replicate k (ByteArray.mk #[120]) ++ List.replicate (n - k) ByteArray.empty
theorem padS_set (n k : Nat) (h : k < n) : (padS n k).set k (ByteArray.mk #[120]) = padS n (k + 1) := by
  unfold padS
  rw [List.set_append, if_neg (by simp)]
  simp only [List.length_replicate, Nat.sub_self]
  obtain ⟨m, hm⟩ : ∃ m, n - k = m + 1 := ⟨n - k - 1, by omega⟩
  rw [hm, List.replicate_succ, List.set_cons_zero, show n - (k + 1) = m by omega, List.replicate_succ']
  simp
theorem padS_at (n k : Nat) (h : k < n) : ((padS n k).map Value.string)[k]? = some (.string ByteArray.empty) := by
  unfold padS
  obtain ⟨m, hm⟩ : ∃ m, n - k = m + 1 := ⟨n - k - 1, by omega⟩
  rw [hm, List.getElem?_map, List.getElem?_append_right (by simp)]
  simp
theorem padS_full (n : Nat) : padS n n = List.replicate n (ByteArray.mk #[120]) := by simp [padS]
theorem padS_len (n k : Nat) (h : k ≤ n) : (padS n k).length = n := by simp [padS]; omega

theorem chk_one (u : Nat) (h0 : 60 ≤ u) (h1 : u ≤ 62) : chkD ([63, 63, 63, u]) = if u ≤ 61 then (0, 0) else (0, 11) := by
  rcases (show u = 60 ∨ u = 61 ∨ u = 62 by omega) with rfl | rfl | rfl <;> decide +kernel
theorem chk_many (n : Nat) (h0 : 126 ≤ n) (h1 : n ≤ 128) : chkD ((List.replicate n (ByteArray.mk #[120])).map ByteArray.size) = if n ≤ 127 then (0, 0) else (0, 11) := by
  rcases (show n = 126 ∨ n = 127 ∨ n = 128 by omega) with rfl | rfl | rfl <;> decide +kernel

theorem mk_zero {w w0 : World} {n : Nat} (hown0 : w0.ownsRow w.heap.size 5 1 (.slice (some ⟨w.heap.size, 0, none⟩) n n) n (madeCells (Value.int .u8 0).cells (n * 1)).toList) :
    (convert 43 9 (.slice (some ⟨w.heap.size, 0, none⟩) n n)).run Try.prog w0 = .ok (.string (zerB n)) w0 := by
  have e : (madeCells (Value.int .u8 0).cells (n * 1)).toList = (List.replicate n 0).map (Value.int .u8) := by
    rw [show (Value.int .u8 0).cells = #[.int .u8 0] from rfl, toList_madeCells_one]; simp
  rw [e] at hown0
  exact conv_own hown0

set_option maxRecDepth 100000 in
set_option maxHeartbeats 8000000 in
theorem walk (a0 : Int) (a1 : Int) (w0 : (Lit.int .i64 a0).wf = true) (w1 : (Lit.int .i64 a1).wf = true) (w : World) :
    Calls Try.prog 7 #[.int .i64 a0, .int .i64 a1] w fun e w' => e = .returned (.bool true) ∧ Below w.heap.size w w' := by
  clear w0 w1
  obtain ⟨i0, hi, hz0, hz1, hz2⟩ := info_parts Try.info5
  obtain ⟨i1, hi', hz0', hz1', hz2'⟩ := info_parts Try.info9
  obtain ⟨q, HQ, hq2⟩ : ∃ q : Nat, Hid (pickS a0 3 = (q : Int)) ∧ q < 3 := by
    obtain ⟨h0, h1⟩ := pickS_bd a0 3 (by omega)
    exact ⟨(pickS a0 3).toNat, by unfold Hid; omega, by omega⟩
  obtain ⟨r, HR, hr2⟩ : ∃ r : Nat, Hid (pickS a1 3 = (r : Int)) ∧ r < 3 := by
    obtain ⟨h0, h1⟩ := pickS_bd a1 3 (by omega)
    exact ⟨(pickS a1 3).toNat, by unfold Hid; omega, by omega⟩
  obtain ⟨u, hu⟩ : ∃ u, 60 + q = u := ⟨_, rfl⟩
  have hui : (60 : Int) + (q : Int) = (u : Int) := by omega
  have hu0 : 60 ≤ u := by omega
  have hu1 : u ≤ 62 := by omega
  obtain ⟨n, hn⟩ : ∃ n, 126 + r = n := ⟨_, rfl⟩
  have hni : (126 : Int) + (r : Int) = (n : Int) := by omega
  have hn0 : 126 ≤ n := by omega
  have hn1 : n ≤ 128 := by omega
  obtain ⟨E1, hE1, hE1c⟩ : ∃ E1, chkD ([63, 63, 63, u]) = (0, E1) ∧ E1 = if u ≤ 61 then 0 else 11 := by
    rw [chk_one u hu0 hu1]; split <;> exact ⟨_, rfl, rfl⟩
  obtain ⟨E2, hE2, hE2c⟩ : ∃ E2, chkD ((List.replicate n (ByteArray.mk #[120])).map ByteArray.size) = (0, E2) ∧ E2 = if n ≤ 127 then 0 else 11 := by
    rw [chk_many n hn0 hn1]; split <;> exact ⟨_, rfl, rfl⟩
  have HE1 := Lib.hid hE1
  have HE2 := Lib.hid hE2
  have HE1C := Lib.hid hE1c
  have HE2C := Lib.hid hE2c
  have HU := Lib.hid hu
  have HN := Lib.hid hn
  clear hE1 hE2 hE1c hE2c hu hn
  go_enter Try.func7, Try.ntmps7
  go_wp2
  go_loopw [5, 6] (fun v i wr => ∃ k : Nat, k ≤ 3 ∧ i = .int .i64 k ∧ Hid (Strs wr w.heap.size v (List.replicate k (zerB 63))) ∧ Hid (Below w.heap.size w wr)) (fun _ i _ => 3 - (intOf i).toNat)
  case atStart => exact ⟨0, by omega, rfl, Strs.nil _ _, Below.refl _ _⟩
  case round =>
    obtain ⟨k, hk, rfl, ho, hbel⟩ := hrel
    have hown := ho.out
    unfold Strs at hown
    rw [List.length_replicate] at hown
    have HOWN := Lib.hid hown
    have HSZ := Lib.hid hbel.out.size
    clear hown ho
    by_cases hlt : k < 3
    · go_wp2_with (first
        | (at_make; refine wpList_make_full _ rfl _ _ 43 rfl wr.heap.size 5 i0 (.int .u8 0) 1 Try.underlying43 hi hz0 hz1 .i64 .i64 _ _ 63 rfl rfl rfl rfl (by rw [hz2]; decide) (by decide) (Nat.le_refl _) ?_; intro w2 hown2 hgrow2; have hcv2 := mk_zero hown2; have HG2 := Lib.hid hgrow2; clear hown2 hgrow2)
        | (at_builtin; refine wpList_append_own_at _ rfl _ _ 31 rfl w.heap.size 9 i1 (.string ByteArray.empty) 1 16 Try.underlying31 hi' hz0' hz1' hz2' rfl (by decide) u5 k ((List.replicate k (zerB 63)).map Value.string) rfl (World.ownsRow.alloc (World.ownsRow.kept HOWN.out HG2.out (by cases Value.ownBlock u5 <;> simp)) (.cells #[.string (zerB 63)] 9)) ⟨_, 0, none⟩ 1 1 [.string (zerB 63)] rfl rfl (cell_one_new _ _ _) (by intro u hu; simp at hu; subst hu; rfl) (by unfold maxLen; omega) (by omega) (by have := HSZ.out; have := HG2.out.size; simp; omega) ?_; intro v7 w7 ho7 hg7 _ _
           have HS7 : Hid (Strs w7 w.heap.size v7 (List.replicate (k + 1) (zerB 63))) := by
             unfold Hid Strs
             rw [List.length_replicate, List.replicate_succ', List.map_append]
             exact ho7
           have HB7 : Hid (Below w.heap.size w w7) := ((hbel.out.grown HG2.out HSZ.out (by intro j e; cases e)).alloc (by have := HSZ.out; have := HG2.out.size; omega) _).grown hg7 (by have := HSZ.out; have := HG2.out.size; simp; omega) (fun j hj => (World.ownsRow.lt HOWN.out j hj).1)
           clear ho7 hg7))
      go_roundw
      case rel => exact ⟨k + 1, by omega, by go_num, HS7, HB7⟩
      case measure => simp [intOf]; omega
    · obtain rfl : k = 3 := by omega
      go_wp2_with fail
      refine (gpick_at a0 3 q _ (by omega) (by omega) HQ).mono ?_
      rintro e w3 ⟨rfl, rfl⟩
      go_wp2_with (first
        | (at_make; refine wpList_make_full _ rfl _ _ 43 rfl w3.heap.size 5 i0 (.int .u8 0) 1 Try.underlying43 hi hz0 hz1 .i64 .i64 _ _ u rfl rfl (by first | rfl | simp) (by first | rfl | simp) (by rw [hz2]; omega) (by unfold maxLen; omega) (Nat.le_refl _) ?_; intro w2 hown2 hgrow2; have hcv2 := mk_zero hown2; have HG2 := Lib.hid hgrow2; clear hown2 hgrow2)
        | (at_builtin; refine wpList_append_own_at _ rfl _ _ 31 rfl w.heap.size 9 i1 (.string ByteArray.empty) 1 16 Try.underlying31 hi' hz0' hz1' hz2' rfl (by decide) u5 3 ((List.replicate 3 (zerB 63)).map Value.string) rfl (World.ownsRow.alloc (World.ownsRow.kept HOWN.out HG2.out (by cases Value.ownBlock u5 <;> simp)) (.cells #[.string (zerB u)] 9)) ⟨_, 0, none⟩ 1 1 [.string (zerB u)] rfl rfl (cell_one_new _ _ _) (by intro u hu; simp at hu; subst hu; rfl) (by unfold maxLen; omega) (by omega) (by have := HSZ.out; have := HG2.out.size; simp; omega) ?_; intro v7 w7 ho7 hg7 _ _
           have HS7 : Hid (Strs w7 w.heap.size v7 ([zerB 63, zerB 63, zerB 63, zerB u])) := ho7
           have HB7 : Hid (Below w.heap.size w w7) := ((hbel.out.grown HG2.out HSZ.out (by intro j e; cases e)).alloc (by have := HSZ.out; have := HG2.out.size; omega) _).grown hg7 (by have := HSZ.out; have := HG2.out.size; simp; omega) (fun j hj => (World.ownsRow.lt HOWN.out j hj).1)
           obtain ⟨p7, c7, rfl, hin7, hc7⟩ := Strs.inn HS7.out
           have HI7 := Lib.hid hin7
           simp only [List.length_cons, List.length_nil] at hc7
           clear ho7 hg7 hin7))
      clear HOWN hbel HG2 hcv2
      have HZ1 : Hid (chkD (([zerB 63, zerB 63, zerB 63, zerB u] : List ByteArray).map ByteArray.size) = (0, E1)) := by
        unfold Hid
        rw [show ([zerB 63, zerB 63, zerB 63, zerB u] : List ByteArray).map ByteArray.size = [63, 63, 63, u] by simp [zerB_size]]
        exact HE1.out
      refine (check_at p7 4 c7 0 E1 _ _ HI7.out rfl hc7 (by decide) HZ1).mono ?_
      rintro e w8 ⟨rfl, hb⟩
      replace HB7 := Lib.hid (HB7.out.trans (hb.mono HB7.out.size))
      clear hb HI7 HZ1 HS7
      go_wp2_with fail
      refine (gpick_at a1 3 r _ (by omega) (by omega) HR).mono ?_
      rintro e w9 ⟨rfl, rfl⟩
      go_wp2_with (at_make; refine wpList_make_full _ rfl _ _ 31 rfl w9.heap.size 9 i1 (.string ByteArray.empty) 1 Try.underlying31 hi' hz0' hz1' .i64 .i64 _ _ n rfl rfl (by first | rfl | simp) (by first | rfl | simp) (by rw [hz2']; omega) (by unfold maxLen; omega) (Nat.le_refl _) ?_; intro wa howna hgrowa)
      have hrow : wa.ownsRow w9.heap.size 9 1 (.slice (some ⟨w9.heap.size, 0, none⟩) n n) n ((padS n 0).map Value.string) := by
        have e : (madeCells (Value.string ByteArray.empty).cells (n * 1)).toList = List.replicate (n * 1) (.string ByteArray.empty) := toList_madeCells_one _ _
        rw [e] at howna
        simpa [padS] using howna
      have HROW := Lib.hid hrow
      have HBA := Lib.hid (HB7.out.grown hgrowa HB7.out.size (by intro j e; cases e))
      have HGS := Lib.hid HB7.out.size
      clear hrow howna hgrowa HB7
      go_loopw [43] (fun i wr => ∃ k : Nat, k ≤ n ∧ i = .int .i64 k ∧ Hid (wr.ownsRow w9.heap.size 9 1 (.slice (some ⟨w9.heap.size, 0, none⟩) n n) n ((padS n k).map Value.string)) ∧ Hid (Below w.heap.size w wr)) (fun i _ => n - (intOf i).toNat)
      case atStart => exact ⟨0, Nat.zero_le _, rfl, HROW, HBA⟩
      case round =>
        clear HROW HBA
        obtain ⟨k, hk, rfl, ho, hbel⟩ := hrel
        by_cases hlt : k < n
        · have hc := ho.out.cellAt k (by omega)
          rw [padS_at n k hlt] at hc
          have hf := ho.out.frozenAt k
          have hst := ho.out.stored k (.string (ByteArray.mk #[120]))
          rw [← List.map_set, padS_set n k hlt] at hst
          have HA2 := Lib.hid hst.1
          have HB2 := Lib.hid (hbel.out.setCell (p := ⟨w9.heap.size, k, none⟩) HGS.out (.string (ByteArray.mk #[120])))
          clear hst ho hbel
          go_wp2
          go_roundw
          case rel => exact ⟨k + 1, by omega, by go_num, HA2, HB2⟩
          case measure => simp [intOf]; omega
        · obtain rfl : k = n := by omega
          rw [padS_full] at ho
          have HST : Hid (Strs wr w9.heap.size (.slice (some ⟨w9.heap.size, 0, none⟩) k k) (List.replicate k (ByteArray.mk #[120]))) := by
            unfold Hid Strs; rw [List.length_replicate]; exact ho.out
          obtain ⟨pb, cb, eb, hinb, hcb⟩ := Strs.inn HST.out
          rw [List.length_replicate] at eb hcb
          injection eb with eb1 _ eb2
          subst eb1; subst eb2
          have HIB := Lib.hid hinb
          have HLB : Hid ((List.replicate k (ByteArray.mk #[120])).length = k) := by simp [Hid]
          clear hinb ho HST
          go_wp2_with fail
          refine (check_at _ k k 0 E2 _ _ HIB.out HLB (Nat.le_refl _) (by omega) HE2).mono ?_
          rintro e wb ⟨rfl, hb⟩
          have HB8 := Lib.hid (hbel.out.trans (hb.mono hbel.out.size))
          clear hb HIB hbel
          go_wp2_with fail
          refine (awake12_any _).mono ?_
          rintro e wc ⟨rfl, hb⟩
          replace HB8 := Lib.hid (HB8.out.trans (hb.mono HB8.out.size))
          clear hb
          by_cases hu61 : u ≤ 61
          · have he1 : E1 = 0 := by rw [HE1C.out, if_pos hu61]
            have d1 : decide ((u : Int) ≤ 61) = true := decide_eq_true (by omega)
            have d2 : decide ((61 : Int) < (u : Int)) = false := decide_eq_false (by omega)
            have d3 : decide (u ≤ 61) = true := decide_eq_true hu61
            have d4 : decide (61 < u) = false := decide_eq_false (by omega)
            subst he1
            by_cases hn127 : k ≤ 127
            · have he2 : E2 = 0 := by rw [HE2C.out, if_pos hn127]
              have f1 : decide ((k : Int) ≤ 127) = true := decide_eq_true (by omega)
              have f2 : decide ((127 : Int) < (k : Int)) = false := decide_eq_false (by omega)
              have f3 : decide (k ≤ 127) = true := decide_eq_true hn127
              have f4 : decide (127 < k) = false := decide_eq_false (by omega)
              subst he2
              go_wp2
              go_ret
              exact ⟨rfl, HB8.out⟩
            · have he2 : E2 = 11 := by rw [HE2C.out, if_neg hn127]
              have f1 : decide ((k : Int) ≤ 127) = false := decide_eq_false (by omega)
              have f2 : decide ((127 : Int) < (k : Int)) = true := decide_eq_true (by omega)
              have f3 : decide (k ≤ 127) = false := decide_eq_false hn127
              have f4 : decide (127 < k) = true := decide_eq_true (by omega)
              subst he2
              go_wp2
              go_ret
              exact ⟨rfl, HB8.out⟩
          · have he1 : E1 = 11 := by rw [HE1C.out, if_neg hu61]
            have d1 : decide ((u : Int) ≤ 61) = false := decide_eq_false (by omega)
            have d2 : decide ((61 : Int) < (u : Int)) = true := decide_eq_true (by omega)
            have d3 : decide (u ≤ 61) = false := decide_eq_false hu61
            have d4 : decide (61 < u) = true := decide_eq_true (by omega)
            subst he1
            by_cases hn127 : k ≤ 127
            · have he2 : E2 = 0 := by rw [HE2C.out, if_pos hn127]
              have f1 : decide ((k : Int) ≤ 127) = true := decide_eq_true (by omega)
              have f2 : decide ((127 : Int) < (k : Int)) = false := decide_eq_false (by omega)
              have f3 : decide (k ≤ 127) = true := decide_eq_true hn127
              have f4 : decide (127 < k) = false := decide_eq_false (by omega)
              subst he2
              go_wp2
              go_ret
              exact ⟨rfl, HB8.out⟩
            · have he2 : E2 = 11 := by rw [HE2C.out, if_neg hn127]
              have f1 : decide ((k : Int) ≤ 127) = false := decide_eq_false (by omega)
              have f2 : decide ((127 : Int) < (k : Int)) = true := decide_eq_true (by omega)
              have f3 : decide (k ≤ 127) = false := decide_eq_false hn127
              have f4 : decide (127 < k) = true := decide_eq_true (by omega)
              subst he2
              go_wp2
              go_ret
              exact ⟨rfl, HB8.out⟩

end Go.Proofs.Ytebhliepncmghaa.splitLongW
