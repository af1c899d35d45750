/-
  split: the contracts of Check and Name.
-/
import Derived.Test.YtebhliepncmghaaQSplPB
import Derived.Test.YtebhliepncmghaaQBld
set_option linter.unusedSimpArgs false
set_option linter.unusedVariables false
namespace Go.Proofs.Ytebhliepncmghaa
open Go Go.RowKit
set_option linter.unusedVariables false

set_option maxRecDepth 100000 in
set_option maxHeartbeats 4000000 in
theorem nsize_at (p : Option Addr) (n cap t : Nat) (L : List ByteArray) (w : World) (hin : StrIn w p L) (hn : Hid (L.length = n)) (hn1 : 1 ≤ n) (hn2 : n ≤ 127) (hsz : Hid (∀ j, j < n → (L.map ByteArray.size).getD j 0 ≤ 63)) (ht : Hid ((n - 1) + (L.map ByteArray.size).sum = t)) :
    Calls Try.prog 31 #[.slice p n cap] w fun e w' => e = .returned (.int .i64 t) ∧ w' = w := by
  have HI := Lib.hid hin
  clear hin
  obtain ⟨n1, hn11⟩ : ∃ n1, n - 1 = n1 := ⟨_, rfl⟩
  have iw : (n : Int) - 1 = (n1 : Int) := by omega
  have hn1b : n1 ≤ 126 := by omega
  have HN1 := Lib.hid hn11
  clear hn11
  go_enter Try.func31, Try.ntmps31
  go_wp2
  go_loopw [3, 11] (fun u i wr => ∃ (k y : Nat), k ≤ n ∧ i = .int .i64 k ∧ u = .int .i64 y ∧ y ≤ n1 + 63 * k ∧ Hid (y = n1 + ((L.map ByteArray.size).take k).sum) ∧ wr = w) (fun _ i _ => n - (intOf i).toNat)
  case atStart => exact ⟨0, n1, Nat.zero_le _, rfl, by go_num, by omega, by simp [Hid], rfl⟩
  case round =>
    obtain ⟨k, y, hk, rfl, rfl, hyb, hy, rfl⟩ := hrel
    by_cases hlt : k < n
    · have hkl : k < L.length := by rw [hn.out]; exact hlt
      obtain ⟨b, off, rfl, hck⟩ := HI.out k hkl
      obtain ⟨x, hx⟩ : ∃ x, L.getD k ByteArray.empty = x := ⟨_, rfl⟩
      rw [hx] at hck
      have hms := getD_map_size L k hkl
      rw [hx] at hms
      have hml : k < (L.map ByteArray.size).length := by simpa using hkl
      have hxs : x.size ≤ 63 := by have := hsz.out k hlt; rw [hms] at this; exact this
      have HY : Hid (y + x.size = n1 + ((L.map ByteArray.size).take (k + 1)).sum) := by unfold Hid; rw [sum_take_snoc _ _ hml, hms, hy.out]; omega
      clear hms hml hkl hx hy
      go_wp2
      go_roundw
      case rel => exact ⟨k + 1, y + x.size, by omega, by go_num, by go_num, by omega, HY, by first | rfl | trivial⟩
      case measure => simp [intOf]; omega
    · obtain rfl : k = n := by omega
      have HT : Hid (y = t) := by
        have h1 := hy.out
        rw [List.take_of_length_le (by simp [hn.out])] at h1
        have h2 := ht.out
        have h3 := HN1.out
        unfold Hid; omega
      clear hy
      go_wp2
      go_ret
      exact ⟨by rw [HT.out]; rfl, rfl⟩

set_option maxRecDepth 100000 in
set_option maxHeartbeats 4000000 in
theorem pcheck_at (p : Option Addr) (n cap K : Nat) (E : Int) (L : List ByteArray) (w : World) (hin : StrIn w p L) (hn : Hid (L.length = n)) (hn2 : n ≤ 17592186043904) (hE : Hid (chkD (L.map ByteArray.size) = (K, E))) :
    Calls Try.prog 21 #[.slice p n cap] w fun e w' => e = .returned (.tuple #[.int .i64 K, .int .i64 E]) ∧ w' = w := by
  have HI := Lib.hid hin
  clear hin
  by_cases h0 : n = 0
  · have hl0 : L = [] := List.eq_nil_of_length_eq_zero (by rw [hn.out]; exact h0)
    have hE' := hE.out
    rw [hl0] at hE'
    injection hE' with e1 e2
    subst e1; subst e2; subst h0
    clear hE
    go_enter Try.func21, Try.ntmps21
    go_wp2
    go_ret2
    exact ⟨rfl, rfl⟩
  have d0 : ((n : Int) == 0) = false := by simp; omega
  have hne : L ≠ [] := fun e => h0 (by rw [← hn.out, e]; rfl)
  have HNE := Lib.hid hne
  have hn1 : 1 ≤ n := by omega
  clear h0 hne
  go_enter Try.func21, Try.ntmps21
  go_wp2
  go_loopw [11] (fun i wr => ∃ (k : Nat), k ≤ n ∧ i = .int .i64 k ∧ Hid (∀ j, j < k → 1 ≤ (L.map ByteArray.size).getD j 0 ∧ (L.map ByteArray.size).getD j 0 ≤ 63) ∧ wr = w) (fun i _ => n - (intOf i).toNat)
  case atStart => exact ⟨0, Nat.zero_le _, rfl, fun j hj => by omega, rfl⟩
  case round =>
    obtain ⟨k, hk, rfl, hg, rfl⟩ := hrel
    by_cases hlt : k < n
    · have hkl : k < L.length := by rw [hn.out]; exact hlt
      obtain ⟨b, off, rfl, hck⟩ := HI.out k hkl
      obtain ⟨x, hx⟩ : ∃ x, L.getD k ByteArray.empty = x := ⟨_, rfl⟩
      rw [hx] at hck
      have hms := getD_map_size L k hkl
      rw [hx] at hms
      have hml : k < (L.map ByteArray.size).length := by simpa using hkl
      by_cases hx0 : x.size = 0
      · have d1 := size_zeroN x hx0
        have HK : Hid (K = k ∧ E = 10) := by
          have := hE.out
          rw [chkD_at hml hg.out (.inl (by rw [hms]; exact hx0)), hms, if_pos hx0] at this
          injection this with e1 e2
          exact ⟨e1.symm, e2.symm⟩
        obtain ⟨e1, e2⟩ := HK.out
        subst e1; subst e2
        clear hE HK hms hml hkl hx hx0
        go_wp2
        go_ret2
        exact ⟨rfl, rfl⟩
      · have d1 := size_posN x hx0
        by_cases hx63 : 63 < x.size
        · have HK : Hid (K = k ∧ E = 11) := by
            have := hE.out
            rw [chkD_at hml hg.out (.inr (by rw [hms]; exact hx63)), hms, if_neg hx0] at this
            injection this with e1 e2
            exact ⟨e1.symm, e2.symm⟩
          obtain ⟨e1, e2⟩ := HK.out
          subst e1; subst e2
          clear hE HK hms hml hkl hx hx0
          go_wp2
          go_ret2
          exact ⟨rfl, rfl⟩
        · have HG : Hid (∀ j, j < k + 1 → 1 ≤ (L.map ByteArray.size).getD j 0 ∧ (L.map ByteArray.size).getD j 0 ≤ 63) := fun j hj => by
            by_cases e : j = k
            · subst e; rw [hms]; omega
            · exact hg.out j (by omega)
          clear hms hml hkl hx hx0 hg
          go_wp2
          go_roundw
          case rel => exact ⟨k + 1, by omega, by go_num, HG, by first | rfl | trivial⟩
          case measure => simp [intOf]; omega
    · obtain rfl : k = n := by omega
      obtain ⟨t, ht⟩ : ∃ t, (k - 1) + (L.map ByteArray.size).sum = t := ⟨_, rfl⟩
      have HK : Hid ((127 < k ∨ 253 < t) ∧ K = 0 ∧ E = 11 ∨ ¬ (127 < k ∨ 253 < t) ∧ K = 0 ∧ E = 0) := by
        have h1 := hE.out
        rw [chkD_end (by simpa using HNE.out) (fun j hj => hg.out j (by simpa [hn.out] using hj)), List.length_map, hn.out] at h1
        by_cases hc : 127 < k ∨ 253 < (L.map ByteArray.size).sum + (k - 1)
        · rw [if_pos hc] at h1
          injection h1 with e1 e2
          exact .inl ⟨by omega, e1.symm, e2.symm⟩
        · rw [if_neg hc] at h1
          injection h1 with e1 e2
          exact .inr ⟨by omega, e1.symm, e2.symm⟩
      have HSZ : Hid (∀ j, j < k → (L.map ByteArray.size).getD j 0 ≤ 63) := fun j hj => (hg.out j hj).2
      have HT := Lib.hid ht
      clear hE hg ht
      by_cases h127 : 127 < k
      · obtain ⟨e1, e2⟩ : K = 0 ∧ E = 11 := by
          rcases HK.out with ⟨_, e1, e2⟩ | ⟨hc, _⟩
          · exact ⟨e1, e2⟩
          · exact absurd (.inl h127) hc
        subst e1; subst e2
        clear HK
        go_wp2
        go_ret2
        exact ⟨rfl, rfl⟩
      · go_wp2_with fail
        refine (nsize_at p k cap t L _ HI.out hn hn1 (by omega) HSZ HT).mono ?_
        rintro e w2 ⟨rfl, rfl⟩
        by_cases h253 : 253 < t
        · obtain ⟨e1, e2⟩ : K = 0 ∧ E = 11 := by
            rcases HK.out with ⟨_, e1, e2⟩ | ⟨hc, _⟩
            · exact ⟨e1, e2⟩
            · exact absurd (.inr h253) hc
          subst e1; subst e2
          clear HK
          go_wp2
          go_ret2
          exact ⟨rfl, rfl⟩
        · obtain ⟨e1, e2⟩ : K = 0 ∧ E = 0 := by
            rcases HK.out with ⟨hc, _⟩ | ⟨_, e1, e2⟩
            · exact absurd hc (by omega)
            · exact ⟨e1, e2⟩
          subst e1; subst e2
          clear HK
          go_wp2
          go_ret2
          exact ⟨rfl, rfl⟩

theorem check_at (p : Option Addr) (n cap K : Nat) (E : Int) (L : List ByteArray) (w : World) (hin : StrIn w p L) (hn : Hid (L.length = n)) (hcap : n ≤ cap) (hn2 : n ≤ 17592186043904) (hE : Hid (chkD (L.map ByteArray.size) = (K, E))) :
    Calls Try.prog 21 #[.slice p n cap] w fun e w' => e = .returned (.tuple #[.int .i64 K, .int .i64 E]) ∧ Below w.heap.size w w' := by
  refine (pcheck_at p n cap K E L w hin hn hn2 hE).mono ?_
  rintro e w' ⟨rfl, rfl⟩
  exact ⟨rfl, Below.refl _ _⟩

set_option maxHeartbeats 2000000 in
set_option maxRecDepth 100000 in
/-- WriteByte. -/
theorem bwbyte_any (B b : Nat) (bs : List Value) (c : Int) (w : World) (h : IsBld B b bs w) (hlen : bs.length + 1 ≤ 1099511627776) (hBw : B ≤ w.heap.size) :
    Calls Try.prog 32 #[.pointer (some ⟨b, 0, none⟩), .int .u8 c] w fun e w' => (∃ v, e = .returned v) ∧ BldAt B b (.pointer (some ⟨b, 0, none⟩)) (bs ++ [.int .u8 c]) w' ∧ Below B w w' := by
  obtain ⟨i0, hi, hz0, hz1, hz2⟩ := info_parts Try.infoByte
  go_enter Try.func32, Try.ntmps32
  go_wp2_with fail
  refine (bcheck_any B b bs _ h).mono ?_
  rintro e w1 ⟨rfl, h1, hb1⟩
  obtain ⟨hB, v, hbk, hown, hne⟩ := h1
  have c0 : w1.cell? ⟨b, 0, none⟩ = some (.pointer (some ⟨b, 0, none⟩)) := by rw [Lib.cell_of_heap hbk]; rfl
  have c1 : w1.cell? ⟨b, 1, none⟩ = some v := by rw [Lib.cell_of_heap hbk]; rfl
  have hlt : b < w1.heap.size := by
    rcases Nat.lt_or_ge b w1.heap.size with h' | h'
    · exact h'
    · simp [Array.getElem?_eq_none h'] at hbk
  have HOWN := Lib.hid hown
  have HSZ := Lib.hid (show B ≤ w1.heap.size from Nat.le_trans hBw hb1.size)
  go_wp2_with (at_builtin; first
    | (refine wpList_append_own_at _ rfl _ _ 43 rfl B 5 i0 (.int .u8 0) 1 1 Try.underlying43 hi hz0 hz1 hz2 rfl (by decide) v bs.length bs rfl (World.ownsRow.alloc HOWN.out (.cells #[.int .u8 c] 5)) ⟨_, 0, none⟩ 1 1 [.int .u8 c] rfl rfl (cell_one_new _ _ _) (by intro u hu; simp at hu; subst hu; rfl) (by unfold maxLen; omega) (by omega) (by have := HSZ.out; simp; omega) ?_
       intro v' w2 hown' hgrow _ _
       have hgr : w1.grownBy w2 v.ownBlock := (World.grownBy_alloc w1 (.cells #[.int .u8 c] 5) v.ownBlock).trans hgrow
       have hb2 : w2.heap[b]? = some (.cells #[.pointer (some ⟨b, 0, none⟩), v] 55 (0, 0)) := by
         rw [hgr.block b hlt (fun e => hne e.symm)]
         exact hbk
       have d0 : w2.cell? ⟨b, 0, none⟩ = some (.pointer (some ⟨b, 0, none⟩)) := by rw [Lib.cell_of_heap hb2]; rfl
       have d1 : w2.cell? ⟨b, 1, none⟩ = some v := by rw [Lib.cell_of_heap hb2]; rfl
       have f1 : w2.frozen? ⟨b, 1, none⟩ = false := Lib.frozen_of_heap hb2 1
       obtain ⟨ao, n', cap, rfl⟩ : ∃ ao n' cap, v' = .slice ao n' cap := by
         rcases hown'.2 with ⟨hv, _⟩ | ⟨g, cap, cur, hv, _⟩
         · exact ⟨_, _, _, hv⟩
         · exact ⟨_, _, _, hv⟩))
  go_wp2
  go_ret
  refine ⟨⟨_, rfl⟩, ?_, ?_⟩
  · exact Lib.BuilderAt.put (T := 55) (e := 5) hB hb2 (bs' := bs ++ [.int .u8 c]) (by simpa using hown') (by decide)
  · exact (hb1.grown hgr (by have := hb1.size; omega) (fun k hk => (hown.lt k hk).1)).setCell (p := ⟨b, 1, none⟩) hB _

theorem cells_dot (T : ByteArray) : Lib.strCells (T ++ ByteArray.mk #[46]) = Lib.strCells T ++ [.int .u8 46] := by simp [Lib.strCells, Lib.byteCells]
theorem cells_appendS (a b : ByteArray) : Lib.strCells (a ++ b) = Lib.strCells a ++ Lib.strCells b := by simp [Lib.strCells]

set_option maxRecDepth 100000 in
set_option maxHeartbeats 4000000 in
theorem name_at (p : Option Addr) (n cap : Nat) (S : ByteArray) (E : Int) (L : List ByteArray) (w : World) (hin : StrIn w p L) (hn : Hid (L.length = n)) (hcap : n ≤ cap) (hn2 : n ≤ 17592186043904) (hE : Hid (nameE L = (S, E))) :
    Calls Try.prog 23 #[.slice p n cap] w fun e w' => e = .returned (.tuple #[.string S, .int .i64 E]) ∧ Below w.heap.size w w' := by
  obtain ⟨K, F, hKF⟩ : ∃ K F, chkD (L.map ByteArray.size) = (K, F) := ⟨_, _, rfl⟩
  have HKF := Lib.hid hKF
  have HI := Lib.hid hin
  have hE' := hE.out
  unfold nameE at hE'
  rw [hKF] at hE'
  simp only at hE'
  clear hin
  by_cases hF : F = 0
  · subst hF
    rw [if_neg (by simp)] at hE'
    injection hE' with e1 e2
    subst e2
    have HS := Lib.hid e1
    have hb := chkD_ok (by rw [hKF] : (chkD (L.map ByteArray.size)).2 = 0)
    have hnz : (nameB L).size ≤ 253 := by
      rw [nameB_size]
      have := hb.2.2.2
      simpa using this
    have hn1 : 1 ≤ (nameB L).size := by
      cases hL : L with
      | nil => rw [hL] at hb; simp at hb
      | cons x t =>
        have h1 := (hb.2.1 x.size (by rw [hL]; simp)).1
        rw [nameB_size]
        simp; omega
    have HNZ := Lib.hid hnz
    have HN1 := Lib.hid hn1
    clear hE hKF hb hnz e1 hn1
    go_enter Try.func23, Try.ntmps23
    go_wp2_with (go_at_call 21; refine (pcheck_at p n cap K 0 L _ HI.out hn hn2 HKF).mono ?_; rintro e w5 ⟨rfl, rfl⟩)
    have HBD : Hid (IsBld w5.heap.size w5.heap.size (Lib.strCells ByteArray.empty) (w5.alloc (.cells #[.pointer none, .slice none 0 0] 55))) := Lib.fresh_isBuilder _ _ w5
    have HBL := Lib.hid ((Below.refl w5.heap.size w5).alloc (Nat.le_refl _) (.cells #[.pointer none, .slice none 0 0] 55))
    go_loopw [19] (fun i wr => ∃ (k : Nat) (T : ByteArray), k ≤ n ∧ i = .int .i64 k ∧ T.size ≤ 253 ∧ Hid (nameB (L.take k) = T) ∧ Hid (IsBld w5.heap.size w5.heap.size (Lib.strCells T) wr) ∧ Hid (Below w5.heap.size w5 wr)) (fun i _ => n - (intOf i).toNat)
    case atStart => exact ⟨0, ByteArray.empty, Nat.zero_le _, rfl, by decide, by simp [Hid, nameB_nil], HBD, HBL⟩
    case round =>
      clear HBD HBL
      obtain ⟨k, T, hk, rfl, hT, hTe, hbd, hbel⟩ := hrel
      have HSZ := Lib.hid hbel.out.size
      by_cases hlt : k < n
      · have hkl : k < L.length := by rw [hn.out]; exact hlt
        obtain ⟨b, off, rfl, hck0⟩ := HI.out k hkl
        obtain ⟨x, hx⟩ : ∃ x, L.getD k ByteArray.empty = x := ⟨_, rfl⟩
        rw [hx] at hck0
        have hck := (hbel.out.cell (p := ⟨b, off + k, none⟩) (World.block_lt_of_cell? w5 _ hck0)).trans hck0
        have hsn := nameB_snoc (L.take k) x
        rw [← hx, ← take_snocB L k hkl, hTe.out, hx] at hsn
        have hsz := Nat.le_trans (name_takeS L (k + 1)) HNZ.out
        by_cases h0 : k = 0
        · have HT : Hid (nameB (L.take (k + 1)) = T ++ x) := by
            unfold Hid
            rw [hsn, if_pos (by rw [h0]; simp)]
            have : T = ByteArray.empty := by rw [← hTe.out, h0]; simp [nameB_nil]
            rw [this, ByteArray.empty_append]
          have HTZ : Hid ((T ++ x).size ≤ 253) := by unfold Hid; rw [← HT.out]; exact hsz
          have HTS : Hid (T.size + x.size ≤ 253) := by have := HTZ.out; rw [ByteArray.size_append] at this; exact this
          have hk0 : ¬ 0 < k := by omega
          have dk0 : decide (0 < k) = false := decide_eq_false hk0
          clear h0 hsn hsz hx hkl hTe hck0
          go_wp2_with fail
          refine (bwrite_any w5.heap.size w5.heap.size (Lib.strCells T) x _ hbd.out (by rw [Lib.strCells_length]; have := HTS.out; omega) HSZ.out).mono ?_
          rintro e w6 ⟨rfl, h1, h2⟩
          have HB6 : Hid (IsBld w5.heap.size w5.heap.size (Lib.strCells (T ++ x)) w6) := by unfold Hid; rw [cells_appendS]; exact .inr h1
          have HL6 := Lib.hid (hbel.out.trans h2)
          clear h1 h2 hck
          go_wp2
          go_roundw
          case rel => exact ⟨k + 1, T ++ x, by omega, by go_num, HTZ.out, HT, HB6, HL6⟩
          case measure => simp [intOf]; omega
        · have HT : Hid (nameB (L.take (k + 1)) = (T ++ ByteArray.mk #[46]) ++ x) := by
            unfold Hid
            rw [hsn, if_neg (by
              intro e
              have h1 : (L.take k).length = k := by rw [List.length_take, hn.out]; omega
              rw [e] at h1
              simp at h1; omega)]
          have HTZ : Hid (((T ++ ByteArray.mk #[46]) ++ x).size ≤ 253) := by unfold Hid; rw [← HT.out]; exact hsz
          have HTS : Hid (T.size + 1 + x.size ≤ 253) := by have := HTZ.out; rw [ByteArray.size_append, ByteArray.size_append] at this; exact this
          have HTS1 : Hid ((T ++ ByteArray.mk #[46]).size = T.size + 1) := by unfold Hid; rw [ByteArray.size_append]; rfl
          have hk0 : 0 < k := by omega
          clear h0 hsn hsz hx hkl hTe hck0
          go_wp2_with fail
          refine (bwbyte_any w5.heap.size w5.heap.size (Lib.strCells T) 46 _ hbd.out (by rw [Lib.strCells_length]; omega) HSZ.out).mono ?_
          rintro e w6 ⟨⟨v6, rfl⟩, h1, h2⟩
          have HB6 : Hid (IsBld w5.heap.size w5.heap.size (Lib.strCells (T ++ ByteArray.mk #[46])) w6) := by unfold Hid; rw [cells_dot]; exact .inr h1
          have HL6 := Lib.hid (hbel.out.trans h2)
          have HS6 := Lib.hid HL6.out.size
          clear h1 h2 hck
          go_wp2_with fail
          refine (bwrite_any w5.heap.size w5.heap.size (Lib.strCells (T ++ ByteArray.mk #[46])) x _ HB6.out (by rw [Lib.strCells_length, HTS1.out]; have := HTS.out; omega) HS6.out).mono ?_
          rintro e w7 ⟨rfl, h1, h2⟩
          have HB7 : Hid (IsBld w5.heap.size w5.heap.size (Lib.strCells ((T ++ ByteArray.mk #[46]) ++ x)) w7) := by unfold Hid; rw [cells_appendS]; exact .inr h1
          have HL7 := Lib.hid (HL6.out.trans h2)
          clear h1 h2
          go_wp2
          go_roundw
          case rel => exact ⟨k + 1, (T ++ ByteArray.mk #[46]) ++ x, by omega, by go_num, HTZ.out, HT, HB7, HL7⟩
          case measure => simp [intOf]; omega
      · obtain rfl : k = n := by omega
        have HTE : Hid (T = S) := by
          have := hTe.out
          rw [List.take_of_length_le (by rw [hn.out]; exact Nat.le_refl _)] at this
          unfold Hid; rw [← this, HS.out]
        have HSZ1 : Hid (S.size ≠ 0) := by unfold Hid; rw [← HS.out]; have := HN1.out; omega
        have HBS : Hid (IsBld w5.heap.size w5.heap.size (Lib.strCells S) wr) := by rw [← HTE.out]; exact hbd
        clear hTe hbd
        go_wp2_with fail
        refine (bstring_any w5.heap.size w5.heap.size S.data.toList _ HBS.out (by
          intro e
          apply HSZ1.out
          rw [← ByteArray.size_data, ← Array.length_toList, e]; rfl)).mono ?_
        rintro e w7 ⟨rfl, h2⟩
        have HL7 := Lib.hid (hbel.out.trans h2)
        clear h2
        go_wp2
        go_ret2
        exact ⟨by simp, HL7.out⟩
  · rw [if_pos hF] at hE'
    injection hE' with e1 e2
    subst e1; subst e2
    have d1 : (F != 0) = true := by simp [hF]
    clear hE hKF hF
    go_enter Try.func23, Try.ntmps23
    go_wp2_with (go_at_call 21; refine (pcheck_at p n cap K F L _ HI.out hn hn2 HKF).mono ?_; rintro e w5 ⟨rfl, rfl⟩)
    go_ret2
    exact ⟨rfl, Below.refl _ _⟩

end Go.Proofs.Ytebhliepncmghaa
