/-
  split: contracts of the references CheckLabels, Name.
-/
import Derived.Test.YtebhliepncmghaaQSplRC
set_option linter.unusedSimpArgs false
set_option linter.unusedVariables false
namespace Go.Proofs.Ytebhliepncmghaa
open Go.RowKit
set_option linter.unusedVariables false

theorem getD_map_size (L : List ByteArray) (k : Nat) (h : k < L.length) : (L.map ByteArray.size).getD k 0 = (L.getD k ByteArray.empty).size := by simp [List.getD, h]
theorem chkK_at : ∀ (k : Nat) (L : List Nat) (i : Nat), i < L.length → (∀ j, j < i → 1 ≤ L.getD j 0 ∧ L.getD j 0 ≤ 63) → L.getD i 0 = 0 ∨ 63 < L.getD i 0 → chkK k L = some (k + i, if L.getD i 0 = 0 then 10 else 11)
  | k, [], i, h, _, _ => by simp at h
  | k, m :: r, 0, h, _, hb => by
    simp only [List.getD_cons_zero] at hb ⊢
    rw [chkK]
    rcases hb with e | e
    · rw [if_pos e, if_pos e]; rfl
    · rw [if_neg (by omega), if_pos e, if_neg (by omega)]; rfl
  | k, m :: r, i + 1, h, hg, hb => by
    have h0 := hg 0 (by omega)
    simp only [List.getD_cons_zero] at h0
    rw [chkK, if_neg (by omega), if_neg (by omega)]
    have ih := chkK_at (k + 1) r i (by simpa using h) (fun j hj => by have := hg (j + 1) (by omega); simpa only [List.getD_cons_succ] using this) (by simpa only [List.getD_cons_succ] using hb)
    rw [ih]
    simp only [List.getD_cons_succ]
    rw [show k + 1 + i = k + (i + 1) by omega]
theorem chkD_at {L : List Nat} {i : Nat} (h : i < L.length) (hg : ∀ j, j < i → 1 ≤ L.getD j 0 ∧ L.getD j 0 ≤ 63) (hb : L.getD i 0 = 0 ∨ 63 < L.getD i 0) : chkD L = (i, if L.getD i 0 = 0 then 10 else 11) := by
  unfold chkD
  rw [if_neg (by intro e; rw [e] at h; simp at h), chkK_at 0 L i h hg hb]
  simp
theorem chkD_end {L : List Nat} (hne : L ≠ []) (hg : ∀ j, j < L.length → 1 ≤ L.getD j 0 ∧ L.getD j 0 ≤ 63) : chkD L = if 127 < L.length ∨ 253 < L.sum + (L.length - 1) then (0, 11) else (0, 0) := by
  unfold chkD
  rw [if_neg hne, chkK_all 0 L (fun n hn => by
    obtain ⟨j, hj, rfl⟩ := List.getElem_of_mem hn
    have := hg j hj
    simpa [List.getD, hj] using this)]
theorem sum_take_snoc (L : List Nat) (k : Nat) (h : k < L.length) : (L.take (k + 1)).sum = (L.take k).sum + L.getD k 0 := by
  rw [List.take_succ_eq_append_getElem h, List.sum_append]; simp [h]

set_option maxRecDepth 100000 in
set_option maxHeartbeats 4000000 in
theorem rcheck_at (p : Option Addr) (n cap K : Nat) (E : Int) (L : List ByteArray) (w : World) (hin : StrIn w p L) (hn : Hid (L.length = n)) (hn2 : n ≤ 17592186043904) (hE : Hid (chkD (L.map ByteArray.size) = (K, E))) :
    Calls Try.prog 22 #[.slice p n cap] w fun e w' => e = .returned (.tuple #[.int .i64 K, .int .i64 E]) ∧ w' = w := by
  have HI := Lib.hid hin
  clear hin
  by_cases h0 : n = 0
  · have hl0 : L = [] := List.eq_nil_of_length_eq_zero (by rw [hn.out]; exact h0)
    have hE' := hE.out
    rw [hl0] at hE'
    injection hE' with e1 e2
    subst e1; subst e2; subst h0
    clear hE
    go_enter Try.func22, Try.ntmps22
    go_wp2
    go_ret2
    exact ⟨rfl, rfl⟩
  have d0 : ((n : Int) == 0) = false := by simp; omega
  have hne : L ≠ [] := fun e => h0 (by rw [← hn.out, e]; rfl)
  have HNE := Lib.hid hne
  have hn1 : 1 ≤ n := by omega
  obtain ⟨n1, hn11⟩ : ∃ n1, n - 1 = n1 := ⟨_, rfl⟩
  have iw : (n : Int) - 1 = (n1 : Int) := by omega
  have HN1 := Lib.hid hn11
  clear h0 hne hn11
  go_enter Try.func22, Try.ntmps22
  go_wp2
  go_loopw [4, 15] (fun u i wr => ∃ (k t : Nat), k ≤ n ∧ i = .int .i64 k ∧ u = .int .i64 t ∧ t ≤ n + 63 * k ∧ Hid (t = n1 + ((L.map ByteArray.size).take k).sum) ∧ Hid (∀ j, j < k → 1 ≤ (L.map ByteArray.size).getD j 0 ∧ (L.map ByteArray.size).getD j 0 ≤ 63) ∧ wr = w) (fun _ i _ => n - (intOf i).toNat)
  case atStart => exact ⟨0, n1, Nat.zero_le _, rfl, by go_num, by omega, by simp [Hid], fun j hj => by omega, rfl⟩
  case round =>
    obtain ⟨k, t, hk, rfl, rfl, htb, ht, hg, rfl⟩ := hrel
    by_cases hlt : k < n
    · have hkl : k < L.length := by rw [hn.out]; exact hlt
      obtain ⟨b, off, rfl, hck⟩ := HI.out k hkl
      obtain ⟨x, hx⟩ : ∃ x, L.getD k ByteArray.empty = x := ⟨_, rfl⟩
      rw [hx] at hck
      have hms := getD_map_size L k hkl
      rw [hx] at hms
      have hml : k < (L.map ByteArray.size).length := by simpa using hkl
      by_cases hx0 : x.size = 0
      · have d1 := size_zeroN x hx0
        have HK : Hid (K = k ∧ E = 10) := by
          have := hE.out
          rw [chkD_at hml hg.out (.inl (by rw [hms]; exact hx0)), hms, if_pos hx0] at this
          injection this with e1 e2
          exact ⟨e1.symm, e2.symm⟩
        obtain ⟨e1, e2⟩ := HK.out
        subst e1; subst e2
        clear hE HK hms hml hkl hx hx0
        go_wp2
        go_ret2
        exact ⟨rfl, rfl⟩
      · have d1 := size_posN x hx0
        by_cases hx63 : 63 < x.size
        · have HK : Hid (K = k ∧ E = 11) := by
            have := hE.out
            rw [chkD_at hml hg.out (.inr (by rw [hms]; exact hx63)), hms, if_neg hx0] at this
            injection this with e1 e2
            exact ⟨e1.symm, e2.symm⟩
          obtain ⟨e1, e2⟩ := HK.out
          subst e1; subst e2
          clear hE HK hms hml hkl hx hx0
          go_wp2
          go_ret2
          exact ⟨rfl, rfl⟩
        · have HT : Hid (t + x.size = n1 + ((L.map ByteArray.size).take (k + 1)).sum) := by unfold Hid; rw [sum_take_snoc _ _ hml, hms, ht.out]; omega
          have HG : Hid (∀ j, j < k + 1 → 1 ≤ (L.map ByteArray.size).getD j 0 ∧ (L.map ByteArray.size).getD j 0 ≤ 63) := fun j hj => by
            by_cases e : j = k
            · subst e; rw [hms]; omega
            · exact hg.out j (by omega)
          clear hms hml hkl hx hx0 ht hg
          go_wp2
          go_roundw
          case rel => exact ⟨k + 1, t + x.size, by omega, by go_num, by go_num, by omega, HT, HG, by first | rfl | trivial⟩
          case measure => simp [intOf]; omega
    · obtain rfl : k = n := by omega
      have HK : Hid ((127 < k ∨ 253 < t) ∧ K = 0 ∧ E = 11 ∨ ¬ (127 < k ∨ 253 < t) ∧ K = 0 ∧ E = 0) := by
        have h1 := hE.out
        have h2 := ht.out
        rw [List.take_of_length_le (by simp [hn.out])] at h2
        rw [chkD_end (by simpa using HNE.out) (fun j hj => hg.out j (by simpa [hn.out] using hj)), List.length_map, hn.out] at h1
        have h3 := HN1.out
        by_cases hc : 127 < k ∨ 253 < (L.map ByteArray.size).sum + (k - 1)
        · rw [if_pos hc] at h1
          injection h1 with e1 e2
          exact .inl ⟨by omega, e1.symm, e2.symm⟩
        · rw [if_neg hc] at h1
          injection h1 with e1 e2
          exact .inr ⟨by omega, e1.symm, e2.symm⟩
      rcases HK.out with ⟨hc, e1, e2⟩ | ⟨hc, e1, e2⟩
      · subst e1; subst e2
        clear hE HK ht hg
        by_cases h127 : 127 < k
        · clear hc
          go_wp2
          go_ret2
          exact ⟨rfl, rfl⟩
        · have h253 : 253 < t := by omega
          clear hc
          go_wp2
          go_ret2
          exact ⟨rfl, rfl⟩
      · subst e1; subst e2
        have h127 : ¬ 127 < k := by omega
        have h253 : ¬ 253 < t := by omega
        clear hE HK ht hg hc
        go_wp2
        go_ret2
        exact ⟨rfl, rfl⟩

def NamePost (S : ByteArray) (E : Int) (w : World) (e : Ending) (w' : World) : Prop := e = .returned (.tuple #[.string S, .int .i64 E]) ∧ w' = w

theorem name_takeS (L : List ByteArray) (k : Nat) : (nameB (L.take k)).size ≤ (nameB L).size := by
  unfold nameB
  rw [strOfNums_size, strOfNums_size, List.map_take]
  exact joinD_take _ k

set_option maxRecDepth 100000 in
set_option maxHeartbeats 4000000 in
theorem rname_at (p : Option Addr) (n cap : Nat) (S : ByteArray) (E : Int) (L : List ByteArray) (w : World) (hin : StrIn w p L) (hn : Hid (L.length = n)) (hn2 : n ≤ 17592186043904) (hE : Hid (nameE L = (S, E))) :
    Calls Try.prog 24 #[.slice p n cap] w (NamePost S E w) := by
  obtain ⟨K, F, hKF⟩ : ∃ K F, chkD (L.map ByteArray.size) = (K, F) := ⟨_, _, rfl⟩
  have HKF := Lib.hid hKF
  have HI := Lib.hid hin
  have hE' := hE.out
  unfold nameE at hE'
  rw [hKF] at hE'
  simp only at hE'
  clear hin
  by_cases hF : F = 0
  · subst hF
    rw [if_neg (by simp)] at hE'
    injection hE' with e1 e2
    subst e2
    have HS := Lib.hid e1
    have hb := chkD_ok (by rw [hKF] : (chkD (L.map ByteArray.size)).2 = 0)
    have hnz : (nameB L).size ≤ 253 := by
      rw [nameB_size]
      have := hb.2.2.2
      simpa using this
    have HNZ := Lib.hid hnz
    clear hE hKF hb hnz e1
    go_enter Try.func24, Try.ntmps24
    go_wp2_with (go_at_call 22; refine (rcheck_at p n cap K 0 L _ HI.out hn hn2 HKF).mono ?_; rintro e w5 ⟨rfl, rfl⟩)
    go_loopw [6, 19] (fun u i wr => ∃ (k : Nat) (T : ByteArray), k ≤ n ∧ i = .int .i64 k ∧ u = .string T ∧ T.size ≤ 253 ∧ Hid (nameB (L.take k) = T) ∧ wr = w5) (fun _ i _ => n - (intOf i).toNat)
    case atStart => exact ⟨0, ByteArray.mk #[], Nat.zero_le _, rfl, rfl, by decide, by simp [Hid, nameB_nil]; rfl, by first | rfl | trivial⟩
    case round =>
      obtain ⟨k, T, hk, rfl, rfl, hT, hTe, rfl⟩ := hrel
      by_cases hlt : k < n
      · have hkl : k < L.length := by rw [hn.out]; exact hlt
        obtain ⟨b, off, rfl, hck⟩ := HI.out k hkl
        obtain ⟨x, hx⟩ : ∃ x, L.getD k ByteArray.empty = x := ⟨_, rfl⟩
        rw [hx] at hck
        have hsn := nameB_snoc (L.take k) x
        rw [← hx, ← take_snocB L k hkl, hTe.out, hx] at hsn
        have hsz := Nat.le_trans (name_takeS L (k + 1)) HNZ.out
        by_cases h0 : k = 0
        · have HT : Hid (nameB (L.take (k + 1)) = T ++ x) := by
            unfold Hid
            rw [hsn, if_pos (by rw [h0]; simp)]
            have : T = ByteArray.empty := by rw [← hTe.out, h0]; simp [nameB_nil]
            rw [this, ByteArray.empty_append]
          have HTZ : Hid ((T ++ x).size ≤ 253) := by unfold Hid; rw [← HT.out]; exact hsz
          have HTS : Hid (T.size + x.size ≤ 253) := by have := HTZ.out; rw [ByteArray.size_append] at this; exact this
          have hts := HTS.out
          have hk0 : ¬ 0 < k := by omega
          have dk0 : decide (0 < k) = false := decide_eq_false hk0
          clear h0 hsn hsz hx hkl hTe
          go_wp2
          go_roundw
          case rel => exact ⟨k + 1, T ++ x, by omega, by go_num, rfl, HTZ.out, HT, by first | rfl | trivial⟩
          case measure => simp [intOf]; omega
        · have HT : Hid (nameB (L.take (k + 1)) = (T ++ ByteArray.mk #[46]) ++ x) := by
            unfold Hid
            rw [hsn, if_neg (by
              intro e
              have h1 : (L.take k).length = k := by rw [List.length_take, hn.out]; omega
              rw [e] at h1
              simp at h1; omega)]
          have HTZ : Hid (((T ++ ByteArray.mk #[46]) ++ x).size ≤ 253) := by unfold Hid; rw [← HT.out]; exact hsz
          have HTS : Hid (T.size + 1 + x.size ≤ 253) := by have := HTZ.out; rw [ByteArray.size_append, ByteArray.size_append] at this; exact this
          have HTS1 : (T ++ ByteArray.mk #[46]).size = T.size + 1 := by rw [ByteArray.size_append]; rfl
          have hts := HTS.out
          have hk0 : 0 < k := by omega
          have h46 : (ByteArray.mk #[46]).size = 1 := rfl
          clear h0 hsn hsz hx hkl hTe
          go_wp2
          go_roundw
          case rel => exact ⟨k + 1, (T ++ ByteArray.mk #[46]) ++ x, by omega, by go_num, rfl, HTZ.out, HT, by first | rfl | trivial⟩
          case measure => simp [intOf]; omega
      · obtain rfl : k = n := by omega
        have HTE : Hid (T = S) := by
          have := hTe.out
          rw [List.take_of_length_le (by rw [hn.out]; exact Nat.le_refl _)] at this
          unfold Hid; rw [← this, HS.out]
        clear hTe
        go_wp2
        go_ret2
        exact ⟨by rw [← HTE.out]; rfl, rfl⟩
  · rw [if_pos hF] at hE'
    injection hE' with e1 e2
    subst e1; subst e2
    have d1 : (F != 0) = true := by simp [hF]
    clear hE hKF hF
    go_enter Try.func24, Try.ntmps24
    go_wp2_with (go_at_call 22; refine (rcheck_at p n cap K F L _ HI.out hn hn2 HKF).mono ?_; rintro e w5 ⟨rfl, rfl⟩)
    go_ret2
    exact ⟨rfl, rfl⟩

end Go.Proofs.Ytebhliepncmghaa
