/-
  The walk of SplitName.
-/
import Derived.Test.YtebhliepncmghaaQSplLaw
set_option linter.unusedSimpArgs false
set_option linter.unusedVariables false
namespace Go.Proofs.Ytebhliepncmghaa.splitNameW
open Go.RowKit
set_option linter.unusedVariables false

set_option maxRecDepth 100000 in
set_option maxHeartbeats 4000000 in
theorem walk (a0 : Option Addr) (len0 cap0 : Nat) (z0 : List Int) (w : World) (w0 : IsRow .i64 w a0 len0 cap0 z0) :
    Calls Try.prog 6 #[.slice a0 len0 cap0] w fun e w' => e = .returned (.bool true) ∧ Below w.heap.size w w' := by
  obtain ⟨zs, hzn, hzl, hzs, _⟩ := w0.inn
  simp only [IntKind.bits] at hzl
  have HZ := Lib.hid hzs
  have HZN : Hid (zs.length = len0) := hzn.symm
  have hzb : len0 ≤ 17592186043904 := by omega
  clear hzs hzn hzl w0
  go_enter Try.func6, Try.ntmps6
  go_wp2_with fail
  refine (labs12_any a0 len0 cap0 zs _ HZ.out HZN hzb).mono ?_
  rintro e w2 ⟨L, v2, rfl, hst, hL7, hok, hb2⟩
  obtain ⟨p, c, rfl, hin, hlc⟩ := hst.inn
  obtain ⟨n, hn⟩ : ∃ n, L.length = n := ⟨_, rfl⟩
  rw [hn] at hlc hL7 ⊢
  have HIN := Lib.hid hin
  have HN := Lib.hid hn
  have HB := Lib.hid hb2
  have HOK := Lib.hid hok
  obtain ⟨S, F, hS⟩ : ∃ S F, nameE L = (S, F) := ⟨_, _, rfl⟩
  have HS := Lib.hid hS
  clear hst hin hn hb2 hS HZ hok
  go_wp2_with fail
  refine (name_at p n c S F L _ HIN.out HN hlc (by omega) HS).mono ?_
  rintro e w5 ⟨rfl, hb⟩
  replace HB := Lib.hid (HB.out.trans (hb.mono HB.out.size))
  replace HIN := Lib.hid (HIN.out.below hb)
  clear hb
  by_cases hF : F = 0
  · subst hF
    have hok2 := nameE_ok (L := L) (by rw [HS.out])
    have hS2 : S = nameB L := by have := hok2.2; rw [HS.out] at this; injection this
    obtain ⟨hne, hall, h127, h253⟩ := chkD_ok hok2.1
    have hne2 : L ≠ [] := by simpa using hne
    have hszS : S.size = (L.map ByteArray.size).sum + (L.length - 1) := by rw [hS2]; exact nameB_size L
    have hS253 : S.size ≤ 253 := by rw [hszS]; simpa using h253
    have hS1 : 1 ≤ S.size := by
      cases hL : L with
      | nil => exact absurd hL hne2
      | cons x t =>
        have := hall x.size (by rw [hL]; simp)
        rw [hszS, hL]; simp; omega
    have HSD : Hid (strsD S = L) := by unfold Hid; rw [hS2]; exact strs_name hne2 (fun x hx => (HOK.out x hx).2)
    have HSZ : Hid (∀ k, k < n → 1 ≤ (L.getD k ByteArray.empty).size ∧ (L.getD k ByteArray.empty).size ≤ 63) := fun k hk => by
      have hkl : k < L.length := by rw [HN.out]; exact hk
      have := hall (L.getD k ByteArray.empty).size (by rw [List.mem_map]; exact ⟨L.getD k ByteArray.empty, by simp [hkl], rfl⟩)
      exact this
    have d253 : decide ((S.size : Int) ≤ 253) = true := decide_eq_true (by omega)
    clear hok2 hS2 hne hall h127 h253 hne2 hszS
    go_wp2
    go_loopw [32] (fun i wr => ∃ k : Nat, k ≤ n ∧ i = .int .i64 k ∧ wr = w5) (fun i _ => n - (intOf i).toNat)
    case atStart => exact ⟨0, Nat.zero_le _, rfl, by first | rfl | trivial⟩
    case round =>
      obtain ⟨k, hk, rfl, rfl⟩ := hrel
      by_cases hlt : k < n
      · have hkl : k < L.length := by rw [HN.out]; exact hlt
        obtain ⟨b, off, rfl, hck⟩ := HIN.out k hkl
        obtain ⟨h1, h2⟩ := HSZ.out k hlt
        obtain ⟨x, hx⟩ : ∃ x, L.getD k ByteArray.empty = x := ⟨_, rfl⟩
        rw [hx] at hck h1 h2
        have d1 : decide ((x.size : Int) < 1) = false := decide_eq_false (by omega)
        have d2 : decide ((63 : Int) < (x.size : Int)) = false := decide_eq_false (by omega)
        clear hx hkl
        go_wp2
        go_roundw
        case rel => exact ⟨k + 1, by omega, by go_num, by first | rfl | trivial⟩
        case measure => simp [intOf]; omega
      · obtain rfl : k = n := by omega
        go_wp2_with fail
        refine (awake12_any _).mono ?_
        rintro e w7 ⟨rfl, hb⟩
        replace HB := Lib.hid (HB.out.trans (hb.mono HB.out.size))
        replace HIN := Lib.hid (HIN.out.below hb)
        clear hb
        go_wp2_with fail
        refine (strings_at S L _ (by omega) HSD).mono ?_
        rintro e w8 ⟨v8, rfl, hs8, hb⟩
        obtain ⟨p8, c8, rfl, hin8, _⟩ := hs8.inn
        rw [HN.out]
        have HIN8 := Lib.hid hin8
        replace HB := Lib.hid (HB.out.trans (hb.mono HB.out.size))
        replace HIN := Lib.hid (HIN.out.below hb)
        clear hb hs8 hin8
        go_wp2_with fail
        refine (sames_at p8 p c8 c k k L _ HIN8.out HIN.out HN HN (by unfold maxLen; omega)).mono ?_
        rintro e w9 ⟨rfl, hb⟩
        replace HB := Lib.hid (HB.out.trans (hb.mono HB.out.size))
        clear hb
        go_wp2
        go_ret
        exact ⟨rfl, HB.out⟩
  · have hne := nameE_err (L := L) (by rw [HS.out]; exact hF)
    rw [HS.out] at hne
    obtain ⟨e1, e2⟩ := hne
    simp only at e1 e2
    subst e1
    have d1 : (F != 0) = true := by simp [hF]
    have d2 : (ByteArray.empty.toList == []) = true := size_zeroN _ rfl
    rcases e2 with rfl | rfl
    · go_wp2_with fail
      refine (awake12_any _).mono ?_
      rintro e w7 ⟨rfl, hb⟩
      replace HB := Lib.hid (HB.out.trans (hb.mono HB.out.size))
      clear hb
      go_wp2
      go_ret
      exact ⟨rfl, HB.out⟩
    · go_wp2_with fail
      refine (awake12_any _).mono ?_
      rintro e w7 ⟨rfl, hb⟩
      replace HB := Lib.hid (HB.out.trans (hb.mono HB.out.size))
      clear hb
      go_wp2
      go_ret
      exact ⟨rfl, HB.out⟩

end Go.Proofs.Ytebhliepncmghaa.splitNameW
