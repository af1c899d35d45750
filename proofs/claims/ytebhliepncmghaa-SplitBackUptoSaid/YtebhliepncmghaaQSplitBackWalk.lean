/-
  The walk of SplitBack.
-/
import Derived.Test.YtebhliepncmghaaQSplLaw
set_option linter.unusedSimpArgs false
set_option linter.unusedVariables false
namespace Go.Proofs.Ytebhliepncmghaa.splitBackW
open Go.RowKit
set_option linter.unusedVariables false

theorem isRow_capB {t : IntKind} {w : World} {a : Option Addr} {len cap : Nat} {zs : List Int} (h : IsRow t w a len cap zs) : len ≤ cap := by
  rcases h with ⟨rfl, rfl, rfl, rfl⟩ | ⟨x, rfl, h1, h2, h3, h4, h5⟩
  · exact Nat.le_refl _
  · exact h1
theorem count_take (xs : List Int) (j : Nat) (h : j < xs.length) : (xs.take (j + 1)).count 46 = (xs.take j).count 46 + if xs.getD j 0 = 46 then 1 else 0 := by
  rw [List.take_succ_eq_append_getElem h, List.count_append]
  have e : xs.getD j 0 = xs[j] := by simp [h]
  rw [e]
  by_cases h1 : xs[j] = 46
  · simp [h1]
  · rw [if_neg h1, List.count_singleton]; simp [h1]
theorem count_takeB (xs : List Int) (j : Nat) : (xs.take j).count 46 ≤ xs.length := Nat.le_trans List.count_le_length (by simp; omega)

set_option maxRecDepth 100000 in
set_option maxHeartbeats 8000000 in
theorem walk (a0 : Option Addr) (len0 cap0 : Nat) (z0 : List Int) (a1 : Option Addr) (len1 cap1 : Nat) (z1 : List Int) (w : World) (w0 : IsRow .i64 w a0 len0 cap0 z0) (u0 : len0 ≤ 1048576) (w1 : IsRow .i64 w a1 len1 cap1 z1) (u1 : len1 ≤ 1048576) :
    Calls Try.prog 5 #[.slice a0 len0 cap0, .slice a1 len1 cap1] w fun e w' => e = .returned (.bool true) ∧ Below w.heap.size w w' := by
  have hcap0 := isRow_capB w0
  obtain ⟨ls, hln, hll, hls, _⟩ := w0.inn
  obtain ⟨zs, hzn, hzl, hzs, _⟩ := w1.inn
  have HL := Lib.hid hls
  have HLN : Hid (ls.length = len0) := hln.symm
  have HZ := Lib.hid hzs
  have HZN : Hid (zs.length = len1) := hzn.symm
  obtain ⟨ps, hP⟩ : ∃ ps, pointsF zs = ps := ⟨_, rfl⟩
  have HP := Lib.hid hP
  have HPL : Hid (ps.length ≤ 10) := by unfold Hid; rw [← hP]; exact pointsF_len zs
  clear hP hln hll hls hzn hzl hzs w0 w1
  go_enter Try.func5, Try.ntmps5
  go_wp2_with fail
  refine (kpoints_at a1 len1 cap1 zs ps _ HZ.out HZN (by omega) HP).mono ?_
  rintro e w4 ⟨v4, rfl, ho4, hb⟩
  obtain ⟨pp, pc, rfl, hpi, hpc⟩ := ints_capL ho4
  obtain ⟨pn, hpn⟩ : ∃ pn, ps.length = pn := ⟨_, rfl⟩
  have HPI := Lib.hid hpi
  have HPN := Lib.hid hpn
  have hp10 : pn ≤ 10 := by rw [← hpn]; exact HPL.out
  rw [hpn] at hpc ⊢
  have HB := Lib.hid hb
  replace HL := Lib.hid (HL.out.below hb)
  clear ho4 hpi hpn hb HZ
  go_wp2
  go_loopw [19] (fun i wr => ∃ k : Nat, k ≤ 2 ∧ i = .int .i64 k ∧ Hid (IntsIn wr a0 ls) ∧ Hid (IntsIn wr pp ps) ∧ Hid (Below w.heap.size w wr)) (fun i _ => 2 - (intOf i).toNat)
  case atStart => exact ⟨0, by omega, rfl, HL, HPI, HB⟩
  case round =>
    clear HL HPI HB
    obtain ⟨k, hk, rfl, hl, hp, hbel⟩ := hrel
    rcases (show k = 0 ∨ k = 1 ∨ k = 2 by omega) with rfl | rfl | rfl
    · have hix : ∀ W, (Instr.index 41 (.agg #[.slice a0 len0 cap0, .slice pp pn pc]) (.int .i64 0)).run Try.prog W = .ok (.slice a0 len0 cap0) W := fun W => by simp [Instr.index, run_underlying Try.underlying41, asIntOf, go_sem]
      obtain ⟨D, hD⟩ : ∃ D, cutD ls = D := ⟨_, rfl⟩
      have HD := Lib.hid hD
      have hDl : D.length = ls.count 46 + 1 := by rw [← hD]; exact cutD_len ls
      have HDL := Lib.hid hDl
      have HJ : Hid (joinD D = ls) := by unfold Hid; rw [← hD]; exact join_cut ls
      have HDM : Hid (∀ y ∈ D, (46 : Int) ∉ y) := by rw [← hD]; exact cutD_mem ls
      have HDB : Hid (∀ y ∈ D, y.length ≤ ls.length) := by rw [← hD]; exact cutD_lab ls
      obtain ⟨dn, hdn⟩ : ∃ dn, D.length = dn := ⟨_, rfl⟩
      have HDN := Lib.hid hdn
      have hdb : dn ≤ len0 + 1 := by rw [← hdn, hDl]; have := List.count_le_length (a := (46 : Int)) (l := ls); have := HLN.out; omega
      clear hD hDl hdn
      go_wp2_with fail
      refine (labels_at a0 len0 cap0 ls _ hl.out HLN hcap0 (by omega)).mono ?_
      rintro e w5 ⟨g5, c5, rfl, hn5, hb⟩
      rw [HD.out] at hn5 ⊢
      rw [HDN.out]
      have HNEW := Lib.hid hn5
      have HB5 := Lib.hid (hbel.out.trans (hb.mono hbel.out.size))
      have HL5 := Lib.hid (hl.out.below hb)
      have HP5 := Lib.hid (hp.out.below hb)
      clear hb hn5 hl hp hbel
      go_wp2
      go_loopw [8, 26] (fun v i wr => ∃ (j c : Nat), j ≤ len0 ∧ i = .int .i64 j ∧ v = .int .i64 c ∧ c ≤ len0 + 1 ∧ Hid (c = (ls.take j).count 46 + 1) ∧ wr = w5) (fun _ i _ => len0 - (intOf i).toNat)
      case atStart => exact ⟨0, 1, Nat.zero_le _, rfl, rfl, by omega, by simp [Hid], by first | rfl | trivial⟩
      case round =>
        obtain ⟨j, c, hj, rfl, rfl, hcb, hc, rfl⟩ := hrel
        by_cases hlt : j < len0
        · have hjl : j < ls.length := by rw [HLN.out]; exact hlt
          obtain ⟨b, off, rfl, hck⟩ := HL5.out j hjl
          obtain ⟨x, hx⟩ : ∃ x, ls.getD j 0 = x := ⟨_, rfl⟩
          rw [hx] at hck
          have hct := count_take ls j hjl
          have hcm := count_takeB ls (j + 1)
          have hxn := HLN.out
          rw [hx] at hct
          by_cases e : x = 46
          · have d1 : (x == 46) = true := by simp [e]
            rw [if_pos e] at hct
            have HC : Hid (c + 1 = (ls.take (j + 1)).count 46 + 1) := by unfold Hid; rw [hct, hc.out]
            have hc2 : c + 1 ≤ len0 + 1 := by have := hc.out; omega
            clear hct hcm hxn hx hjl e hc
            go_wp2
            go_roundw
            case rel => exact ⟨j + 1, c + 1, by omega, by go_num, by go_num, hc2, HC, by first | rfl | trivial⟩
            case measure => simp [intOf]; omega
          · have d1 : (x == 46) = false := by simp [e]
            rw [if_neg e] at hct
            have HC : Hid (c = (ls.take (j + 1)).count 46 + 1) := by have h1 := hc.out; unfold Hid; omega
            clear hct hcm hxn hx hjl e hc
            go_wp2
            go_roundw
            case rel => exact ⟨j + 1, c, by omega, by go_num, rfl, hcb, HC, by first | rfl | trivial⟩
            case measure => simp [intOf]; omega
        · obtain rfl : j = len0 := by omega
          have hce : c = dn := by
            have := hc.out
            rw [List.take_of_length_le (by rw [HLN.out]; exact Nat.le_refl _)] at this
            rw [this, ← HDN.out, HDL.out]
          have dne : ((dn : Int) != (c : Int)) = false := by simp [hce]
          have HXB : Hid (ls.length ≤ 1099511627776) := by unfold Hid; rw [HLN.out]; omega
          clear hc hce
          go_wp2_with fail
          refine (join_at (some ⟨g5, 0, none⟩) dn c5 D ls _ HNEW.out.inn HDN (by have := HNEW.out.room; rw [HDN.out] at this; exact this) (by omega) HJ HXB).mono ?_
          rintro e w6 ⟨v6, rfl, ho6, hb⟩
          obtain ⟨q6, c6, rfl, hi6, _⟩ := ints_capL ho6
          rw [HLN.out]
          have HI6 := Lib.hid hi6
          replace HB5 := Lib.hid (HB5.out.trans (hb.mono HB5.out.size))
          replace HL5 := Lib.hid (HL5.out.below hb)
          replace HP5 := Lib.hid (HP5.out.below hb)
          replace HNEW := Lib.hid (HNEW.out.below hb)
          clear hb ho6 hi6
          go_wp2_with fail
          refine (sameI_at q6 a0 c6 cap0 _ _ ls _ HI6.out HL5.out (by rw [HLN.out]; unfold maxLen; omega) HLN.out HLN.out).mono ?_
          rintro e w7 ⟨rfl, hb⟩
          replace HB5 := Lib.hid (HB5.out.trans (hb.mono HB5.out.size))
          replace HL5 := Lib.hid (HL5.out.below hb)
          replace HP5 := Lib.hid (HP5.out.below hb)
          replace HNEW := Lib.hid (HNEW.out.below hb)
          clear hb HI6
          go_wp2
          go_loopw [48] (fun i wr => ∃ m : Nat, m ≤ dn ∧ i = .int .i64 m ∧ wr = w7) (fun i _ => dn - (intOf i).toNat)
          case atStart => exact ⟨0, Nat.zero_le _, rfl, by first | rfl | trivial⟩
          case round =>
            obtain ⟨m, hm, rfl, rfl⟩ := hrel
            by_cases hlt3 : m < dn
            · have hml : m < D.length := by rw [HDN.out]; exact hlt3
              obtain ⟨v, hcv, ⟨q, cq, rfl, _, hiq, _⟩, _⟩ := HNEW.out.hd m hml
              obtain ⟨y, hy⟩ : ∃ y, D.getD m [] = y := ⟨_, rfl⟩
              rw [hy] at hcv hiq
              have hym : y ∈ D := by rw [← hy]; simp [hml]
              have HY : Hid (∀ c ∈ y, c ≠ 46) := fun c hc e => HDM.out y hym (by rw [← e]; exact hc)
              have hyl := HDB.out y hym
              rw [HLN.out] at hyl
              obtain ⟨yn, hyn⟩ : ∃ yn, y.length = yn := ⟨_, rfl⟩
              rw [hyn] at hcv hyl
              have HYN := Lib.hid hyn
              have HQ := Lib.hid hiq
              clear hy hym hml hyn hiq
              go_wp2
              go_loopw [54] (fun i wx => ∃ t : Nat, t ≤ yn ∧ i = .int .i64 t ∧ wx = wr) (fun i _ => yn - (intOf i).toNat)
              case atStart => exact ⟨0, Nat.zero_le _, rfl, by first | rfl | trivial⟩
              case round =>
                obtain ⟨t, ht, rfl, rfl⟩ := hrel
                by_cases hlt4 : t < yn
                · have htl : t < y.length := by rw [HYN.out]; exact hlt4
                  obtain ⟨b, off, rfl, hck⟩ := HQ.out t htl
                  obtain ⟨x, hx⟩ : ∃ x, y.getD t 0 = x := ⟨_, rfl⟩
                  rw [hx] at hck
                  have hne := HY.out x (by rw [← hx]; simp [htl])
                  have d1 : (x == 46) = false := by simp [hne]
                  clear hx htl hne
                  go_wp2
                  go_roundw
                  case rel => exact ⟨t + 1, by omega, by go_num, by first | rfl | trivial⟩
                  case measure => simp [intOf]; omega
                · obtain rfl : t = yn := by omega
                  go_wp2
                  go_roundw
                  case rel => exact ⟨m + 1, by omega, by go_num, by first | rfl | trivial⟩
                  case measure => simp [intOf]; omega
            · obtain rfl : m = dn := by omega
              go_wp2
              go_roundw
              case rel => exact ⟨1, by omega, by go_num, HL5, HP5, HB5⟩
              case measure => simp [intOf]
    · have hix : ∀ W, (Instr.index 41 (.agg #[.slice a0 len0 cap0, .slice pp pn pc]) (.int .i64 1)).run Try.prog W = .ok (.slice pp pn pc) W := fun W => by simp [Instr.index, run_underlying Try.underlying41, asIntOf, go_sem]
      obtain ⟨D, hD⟩ : ∃ D, cutD ps = D := ⟨_, rfl⟩
      have HD := Lib.hid hD
      have hDl : D.length = ps.count 46 + 1 := by rw [← hD]; exact cutD_len ps
      have HDL := Lib.hid hDl
      have HJ : Hid (joinD D = ps) := by unfold Hid; rw [← hD]; exact join_cut ps
      have HDM : Hid (∀ y ∈ D, (46 : Int) ∉ y) := by rw [← hD]; exact cutD_mem ps
      have HDB : Hid (∀ y ∈ D, y.length ≤ ps.length) := by rw [← hD]; exact cutD_lab ps
      obtain ⟨dn, hdn⟩ : ∃ dn, D.length = dn := ⟨_, rfl⟩
      have HDN := Lib.hid hdn
      have hdb : dn ≤ pn + 1 := by rw [← hdn, hDl]; have := List.count_le_length (a := (46 : Int)) (l := ps); have := HPN.out; omega
      clear hD hDl hdn
      go_wp2_with fail
      refine (labels_at pp pn pc ps _ hp.out HPN hpc (by omega)).mono ?_
      rintro e w5 ⟨g5, c5, rfl, hn5, hb⟩
      rw [HD.out] at hn5 ⊢
      rw [HDN.out]
      have HNEW := Lib.hid hn5
      have HB5 := Lib.hid (hbel.out.trans (hb.mono hbel.out.size))
      have HL5 := Lib.hid (hl.out.below hb)
      have HP5 := Lib.hid (hp.out.below hb)
      clear hb hn5 hl hp hbel
      go_wp2
      go_loopw [8, 26] (fun v i wr => ∃ (j c : Nat), j ≤ pn ∧ i = .int .i64 j ∧ v = .int .i64 c ∧ c ≤ pn + 1 ∧ Hid (c = (ps.take j).count 46 + 1) ∧ wr = w5) (fun _ i _ => pn - (intOf i).toNat)
      case atStart => exact ⟨0, 1, Nat.zero_le _, rfl, rfl, by omega, by simp [Hid], by first | rfl | trivial⟩
      case round =>
        obtain ⟨j, c, hj, rfl, rfl, hcb, hc, rfl⟩ := hrel
        by_cases hlt : j < pn
        · have hjl : j < ps.length := by rw [HPN.out]; exact hlt
          obtain ⟨b, off, rfl, hck⟩ := HP5.out j hjl
          obtain ⟨x, hx⟩ : ∃ x, ps.getD j 0 = x := ⟨_, rfl⟩
          rw [hx] at hck
          have hct := count_take ps j hjl
          have hcm := count_takeB ps (j + 1)
          have hxn := HPN.out
          rw [hx] at hct
          by_cases e : x = 46
          · have d1 : (x == 46) = true := by simp [e]
            rw [if_pos e] at hct
            have HC : Hid (c + 1 = (ps.take (j + 1)).count 46 + 1) := by unfold Hid; rw [hct, hc.out]
            have hc2 : c + 1 ≤ pn + 1 := by have := hc.out; omega
            clear hct hcm hxn hx hjl e hc
            go_wp2
            go_roundw
            case rel => exact ⟨j + 1, c + 1, by omega, by go_num, by go_num, hc2, HC, by first | rfl | trivial⟩
            case measure => simp [intOf]; omega
          · have d1 : (x == 46) = false := by simp [e]
            rw [if_neg e] at hct
            have HC : Hid (c = (ps.take (j + 1)).count 46 + 1) := by have h1 := hc.out; unfold Hid; omega
            clear hct hcm hxn hx hjl e hc
            go_wp2
            go_roundw
            case rel => exact ⟨j + 1, c, by omega, by go_num, rfl, hcb, HC, by first | rfl | trivial⟩
            case measure => simp [intOf]; omega
        · obtain rfl : j = pn := by omega
          have hce : c = dn := by
            have := hc.out
            rw [List.take_of_length_le (by rw [HPN.out]; exact Nat.le_refl _)] at this
            rw [this, ← HDN.out, HDL.out]
          have dne : ((dn : Int) != (c : Int)) = false := by simp [hce]
          have HXB : Hid (ps.length ≤ 1099511627776) := by unfold Hid; rw [HPN.out]; omega
          clear hc hce
          go_wp2_with fail
          refine (join_at (some ⟨g5, 0, none⟩) dn c5 D ps _ HNEW.out.inn HDN (by have := HNEW.out.room; rw [HDN.out] at this; exact this) (by omega) HJ HXB).mono ?_
          rintro e w6 ⟨v6, rfl, ho6, hb⟩
          obtain ⟨q6, c6, rfl, hi6, _⟩ := ints_capL ho6
          rw [HPN.out]
          have HI6 := Lib.hid hi6
          replace HB5 := Lib.hid (HB5.out.trans (hb.mono HB5.out.size))
          replace HL5 := Lib.hid (HL5.out.below hb)
          replace HP5 := Lib.hid (HP5.out.below hb)
          replace HNEW := Lib.hid (HNEW.out.below hb)
          clear hb ho6 hi6
          go_wp2_with fail
          refine (sameI_at q6 pp c6 pc _ _ ps _ HI6.out HP5.out (by rw [HPN.out]; unfold maxLen; omega) HPN.out HPN.out).mono ?_
          rintro e w7 ⟨rfl, hb⟩
          replace HB5 := Lib.hid (HB5.out.trans (hb.mono HB5.out.size))
          replace HL5 := Lib.hid (HL5.out.below hb)
          replace HP5 := Lib.hid (HP5.out.below hb)
          replace HNEW := Lib.hid (HNEW.out.below hb)
          clear hb HI6
          go_wp2
          go_loopw [48] (fun i wr => ∃ m : Nat, m ≤ dn ∧ i = .int .i64 m ∧ wr = w7) (fun i _ => dn - (intOf i).toNat)
          case atStart => exact ⟨0, Nat.zero_le _, rfl, by first | rfl | trivial⟩
          case round =>
            obtain ⟨m, hm, rfl, rfl⟩ := hrel
            by_cases hlt3 : m < dn
            · have hml : m < D.length := by rw [HDN.out]; exact hlt3
              obtain ⟨v, hcv, ⟨q, cq, rfl, _, hiq, _⟩, _⟩ := HNEW.out.hd m hml
              obtain ⟨y, hy⟩ : ∃ y, D.getD m [] = y := ⟨_, rfl⟩
              rw [hy] at hcv hiq
              have hym : y ∈ D := by rw [← hy]; simp [hml]
              have HY : Hid (∀ c ∈ y, c ≠ 46) := fun c hc e => HDM.out y hym (by rw [← e]; exact hc)
              have hyl := HDB.out y hym
              rw [HPN.out] at hyl
              obtain ⟨yn, hyn⟩ : ∃ yn, y.length = yn := ⟨_, rfl⟩
              rw [hyn] at hcv hyl
              have HYN := Lib.hid hyn
              have HQ := Lib.hid hiq
              clear hy hym hml hyn hiq
              go_wp2
              go_loopw [54] (fun i wx => ∃ t : Nat, t ≤ yn ∧ i = .int .i64 t ∧ wx = wr) (fun i _ => yn - (intOf i).toNat)
              case atStart => exact ⟨0, Nat.zero_le _, rfl, by first | rfl | trivial⟩
              case round =>
                obtain ⟨t, ht, rfl, rfl⟩ := hrel
                by_cases hlt4 : t < yn
                · have htl : t < y.length := by rw [HYN.out]; exact hlt4
                  obtain ⟨b, off, rfl, hck⟩ := HQ.out t htl
                  obtain ⟨x, hx⟩ : ∃ x, y.getD t 0 = x := ⟨_, rfl⟩
                  rw [hx] at hck
                  have hne := HY.out x (by rw [← hx]; simp [htl])
                  have d1 : (x == 46) = false := by simp [hne]
                  clear hx htl hne
                  go_wp2
                  go_roundw
                  case rel => exact ⟨t + 1, by omega, by go_num, by first | rfl | trivial⟩
                  case measure => simp [intOf]; omega
                · obtain rfl : t = yn := by omega
                  go_wp2
                  go_roundw
                  case rel => exact ⟨m + 1, by omega, by go_num, by first | rfl | trivial⟩
                  case measure => simp [intOf]; omega
            · obtain rfl : m = dn := by omega
              go_wp2
              go_roundw
              case rel => exact ⟨2, by omega, by go_num, HL5, HP5, HB5⟩
              case measure => simp [intOf]
    · go_wp2_with fail
      refine (awake12_any _).mono ?_
      rintro e w5 ⟨rfl, hb⟩
      have HB5 := Lib.hid (hbel.out.trans (hb.mono hbel.out.size))
      clear hb
      go_wp2
      go_ret
      exact ⟨rfl, HB5.out⟩

end Go.Proofs.Ytebhliepncmghaa.splitBackW
