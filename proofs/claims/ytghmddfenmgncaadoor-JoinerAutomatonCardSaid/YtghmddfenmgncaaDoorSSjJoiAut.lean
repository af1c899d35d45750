/-
  The laws of joiner: the automaton (genJL.py).
-/
import Derived.Test.YtghmddfenmgncaaDoorSSjPkZZI
set_option linter.unusedSimpArgs false
set_option linter.unusedVariables false
namespace Go.Proofs.YtghmddfenmgncaaDoor
open Go.RowKit
set_option linter.unusedVariables false

set_option maxHeartbeats 4000000 in
theorem aut_at (x : TV) (T : Tb) (p : Option Addr) (cap : Nat) (zs : List Int) (i : Nat) (B : Bool) (w : World) (hx : TabV w x T) (hin : IntsIn w p zs) (hl : zs.length ≤ 17592186043904) (hi : i ≤ 17592186043904) (hB : Hid (autS T i 0 0 zs = B)) :
    Calls Tryd.prog 12 #[x.agg, .slice p zs.length cap, .int .i64 i] w (Gives (.bool B) w) := by
  have HE := Lib.hid (Env.new hx)
  have HI := Lib.hid hin
  obtain ⟨n, hn⟩ : ∃ n, zs.length = n := ⟨_, rfl⟩
  rw [hn] at hl ⊢
  have HN := Lib.hid hn
  clear hx hin hn
  simp only [TV.agg]
  go_enter Tryd.func12, Tryd.ntmps12
  go_wp2
  go_loopw [7, 13] (fun s iv wr => ∃ k st : Nat, k ≤ n ∧ iv = .int .i64 k ∧ s = .int .i64 st ∧ st ≤ 2 ∧ Hid (autS T i k st (zs.drop k) = B) ∧ Hid (Env w x T wr)) (fun _ iv _ => n - (intOf iv).toNat)
  case atStart => exact ⟨0, 0, Nat.zero_le _, rfl, rfl, by omega, hB, HE⟩
  case round =>
    obtain ⟨k, st, hk, rfl, rfl, hst, hs, he⟩ := hrel
    by_cases hlt : k < n
    · have hkl : k < zs.length := by rw [HN.out]; exact hlt
      obtain ⟨b, off, rfl, hck⟩ := (HI.out.below he.out.bel) k hkl
      obtain ⟨c, hc⟩ : ∃ c, zs.getD k 0 = c := ⟨_, rfl⟩
      rw [hc] at hck
      obtain ⟨z, hz⟩ : ∃ z, Hid (joiT T c = z) := ⟨_, rfl⟩
      have hs2 := hs.out
      rw [jo_drop zs k hkl, hc, autS, hz.out] at hs2
      have hjl : joL T c = (decide (z = 1) || decide (z = 3)) := by unfold joL; rw [hz.out]
      have hjr : joR T c = (decide (z = 2) || decide (z = 3)) := by unfold joR; rw [hz.out]
      rw [hjl, hjr] at hs2
      have HS2 := Lib.hid hs2
      clear hc hs hs2 hjl hjr hkl
      obtain ⟨⟨k0, k1, k2, k3, k4, k5⟩, ⟨k6, k7, k8, k9, k10, k11⟩⟩ := he.out.box.load
      go_wp2_with fail
      refine (rjoining_at x T c z _ he.out.tab hz).mono ?_
      rintro e w2 ⟨rfl, hb⟩
      replace he := Lib.hid (he.out.step hb)
      clear hb hck k0 k1 k2 k3 k4 k5 k6 k7 k8 k9 k10 k11
      by_cases hki : k < i
      · have l1 : decide ((k : Int) < (i : Int)) = true := decide_eq_true (by omega)
        have l2 : decide ((i : Int) < (k : Int)) = false := decide_eq_false (by omega)
        have l3 : ((k : Int) == (i : Int)) = false := by simp; omega
        by_cases hz5 : z = 5
        · subst hz5
          have HS3 : Hid (autS T i (k + 1) st (zs.drop (k + 1)) = B) := by
            have := HS2.out
            rwa [if_pos ⟨by omega, rfl⟩] at this
          go_wp2
          go_roundw
          case rel => exact ⟨k + 1, st, by omega, by go_num, rfl, by omega, HS3, he⟩
          case measure => simp [intOf]; omega
        · have z5 : (z == 5) = false := by simp [hz5]
          by_cases hz1 : z = 1
          · subst hz1
            have HS3 : Hid (autS T i (k + 1) 1 (zs.drop (k + 1)) = B) := by
              have := HS2.out
              rwa [if_neg (fun h => by have := h.2; omega), if_pos hki, if_pos (by decide)] at this
            go_wp2
            go_roundw
            case rel => exact ⟨k + 1, 1, by omega, by go_num, rfl, by omega, HS3, he⟩
            case measure => simp [intOf]; omega
          · have z1 : (z == 1) = false := by simp [hz1]
            by_cases hz3 : z = 3
            · subst hz3
              have HS3 : Hid (autS T i (k + 1) 1 (zs.drop (k + 1)) = B) := by
                have := HS2.out
                rwa [if_neg (fun h => by have := h.2; omega), if_pos hki, if_pos (by decide)] at this
              go_wp2
              go_roundw
              case rel => exact ⟨k + 1, 1, by omega, by go_num, rfl, by omega, HS3, he⟩
              case measure => simp [intOf]; omega
            · have z3 : (z == 3) = false := by simp [hz3]
              have HS3 : Hid (autS T i (k + 1) 0 (zs.drop (k + 1)) = B) := by
                have := HS2.out
                rwa [if_neg (fun h => hz5 h.2), if_pos hki, if_neg (by simp [hz1, hz3])] at this
              go_wp2
              go_roundw
              case rel => exact ⟨k + 1, 0, by omega, by go_num, rfl, by omega, HS3, he⟩
              case measure => simp [intOf]; omega
      · by_cases hke : k = i
        · have l1 : decide ((k : Int) < (i : Int)) = false := decide_eq_false (by omega)
          have l2 : decide ((i : Int) < (k : Int)) = false := decide_eq_false (by omega)
          have l3 : ((k : Int) == (i : Int)) = true := by simp; omega
          by_cases hs1 : st = 1
          · subst hs1
            have HS3 : Hid (autS T i (k + 1) 2 (zs.drop (k + 1)) = B) := by
              have := HS2.out
              rwa [if_neg (fun h => h.1 hke), if_neg hki, if_pos hke, if_pos rfl] at this
            go_wp2
            go_roundw
            case rel => exact ⟨k + 1, 2, by omega, by go_num, rfl, by omega, HS3, he⟩
            case measure => simp [intOf]; omega
          · have s1 : ((st : Int) == 1) = false := by simp; omega
            have hB2 : B = false := by
              have := HS2.out
              rw [if_neg (fun h => h.1 hke), if_neg hki, if_pos hke, if_neg hs1] at this; exact this.symm
            subst hB2
            go_wp2
            go_ret
            exact ⟨rfl, he.out.bel⟩
        · have hgt : i < k := by omega
          have l1 : decide ((k : Int) < (i : Int)) = false := decide_eq_false (by omega)
          have l2 : decide ((i : Int) < (k : Int)) = true := decide_eq_true (by omega)
          have l3 : ((k : Int) == (i : Int)) = false := by simp; omega
          by_cases hz5 : z = 5
          · subst hz5
            have HS3 : Hid (autS T i (k + 1) st (zs.drop (k + 1)) = B) := by
              have := HS2.out
              rwa [if_pos ⟨by omega, rfl⟩] at this
            go_wp2
            go_roundw
            case rel => exact ⟨k + 1, st, by omega, by go_num, rfl, by omega, HS3, he⟩
            case measure => simp [intOf]; omega
          · have z5 : (z == 5) = false := by simp [hz5]
            by_cases hs2 : st = 2
            · subst hs2
              by_cases hz2 : z = 2
              · subst hz2
                have hB2 : B = true := by
                  have := HS2.out
                  rw [if_neg (fun h => by have := h.2; omega), if_neg hki, if_neg hke] at this; exact this.symm.trans (by decide)
                subst hB2
                go_wp2
                go_ret
                exact ⟨rfl, he.out.bel⟩
              · have z2 : (z == 2) = false := by simp [hz2]
                by_cases hz3 : z = 3
                · subst hz3
                  have hB2 : B = true := by
                    have := HS2.out
                    rw [if_neg (fun h => by have := h.2; omega), if_neg hki, if_neg hke] at this; exact this.symm.trans (by decide)
                  subst hB2
                  go_wp2
                  go_ret
                  exact ⟨rfl, he.out.bel⟩
                · have z3 : (z == 3) = false := by simp [hz3]
                  have hB2 : B = false := by
                    have := HS2.out
                    rw [if_neg (fun h => hz5 h.2), if_neg hki, if_neg hke] at this; rw [← this]; simp [hz2, hz3]
                  subst hB2
                  go_wp2
                  go_ret
                  exact ⟨rfl, he.out.bel⟩
            · have s2 : ((st : Int) == 2) = false := by simp; omega
              have hB2 : B = false := by
                have := HS2.out
                rw [if_neg (fun h => hz5 h.2), if_neg hki, if_neg hke] at this; rw [← this]; simp [hs2]
              subst hB2
              go_wp2
              go_ret
              exact ⟨rfl, he.out.bel⟩
    · have hB2 : B = false := by
        have := hs.out
        rw [List.drop_eq_nil_of_le (by rw [HN.out]; omega), autS] at this
        exact this.symm
      subst hB2
      go_wp2
      go_ret
      exact ⟨rfl, he.out.bel⟩

end Go.Proofs.YtghmddfenmgncaaDoor
