/-
  table: searching numbers, copies, single properties.
-/
import Derived.Test.YtmkaclfjekjabaaDoorTabM
import Derived.Test.YtmkaclfjekjabaaDoorTabS
import Derived.Deep.RegionHeld3
import Derived.Deep.RegionWith
namespace Go.Proofs.YtmkaclfjekjabaaDoor
open Go.RowKit

theorem less_at (a b : Int) (B : Bool) (w : World) (hB : Hid (decide (a < b) = B)) : Calls Tryd.prog 109 #[.int .i64 a, .int .i64 b] w fun e w' => e = .returned (.bool B) ∧ w = w' := by
  have hb := hB.out
  go_enter Tryd.func109, Tryd.ntmps109
  go_wp2_with (go_at_call 108; refine (isNaN_any _ _).mono ?_; rintro e w' ⟨rfl, rfl⟩)
  go_ret
  exact ⟨by rw [← hb]; rfl, rfl⟩

theorem sNaN_any (c : Int) (w : World) : Calls Tryd.prog 110 #[.int .i64 c] w fun e w' => e = .returned (.bool false) ∧ w = w' := by
  have h : (c != c) = false := by simp
  go_enter Tryd.func110, Tryd.ntmps110
  go_wp2
  go_ret
  exact ⟨rfl, rfl⟩

def FndI (l : List Int) (c : Int) (w : World) (e : Ending) (w' : World) : Prop :=
  ∃ i : Nat, e = .returned (.tuple #[.int .i64 i, .bool (l.contains c)]) ∧ w = w'

set_option maxRecDepth 100000 in
set_option maxHeartbeats 4000000 in
theorem bsI_any (p : Option Addr) (n cp : Nat) (l : List Int) (c : Int) (w : World) (hl : l.length = n) (hn : n ≤ 17592186043904) (hin : IntsIn w p l) (ha : ascI 0 1114111 l = true) :
    Calls Tryd.prog 107 #[.slice p n cp, .int .i64 c] w (FndI l c w) := by
  have HI := Lib.hid hin
  have HL := Lib.hid hl
  have HA := Lib.hid ha
  clear hin hl ha
  go_enter Tryd.func107, Tryd.ntmps107
  go_wp2
  go_loop [7, 8] (fun x y => ∃ a b : Nat, a ≤ b ∧ b ≤ n ∧ x = .int .i64 a ∧ y = .int .i64 b ∧ Hid (∀ s ∈ l.take a, s < c) ∧ Hid (∀ s ∈ l.drop b, c ≤ s)) (fun x y => (intOf y - intOf x).toNat)
  case atStart =>
    refine ⟨0, n, Nat.zero_le _, Nat.le_refl _, rfl, rfl, by simp [Hid], ?_⟩
    unfold Hid; rw [List.drop_of_length_le (Nat.le_of_eq HL.out)]; simp
  case round =>
    obtain ⟨a, b, hab, hbn, rfl, rfl, h1, h2⟩ := hrel
    by_cases hlt : a < b
    · obtain ⟨m, hm⟩ : ∃ m : Nat, m = (a + b) / 2 := ⟨_, rfl⟩
      have hma : a ≤ m := by omega
      have hmb : m < b := by omega
      have hmn : m < l.length := by rw [HL.out]; omega
      have hmid : ((a : Int) + (b : Int)) / 2 = (m : Int) := by omega
      obtain ⟨g, off, rfl, hc1⟩ := HI.out m hmn
      obtain ⟨f, hs⟩ : ∃ f, l.getD m 0 = f := ⟨_, rfl⟩
      rw [hs] at hc1
      have HS := Lib.hid hs
      clear hs hm
      by_cases htc : f < c
      · have hz : Hid (decide (f < c) = true) := decide_eq_true htc
        have H1 : Hid (∀ s ∈ l.take (m + 1), s < c) := int_take_lt HA.out m hmn (by rw [HS.out]; exact htc)
        go_wp2_with fail
        refine (less_at f c true _ hz).mono ?_
        rintro e w2 ⟨rfl, rfl⟩
        go_wp2
        go_round
        case rel => exact ⟨m + 1, b, by omega, hbn, by go_num, rfl, H1, h2⟩
        case measure => simp [intOf]; omega
      · have hz : Hid (decide (f < c) = false) := decide_eq_false htc
        have H2 : Hid (∀ s ∈ l.drop m, c ≤ s) := int_drop_ge HA.out m hmn (by rw [HS.out]; omega)
        go_wp2_with fail
        refine (less_at f c false _ hz).mono ?_
        rintro e w2 ⟨rfl, rfl⟩
        go_wp2
        go_round
        case rel => exact ⟨a, m, by omega, by omega, rfl, rfl, h1, H2⟩
        case measure => simp [intOf]; omega
    · obtain rfl : a = b := by omega
      obtain ⟨f1, f2, f3⟩ := mem_of_first HA.out a h1.out h2.out
      rw [HL.out] at f1 f2 f3
      by_cases hlt2 : a < n
      · have hal : a < l.length := by rw [HL.out]; exact hlt2
        obtain ⟨g, off, rfl, hc1⟩ := HI.out a hal
        have hto : c ≤ l.getD a 0 := h2.out _ (by rw [drop_cons_int _ a (by rw [HL.out]; exact hlt2)]; simp)
        obtain ⟨f, hs⟩ : ∃ f, l.getD a 0 = f := ⟨_, rfl⟩
        rw [hs] at hc1 f2 f3 hto
        clear hs f1
        by_cases hcf : c < f
        · have hz1 : (f == c) = false := by simp; omega
          have HV := Lib.hid (f2 hlt2 hcf)
          clear f2 f3
          go_wp2_with (go_at_call 110; refine (sNaN_any _ _).mono ?_; rintro e w' ⟨rfl, rfl⟩)
          go_ret2
          exact ⟨a, by rw [HV.out]; rfl, rfl⟩
        · have hfc : f = c := by omega
          have hz1 : (f == c) = true := by simp; omega
          have HV := Lib.hid (f3 hlt2 hfc)
          clear f2 f3 hfc
          go_wp2_with (go_at_call 110; refine (sNaN_any _ _).mono ?_; rintro e w' ⟨rfl, rfl⟩)
          go_ret2
          exact ⟨a, by rw [HV.out]; rfl, rfl⟩
      · have HV := Lib.hid (f1 (by omega))
        clear f1 f2 f3
        go_wp2
        go_ret2
        exact ⟨a, by rw [HV.out]; rfl, rfl⟩

/-- The first fact of r2 that most functions ask: where a code point's value is found. -/
theorem class_at (x : TV) (T : Tb) (c z : Int) (w : World) (hx : TabV w x T) (ha : ascB 0 T.cls = true) (hz : Hid (clsT T c = z)) :
    Calls Tryd.prog 100 #[x.agg, .int .i64 c] w (Gives (.int .i64 z) w) := by
  obtain ⟨a0, a1, a2, a3, a4, a5, a6, a7, a8, a9, a10, a11⟩ := x
  have HX := Lib.hid hx
  have HA := Lib.hid ha
  clear hx ha
  simp only [TV.agg]
  go_enter Tryd.func100, Tryd.ntmps100
  go_wp2_with fail
  refine (valueOr_at a1 T.cls c 0 z _ ((HX.out.alloc _).cls) HA.out hz).mono ?_
  rintro e w1 ⟨rfl, hb⟩
  have HB := Lib.hid (((Below.refl w.heap.size w).alloc (Nat.le_refl _) _).trans (hb.mono (by simp)))
  clear hb
  go_wp2
  go_ret
  exact ⟨rfl, HB.out⟩

theorem hasDecomp_at (x : TV) (T : Tb) (c : Int) (B : Bool) (w : World) (hx : TabV w x T) (ha : ascI 0 1114111 (froms T.dec) = true) (hB : Hid (hasM T.dec c = B)) :
    Calls Tryd.prog 70 #[x.agg, .int .i64 c] w (Gives (.bool B) w) := by
  obtain ⟨a0, a1, a2, a3, a4, a5, a6, a7, a8, a9, a10, a11⟩ := x
  have HX := Lib.hid hx
  have HA := Lib.hid ha
  clear hx ha
  simp only [TV.agg]
  go_enter Tryd.func70, Tryd.ntmps70
  go_wp2_with fail
  refine (findMp_any a9 T.dec c _ ((HX.out.alloc _).dec) HA.out).mono ?_
  rintro e w1 ⟨i, rfl, hi, _, hb⟩
  have HB := Lib.hid (((Below.refl w.heap.size w).alloc (Nat.le_refl _) _).trans (hb.mono (by simp)))
  clear hb
  go_wp2
  go_ret
  exact ⟨by rw [← hB.out]; rfl, HB.out⟩

theorem excluded_at (x : TV) (T : Tb) (c : Int) (B : Bool) (w : World) (hx : TabV w x T) (ha : ascI 0 1114111 T.exc = true) (hB : Hid (excT T c = B)) :
    Calls Tryd.prog 99 #[x.agg, .int .i64 c] w (Gives (.bool B) w) := by
  obtain ⟨a0, a1, a2, a3, a4, a5, a6, a7, a8, a9, a10, a11⟩ := x
  obtain ⟨p, cp, he, hin, hn⟩ := hx.exc
  simp only at he
  subst he
  have HI := Lib.hid (RowIn.alloc hin (.cells #[a0, a1, a2, a3, a4, a5, a6, a7, a8, a9, .slice p T.exc.length cp, a11] 26))
  have HA := Lib.hid ha
  clear hx ha hin
  simp only [TV.agg]
  go_enter Tryd.func99, Tryd.ntmps99
  go_wp2_with fail
  refine (bsI_any p T.exc.length cp T.exc c _ rfl hn HI.out HA.out).mono ?_
  rintro e w1 ⟨i, rfl, rfl⟩
  have HC : Hid (T.exc.contains c = B) := hB
  rw [HC.out]
  go_wp2
  go_ret
  exact ⟨rfl, (Below.refl _ _).alloc (Nat.le_refl _) _⟩

end Go.Proofs.YtmkaclfjekjabaaDoor
