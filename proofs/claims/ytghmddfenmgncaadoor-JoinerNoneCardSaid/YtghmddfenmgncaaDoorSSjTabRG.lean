/-
  The references of table: value, find, Excluded, Class, Ignorable, Status.
-/
import Derived.Test.YtghmddfenmgncaaDoorSSjTabRC
import Derived.Test.YtghmddfenmgncaaDoorSSjPkE
set_option linter.unusedSimpArgs false
set_option linter.unusedVariables false
namespace Go.Proofs.YtghmddfenmgncaaDoor
open Go.RowKit
set_option linter.unusedVariables false

theorem val_at {l : List Sp} {c : Int} {k : Nat} (hk : k < l.length) (h : val (l.take k) c = none) : val (l.take (k + 1)) c = if (l.getD k sp0).1 ≤ c ∧ c ≤ (l.getD k sp0).2.1 then some (l.getD k sp0).2.2 else none := by
  rw [take_snoc_sp l k hk, val_append, h, val_cons]; rfl
theorem val_of_take {l : List Sp} {c v : Int} (k : Nat) (h : val (l.take k) c = some v) : val l c = some v := by
  rw [← List.take_append_drop k l, val_append, h]; rfl
set_option maxHeartbeats 4000000 in
theorem rvalue_at (p : Option Addr) (n cp : Nat) (l : List Sp) (c z : Int) (w : World) (hl : Hid (l.length = n)) (hn : n ≤ 17592186043904) (hin : SpIn w p l) (hz : Hid ((val l c).getD 0 = z)) :
    Calls Tryd.prog 26 #[.slice p n cp, .int .i64 c] w (Gives (.int .i64 z) w) := by
  have HI := Lib.hid hin
  clear hin
  go_enter Tryd.func26, Tryd.ntmps26
  go_wp2
  go_loopw [9] (fun i wr => ∃ k : Nat, k ≤ n ∧ i = .int .i64 k ∧ Hid (val (l.take k) c = none) ∧ Hid (Below w.heap.size w wr)) (fun i _ => n - (intOf i).toNat)
  case atStart => exact ⟨0, Nat.zero_le _, rfl, rfl, Below.refl _ _⟩
  case round =>
    obtain ⟨k, hk, rfl, hno, hb⟩ := hrel
    by_cases hlt : k < n
    · have hkl : k < l.length := by rw [hl.out]; exact hlt
      obtain ⟨b, off, rfl, hc1, hc2, hc3⟩ := (HI.out.below hb.out) k hkl
      have hv := val_at hkl hno.out
      obtain ⟨⟨f, t, v⟩, hs⟩ : ∃ s, l.getD k sp0 = s := ⟨_, rfl⟩
      rw [hs] at hc1 hc2 hc3 hv
      simp only at hv
      have HV := Lib.hid hv
      have HBa := Lib.hid (hb.out.alloc hb.out.size (.cells #[.int .i64 f, .int .i64 t, .int .i64 v] 47))
      clear hs hv
      by_cases h1 : f ≤ c
      · have d1 : decide (f ≤ c) = true := decide_eq_true h1
        by_cases h2 : c ≤ t
        · have d2 : decide (c ≤ t) = true := decide_eq_true h2
          have HR : Hid (z = v) := by
            unfold Hid
            rw [← hz.out, val_of_take (k + 1) (by rw [HV.out, if_pos ⟨h1, h2⟩])]; rfl
          clear h1 h2
          go_wp2
          go_ret
          rw [HR.out]
          exact ⟨rfl, HBa.out⟩
        · have d2 : decide (c ≤ t) = false := decide_eq_false h2
          have HN : Hid (val (l.take (k + 1)) c = none) := by unfold Hid; rw [HV.out, if_neg (fun h => h2 h.2)]
          clear h1 h2
          go_wp2
          go_roundw
          case rel => exact ⟨k + 1, by omega, by go_num, HN, HBa⟩
          case measure => simp [intOf]; omega
      · have d1 : decide (f ≤ c) = false := decide_eq_false h1
        have HN : Hid (val (l.take (k + 1)) c = none) := by unfold Hid; rw [HV.out, if_neg (fun h => h1 h.1)]
        clear h1
        go_wp2
        go_roundw
        case rel => exact ⟨k + 1, by omega, by go_num, HN, HBa⟩
        case measure => simp [intOf]; omega
    · obtain rfl : k = n := by omega
      have HR : Hid (z = 0) := by
        have := hno.out
        rw [List.take_of_length_le (Nat.le_of_eq hl.out)] at this
        unfold Hid; rw [← hz.out, this]; rfl
      go_wp2
      go_ret
      rw [HR.out]
      exact ⟨rfl, hb.out⟩

theorem rvalue_sp (v : Value) (l : List Sp) (c z : Int) (w : World) (hv : SpV w v l) (hz : Hid ((val l c).getD 0 = z)) :
    Calls Tryd.prog 26 #[v, .int .i64 c] w (Gives (.int .i64 z) w) := by
  obtain ⟨p, cp, rfl, hin, hn⟩ := hv
  exact rvalue_at p _ cp l c z w rfl hn hin hz

set_option maxHeartbeats 2000000 in
theorem rclass_at (x : TV) (T : Tb) (c z : Int) (w : World) (hx : TabV w x T) (hz : Hid (clsT T c = z)) :
    Calls Tryd.prog 9 #[x.agg, .int .i64 c] w (Gives (.int .i64 z) w) := by
  have HE := Lib.hid (Env.new hx)
  have k := HE.out.at1
  clear hx
  simp only [TV.agg]
  go_enter Tryd.func9, Tryd.ntmps9
  go_wp2_with fail
  refine (rvalue_sp x.a1 T.cls c z _ HE.out.tab.cls hz).mono ?_
  rintro e w1 ⟨rfl, hb⟩
  have HB := Lib.hid (HE.out.step hb)
  clear hb k
  go_wp2
  go_ret
  exact ⟨rfl, HB.out.bel⟩

end Go.Proofs.YtghmddfenmgncaaDoor
