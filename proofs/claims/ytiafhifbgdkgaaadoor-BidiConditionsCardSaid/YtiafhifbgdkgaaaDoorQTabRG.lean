/-
  The references of table: value, find, Excluded, Class, Ignorable, Status.
-/
import Derived.Test.YtiafhifbgdkgaaaDoorQTabRC
import Derived.Test.YtiafhifbgdkgaaaDoorPkE
set_option linter.unusedSimpArgs false
set_option linter.unusedVariables false
namespace Go.Proofs.YtiafhifbgdkgaaaDoor
open Go.RowKit
set_option linter.unusedVariables false

theorem val_at {l : List Sp} {c : Int} {k : Nat} (hk : k < l.length) (h : val (l.take k) c = none) : val (l.take (k + 1)) c = if (l.getD k sp0).1 ≤ c ∧ c ≤ (l.getD k sp0).2.1 then some (l.getD k sp0).2.2 else none := by
  rw [take_snoc_sp l k hk, val_append, h, val_cons]; rfl
theorem val_of_take {l : List Sp} {c v : Int} (k : Nat) (h : val (l.take k) c = some v) : val l c = some v := by
  rw [← List.take_append_drop k l, val_append, h]; rfl
theorem find_at {l : List Mp} {c : Int} {k : Nat} (hk : k < l.length) (h : hasM (l.take k) c = false) (hc : (l.getD k mp0).1 = c) : findM l c = (l.getD k mp0).2 := by
  induction l generalizing k with
  | nil => simp at hk
  | cons m r ih =>
    cases k with
    | zero => simp only [List.getD_cons_zero] at hc ⊢; rw [findM, if_pos hc]
    | succ k =>
      simp only [List.getD_cons_succ] at hc ⊢
      simp only [List.take_succ_cons, hasM, List.any_cons, Bool.or_eq_false_iff, decide_eq_false_iff_not] at h
      rw [findM, if_neg h.1]
      exact ih (by simpa using hk) h.2 hc
theorem has_snoc {l : List Mp} {c : Int} {k : Nat} (hk : k < l.length) (h : hasM (l.take k) c = false) (hc : (l.getD k mp0).1 ≠ c) : hasM (l.take (k + 1)) c = false := by
  rw [take_snoc_mp l k hk]
  simp only [hasM, List.any_append, List.any_cons, List.any_nil, Bool.or_false, Bool.or_eq_false_iff] at h ⊢
  exact ⟨h, decide_eq_false hc⟩

theorem val_res {l : List Sp} {c : Int} (h : spOk l = true) (hc : resB c = true) : val l c = none := by
  cases hv : val l c with
  | none => rfl
  | some v =>
    obtain ⟨s, hs, h1, h2, _⟩ := val_mem hv
    simp only [spOk, Bool.and_eq_true] at h
    have := List.all_eq_true.1 h.2 s hs
    have h3 : resF s.1 s.2.1 = true := by
      rw [resF_iff]; rw [resB_iff] at hc; omega
    rw [h3] at this; cases this

theorem rsta_eq {T : Tb} (h : spOk T.sta = true) (c : Int) : staT T c = if latB c || decide (c = 46) || sylB c then 1 else if uppB c then 3 else (val T.sta c).getD 0 := by
  unfold staT
  by_cases hc : resB c = true
  · rw [val_res h hc]; rfl
  · have h1 : latB c = false := by rw [← Bool.not_eq_true, latB_iff]; rw [resB_iff] at hc; omega
    have h2 : sylB c = false := by rw [← Bool.not_eq_true, sylB_iff]; rw [resB_iff] at hc; omega
    have h3 : uppB c = false := by rw [← Bool.not_eq_true, uppB_iff]; rw [resB_iff] at hc; omega
    have h4 : ¬ c = 46 := by rw [resB_iff] at hc; omega
    simp only [fixT, h1, h2, h3, decide_eq_false h4, Bool.or_self, if_neg Bool.false_ne_true]

set_option maxHeartbeats 4000000 in
theorem rvalue_at (p : Option Addr) (n cp : Nat) (l : List Sp) (c z : Int) (w : World) (hl : Hid (l.length = n)) (hn : n ≤ 17592186043904) (hin : SpIn w p l) (hz : Hid ((val l c).getD 0 = z)) :
    Calls Tryd.prog 26 #[.slice p n cp, .int .i64 c] w (Gives (.int .i64 z) w) := by
  have HI := Lib.hid hin
  clear hin
  go_enter Tryd.func26, Tryd.ntmps26
  go_wp2
  go_loopw [9] (fun i wr => ∃ k : Nat, k ≤ n ∧ i = .int .i64 k ∧ Hid (val (l.take k) c = none) ∧ Hid (Below w.heap.size w wr)) (fun i _ => n - (intOf i).toNat)
  case atStart => exact ⟨0, Nat.zero_le _, rfl, rfl, Below.refl _ _⟩
  case round =>
    obtain ⟨k, hk, rfl, hno, hb⟩ := hrel
    by_cases hlt : k < n
    · have hkl : k < l.length := by rw [hl.out]; exact hlt
      obtain ⟨b, off, rfl, hc1, hc2, hc3⟩ := (HI.out.below hb.out) k hkl
      have hv := val_at hkl hno.out
      obtain ⟨⟨f, t, v⟩, hs⟩ : ∃ s, l.getD k sp0 = s := ⟨_, rfl⟩
      rw [hs] at hc1 hc2 hc3 hv
      simp only at hv
      have HV := Lib.hid hv
      have HBa := Lib.hid (hb.out.alloc hb.out.size (.cells #[.int .i64 f, .int .i64 t, .int .i64 v] 50))
      clear hs hv
      by_cases h1 : f ≤ c
      · have d1 : decide (f ≤ c) = true := decide_eq_true h1
        by_cases h2 : c ≤ t
        · have d2 : decide (c ≤ t) = true := decide_eq_true h2
          have HR : Hid (z = v) := by
            unfold Hid
            rw [← hz.out, val_of_take (k + 1) (by rw [HV.out, if_pos ⟨h1, h2⟩])]; rfl
          clear h1 h2
          go_wp2
          go_ret
          rw [HR.out]
          exact ⟨rfl, HBa.out⟩
        · have d2 : decide (c ≤ t) = false := decide_eq_false h2
          have HN : Hid (val (l.take (k + 1)) c = none) := by unfold Hid; rw [HV.out, if_neg (fun h => h2 h.2)]
          clear h1 h2
          go_wp2
          go_roundw
          case rel => exact ⟨k + 1, by omega, by go_num, HN, HBa⟩
          case measure => simp [intOf]; omega
      · have d1 : decide (f ≤ c) = false := decide_eq_false h1
        have HN : Hid (val (l.take (k + 1)) c = none) := by unfold Hid; rw [HV.out, if_neg (fun h => h1 h.1)]
        clear h1
        go_wp2
        go_roundw
        case rel => exact ⟨k + 1, by omega, by go_num, HN, HBa⟩
        case measure => simp [intOf]; omega
    · obtain rfl : k = n := by omega
      have HR : Hid (z = 0) := by
        have := hno.out
        rw [List.take_of_length_le (Nat.le_of_eq hl.out)] at this
        unfold Hid; rw [← hz.out, this]; rfl
      go_wp2
      go_ret
      rw [HR.out]
      exact ⟨rfl, hb.out⟩

/-- A list of numbers as a result. -/
def GivesL (fl : List Int) (w : World) (e : Ending) (w' : World) : Prop :=
  ∃ p n cp, e = .returned (.slice p n cp) ∧ fl.length = n ∧ n ≤ 17592186043904 ∧ IntsIn w' p fl ∧ Below w.heap.size w w'

theorem rvalue_sp (v : Value) (l : List Sp) (c z : Int) (w : World) (hv : SpV w v l) (hz : Hid ((val l c).getD 0 = z)) :
    Calls Tryd.prog 26 #[v, .int .i64 c] w (Gives (.int .i64 z) w) := by
  obtain ⟨p, cp, rfl, hin, hn⟩ := hv
  exact rvalue_at p _ cp l c z w rfl hn hin hz

set_option maxHeartbeats 2000000 in
theorem rign_at (x : TV) (T : Tb) (c : Int) (B : Bool) (w : World) (hx : TabV w x T) (hv : valOk 1 1 T.ign = true) (hz : Hid (ignT T c = B)) :
    Calls Tryd.prog 30 #[x.agg, .int .i64 c] w (Gives (.bool B) w) := by
  have HE := Lib.hid (Env.new hx)
  have k := HE.out.at6
  obtain ⟨z, hzz⟩ : ∃ z, Hid ((val T.ign c).getD 0 = z) := ⟨_, rfl⟩
  have HB0 : Hid ((z == 1) = B) := by
    unfold Hid
    rw [← hzz.out, ← hz.out, ignT]
    cases hval : val T.ign c with
    | none => rfl
    | some v =>
      obtain ⟨s, hs, _, _, h3⟩ := val_mem hval
      have := List.all_eq_true.1 hv s hs
      simp only [Bool.and_eq_true, decide_eq_true_eq] at this
      have : v = 1 := by omega
      subst this; rfl
  clear hx hv
  simp only [TV.agg]
  go_enter Tryd.func30, Tryd.ntmps30
  go_wp2_with fail
  refine (rvalue_sp x.a6 T.ign c z _ HE.out.tab.ign hzz).mono ?_
  rintro e w1 ⟨rfl, hb⟩
  have HB := Lib.hid (HE.out.step hb)
  clear hb k
  go_wp2
  go_ret
  exact ⟨by rw [HB0.out]; rfl, HB.out.bel⟩

end Go.Proofs.YtiafhifbgdkgaaaDoor
