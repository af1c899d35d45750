/-
  table: the reserved code points; small functions of a code point.
-/
import Derived.Test.YtmkaclfjekjabaaDoorTabMem
import Derived.Laws.Rows
namespace Go.Proofs.YtmkaclfjekjabaaDoor
open Go.RowKit

abbrev rsvV : Value := .agg #[.int .i64 0, .int .i64 127, .int .i64 4352, .int .i64 4370, .int .i64 4449, .int .i64 4469, .int .i64 4520, .int .i64 4546, .int .i64 44032, .int .i64 55203, .int .i64 55296, .int .i64 57343]
def rsvL : List (Int × Int) := [(0, 127), (4352, 4370), (4449, 4469), (4520, 4546), (44032, 55203), (55296, 57343)]
def hitB (f t : Int) (r : Int × Int) : Bool := meets f t r.1 r.2

theorem rsv_all (f t : Int) : resF f t = rsvL.any (hitB f t) := by
  simp [resF, rsvL, hitB]

theorem rsv_index (k : Nat) (hk : k < 6) (w : World) :
    (Instr.index 96 rsvV (.int .i64 k)).run Tryd.prog w = .ok (.agg #[.int .i64 (rsvL.getD k (0, 0)).1, .int .i64 (rsvL.getD k (0, 0)).2]) w := by
  have h : k = 0 ∨ k = 1 ∨ k = 2 ∨ k = 3 ∨ k = 4 ∨ k = 5 := by omega
  rcases h with rfl | rfl | rfl | rfl | rfl | rfl
  · exact (show (Instr.index 96 rsvV (.int .i64 0)).run Tryd.prog w = .ok (.agg #[.int .i64 0, .int .i64 127]) w by kernel_rfl)
  · exact (show (Instr.index 96 rsvV (.int .i64 1)).run Tryd.prog w = .ok (.agg #[.int .i64 4352, .int .i64 4370]) w by kernel_rfl)
  · exact (show (Instr.index 96 rsvV (.int .i64 2)).run Tryd.prog w = .ok (.agg #[.int .i64 4449, .int .i64 4469]) w by kernel_rfl)
  · exact (show (Instr.index 96 rsvV (.int .i64 3)).run Tryd.prog w = .ok (.agg #[.int .i64 4520, .int .i64 4546]) w by kernel_rfl)
  · exact (show (Instr.index 96 rsvV (.int .i64 4)).run Tryd.prog w = .ok (.agg #[.int .i64 44032, .int .i64 55203]) w by kernel_rfl)
  · exact (show (Instr.index 96 rsvV (.int .i64 5)).run Tryd.prog w = .ok (.agg #[.int .i64 55296, .int .i64 57343]) w by kernel_rfl)

theorem any_take_snoc {α : Type} (p : α → Bool) (l : List α) (k : Nat) (d : α) (hk : k < l.length) : (l.take (k + 1)).any p = ((l.take k).any p || p (l.getD k d)) := by
  rw [List.take_succ_eq_append_getElem hk, List.any_append, List.any_cons, List.any_nil, Bool.or_false]
  simp [hk]

theorem any_of_take {α : Type} (p : α → Bool) (l : List α) (k : Nat) (h : (l.take k).any p = true) : l.any p = true := by
  rw [List.any_eq_true] at h ⊢
  obtain ⟨x, hx, hp⟩ := h
  exact ⟨x, List.mem_of_mem_take hx, hp⟩

theorem all_take_snoc {α : Type} (p : α → Bool) (l : List α) (k : Nat) (d : α) (hk : k < l.length) : (l.take (k + 1)).all p = ((l.take k).all p && p (l.getD k d)) := by
  rw [List.take_succ_eq_append_getElem hk, List.all_append, List.all_cons, List.all_nil, Bool.and_true]
  simp [hk]

theorem all_of_take {α : Type} (p : α → Bool) (l : List α) (k : Nat) (h : (l.take k).all p = false) : l.all p = false := by
  rw [← Bool.not_eq_true, List.all_eq_true] at h ⊢
  exact fun h' => h fun x hx => h' x (List.mem_of_mem_take hx)

set_option maxHeartbeats 1000000 in
theorem conRes_any (f t : Int) (w : World) (hr : Rsv w) :
    Calls Tryd.prog 55 #[.int .i64 f, .int .i64 t] w (Gives (.bool (resF f t)) w) := by
  have HA := Lib.hid (rsv_all f t)
  obtain ⟨⟨h0, h1, h2, h3, h4, h5⟩, ⟨h6, h7, h8, h9, h10, h11⟩⟩ := hr
  go_enter Tryd.func55, Tryd.ntmps55
  go_wp2
  go_loopw [8] (fun i wr => ∃ k : Nat, k ≤ 6 ∧ i = .int .i64 k ∧ Hid ((rsvL.take k).any (hitB f t) = false) ∧ Hid (Below w.heap.size w wr)) (fun i _ => 6 - (intOf i).toNat)
  case atStart => exact ⟨0, by omega, rfl, rfl, Below.refl _ _⟩
  case round =>
    clear h0 h1 h2 h3 h4 h5 h6 h7 h8 h9 h10 h11
    obtain ⟨k, hk, rfl, hno, hb⟩ := hrel
    by_cases hlt : k < 6
    · have hix := rsv_index k hlt
      have hsn := any_take_snoc (hitB f t) rsvL k (0, 0) (by simpa [rsvL] using hlt)
      rw [hno.out, Bool.false_or] at hsn
      obtain ⟨⟨a, b⟩, hab⟩ : ∃ r, rsvL.getD k (0, 0) = r := ⟨_, rfl⟩
      rw [hab] at hix hsn
      simp only [hitB, meets] at hsn
      simp only at hix
      have HS := Lib.hid hsn
      clear hsn hab
      by_cases h1 : f ≤ b
      · by_cases h2 : a ≤ t
        · have HR : Hid (resF f t = true) := by
            unfold Hid; rw [HA.out]; exact any_of_take _ _ (k + 1) (by rw [HS.out]; simp [h1, h2])
          go_wp2
          go_ret
          rw [HR.out]
          exact ⟨rfl, hb.out.alloc hb.out.size _⟩
        · have HN : Hid ((rsvL.take (k + 1)).any (hitB f t) = false) := by unfold Hid; rw [HS.out]; simp [h2]
          have d2 : decide (a ≤ t) = false := decide_eq_false h2
          go_wp2
          go_roundw
          case rel => exact ⟨k + 1, by omega, by go_num, HN, hb.out.alloc hb.out.size _⟩
          case measure => simp [intOf]; omega
      · have HN : Hid ((rsvL.take (k + 1)).any (hitB f t) = false) := by unfold Hid; rw [HS.out]; simp [h1]
        have d2 : decide (f ≤ b) = false := decide_eq_false h1
        go_wp2
        go_roundw
        case rel => exact ⟨k + 1, by omega, by go_num, HN, hb.out.alloc hb.out.size _⟩
        case measure => simp [intOf]; omega
    · obtain rfl : k = 6 := by omega
      have HR : Hid (resF f t = false) := by unfold Hid; rw [HA.out]; exact hno.out
      go_wp2
      go_ret
      rw [HR.out]
      exact ⟨rfl, hb.out⟩

theorem conRes_at (f t : Int) (B : Bool) (w : World) (hr : Rsv w) (hB : Hid (resF f t = B)) :
    Calls Tryd.prog 55 #[.int .i64 f, .int .i64 t] w (Gives (.bool B) w) := hB.out ▸ conRes_any f t w hr

/-- A test of a code point. -/
theorem isRes_any (c : Int) (w : World) (hr : Rsv w) : Calls Tryd.prog 58 #[.int .i64 c] w (Gives (.bool (resB c)) w) := by
  have HR := Lib.hid hr
  obtain ⟨B, hB⟩ : ∃ B, Hid (resF c c = B) := ⟨_, rfl⟩
  have HB : Hid (resB c = B) := hB
  clear hr
  go_enter Tryd.func58, Tryd.ntmps58
  go_wp2_with fail
  refine (conRes_at c c B _ HR.out hB).mono ?_
  rintro e w1 ⟨rfl, hb⟩
  have HB1 := Lib.hid hb
  clear hb
  go_wp2
  go_ret
  rw [HB.out]
  exact ⟨rfl, HB1.out⟩

theorem isRes_at (c : Int) (B : Bool) (w : World) (hr : Rsv w) (hB : Hid (resB c = B)) : Calls Tryd.prog 58 #[.int .i64 c] w (Gives (.bool B) w) := hB.out ▸ isRes_any c w hr

theorem low_any (c : Int) (w : World) : Calls Tryd.prog 90 #[.int .i64 c] w fun e w' => e = .returned (.bool (lowB c)) ∧ w = w' := by
  by_cases h1 : 97 ≤ c
  · by_cases h2 : c ≤ 122
    · have HB : Hid (lowB c = true) := lowB_iff.2 ⟨h1, h2⟩
      go_enter Tryd.func90, Tryd.ntmps90
      go_wp2
      go_ret
      rw [HB.out]
      exact ⟨rfl, rfl⟩
    · have HB : Hid (lowB c = false) := by unfold Hid lowB; simp [h2]
      have d2 : decide (c ≤ 122) = false := decide_eq_false h2
      go_enter Tryd.func90, Tryd.ntmps90
      go_wp2
      go_ret
      rw [HB.out]
      exact ⟨rfl, rfl⟩
  · have HB : Hid (lowB c = false) := by unfold Hid lowB; simp [h1]
    have d2 : decide (97 ≤ c) = false := decide_eq_false h1
    go_enter Tryd.func90, Tryd.ntmps90
    go_wp2
    go_ret
    rw [HB.out]
    exact ⟨rfl, rfl⟩

end Go.Proofs.YtmkaclfjekjabaaDoor
