/-
  The contract of the reference 'first'.
-/
import Derived.Test.YtcpldaanffjbjaaRefA
import Derived.Deep.QuietTactic
import Derived.Deep.RegionWith
import Derived.BigQuiet
import Derived.Deep.DeepCutAuto
namespace Go.Proofs.Ytcpldaanffjbjaa
open Go.RowKit

/-- The number that the reference tries at k + 1 bytes. -/
def cN : Nat → List UInt8 → Int
  | 0, l => (l.getD 0 0).toNat
  | 1, l => (((l.getD 0 0).toNat : Int) - 192) * 64 + ((l.getD 1 0).toNat : Int) - 128
  | 2, l => (((l.getD 0 0).toNat : Int) - 224) * 4096 + (((l.getD 1 0).toNat : Int) - 128) * 64 + ((l.getD 2 0).toNat : Int) - 128
  | _, l => (((l.getD 0 0).toNat : Int) - 240) * 262144 + (((l.getD 1 0).toNat : Int) - 128) * 4096 + (((l.getD 2 0).toNat : Int) - 128) * 64 + ((l.getD 3 0).toNat : Int) - 128

theorem firstS_le4 (l : List UInt8) : (firstS l).2 ≤ 4 := by
  cases l with
  | nil => simp [firstS]
  | cons b r =>
    simp only [firstS]
    have hb := b.toNat_lt
    have := sf_bd b.toNat (by omega) (by omega)
    split
    · simp
    · split
      · simp
      · split <;> simp <;> omega

theorem firstS_none (l : List UInt8) (h : (firstS l).2 = 0) : firstS l = (0, 0) := by
  cases l with
  | nil => simp [firstS]
  | cons b r =>
    simp only [firstS] at h ⊢
    split
    · rfl
    · rename_i h1
      rw [if_neg h1] at h
      split
      · rfl
      · rename_i c hc
        simp only [hc] at h
        split
        · rename_i h2
          rw [if_pos h2] at h
          simp at h
          exact absurd (.inl h) h1
        · rfl

/-- What the reference asks, where it says yes, is what firstS finds. -/
theorem firstS_of (l : List UInt8) (c : Int) (k : Nat) (h1 : lenS c = ((k + 1 : Nat) : Int)) (h2 : l.take (k + 1) = encU c) : firstS l = (c, ((k + 1 : Nat) : Int)) := by
  have := firstS_encU c (l.drop (k + 1)) (by omega)
  rw [← h2, List.take_append_drop, h1] at this
  exact this

theorem getD_take (l : List UInt8) (n j : Nat) (h : j < n) : (l.take n).getD j 0 = l.getD j 0 := by
  simp [List.getElem?_take, h]

theorem cN_of (l : List UInt8) (c : Int) (k : Nat) (h : firstS l = (c, ((k + 1 : Nat) : Int))) : cN k l = c := by
  obtain ⟨h1, h2⟩ := firstS_enc l c k h
  have hk : k = 0 ∨ k = 1 ∨ k = 2 ∨ k = 3 := by have := lenS_bd c; omega
  have g : ∀ j, j < k + 1 → l.getD j 0 = (encU c).getD j 0 := fun j hj => by rw [← h2, getD_take _ _ _ hj]
  rcases hk with rfl | rfl | rfl | rfl
  · have hr : 0 ≤ c ∧ c ≤ 127 := by unfold lenS at h1; omega
    have e : encB c = [c] := by simp [encB, hr.2]
    have t1 := toNat_ofNat c (by omega) (by omega)
    simp only [cN, g 0 (by omega), encU, e, List.map_cons, List.map_nil, List.getD_cons_zero, t1]
  · have hr : 127 < c ∧ c ≤ 2047 := by unfold lenS at h1; omega
    have e : encB c = [192 + c / 64, 128 + c % 64] := by unfold encB; rw [if_neg (by omega), if_pos hr.2]
    have t1 := toNat_ofNat (192 + c / 64) (by omega) (by omega)
    have t2 := toNat_ofNat (128 + c % 64) (by omega) (by omega)
    simp only [cN, g 0 (by omega), g 1 (by omega), encU, e, List.map_cons, List.map_nil, List.getD_cons_zero, List.getD_cons_succ, t1, t2]
    omega
  · have hr : 2047 < c ∧ c ≤ 65535 := by unfold lenS at h1; omega
    have e : encB c = [224 + c / 4096, 128 + c / 64 % 64, 128 + c % 64] := by unfold encB; rw [if_neg (by omega), if_neg (by omega), if_pos hr.2]
    have t1 := toNat_ofNat (224 + c / 4096) (by omega) (by omega)
    have t2 := toNat_ofNat (128 + c / 64 % 64) (by omega) (by omega)
    have t3 := toNat_ofNat (128 + c % 64) (by omega) (by omega)
    simp only [cN, g 0 (by omega), g 1 (by omega), g 2 (by omega), encU, e, List.map_cons, List.map_nil, List.getD_cons_zero, List.getD_cons_succ, t1, t2, t3]
    omega
  · have hr : 65535 < c ∧ c ≤ 1114111 := by unfold lenS at h1; omega
    have e : encB c = [240 + c / 262144, 128 + c / 4096 % 64, 128 + c / 64 % 64, 128 + c % 64] := by unfold encB; rw [if_neg (by omega), if_neg (by omega), if_neg (by omega)]
    have t1 := toNat_ofNat (240 + c / 262144) (by omega) (by omega)
    have t2 := toNat_ofNat (128 + c / 4096 % 64) (by omega) (by omega)
    have t3 := toNat_ofNat (128 + c / 64 % 64) (by omega) (by omega)
    have t4 := toNat_ofNat (128 + c % 64) (by omega) (by omega)
    simp only [cN, g 0 (by omega), g 1 (by omega), g 2 (by omega), g 3 (by omega), encU, e, List.map_cons, List.map_nil, List.getD_cons_zero, List.getD_cons_succ, t1, t2, t3, t4]
    omega

theorem refLength_at (c z : Int) (w : World) (h : Hid (lenS c = z)) :
    Calls Try.prog 15 #[.int .i64 c] w fun e w' => e = .returned (.int .i64 z) ∧ w' = w := h.out ▸ (refLength_any c w).mono fun _ _ ⟨a, b⟩ => ⟨a, b.symm⟩

theorem one_at (c : Int) (X : ByteArray) (w : World) (hc : Hid (lenS c ≠ 0)) (h : Hid (strOfNums (encB c) = X)) :
    Calls Try.prog 24 #[.int .i64 c] w fun e w' => e = .returned (.string X) ∧ Below w.heap.size w w' := h.out ▸ one_any c w hc.out

theorem byte_at (s : ByteArray) (j : Nat) (h : j < s.size) : s.data.toList.getD j 0 = s[j] := by
  simp [List.getD, h]; rfl

/-- Where the reference stands behind k rounds. -/
def NotYet (l : List UInt8) (k : Nat) : Prop := ∀ j : Nat, 1 ≤ j → j ≤ k → (firstS l).2 ≠ j

theorem NotYet.done (l : List UInt8) (k : Nat) (h : NotYet l k) (hk : 4 ≤ k ∨ l.length ≤ k) : firstS l = (0, 0) := by
  apply firstS_none
  have h1 := firstS_bd l
  have h2 := firstS_le4 l
  by_cases h0 : (firstS l).2 = 0
  · exact h0
  · exact absurd rfl (show ¬ ((firstS l).2 = (firstS l).2) from fun _ => h (firstS l).2.toNat (by omega) (by omega) (by omega))

theorem NotYet.succ (l : List UInt8) (k : Nat) (h : NotYet l k) (hn : (firstS l).2 ≠ ((k + 1 : Nat) : Int)) : NotYet l (k + 1) := by
  intro j h1 h2
  by_cases e : j = k + 1
  · subst e; exact hn
  · exact h j h1 (by omega)

/-- The three ways of a round. -/
theorem round_ways (s : ByteArray) (k : Nat) (hk : k + 1 ≤ s.size) (h : NotYet s.data.toList k) :
    (lenS (cN k s.data.toList) = ((k + 1 : Nat) : Int) ∧
      (((strOfNums (encB (cN k s.data.toList))).toList == (s.extract 0 (k + 1)).toList) = true → firstS s.data.toList = (cN k s.data.toList, ((k + 1 : Nat) : Int))) ∧
      (((strOfNums (encB (cN k s.data.toList))).toList == (s.extract 0 (k + 1)).toList) = false → NotYet s.data.toList (k + 1))) ∨
    (NotYet s.data.toList (k + 1) ∧ (lenS (cN k s.data.toList) == ((k + 1 : Nat) : Int)) = false) := by
  have hx : (s.extract 0 (k + 1)).data.toList = s.data.toList.take (k + 1) := by
    rw [ByteArray.data_extract, Array.toList_extract]; simp
  have he : (strOfNums (encB (cN k s.data.toList))).data.toList = encU (cN k s.data.toList) := rfl
  have h3 : ((strOfNums (encB (cN k s.data.toList))).toList == (s.extract 0 (k + 1)).toList) = true ↔ encU (cN k s.data.toList) = s.data.toList.take (k + 1) := by
    rw [beq_iff_eq, ByteArray.toList_eq, ByteArray.toList_eq, hx, he]
  by_cases h2 : lenS (cN k s.data.toList) = ((k + 1 : Nat) : Int)
  · refine .inl ⟨h2, fun hh => firstS_of _ _ k h2 (h3.1 hh).symm, fun hh => h.succ _ _ fun hz => ?_⟩
    have h1 : firstS s.data.toList = (cN k s.data.toList, ((k + 1 : Nat) : Int)) := Prod.ext (cN_of _ _ k (Prod.ext rfl hz)).symm hz
    obtain ⟨_, e2⟩ := firstS_enc _ _ _ h1
    rw [h3.2 e2.symm] at hh
    cases hh
  · refine .inr ⟨h.succ _ _ fun hz => h2 ?_, by rw [beq_eq_false_iff_ne]; exact h2⟩
    have h1 : firstS s.data.toList = (cN k s.data.toList, ((k + 1 : Nat) : Int)) := Prod.ext (cN_of _ _ k (Prod.ext rfl hz)).symm hz
    exact (firstS_enc _ _ _ h1).1

set_option maxRecDepth 100000 in
set_option maxHeartbeats 4000000 in
theorem first_any (s : ByteArray) (w : World) (hs : s.size ≤ 140737488351232) :
    Calls Try.prog 34 #[.string s] w fun e w' => e = .returned (.tuple #[.int .i64 (firstS s.data.toList).1, .int .i64 (firstS s.data.toList).2]) ∧ Below w.heap.size w w' := by
  obtain ⟨L, hL⟩ : ∃ L, s.data.toList = L := ⟨_, rfl⟩
  have HL := Lib.hid hL
  rw [hL]
  clear hL
  go_enter Try.func34, Try.ntmps34
  go_wp2
  go_loopw [4] (fun n wr => ∃ k : Nat, k ≤ 4 ∧ n = .int .i64 (k + 1) ∧ Hid (NotYet L k) ∧ Below w.heap.size w wr) (fun n _ => 5 - (intOf n).toNat)
  case atStart => exact ⟨0, by omega, rfl, fun j h1 h2 => by omega, Below.refl _ _⟩
  case round =>
    obtain ⟨k, hk, rfl, hny, hbel⟩ := hrel
    have hB := hbel.size
    by_cases hgo : k < 4 ∧ k < s.size
    · obtain ⟨hk4, hks⟩ := hgo
      have hways := round_ways s k (by omega) (HL.out ▸ hny.out)
      rw [HL.out] at hways
      have H := Lib.hid hways
      clear hways
      have HB := Lib.hid hbel
      clear hbel
      have hcase : k = 0 ∨ k = 1 ∨ k = 2 ∨ k = 3 := by omega
      rcases hcase with rfl | rfl | rfl | rfl
      · -- 1 bytes
        obtain ⟨b0, e0⟩ : ∃ b : Int, (s[0].toNat : Int) = b := ⟨_, rfl⟩
        have l0 : 0 ≤ b0 ∧ b0 ≤ 255 := by have := s[0].toNat_lt; omega
        obtain ⟨l0, u0⟩ := l0
        have hcn : cN 0 L = b0 := by rw [← HL.out]; simp only [cN, byte_at s 0 (by omega), e0]
        have HN := Lib.hid hcn
        clear hcn
        go_upto_region 12 with (fail)
        generalize b0 = c at HN ⊢
        have hH := H.out
        rw [HN.out] at hH
        clear H HN
        obtain ⟨X, hX⟩ : ∃ X, strOfNums (encB c) = X := ⟨_, rfl⟩
        rw [hX] at hH
        rcases hH with ⟨hl, hf⟩ | ⟨hn, hl⟩
        · have HZ : Hid (lenS c = 1) := by unfold Hid; omega
          have HZ0 : Hid (lenS c ≠ 0) := by unfold Hid; omega
          have HX := Lib.hid hX
          have HF := Lib.hid hf
          clear hf hl hX
          go_region_with (first
            | (go_at_call 15; refine (refLength_at _ _ _ HZ).mono ?_; rintro e w' ⟨rfl, rfl⟩)
            | (go_at_call 24; refine (one_at _ _ _ HZ0 HX).mono ?_; rintro e w1 ⟨rfl, hb1⟩))
          have HW := Lib.hid ((below_drewN HB.out _).trans (hb1.mono hB))
          clear hb1
          go_wp2
          · have hq : (X.toList == (s.extract 0 1).toList) = true := by assumption
            go_ret2
            rw [HF.out.1 hq]
            exact ⟨rfl, HW.out⟩
          · have hq : (X.toList == (s.extract 0 1).toList) = false := by assumption
            have HQ : Hid (NotYet L 1) := HF.out.2 hq
            go_roundw
            case rel => exact ⟨1, by omega, by first | rfl | go_num, HQ, HW.out⟩
            case measure => simp [intOf]
        · have HZ : Hid (lenS c = lenS c) := rfl
          have hl' : (lenS c == 1) = false := hl
          have HN := Lib.hid hn
          clear hn hX
          go_quiet ((go_at_call 15; exact Calls.quiet_of_same (refLength_at _ _ _ HZ)))
          go_wp2
          go_roundw
          case rel => exact ⟨1, by omega, by first | rfl | go_num, HN.out, below_drewN HB.out _⟩
          case measure => simp [intOf]
      · -- 2 bytes
        obtain ⟨b0, e0⟩ : ∃ b : Int, (s[0].toNat : Int) = b := ⟨_, rfl⟩
        have l0 : 0 ≤ b0 ∧ b0 ≤ 255 := by have := s[0].toNat_lt; omega
        obtain ⟨l0, u0⟩ := l0
        obtain ⟨b1, e1⟩ : ∃ b : Int, (s[1].toNat : Int) = b := ⟨_, rfl⟩
        have l1 : 0 ≤ b1 ∧ b1 ≤ 255 := by have := s[1].toNat_lt; omega
        obtain ⟨l1, u1⟩ := l1
        have hcn : cN 1 L = (b0 - 192) * 64 + b1 - 128 := by rw [← HL.out]; simp only [cN, byte_at s 0 (by omega), e0, byte_at s 1 (by omega), e1]
        have x0 : IntKind.i64.wrap (b0 - 192) = b0 - 192 := IntWalk.i64_in _ (by omega)
        have x1 : IntKind.i64.wrap ((b0 - 192) * 64) = (b0 - 192) * 64 := IntWalk.i64_in _ (by omega)
        have x2 : IntKind.i64.wrap ((b0 - 192) * 64 + b1) = (b0 - 192) * 64 + b1 := IntWalk.i64_in _ (by omega)
        have xl : IntKind.i64.wrap ((b0 - 192) * 64 + b1 - 128) = (b0 - 192) * 64 + b1 - 128 := IntWalk.i64_in _ (by omega)
        have HN := Lib.hid hcn
        clear hcn
        go_upto_region 9 with (fail)
        go_quiet (fail)
        generalize hwq : World.drewN wr _ = wq
        have HB : Hid (Below w.heap.size w wq) := hwq ▸ below_drewN HB.out _
        have hB : w.heap.size ≤ wq.heap.size := HB.out.size
        clear hwq
        go_upto_region 12 with (fail)
        generalize (b0 - 192) * 64 + b1 - 128 = c at HN ⊢
        have hH := H.out
        rw [HN.out] at hH
        clear H HN
        obtain ⟨X, hX⟩ : ∃ X, strOfNums (encB c) = X := ⟨_, rfl⟩
        rw [hX] at hH
        rcases hH with ⟨hl, hf⟩ | ⟨hn, hl⟩
        · have HZ : Hid (lenS c = 2) := by unfold Hid; omega
          have HZ0 : Hid (lenS c ≠ 0) := by unfold Hid; omega
          have HX := Lib.hid hX
          have HF := Lib.hid hf
          clear hf hl hX
          go_region_with (first
            | (go_at_call 15; refine (refLength_at _ _ _ HZ).mono ?_; rintro e w' ⟨rfl, rfl⟩)
            | (go_at_call 24; refine (one_at _ _ _ HZ0 HX).mono ?_; rintro e w1 ⟨rfl, hb1⟩))
          have HW := Lib.hid ((below_drewN HB.out _).trans (hb1.mono hB))
          clear hb1
          go_wp2
          · have hq : (X.toList == (s.extract 0 2).toList) = true := by assumption
            go_ret2
            rw [HF.out.1 hq]
            exact ⟨rfl, HW.out⟩
          · have hq : (X.toList == (s.extract 0 2).toList) = false := by assumption
            have HQ : Hid (NotYet L 2) := HF.out.2 hq
            go_roundw
            case rel => exact ⟨2, by omega, by first | rfl | go_num, HQ, HW.out⟩
            case measure => simp [intOf]
        · have HZ : Hid (lenS c = lenS c) := rfl
          have hl' : (lenS c == 2) = false := hl
          have HN := Lib.hid hn
          clear hn hX
          go_quiet ((go_at_call 15; exact Calls.quiet_of_same (refLength_at _ _ _ HZ)))
          go_wp2
          go_roundw
          case rel => exact ⟨2, by omega, by first | rfl | go_num, HN.out, below_drewN HB.out _⟩
          case measure => simp [intOf]
      · -- 3 bytes
        obtain ⟨b0, e0⟩ : ∃ b : Int, (s[0].toNat : Int) = b := ⟨_, rfl⟩
        have l0 : 0 ≤ b0 ∧ b0 ≤ 255 := by have := s[0].toNat_lt; omega
        obtain ⟨l0, u0⟩ := l0
        obtain ⟨b1, e1⟩ : ∃ b : Int, (s[1].toNat : Int) = b := ⟨_, rfl⟩
        have l1 : 0 ≤ b1 ∧ b1 ≤ 255 := by have := s[1].toNat_lt; omega
        obtain ⟨l1, u1⟩ := l1
        obtain ⟨b2, e2⟩ : ∃ b : Int, (s[2].toNat : Int) = b := ⟨_, rfl⟩
        have l2 : 0 ≤ b2 ∧ b2 ≤ 255 := by have := s[2].toNat_lt; omega
        obtain ⟨l2, u2⟩ := l2
        have hcn : cN 2 L = (b0 - 224) * 4096 + (b1 - 128) * 64 + b2 - 128 := by rw [← HL.out]; simp only [cN, byte_at s 0 (by omega), e0, byte_at s 1 (by omega), e1, byte_at s 2 (by omega), e2]
        have x0 : IntKind.i64.wrap (b0 - 224) = b0 - 224 := IntWalk.i64_in _ (by omega)
        have x1 : IntKind.i64.wrap ((b0 - 224) * 4096) = (b0 - 224) * 4096 := IntWalk.i64_in _ (by omega)
        have x2 : IntKind.i64.wrap (b1 - 128) = b1 - 128 := IntWalk.i64_in _ (by omega)
        have x3 : IntKind.i64.wrap ((b1 - 128) * 64) = (b1 - 128) * 64 := IntWalk.i64_in _ (by omega)
        have x4 : IntKind.i64.wrap ((b0 - 224) * 4096 + (b1 - 128) * 64) = (b0 - 224) * 4096 + (b1 - 128) * 64 := IntWalk.i64_in _ (by omega)
        have x5 : IntKind.i64.wrap ((b0 - 224) * 4096 + (b1 - 128) * 64 + b2) = (b0 - 224) * 4096 + (b1 - 128) * 64 + b2 := IntWalk.i64_in _ (by omega)
        have xl : IntKind.i64.wrap ((b0 - 224) * 4096 + (b1 - 128) * 64 + b2 - 128) = (b0 - 224) * 4096 + (b1 - 128) * 64 + b2 - 128 := IntWalk.i64_in _ (by omega)
        have HN := Lib.hid hcn
        clear hcn
        go_upto_region 11 with (fail)
        go_quiet (fail)
        generalize hwq : World.drewN wr _ = wq
        have HB : Hid (Below w.heap.size w wq) := hwq ▸ below_drewN HB.out _
        have hB : w.heap.size ≤ wq.heap.size := HB.out.size
        clear hwq
        go_upto_region 12 with (fail)
        generalize (b0 - 224) * 4096 + (b1 - 128) * 64 + b2 - 128 = c at HN ⊢
        have hH := H.out
        rw [HN.out] at hH
        clear H HN
        obtain ⟨X, hX⟩ : ∃ X, strOfNums (encB c) = X := ⟨_, rfl⟩
        rw [hX] at hH
        rcases hH with ⟨hl, hf⟩ | ⟨hn, hl⟩
        · have HZ : Hid (lenS c = 3) := by unfold Hid; omega
          have HZ0 : Hid (lenS c ≠ 0) := by unfold Hid; omega
          have HX := Lib.hid hX
          have HF := Lib.hid hf
          clear hf hl hX
          go_region_with (first
            | (go_at_call 15; refine (refLength_at _ _ _ HZ).mono ?_; rintro e w' ⟨rfl, rfl⟩)
            | (go_at_call 24; refine (one_at _ _ _ HZ0 HX).mono ?_; rintro e w1 ⟨rfl, hb1⟩))
          have HW := Lib.hid ((below_drewN HB.out _).trans (hb1.mono hB))
          clear hb1
          go_wp2
          · have hq : (X.toList == (s.extract 0 3).toList) = true := by assumption
            go_ret2
            rw [HF.out.1 hq]
            exact ⟨rfl, HW.out⟩
          · have hq : (X.toList == (s.extract 0 3).toList) = false := by assumption
            have HQ : Hid (NotYet L 3) := HF.out.2 hq
            go_roundw
            case rel => exact ⟨3, by omega, by first | rfl | go_num, HQ, HW.out⟩
            case measure => simp [intOf]
        · have HZ : Hid (lenS c = lenS c) := rfl
          have hl' : (lenS c == 3) = false := hl
          have HN := Lib.hid hn
          clear hn hX
          go_quiet ((go_at_call 15; exact Calls.quiet_of_same (refLength_at _ _ _ HZ)))
          go_wp2
          go_roundw
          case rel => exact ⟨3, by omega, by first | rfl | go_num, HN.out, below_drewN HB.out _⟩
          case measure => simp [intOf]
      · -- 4 bytes
        obtain ⟨b0, e0⟩ : ∃ b : Int, (s[0].toNat : Int) = b := ⟨_, rfl⟩
        have l0 : 0 ≤ b0 ∧ b0 ≤ 255 := by have := s[0].toNat_lt; omega
        obtain ⟨l0, u0⟩ := l0
        obtain ⟨b1, e1⟩ : ∃ b : Int, (s[1].toNat : Int) = b := ⟨_, rfl⟩
        have l1 : 0 ≤ b1 ∧ b1 ≤ 255 := by have := s[1].toNat_lt; omega
        obtain ⟨l1, u1⟩ := l1
        obtain ⟨b2, e2⟩ : ∃ b : Int, (s[2].toNat : Int) = b := ⟨_, rfl⟩
        have l2 : 0 ≤ b2 ∧ b2 ≤ 255 := by have := s[2].toNat_lt; omega
        obtain ⟨l2, u2⟩ := l2
        obtain ⟨b3, e3⟩ : ∃ b : Int, (s[3].toNat : Int) = b := ⟨_, rfl⟩
        have l3 : 0 ≤ b3 ∧ b3 ≤ 255 := by have := s[3].toNat_lt; omega
        obtain ⟨l3, u3⟩ := l3
        have hcn : cN 3 L = (b0 - 240) * 262144 + (b1 - 128) * 4096 + (b2 - 128) * 64 + b3 - 128 := by rw [← HL.out]; simp only [cN, byte_at s 0 (by omega), e0, byte_at s 1 (by omega), e1, byte_at s 2 (by omega), e2, byte_at s 3 (by omega), e3]
        have x0 : IntKind.i64.wrap (b0 - 240) = b0 - 240 := IntWalk.i64_in _ (by omega)
        have x1 : IntKind.i64.wrap ((b0 - 240) * 262144) = (b0 - 240) * 262144 := IntWalk.i64_in _ (by omega)
        have x2 : IntKind.i64.wrap (b1 - 128) = b1 - 128 := IntWalk.i64_in _ (by omega)
        have x3 : IntKind.i64.wrap ((b1 - 128) * 4096) = (b1 - 128) * 4096 := IntWalk.i64_in _ (by omega)
        have x4 : IntKind.i64.wrap ((b0 - 240) * 262144 + (b1 - 128) * 4096) = (b0 - 240) * 262144 + (b1 - 128) * 4096 := IntWalk.i64_in _ (by omega)
        have x5 : IntKind.i64.wrap (b2 - 128) = b2 - 128 := IntWalk.i64_in _ (by omega)
        have x6 : IntKind.i64.wrap ((b2 - 128) * 64) = (b2 - 128) * 64 := IntWalk.i64_in _ (by omega)
        have x7 : IntKind.i64.wrap ((b0 - 240) * 262144 + (b1 - 128) * 4096 + (b2 - 128) * 64) = (b0 - 240) * 262144 + (b1 - 128) * 4096 + (b2 - 128) * 64 := IntWalk.i64_in _ (by omega)
        have x8 : IntKind.i64.wrap ((b0 - 240) * 262144 + (b1 - 128) * 4096 + (b2 - 128) * 64 + b3) = (b0 - 240) * 262144 + (b1 - 128) * 4096 + (b2 - 128) * 64 + b3 := IntWalk.i64_in _ (by omega)
        have xl : IntKind.i64.wrap ((b0 - 240) * 262144 + (b1 - 128) * 4096 + (b2 - 128) * 64 + b3 - 128) = (b0 - 240) * 262144 + (b1 - 128) * 4096 + (b2 - 128) * 64 + b3 - 128 := IntWalk.i64_in _ (by omega)
        have HN := Lib.hid hcn
        clear hcn
        go_upto_region 5 with (fail)
        go_quiet (fail)
        generalize hwq : World.drewN wr _ = wq
        have HB : Hid (Below w.heap.size w wq) := hwq ▸ below_drewN HB.out _
        have hB : w.heap.size ≤ wq.heap.size := HB.out.size
        clear hwq
        go_upto_region 12 with (fail)
        generalize (b0 - 240) * 262144 + (b1 - 128) * 4096 + (b2 - 128) * 64 + b3 - 128 = c at HN ⊢
        have hH := H.out
        rw [HN.out] at hH
        clear H HN
        obtain ⟨X, hX⟩ : ∃ X, strOfNums (encB c) = X := ⟨_, rfl⟩
        rw [hX] at hH
        rcases hH with ⟨hl, hf⟩ | ⟨hn, hl⟩
        · have HZ : Hid (lenS c = 4) := by unfold Hid; omega
          have HZ0 : Hid (lenS c ≠ 0) := by unfold Hid; omega
          have HX := Lib.hid hX
          have HF := Lib.hid hf
          clear hf hl hX
          go_region_with (first
            | (go_at_call 15; refine (refLength_at _ _ _ HZ).mono ?_; rintro e w' ⟨rfl, rfl⟩)
            | (go_at_call 24; refine (one_at _ _ _ HZ0 HX).mono ?_; rintro e w1 ⟨rfl, hb1⟩))
          have HW := Lib.hid ((below_drewN HB.out _).trans (hb1.mono hB))
          clear hb1
          go_wp2
          · have hq : (X.toList == (s.extract 0 4).toList) = true := by assumption
            go_ret2
            rw [HF.out.1 hq]
            exact ⟨rfl, HW.out⟩
          · have hq : (X.toList == (s.extract 0 4).toList) = false := by assumption
            have HQ : Hid (NotYet L 4) := HF.out.2 hq
            go_roundw
            case rel => exact ⟨4, by omega, by first | rfl | go_num, HQ, HW.out⟩
            case measure => simp [intOf]
        · have HZ : Hid (lenS c = lenS c) := rfl
          have hl' : (lenS c == 4) = false := hl
          have HN := Lib.hid hn
          clear hn hX
          go_quiet ((go_at_call 15; exact Calls.quiet_of_same (refLength_at _ _ _ HZ)))
          go_wp2
          go_roundw
          case rel => exact ⟨4, by omega, by first | rfl | go_num, HN.out, below_drewN HB.out _⟩
          case measure => simp [intOf]
    · have hout : 4 ≤ k ∨ s.size ≤ k := by omega
      clear hgo
      have hd : firstS L = (0, 0) := hny.out.done _ _ (by rw [← HL.out]; exact hout)
      have HD := Lib.hid hd
      clear hd
      by_cases h4 : 4 ≤ k
      · go_wp2
        go_ret2
        rw [HD.out]
        exact ⟨rfl, hbel⟩
      · have h5 : s.size ≤ k := by omega
        go_wp2
        go_ret2
        rw [HD.out]
        exact ⟨rfl, hbel⟩

end Go.Proofs.Ytcpldaanffjbjaa
