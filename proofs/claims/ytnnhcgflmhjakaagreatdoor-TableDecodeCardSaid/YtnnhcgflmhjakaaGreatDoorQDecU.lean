/-
  What Decode accepts is what Encode writes, plain mathematics.
-/
import Derived.Test.YtnnhcgflmhjakaaGreatDoorQDecP
set_option linter.unusedSimpArgs false
set_option linter.unusedVariables false
namespace Go.Proofs.YtnnhcgflmhjakaaGreatDoor
open Go Go.RowKit
set_option linter.unusedVariables false

theorem nums_inj {a b : ByteArray} (h : nums a = nums b) : a = b := by
  apply ByteArray.ext
  apply Array.ext'
  have : ∀ (x y : List UInt8), x.map (fun b => (b.toNat : Int)) = y.map (fun b => (b.toNat : Int)) → x = y := by
    intro x
    induction x with
    | nil => intro y hy; cases y with | nil => rfl | cons _ _ => simp at hy
    | cons u r ih =>
      intro y hy
      cases y with
      | nil => simp at hy
      | cons v t =>
        simp only [List.map_cons, List.cons.injEq] at hy
        rw [ih t hy.2]
        have : u.toNat = v.toNat := by omega
        rw [UInt8.toNat_inj.1 this]
  exact this _ _ h

theorem getS_shift (b r : ByteArray) : getS (b ++ r) b.size = ((getS r 0).1, (b.size : Int) + (getS r 0).2.1, (getS r 0).2.2) := by
  have hd : (nums (b ++ r)).drop ((b.size : Int)).toNat = nums r := by
    rw [nums_append, Int.toNat_natCast, ← nums_length b, List.drop_left]
  have e2 : getS r 0 = (if (getR 0 0 (nums r)).1 = 0 then (unzz (getR 0 0 (nums r)).2.1, ((getR 0 0 (nums r)).2.2 : Int), 0) else (0, 0, (getR 0 0 (nums r)).1)) := by
    unfold getS
    have h1 : ¬ ((0 : Int) < 0 ∨ (r.size : Int) < 0) := by omega
    rw [if_neg h1]; simp
  have e1 : getS (b ++ r) b.size = (if (getR 0 0 (nums r)).1 = 0 then (unzz (getR 0 0 (nums r)).2.1, (b.size : Int) + ((getR 0 0 (nums r)).2.2 : Int), 0) else (0, (b.size : Int), (getR 0 0 (nums r)).1)) := by
    unfold getS
    have h1 : ¬ ((b.size : Int) < 0 ∨ ((b ++ r).size : Int) < (b.size : Int)) := by simp only [ByteArray.size_append]; omega
    rw [if_neg h1, hd]
  rw [e1, e2]
  split <;> simp

theorem uni_I {b X : ByteArray} (h : Pre b X) (h0 : (getS X b.size).2.2 = 0) : Pre (b ++ putB (getS X b.size).1) X ∧ (getS X b.size).2.1 = ((b ++ putB (getS X b.size).1).size : Int) := by
  obtain ⟨r, rfl⟩ := h
  rw [getS_shift] at h0 ⊢
  simp only at h0 ⊢
  obtain ⟨⟨v, j, er⟩, hg⟩ : ∃ x, getS r 0 = x := ⟨_, rfl⟩
  rw [hg] at h0 ⊢
  simp only at h0 ⊢
  subst h0
  obtain ⟨h1, h2, h3⟩ := get_unique r v j hg
  have hlen : (putB v).size = j.toNat := by
    have := congrArg List.length h3
    rw [nums_length, List.length_take, nums_length] at this
    omega
  obtain ⟨q, hq⟩ : ∃ q : ByteArray, nums q = (nums r).drop j.toNat := ⟨⟨(r.data.toList.drop j.toNat).toArray⟩, by simp [nums, List.map_drop]⟩
  have hr : r = putB v ++ q := by
    apply nums_inj
    rw [nums_append, h3, hq, List.take_append_drop]
  refine ⟨⟨q, by rw [str_assoc, ← hr]⟩, ?_⟩
  rw [ByteArray.size_append, hlen]
  omega

theorem uni_LF {X : ByteArray} {a : Int} (n : Nat) {b : ByteArray} {last : Int} {out : List Int} (h : Pre b X) (h0 : (getLF X a n b.size last out).2.2 = 0) :
    ∃ l, (getLF X a n b.size last out).1 = out ++ l ∧ l.length = n ∧ Pre (b ++ encL last l) X ∧ (getLF X a n b.size last out).2.1 = ((b ++ encL last l).size : Int) := by
  induction n generalizing b last out with
  | zero => exact ⟨[], by simp [getLF], rfl, by simpa [encL, str_empty] using h, by simp [getLF, encL, str_empty]⟩
  | succ n ih =>
    rw [getLF] at h0 ⊢
    split
    · rename_i h1; rw [if_pos h1] at h0; exact absurd h0 h1
    · rename_i h1
      rw [if_neg h1] at h0
      split
      · rename_i h2; rw [if_pos h2] at h0; simp at h0
      · rename_i h2
        rw [if_neg h2] at h0
        obtain ⟨hp, hj⟩ := uni_I h (by simpa using h1)
        rw [hj] at h0 ⊢
        obtain ⟨l, e1, e2, e3, e4⟩ := ih hp h0
        refine ⟨(last + (getS X b.size).1) :: l, by rw [e1]; simp, by simp [e2], ?_, ?_⟩
        · rw [encL, show last + (getS X b.size).1 - last = (getS X b.size).1 by omega, ← str_assoc]; exact e3
        · rw [encL, show last + (getS X b.size).1 - last = (getS X b.size).1 by omega, ← str_assoc]; exact e4

theorem uni_L {X b : ByteArray} (h : Pre b X) (h0 : (getListS X b.size).2.2 = 0) : Pre (b ++ encLi (getListS X b.size).1) X ∧ (getListS X b.size).2.1 = ((b ++ encLi (getListS X b.size).1).size : Int) := by
  rw [getListS] at h0 ⊢
  split
  · rename_i h1; rw [if_pos h1] at h0; exact absurd h0 h1
  · rename_i h1
    rw [if_neg h1] at h0
    split
    · rename_i h2; rw [if_pos h2] at h0; simp at h0
    · rename_i h2
      rw [if_neg h2] at h0
      obtain ⟨hp, hj⟩ := uni_I h (by simpa using h1)
      rw [hj] at h0 ⊢
      obtain ⟨l, e1, e2, e3, e4⟩ := uni_LF _ hp h0
      rw [List.nil_append] at e1
      have en : ((l.length : Nat) : Int) = (getS X b.size).1 := by rw [e2]; omega
      rw [e1, encLi, en, ← str_assoc]
      exact ⟨e3, e4⟩

theorem uni_SF {X : ByteArray} {a : Int} (n : Nat) {b : ByteArray} {first : Bool} {last : Int} {out : List Sp} (h : Pre b X) (h0 : (getSF X a n first b.size last out).2.2 = 0) :
    ∃ l, (getSF X a n first b.size last out).1 = out ++ l ∧ l.length = n ∧ Pre (b ++ encS last l) X ∧ (getSF X a n first b.size last out).2.1 = ((b ++ encS last l).size : Int) := by
  induction n generalizing b first last out with
  | zero => exact ⟨[], by simp [getSF], rfl, by simpa [encS, str_empty] using h, by simp [getSF, encS, str_empty]⟩
  | succ n ih =>
    rw [getSF] at h0 ⊢
    simp only at h0 ⊢
    split
    · rename_i h1; rw [if_pos h1] at h0; exact absurd h0 h1
    · rename_i h1
      rw [if_neg h1] at h0
      obtain ⟨p1, j1⟩ := uni_I h (by simpa using h1)
      generalize (getS X b.size).1 = v1 at *
      rw [j1] at h0 ⊢
      split
      · rename_i h2; rw [if_pos h2] at h0; simp at h0
      · rename_i h2
        rw [if_neg h2] at h0
        split
        · rename_i h3; rw [if_pos h3] at h0; exact absurd h0 h3
        · rename_i h3
          rw [if_neg h3] at h0
          obtain ⟨p2, j2⟩ := uni_I p1 (by simpa using h3)
          generalize (getS X (b ++ putB v1).size).1 = v2 at *
          rw [j2] at h0 ⊢
          split
          · rename_i h4; rw [if_pos h4] at h0; simp at h0
          · rename_i h4
            rw [if_neg h4] at h0
            split
            · rename_i h5; rw [if_pos h5] at h0; exact absurd h0 h5
            · rename_i h5
              rw [if_neg h5] at h0
              obtain ⟨p3, j3⟩ := uni_I p2 (by simpa using h5)
              generalize (getS X (b ++ putB v1 ++ putB v2).size).1 = v3 at *
              rw [j3] at h0 ⊢
              split
              · rename_i h6; rw [if_pos h6] at h0; simp at h0
              · rename_i h6
                rw [if_neg h6] at h0
                obtain ⟨l, e1, e2, e3, e4⟩ := ih p3 h0
                refine ⟨(last + v1, last + v1 + v2, v3) :: l, by rw [e1]; simp, by simp [e2], ?_, ?_⟩
                · rw [encS]
                  simp only
                  rw [show last + v1 - last = v1 by omega, show last + v1 + v2 - (last + v1) = v2 by omega, ← str_assoc, ← str_assoc, ← str_assoc]; exact e3
                · rw [encS]
                  simp only
                  rw [show last + v1 - last = v1 by omega, show last + v1 + v2 - (last + v1) = v2 by omega, ← str_assoc, ← str_assoc, ← str_assoc]; exact e4

theorem uni_S {X b : ByteArray} (h : Pre b X) (h0 : (getSpansS X b.size).2.2 = 0) : Pre (b ++ encSp (getSpansS X b.size).1) X ∧ (getSpansS X b.size).2.1 = ((b ++ encSp (getSpansS X b.size).1).size : Int) := by
  rw [getSpansS] at h0 ⊢
  split
  · rename_i h1; rw [if_pos h1] at h0; exact absurd h0 h1
  · rename_i h1
    rw [if_neg h1] at h0
    split
    · rename_i h2; rw [if_pos h2] at h0; simp at h0
    · rename_i h2
      rw [if_neg h2] at h0
      obtain ⟨hp, hj⟩ := uni_I h (by simpa using h1)
      rw [hj] at h0 ⊢
      obtain ⟨l, e1, e2, e3, e4⟩ := uni_SF _ hp h0
      rw [List.nil_append] at e1
      have en : ((l.length : Nat) : Int) = (getS X b.size).1 := by rw [e2]; omega
      rw [e1, encSp, en, ← str_assoc]
      exact ⟨e3, e4⟩

/-- An error stays. -/
theorem rdI_er {s : ByteArray} {i er : Int} (h : (rdI s i er).2.2 = 0) : er = 0 := by
  unfold rdI at h
  split at h
  · exact h
  · rename_i h1; simpa using h1
theorem rdL_er {s : ByteArray} {i er : Int} (h : (rdL s i er).2.2 = 0) : er = 0 := by
  unfold rdL at h
  split at h
  · exact h
  · rename_i h1; simpa using h1
theorem rdS_er {s : ByteArray} {i er : Int} (h : (rdS s i er).2.2 = 0) : er = 0 := by
  unfold rdS at h
  split at h
  · exact h
  · rename_i h1; simpa using h1
theorem rdM_er {s : ByteArray} {i er : Int} (h : (rdM s i er).2.2 = 0) : er = 0 := by
  unfold rdM at h
  split at h
  · exact rdI_er h
  · rename_i h1; exact rdI_er (s := s) (i := i) (by simpa using h1)

theorem rdI_uni {X b : ByteArray} (h : Pre b X) (h0 : (rdI X b.size 0).2.2 = 0) : Pre (b ++ putB (rdI X b.size 0).1) X ∧ (rdI X b.size 0).2.1 = ((b ++ putB (rdI X b.size 0).1).size : Int) := by
  unfold rdI at h0 ⊢
  rw [if_neg (by simp)] at h0 ⊢
  split
  · rename_i h1; rw [if_pos h1] at h0; exact absurd h0 h1
  · rename_i h1; exact uni_I h (by simpa using h1)
theorem rdL_uni {X b : ByteArray} (h : Pre b X) (h0 : (rdL X b.size 0).2.2 = 0) : Pre (b ++ encLi (rdL X b.size 0).1) X ∧ (rdL X b.size 0).2.1 = ((b ++ encLi (rdL X b.size 0).1).size : Int) := by
  unfold rdL at h0 ⊢
  rw [if_neg (by simp)] at h0 ⊢
  split
  · rename_i h1; rw [if_pos h1] at h0; exact absurd h0 h1
  · rename_i h1; exact uni_L h (by simpa using h1)
theorem rdS_uni {X b : ByteArray} (h : Pre b X) (h0 : (rdS X b.size 0).2.2 = 0) : Pre (b ++ encSp (rdS X b.size 0).1) X ∧ (rdS X b.size 0).2.1 = ((b ++ encSp (rdS X b.size 0).1).size : Int) := by
  unfold rdS at h0 ⊢
  rw [if_neg (by simp)] at h0 ⊢
  split
  · rename_i h1; rw [if_pos h1] at h0; exact absurd h0 h1
  · rename_i h1; exact uni_S h (by simpa using h1)

theorem rdMF_uni {X : ByteArray} (n : Nat) {b : ByteArray} {out : List Mp} (h : Pre b X) (h0 : (rdMF X n b.size out).2.2 = 0) :
    ∃ l, (rdMF X n b.size out).1 = out ++ l ∧ l.length = n ∧ Pre (accR b l) X ∧ (rdMF X n b.size out).2.1 = ((accR b l).size : Int) := by
  induction n generalizing b out with
  | zero => exact ⟨[], by simp [rdMF], rfl, h, rfl⟩
  | succ n ih =>
    rw [rdMF] at h0 ⊢
    split
    · rename_i h1; rw [if_pos h1] at h0; exact absurd h0 h1
    · rename_i h1
      rw [if_neg h1] at h0
      have h2 : (rdL X (rdI X b.size 0).2.1 (rdI X b.size 0).2.2).2.2 = 0 := by simpa using h1
      have h3 := rdL_er h2
      obtain ⟨p1, j1⟩ := rdI_uni h h3
      rw [h3, j1] at h0 h2 ⊢
      obtain ⟨p2, j2⟩ := rdL_uni p1 h2
      rw [j2] at h0 ⊢
      rw [str_assoc] at p2
      have p3 : Pre (b ++ encRow ((rdI X b.size 0).1, (rdL X ((b ++ putB (rdI X b.size 0).1).size : Int) 0).1)) X := p2
      have hsz : ((b ++ putB (rdI X b.size 0).1 ++ encLi (rdL X ((b ++ putB (rdI X b.size 0).1).size : Int) 0).1).size : Int) = ((b ++ encRow ((rdI X b.size 0).1, (rdL X ((b ++ putB (rdI X b.size 0).1).size : Int) 0).1)).size : Int) := by
        rw [str_assoc]; rfl
      rw [hsz] at h0 ⊢
      obtain ⟨l, e1, e2, e3, e4⟩ := ih p3 h0
      exact ⟨((rdI X b.size 0).1, (rdL X ((b ++ putB (rdI X b.size 0).1).size : Int) 0).1) :: l, by rw [e1]; simp, by simp [e2], e3, e4⟩

theorem rdM_uni {X b : ByteArray} (h : Pre b X) (h0 : (rdM X b.size 0).2.2 = 0) : Pre (accR (b ++ putB (rdM X b.size 0).1.length) (rdM X b.size 0).1) X ∧ (rdM X b.size 0).2.1 = ((accR (b ++ putB (rdM X b.size 0).1.length) (rdM X b.size 0).1).size : Int) := by
  unfold rdM at h0 ⊢
  split
  · rename_i h1; rw [if_pos h1] at h0; exact absurd h0 h1
  · rename_i h1
    rw [if_neg h1] at h0
    split
    · rename_i h2; rw [if_pos h2] at h0; simp at h0
    · rename_i h2
      rw [if_neg h2] at h0
      obtain ⟨p1, j1⟩ := rdI_uni h (by simpa using h1)
      rw [j1] at h0 ⊢
      obtain ⟨l, e1, e2, e3, e4⟩ := rdMF_uni _ p1 h0
      rw [List.nil_append] at e1
      have en : ((l.length : Nat) : Int) = (rdI X b.size 0).1 := by rw [e2]; omega
      rw [e1, en]
      exact ⟨e3, e4⟩

theorem rdT_parts (s : ByteArray) (i er : Int) : ∃ a0 a1 a2 a3 a4 a5 a6 a7 a8 a9 a11 a10, a0 = rdS s i er ∧ a1 = rdS s a0.2.1 a0.2.2 ∧ a2 = rdS s a1.2.1 a1.2.2 ∧ a3 = rdS s a2.2.1 a2.2.2 ∧ a4 = rdS s a3.2.1 a3.2.2 ∧ a5 = rdS s a4.2.1 a4.2.2 ∧ a6 = rdS s a5.2.1 a5.2.2 ∧ a7 = rdM s a6.2.1 a6.2.2 ∧ a8 = rdM s a7.2.1 a7.2.2 ∧ a9 = rdM s a8.2.1 a8.2.2 ∧ a11 = rdM s a9.2.1 a9.2.2 ∧ a10 = rdL s a11.2.1 a11.2.2 ∧ rdT s i er = (⟨a0.1, a1.1, a2.1, a3.1, a4.1, a5.1, a6.1, a7.1, a8.1, a9.1, a10.1, a11.1⟩, a10.2.1, a10.2.2) :=
  ⟨_, _, _, _, _, _, _, _, _, _, _, _, rfl, rfl, rfl, rfl, rfl, rfl, rfl, rfl, rfl, rfl, rfl, rfl, rfl⟩

theorem stepS {X b : ByteArray} {j e : Int} {a : List Sp × Int × Int} (h : Pre b X) (hj : j = (b.size : Int)) (he : e = 0) (ha : a = rdS X j e) (hz : a.2.2 = 0) : Pre (b ++ encSp a.1) X ∧ a.2.1 = ((b ++ encSp a.1).size : Int) := by
  subst ha; subst he; subst hj; exact rdS_uni h hz
theorem stepM {X b : ByteArray} {j e : Int} {a : List Mp × Int × Int} (h : Pre b X) (hj : j = (b.size : Int)) (he : e = 0) (ha : a = rdM X j e) (hz : a.2.2 = 0) : Pre (accR (b ++ putB a.1.length) a.1) X ∧ a.2.1 = ((accR (b ++ putB a.1.length) a.1).size : Int) := by
  subst ha; subst he; subst hj; exact rdM_uni h hz
theorem stepL {X b : ByteArray} {j e : Int} {a : List Int × Int × Int} (h : Pre b X) (hj : j = (b.size : Int)) (he : e = 0) (ha : a = rdL X j e) (hz : a.2.2 = 0) : Pre (b ++ encLi a.1) X ∧ a.2.1 = ((b ++ encLi a.1).size : Int) := by
  subst ha; subst he; subst hj; exact rdL_uni h hz

theorem rdT_uni {X : ByteArray} (h : Pre sigB X) (h0 : (rdT X 4 0).2.2 = 0) : Pre (rowsB (rdT X 4 0).1) X ∧ (rdT X 4 0).2.1 = ((rowsB (rdT X 4 0).1).size : Int) := by
  obtain ⟨a0, a1, a2, a3, a4, a5, a6, a7, a8, a9, a11, a10, q0, h1, h2, h3, h4, h5, h6, h7, h8, h9, h11, h10, hT⟩ := rdT_parts X 4 0
  rw [hT] at h0 ⊢
  simp only at h0 ⊢
  have z10 := h0
  have z11 : a11.2.2 = 0 := rdL_er (s := X) (i := a11.2.1) (er := a11.2.2) (by rw [← h10]; exact z10)
  have z9 : a9.2.2 = 0 := rdM_er (s := X) (i := a9.2.1) (er := a9.2.2) (by rw [← h11]; exact z11)
  have z8 : a8.2.2 = 0 := rdM_er (s := X) (i := a8.2.1) (er := a8.2.2) (by rw [← h9]; exact z9)
  have z7 : a7.2.2 = 0 := rdM_er (s := X) (i := a7.2.1) (er := a7.2.2) (by rw [← h8]; exact z8)
  have z6 : a6.2.2 = 0 := rdM_er (s := X) (i := a6.2.1) (er := a6.2.2) (by rw [← h7]; exact z7)
  have z5 : a5.2.2 = 0 := rdS_er (s := X) (i := a5.2.1) (er := a5.2.2) (by rw [← h6]; exact z6)
  have z4 : a4.2.2 = 0 := rdS_er (s := X) (i := a4.2.1) (er := a4.2.2) (by rw [← h5]; exact z5)
  have z3 : a3.2.2 = 0 := rdS_er (s := X) (i := a3.2.1) (er := a3.2.2) (by rw [← h4]; exact z4)
  have z2 : a2.2.2 = 0 := rdS_er (s := X) (i := a2.2.1) (er := a2.2.2) (by rw [← h3]; exact z3)
  have z1 : a1.2.2 = 0 := rdS_er (s := X) (i := a1.2.1) (er := a1.2.2) (by rw [← h2]; exact z2)
  have z0 : a0.2.2 = 0 := rdS_er (s := X) (i := a0.2.1) (er := a0.2.2) (by rw [← h1]; exact z1)
  obtain ⟨p0, j0⟩ := stepS (b := sigB) h rfl rfl q0 z0
  obtain ⟨p1, j1⟩ := stepS p0 j0 z0 h1 z1
  obtain ⟨p2, j2⟩ := stepS p1 j1 z1 h2 z2
  obtain ⟨p3, j3⟩ := stepS p2 j2 z2 h3 z3
  obtain ⟨p4, j4⟩ := stepS p3 j3 z3 h4 z4
  obtain ⟨p5, j5⟩ := stepS p4 j4 z4 h5 z5
  obtain ⟨p6, j6⟩ := stepS p5 j5 z5 h6 z6
  obtain ⟨p7, j7⟩ := stepM p6 j6 z6 h7 z7
  obtain ⟨p8, j8⟩ := stepM p7 j7 z7 h8 z8
  obtain ⟨p9, j9⟩ := stepM p8 j8 z8 h9 z9
  obtain ⟨p11, j11⟩ := stepM p9 j9 z9 h11 z11
  obtain ⟨p10, j10⟩ := stepL p11 j11 z11 h10 z10
  exact ⟨p10, j10⟩

/-- What Decode accepts is what Encode writes. -/
theorem dec_uni {X : ByteArray} {T : Tb} (h : decT X = (T, 0)) : X = rowsB T ++ putB (sumS (rowsB T)) := by
  unfold decT at h
  split at h
  · rename_i h1
    simp only [Prod.mk.injEq] at h
    exact absurd h.2 h1
  · rename_i h1
    split at h
    · simp at h
    · have hi : (itemsT X).2 = 0 := by simpa using h1
      simp only [Prod.mk.injEq, and_true] at h
      subst h
      unfold itemsT at hi ⊢
      split
      · rename_i c1; rw [if_pos c1] at hi; simp at hi
      · rename_i c1
        rw [if_neg c1] at hi
        split
        · rename_i c2; rw [if_pos c2] at hi; simp at hi
        · rename_i c2
          rw [if_neg c2] at hi
          split
          · rename_i c3; rw [if_pos c3] at hi; simp at hi
          · rename_i c3
            rw [if_neg c3] at hi
            simp only at hi ⊢
            have hsig : Pre sigB X := by
              have e : X.extract 0 4 = sigB := by simpa using c3
              refine ⟨X.extract 4 X.size, ?_⟩
              rw [← e]
              apply ByteArray.ext
              simp only [ByteArray.data_append, ByteArray.data_extract]
              have hs : X.size = X.data.size := rfl
              have hm : max 4 X.data.size = X.data.size := by omega
              rw [hs, Array.extract_append_extract, hm, Nat.min_eq_left (Nat.zero_le _), Array.extract_size]
            unfold endS at hi
            split at hi
            · rename_i c4; exact absurd hi c4
            · rename_i c4
              have c4' : (rdI X (rdT X 4 0).2.1 (rdT X 4 0).2.2).2.2 = 0 := by simpa using c4
              split at hi
              · simp at hi
              · rename_i c5
                split at hi
                · simp at hi
                · rename_i c6
                  have z := rdI_er c4'
                  obtain ⟨p, j⟩ := rdT_uni hsig z
                  have c5' : (rdI X (rdT X 4 0).2.1 (rdT X 4 0).2.2).1 = sumS (X.extract 0 (rdT X 4 0).2.1.toNat) := by simpa using c5
                  have c6' : (rdI X (rdT X 4 0).2.1 (rdT X 4 0).2.2).2.1 = X.size := by simpa using c6
                  rw [z, j] at c4' c5' c6'
                  obtain ⟨p2, j2⟩ := rdI_uni p c4'
                  rw [Int.toNat_natCast, extract_pre p] at c5'
                  rw [c5'] at p2 j2
                  rw [j2] at c6'
                  obtain ⟨r, hr⟩ := p2
                  have hz : r.size = 0 := by
                    have := congrArg ByteArray.size hr
                    rw [ByteArray.size_append] at this
                    omega
                  have hr0 : r = ByteArray.empty := by
                    apply ByteArray.ext
                    apply Array.eq_empty_of_size_eq_zero
                    exact hz
                  rw [hr0, str_empty] at hr
                  exact hr

end Go.Proofs.YtnnhcgflmhjakaaGreatDoor
