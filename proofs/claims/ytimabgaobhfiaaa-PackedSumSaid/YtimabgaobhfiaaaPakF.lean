/-
  packed: the reader of codes.
-/
import Derived.Test.YtimabgaobhfiaaaPakE
import Derived.Test.YtimabgaobhfiaaaRanAppAt
namespace Go.Proofs.Ytimabgaobhfiaaa
open Go.RowKit

/-- Block g is a reader. -/
def Rd (w : World) (g : Nat) (s : ByteArray) (i er : Int) : Prop :=
  w.cell? ⟨g, 0, none⟩ = some (.string s) ∧ w.cell? ⟨g, 1, none⟩ = some (.int .i64 i) ∧ w.cell? ⟨g, 2, none⟩ = some (.int .i64 er) ∧ w.frozen? ⟨g, 1, none⟩ = false ∧ w.frozen? ⟨g, 2, none⟩ = false ∧ g < w.heap.size

theorem Rd.grown {w w' : World} {g : Nat} {s : ByteArray} {i er : Int} {row : Option Nat} (h : Rd w g s i er) (hg : w.grownBy w' row) (hne : row ≠ some g) : Rd w' g s i er := by
  obtain ⟨h1, h2, h3, h4, h5, h6⟩ := h
  exact ⟨hg.cell h1 (Ne.symm hne), hg.cell h2 (Ne.symm hne), hg.cell h3 (Ne.symm hne), (World.frozen?_of_block (hg.block g h6 (Ne.symm hne))).trans h4, (World.frozen?_of_block (hg.block g h6 (Ne.symm hne))).trans h5, Nat.lt_of_lt_of_le h6 hg.size⟩

theorem Rd.drewN {w : World} {g : Nat} {s : ByteArray} {i er : Int} (h : Rd w g s i er) (n : Nat) : Rd (w.drewN n) g s i er := h

theorem Rd.setNext {w : World} {g : Nat} {s : ByteArray} {i er : Int} (h : Rd w g s i er) (j : Int) : Rd (w.setCell ⟨g, 1, none⟩ (.int .i64 j)) g s j er := by
  obtain ⟨h1, h2, h3, h4, h5, h6⟩ := h
  exact ⟨(World.cell?_setCell_other _ _ _ _ (by simp)).trans h1, World.cell?_setCell_same _ _ _ h2, (World.cell?_setCell_other _ _ _ _ (by simp)).trans h3, (World.frozen?_setCell _ _ _ _).trans h4, (World.frozen?_setCell _ _ _ _).trans h5, by simpa [World.setCell] using h6⟩

theorem Rd.setErr {w : World} {g : Nat} {s : ByteArray} {i er : Int} (h : Rd w g s i er) (e : Int) : Rd (w.setCell ⟨g, 2, none⟩ (.int .i64 e)) g s i e := by
  obtain ⟨h1, h2, h3, h4, h5, h6⟩ := h
  exact ⟨(World.cell?_setCell_other _ _ _ _ (by simp)).trans h1, (World.cell?_setCell_other _ _ _ _ (by simp)).trans h2, World.cell?_setCell_same _ _ _ h3, (World.frozen?_setCell _ _ _ _).trans h4, (World.frozen?_setCell _ _ _ _).trans h5, by simpa [World.setCell] using h6⟩

theorem Rd.new (w : World) (s : ByteArray) (i er : Int) (ty : TypeId) : Rd (w.alloc (.cells #[.string s, .int .i64 i, .int .i64 er] ty)) w.heap.size s i er := by
  refine ⟨?_, ?_, ?_, ?_, ?_, ?_⟩ <;> simp [World.cell?_alloc_new]

/-- One number: its value, the next index, the error. -/
def numS (s : ByteArray) (i er least most : Int) : Int × Int × Int :=
  if er ≠ 0 then (0, i, er) else if (getS s i).2.2 ≠ 0 then (0, i, (getS s i).2.2) else if (getS s i).1 < least ∨ most < (getS s i).1 then (0, i, 4) else ((getS s i).1, (getS s i).2.1, 0)

/-- What number leaves. -/
def NumPost (g : Nat) (s : ByteArray) (v i er : Int) (w : World) (e : Ending) (w' : World) : Prop :=
  e = .returned (.int .i64 v) ∧ Rd w' g s i er ∧ w.grownBy w' (some g)

theorem rd_drewN (w : World) (n : Nat) (row : Option Nat) : w.grownBy (w.drewN n) row := ⟨rfl, rfl, rfl, Nat.le_refl _, fun _ _ _ => rfl⟩

theorem getInt_quiet (s : ByteArray) (a v i er : Int) (w : World) (hs : s.size ≤ maxLen) (hE : Hid (getS s a = (v, i, er))) :
    Calls Try.prog 22 #[.string s, .int .i64 a] w fun e w' => e = .returned (.tuple #[.int .i64 v, .int .i64 i, .int .i64 er]) ∧ ∃ m, w' = w.drewN m := getInt_any s a v i er w hs hE

theorem pk_grownBy_trans {w w1 w2 : World} {row : Option Nat} (h : w.grownBy w1 row) (k : w1.grownBy w2 row) : w.grownBy w2 row :=
  ⟨k.os.trans h.os, k.tape.trans h.tape, k.output.trans h.output, Nat.le_trans h.size k.size, fun i hi hne => (k.block i (Nat.lt_of_lt_of_le hi h.size) hne).trans (h.block i hi hne)⟩

set_option maxRecDepth 100000 in
set_option maxHeartbeats 2000000 in
theorem number_any (g : Nat) (s : ByteArray) (i er least most v j er' : Int) (w : World) (hs : s.size ≤ maxLen) (hr : Rd w g s i er) (hE : Hid (numS s i er least most = (v, j, er'))) :
    Calls Try.prog 37 #[.pointer (some ⟨g, 0, none⟩), .int .i64 least, .int .i64 most] w (NumPost g s v j er' w) := by
  have HR := Lib.hid hr
  have HS := Lib.hid hs
  obtain ⟨r0, r1, r2, r3, r4, r5⟩ := hr
  clear hs
  by_cases h0 : er = 0
  · subst h0
    obtain ⟨x, k, ge, hg⟩ : ∃ x k ge, getS s i = (x, k, ge) := ⟨_, _, _, rfl⟩
    have hE' := hE.out
    rw [numS, if_neg (by simp), hg] at hE'
    simp only at hE'
    have HG := Lib.hid hg
    clear hg
    have hd : ((0 : Int) != 0) = false := rfl
    by_cases h1 : ge = 0
    · subst h1
      rw [if_neg (by simp)] at hE'
      by_cases h2 : x < least
      · rw [if_pos (.inl h2)] at hE'
        injection hE' with e1 e2
        injection e2 with e2 e3
        subst e1; subst e2; subst e3
        go_enter Try.func37, Try.ntmps37
        go_wp2
        go_quiet ((go_at_call 22; exact Calls.quiet_of (getInt_quiet s i x k 0 _ HS.out HG)))
        go_wp2
        go_ret
        exact ⟨rfl, (HR.out.drewN _).setErr 4, pk_grownBy_trans (rd_drewN w _ _) (sp_grownBy_store _ g 2 _)⟩
      · have hd2 : decide (x < least) = false := decide_eq_false h2
        by_cases h3 : most < x
        · rw [if_pos (.inr h3)] at hE'
          injection hE' with e1 e2
          injection e2 with e2 e3
          subst e1; subst e2; subst e3
          clear h2
          go_enter Try.func37, Try.ntmps37
          go_wp2
          go_quiet ((go_at_call 22; exact Calls.quiet_of (getInt_quiet s i x k 0 _ HS.out HG)))
          go_wp2
          go_ret
          exact ⟨rfl, (HR.out.drewN _).setErr 4, pk_grownBy_trans (rd_drewN w _ _) (sp_grownBy_store _ g 2 _)⟩
        · have hd3 : decide (most < x) = false := decide_eq_false h3
          rw [if_neg (by omega)] at hE'
          injection hE' with e1 e2
          injection e2 with e2 e3
          subst e1; subst e2; subst e3
          clear h2 h3
          go_enter Try.func37, Try.ntmps37
          go_wp2
          go_quiet ((go_at_call 22; exact Calls.quiet_of (getInt_quiet s i x k 0 _ HS.out HG)))
          go_wp2
          go_ret
          exact ⟨rfl, (HR.out.drewN _).setNext k, pk_grownBy_trans (rd_drewN w _ _) (sp_grownBy_store _ g 1 _)⟩
    · have hd1 : (ge == 0) = false := by simp [h1]
      have hd2 : (ge != 0) = true := by simp [h1]
      rw [if_pos h1] at hE'
      injection hE' with e1 e2
      injection e2 with e2 e3
      subst e1; subst e2; subst e3
      clear h1
      go_enter Try.func37, Try.ntmps37
      go_wp2
      go_quiet ((go_at_call 22; exact Calls.quiet_of (getInt_quiet s i x k ge _ HS.out HG)))
      go_wp2
      go_ret
      exact ⟨rfl, (HR.out.drewN _).setErr ge, pk_grownBy_trans (rd_drewN w _ _) (sp_grownBy_store _ g 2 _)⟩
  · have hd : (er != 0) = true := by simp [h0]
    have hE' := hE.out
    rw [numS, if_pos h0] at hE'
    injection hE' with e1 e2
    injection e2 with e2 e3
    subst e1; subst e2; subst e3
    clear h0
    go_enter Try.func37, Try.ntmps37
    go_wp2
    go_ret
    exact ⟨rfl, HR.out, rd_drewN w 0 _⟩

end Go.Proofs.Ytimabgaobhfiaaa
