/-
  The contracts at named results; the example of chapter 2; 'agrees'.
-/
import Derived.Test.YtkapjihjbflliaaRanRefE
import Derived.Test.YtkapjihjbflliaaRanSame
namespace Go.Proofs.Ytkapjihjbflliaa
open Go.RowKit

/-- A new slice of spans and an error, named. -/
def RetAt (L : List Sp) (er : Int) (w : World) (e : Ending) (w' : World) : Prop :=
  ∃ p c, e = .returned (.tuple #[.slice p L.length c, .int .i64 er]) ∧ Hid (Spans w' w.heap.size (.slice p L.length c) L) ∧ Hid (SpIn w' p L) ∧ Below w.heap.size w w'

def OwnAt (L : List Sp) (w : World) (e : Ending) (w' : World) : Prop :=
  ∃ p c, e = .returned (.slice p L.length c) ∧ Hid (Spans w' w.heap.size (.slice p L.length c) L) ∧ Hid (SpIn w' p L) ∧ Below w.heap.size w w'

theorem RetPost.at_ {r : List Sp × Int} {L : List Sp} {er : Int} {w : World} {e : Ending} {w' : World} (h : RetPost r w e w') (hE : r = (L, er)) : RetAt L er w e w' := by
  subst hE
  obtain ⟨⟨v, rfl, ho⟩, hb⟩ := h
  obtain ⟨p, c, rfl, hi⟩ := ho.inn
  exact ⟨p, c, rfl, ho, hi, hb⟩

theorem OwnPost.at_ {r L : List Sp} {w : World} {e : Ending} {w' : World} (h : OwnPost r w e w') (hE : r = L) : OwnAt L w e w' := by
  subst hE
  obtain ⟨v, rfl, ho, hb⟩ := h
  obtain ⟨p, c, rfl, hi⟩ := ho.inn
  exact ⟨p, c, rfl, ho, hi, hb⟩

theorem set_at (p : Option Addr) (n cp : Nat) (l L : List Sp) (f t v er : Int) (w : World) (hl : Hid (l.length = n)) (hn : n ≤ maxLen) (hin : SpIn w p l) (hE : Hid (setS l f t v = (L, er))) :
    Calls Try.prog 15 #[.slice p n cp, .int .i64 f, .int .i64 t, .int .i64 v] w (RetAt L er w) := (set_any p n cp l f t v w hl.out hn hin).mono fun _ _ h => h.at_ hE.out
theorem clear_at (p : Option Addr) (n cp : Nat) (l L : List Sp) (f t er : Int) (w : World) (hl : Hid (l.length = n)) (hn : n ≤ maxLen) (hin : SpIn w p l) (hE : Hid (clearS l f t = (L, er))) :
    Calls Try.prog 16 #[.slice p n cp, .int .i64 f, .int .i64 t] w (RetAt L er w) := (clear_any p n cp l f t w hl.out hn hin).mono fun _ _ h => h.at_ hE.out
theorem overlay_at (p q : Option Addr) (n m c d : Nat) (a b L : List Sp) (er : Int) (w : World) (hl : Hid (a.length = n)) (hm : Hid (b.length = m)) (hn : n ≤ maxLen) (hmm : m ≤ maxLen) (hd : m ≤ d) (hqd : Hid (q = none → d = 0)) (hin : SpIn w p a) (hin2 : SpIn w q b) (hE : Hid (overS a b = (L, er))) :
    Calls Try.prog 19 #[.slice p n c, .slice q m d] w (RetAt L er w) := (overlay_any p q n m c d a b w hl.out hm.out hn hmm hd hqd.out hin hin2).mono fun _ _ h => h.at_ hE.out
theorem normal_at (p : Option Addr) (n cp : Nat) (l L : List Sp) (w : World) (hl : Hid (l.length = n)) (hn : n ≤ maxLen) (hin : SpIn w p l) (hE : Hid (normS l = L)) :
    Calls Try.prog 20 #[.slice p n cp] w (OwnAt L w) := (normal_any p n cp l w hl.out hn hin).mono fun _ _ h => h.at_ hE.out
theorem rset_at (p : Option Addr) (n cp : Nat) (l L : List Sp) (f t v er : Int) (w : World) (hl : Hid (l.length = n)) (hn : n ≤ maxLen) (hin : SpIn w p l) (hE : Hid (setS l f t v = (L, er))) :
    Calls Try.prog 25 #[.slice p n cp, .int .i64 f, .int .i64 t, .int .i64 v] w (RetAt L er w) := (rset_any p n cp l f t v w hl.out hn hin).mono fun _ _ h => h.at_ hE.out
theorem rclear_at (p : Option Addr) (n cp : Nat) (l L : List Sp) (f t er : Int) (w : World) (hl : Hid (l.length = n)) (hn : n ≤ maxLen) (hin : SpIn w p l) (hE : Hid (clearS l f t = (L, er))) :
    Calls Try.prog 26 #[.slice p n cp, .int .i64 f, .int .i64 t] w (RetAt L er w) := (rclear_any p n cp l f t w hl.out hn hin).mono fun _ _ h => h.at_ hE.out
theorem roverlay_at (p q : Option Addr) (n m c d : Nat) (a b L : List Sp) (er : Int) (w : World) (hl : Hid (a.length = n)) (hm : Hid (b.length = m)) (hn : n ≤ maxLen) (hmm : m ≤ maxLen) (hin : SpIn w p a) (hin2 : SpIn w q b) (hE : Hid (overS a b = (L, er))) :
    Calls Try.prog 27 #[.slice p n c, .slice q m d] w (RetAt L er w) := (roverlay_any p q n m c d a b w hl.out hm.out hn hmm hin hin2).mono fun _ _ h => h.at_ hE.out
theorem rnormal_at (p : Option Addr) (n cp : Nat) (l L : List Sp) (w : World) (hl : Hid (l.length = n)) (hn : n ≤ maxLen) (hin : SpIn w p l) (hE : Hid (normS l = L)) :
    Calls Try.prog 28 #[.slice p n cp] w (OwnAt L w) := (rnormal_any p n cp l w hl.out hn hin).mono fun _ _ h => h.at_ hE.out

theorem find_at (p : Option Addr) (n cp : Nat) (l : List Sp) (c v : Int) (b : Bool) (w : World) (hl : Hid (l.length = n)) (hn : n ≤ maxLen) (hin : SpIn w p l) (hE : Hid (findS l c = (v, b))) :
    Calls Try.prog 18 #[.slice p n cp, .int .i64 c] w fun e w' => e = .returned (.tuple #[.int .i64 v, .bool b]) ∧ Below w.heap.size w w' := by
  have := find_any p n cp l c w hl.out hn hin
  rw [hE.out] at this
  exact this
theorem rfind_at (p : Option Addr) (n cp : Nat) (l : List Sp) (c v : Int) (b : Bool) (w : World) (hl : Hid (l.length = n)) (hn : n ≤ maxLen) (hin : SpIn w p l) (hE : Hid (findS l c = (v, b))) :
    Calls Try.prog 17 #[.slice p n cp, .int .i64 c] w fun e w' => e = .returned (.tuple #[.int .i64 v, .bool b]) ∧ Below w.heap.size w w' := by
  have := rfind_any p n cp l c w hl.out hn hin
  rw [hE.out] at this
  exact this
theorem check_at (p : Option Addr) (n c : Nat) (l : List Sp) (lo hi : Int) (B : Bool) (w : World) (hl : Hid (l.length = n)) (hn : n ≤ maxLen) (hin : SpIn w p l) (hB : Hid (checkS l lo hi = B)) :
    Calls Try.prog 14 #[.slice p n c, .int .i64 lo, .int .i64 hi] w fun e w' => e = .returned (.bool B) ∧ Below w.heap.size w w' := by
  have := check_any p n c l lo hi w hl.out hn hin
  rw [hB.out] at this
  exact this
theorem count_at (p : Option Addr) (n c : Nat) (l : List Sp) (z : Int) (w : World) (hl : Hid (l.length = n)) (hn : n ≤ maxLen) (hin : SpIn w p l) (hz : Hid (cntS l = z)) :
    Calls Try.prog 23 #[.slice p n c] w fun e w' => e = .returned (.int .i64 z) ∧ Below w.heap.size w w' := by
  have := count_any p n c l w hl.out hn hin
  rw [hz.out] at this
  exact this
theorem rcount_at (p : Option Addr) (n c : Nat) (l : List Sp) (z : Int) (w : World) (hl : Hid (l.length = n)) (hn : n ≤ maxLen) (hin : SpIn w p l) (hz : Hid (cntS l = z)) :
    Calls Try.prog 24 #[.slice p n c] w fun e w' => e = .returned (.int .i64 z) ∧ Below w.heap.size w w' := by
  have := rcount_any p n c l w hl.out hn hin
  rw [hz.out] at this
  exact this

theorem sameS_at (p q : Option Addr) (c d n m : Nat) (xs : List Sp) (w : World) (hx : SpIn w p xs) (hy : SpIn w q xs) (hl1 : Hid (xs.length = n)) (hl2 : Hid (xs.length = m)) (hn : xs.length ≤ maxLen) :
    Calls Try.prog 22 #[.slice p n c, .slice q m d] w fun e w' => e = .returned (.bool true) ∧ Below w.heap.size w w' := by
  have := sameS_any p q c d n m xs xs w hx hy hl1.out hl2.out (by rw [← hl1.out]; exact hn) (by rw [← hl2.out]; exact hn)
  simpa using this

theorem sp_lit_new (w : World) (C : Array Value) (xs : List Sp) (t : TypeId) (h : C.toList = cellsS xs) : SpIn (w.alloc (.cells C t)) (some ⟨w.heap.size, 0, none⟩) xs := by
  intro k hk
  obtain ⟨c1, c2, c3⟩ := cellsS_at xs k hk
  rw [← h] at c1 c2 c3
  simp only [Array.getElem?_toList] at c1 c2 c3
  refine ⟨_, _, rfl, ?_, ?_, ?_⟩
  · rw [Nat.zero_add, World.cell?_alloc_new]; exact c1
  · rw [Nat.zero_add, World.cell?_alloc_new]; exact c2
  · rw [Nat.zero_add, World.cell?_alloc_new]; exact c3

set_option maxHeartbeats 2000000 in
theorem awake_any (w : World) : Calls Try.prog 10 #[] w fun e w' => e = .returned (.bool true) ∧ Below w.heap.size w w' := by
  have h1 : Hid (setS [(10, 20, 1)] 15 16 2 = ([(10, 14, 1), (15, 16, 2), (17, 20, 1)], 0)) := by unfold Hid; decide +kernel
  have h2 : Hid (setS [(10, 20, 1)] 15 16 1 = ([(10, 20, 1)], 0)) := by unfold Hid; decide +kernel
  have HI := Lib.hid (one_new w 10 20 1 42)
  have HB := Lib.hid ((Below.refl w.heap.size w).alloc (Nat.le_refl _) (.cells #[.int .i64 10, .int .i64 20, .int .i64 1] 42))
  have HL : Hid (([(10, 20, 1)] : List Sp).length = 1) := rfl
  go_enter Try.func10, Try.ntmps10
  go_wp2_with fail
  refine (set_at _ 1 1 [(10, 20, 1)] _ 15 16 2 0 _ HL (by decide +kernel) HI.out h1).mono ?_
  rintro e w1 ⟨p1, c1, rfl, _, hi1, hb1⟩
  have HI1 := Lib.hid (HI.out.below hb1)
  have HB1 := Lib.hid (HB.out.trans (hb1.mono HB.out.size))
  clear hb1
  go_wp2_with fail
  refine (set_at _ 1 1 [(10, 20, 1)] _ 15 16 1 0 _ HL (by decide +kernel) HI1.out h2).mono ?_
  rintro e w2 ⟨p2, c2, rfl, _, hi2, hb2⟩
  have HI2 := Lib.hid ((HI1.out.below hb2).alloc (.cells #[.int .i64 10, .int .i64 14, .int .i64 1, .int .i64 15, .int .i64 16, .int .i64 2, .int .i64 17, .int .i64 20, .int .i64 1] 42))
  have HS := Lib.hid ((hi1.out.below hb2).alloc (.cells #[.int .i64 10, .int .i64 14, .int .i64 1, .int .i64 15, .int .i64 16, .int .i64 2, .int .i64 17, .int .i64 20, .int .i64 1] 42))
  have HT := Lib.hid (hi2.out.alloc (.cells #[.int .i64 10, .int .i64 14, .int .i64 1, .int .i64 15, .int .i64 16, .int .i64 2, .int .i64 17, .int .i64 20, .int .i64 1] 42))
  have HLit := Lib.hid (sp_lit_new w2 #[.int .i64 10, .int .i64 14, .int .i64 1, .int .i64 15, .int .i64 16, .int .i64 2, .int .i64 17, .int .i64 20, .int .i64 1] [(10, 14, 1), (15, 16, 2), (17, 20, 1)] 42 rfl)
  have HB2' := HB1.out.trans (hb2.mono HB1.out.size)
  have HB2 := Lib.hid (HB2'.alloc HB2'.size (.cells #[.int .i64 10, .int .i64 14, .int .i64 1, .int .i64 15, .int .i64 16, .int .i64 2, .int .i64 17, .int .i64 20, .int .i64 1] 42))
  clear hb2 hi1 hi2 HB2'
  have HL3 : Hid (([(10, 14, 1), (15, 16, 2), (17, 20, 1)] : List Sp).length = 3) := rfl
  go_wp2_with fail
  refine (sameS_at _ _ _ _ _ _ [(10, 14, 1), (15, 16, 2), (17, 20, 1)] _ HS.out HLit.out HL3 HL3 (by decide +kernel)).mono ?_
  rintro e w3 ⟨rfl, hb3⟩
  have HI3 := Lib.hid (HI2.out.below hb3)
  have HT3 := Lib.hid (HT.out.below hb3)
  have HB3 := Lib.hid (HB2.out.trans (hb3.mono HB2.out.size))
  clear hb3
  go_wp2_with fail
  refine (sameS_at _ _ _ _ _ _ [(10, 20, 1)] _ HT3.out HI3.out HL HL (by decide +kernel)).mono ?_
  rintro e w4 ⟨rfl, hb4⟩
  have HB4 := Lib.hid (HB3.out.trans (hb4.mono HB3.out.size))
  clear hb4
  go_wp2
  go_ret
  exact ⟨rfl, HB4.out⟩

end Go.Proofs.Ytkapjihjbflliaa
