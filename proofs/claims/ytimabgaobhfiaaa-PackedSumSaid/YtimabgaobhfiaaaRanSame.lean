/-
  The contract of keep.Same at spans.
-/
import Derived.Test.YtimabgaobhfiaaaRanOwn
namespace Go.Proofs.Ytimabgaobhfiaaa
open Go.RowKit

theorem sp_beq_take_snoc (xs ys : List Sp) (k : Nat) (hx : k < xs.length) (hy : k < ys.length) (h : xs.take k = ys.take k) (he : xs.getD k sp0 = ys.getD k sp0) : xs.take (k + 1) = ys.take (k + 1) := by
  rw [take_snoc_sp xs k hx, take_snoc_sp ys k hy, h, he]

theorem sp_ne_of_getD (xs ys : List Sp) (k : Nat) (he : xs.getD k sp0 ≠ ys.getD k sp0) : decide (xs = ys) = false := by
  rw [decide_eq_false_iff_not]
  rintro rfl
  exact he rfl

theorem drewN_below_sp {B : Nat} {a w : World} (h : Below B a w) (n : Nat) : Below B a (w.drewN n) := ⟨h.os, h.tape, h.output, h.size, h.block⟩

set_option maxHeartbeats 2000000 in
theorem sameS_any (p q : Option Addr) (c d n m : Nat) (xs ys : List Sp) (w : World) (hx : SpIn w p xs) (hy : SpIn w q ys) (hl1 : xs.length = n) (hl2 : ys.length = m) (hn : n ≤ maxLen) (hm : m ≤ maxLen) :
    Calls Try.prog 27 #[.slice p n c, .slice q m d] w fun e w' => e = .returned (.bool (decide (xs = ys))) ∧ Below w.heap.size w w' := by
  unfold maxLen at hn hm
  have HX := Lib.hid hx
  have HY := Lib.hid hy
  have HL1 := Lib.hid hl1
  have HL2 := Lib.hid hl2
  clear hx hy hl1 hl2
  by_cases hl : n = m
  · subst hl
    have hne : ((n : Int) != (n : Int)) = false := by simp
    go_enter Try.func27, Try.ntmps27
    go_wp2
    go_loopw [13] (fun i wr => ∃ k : Nat, k ≤ n ∧ i = .int .i64 k ∧ Hid (xs.take k = ys.take k) ∧ Below w.heap.size w wr) (fun i _ => n - (intOf i).toNat)
    case atStart => exact ⟨0, Nat.zero_le _, rfl, rfl, Below.refl _ _⟩
    case round =>
      obtain ⟨k, hk, rfl, ht, hbel⟩ := hrel
      by_cases hlt : k < n
      · have hk1 : k < xs.length := by rw [HL1.out]; exact hlt
        have hk2 : k < ys.length := by rw [HL2.out]; exact hlt
        obtain ⟨b1, o1, rfl, c1, c2, c3⟩ := (HX.out.below hbel) k hk1
        obtain ⟨b2, o2, rfl, d1, d2, d3⟩ := (HY.out.below hbel) k hk2
        obtain ⟨⟨xf, xt, xv⟩, hxx⟩ : ∃ x, xs.getD k sp0 = x := ⟨_, rfl⟩
        obtain ⟨⟨yf, yt, yv⟩, hyy⟩ : ∃ y, ys.getD k sp0 = y := ⟨_, rfl⟩
        rw [hxx] at c1 c2 c3
        rw [hyy] at d1 d2 d3
        simp only at c1 c2 c3 d1 d2 d3
        by_cases hxy : xf = yf ∧ xt = yt ∧ xv = yv
        · obtain ⟨rfl, rfl, rfl⟩ := hxy
          have HS : Hid (xs.take (k + 1) = ys.take (k + 1)) := sp_beq_take_snoc xs ys k hk1 hk2 ht.out (by rw [hxx, hyy])
          clear hxx hyy
          go_wp2
          go_quiet (fail)
          go_wp2
          go_roundw
          case rel => exact ⟨k + 1, by omega, by go_num, HS, drewN_below_sp hbel _⟩
          case measure => simp [intOf]; omega
        · have HS : Hid (decide (xs = ys) = false) := sp_ne_of_getD xs ys k (by rw [hxx, hyy]; intro h; injection h with h1 h2; injection h2 with h2 h3; exact hxy ⟨h1, h2, h3⟩)
          clear hxx hyy
          have hcase : (xf == yf) = false ∨ (xf = yf ∧ (xt == yt) = false) ∨ (xf = yf ∧ xt = yt ∧ (xv == yv) = false) := by
            by_cases h1 : xf = yf
            · by_cases h2 : xt = yt
              · exact .inr (.inr ⟨h1, h2, by simp; exact fun h3 => hxy ⟨h1, h2, h3⟩⟩)
              · exact .inr (.inl ⟨h1, by simp [h2]⟩)
            · exact .inl (by simp [h1])
          clear hxy
          rcases hcase with h1 | ⟨rfl, h1⟩ | ⟨rfl, rfl, h1⟩
          all_goals
            go_wp2
            go_quiet (fail)
            go_wp2
            go_ret
            rw [HS.out]
            exact ⟨rfl, drewN_below_sp hbel _⟩
      · obtain rfl : k = n := by omega
        have HS : Hid (decide (xs = ys) = true) := by
          have := ht.out
          rw [List.take_of_length_le (Nat.le_of_eq HL1.out), List.take_of_length_le (Nat.le_of_eq HL2.out)] at this
          simp [Hid, this]
        go_wp2
        go_ret
        rw [HS.out]
        exact ⟨rfl, hbel⟩
  · have hne : ((n : Int) != (m : Int)) = true := by simp; omega
    have HE : Hid (decide (xs = ys) = false) := by
      unfold Hid
      rw [decide_eq_false_iff_not]
      rintro rfl
      exact hl (HL1.out.symm.trans HL2.out)
    clear hl
    go_enter Try.func27, Try.ntmps27
    go_wp2
    go_ret
    rw [HE.out]
    exact ⟨rfl, Below.refl _ _⟩

theorem sameS_at (p q : Option Addr) (c d n m : Nat) (xs : List Sp) (w : World) (hx : SpIn w p xs) (hy : SpIn w q xs) (hl1 : Hid (xs.length = n)) (hl2 : Hid (xs.length = m)) (hn : xs.length ≤ maxLen) :
    Calls Try.prog 27 #[.slice p n c, .slice q m d] w fun e w' => e = .returned (.bool true) ∧ Below w.heap.size w w' := by
  have := sameS_any p q c d n m xs xs w hx hy hl1.out hl2.out (by rw [← hl1.out]; exact hn) (by rw [← hl2.out]; exact hn)
  simpa using this

theorem sp_lit_new (w : World) (C : Array Value) (xs : List Sp) (t : TypeId) (h : C.toList = cellsS xs) : SpIn (w.alloc (.cells C t)) (some ⟨w.heap.size, 0, none⟩) xs := by
  intro k hk
  obtain ⟨c1, c2, c3⟩ := cellsS_at xs k hk
  rw [← h] at c1 c2 c3
  simp only [Array.getElem?_toList] at c1 c2 c3
  refine ⟨_, _, rfl, ?_, ?_, ?_⟩
  · rw [Nat.zero_add, World.cell?_alloc_new]; exact c1
  · rw [Nat.zero_add, World.cell?_alloc_new]; exact c2
  · rw [Nat.zero_add, World.cell?_alloc_new]; exact c3

end Go.Proofs.Ytimabgaobhfiaaa
