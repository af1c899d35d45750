/-
  The contract of keep.Pick.
  The contracts of keep.From and keep.Source.Next: a source is a block of two cells; what is left of its list is a list of its own.
-/
import Derived.Test.YtebhliepncmghaaPkA
import Derived.Deep.QuietTactic
import Derived.BigQuiet
import Derived.Deep.DeepCutAuto
set_option linter.unusedSimpArgs false
set_option linter.unusedVariables false
namespace Go.Proofs.Ytebhliepncmghaa
open Go.RowKit

/-- 'uint(v) % uint(n)'. -/
def pickS (v n : Int) : Int := (v % 18446744073709551616) % n

theorem pickS_bd (v n : Int) (h : 1 ≤ n) : 0 ≤ pickS v n ∧ pickS v n < n := by
  unfold pickS; exact ⟨Int.emod_nonneg _ (by omega), Int.emod_lt_of_pos _ (by omega)⟩

theorem pick_eq (v n : Int) (h0 : 1 ≤ n) (h1 : n ≤ 1125899906842624) : wrap64 ((IntKind.u64.wrap v).tmod n) = pickS v n := by
  have hb := pickS_bd v n h0
  have e : (IntKind.u64.wrap v).tmod n = pickS v n := by
    rw [IntKind.wrap_u64, Int.tmod_eq_emod_of_nonneg (Int.emod_nonneg _ (by omega))]
    rfl
  rw [e]
  exact IntWalk.wrap64_in _ ⟨by omega, by omega⟩

theorem ret_i64 {a b : Int} (h : a = b) : Ending.returned (.int .i64 a) = .returned (.int .i64 b) := by rw [h]

set_option maxHeartbeats 400000 in
theorem pickL_any (v n : Int) (w : World) (h0 : 1 ≤ n) (h1 : n ≤ 1125899906842624) :
    Calls Try.prog 25 #[.int .i64 v, .int .i64 n] w fun e w' => e = .returned (.int .i64 (pickS v n)) ∧ w = w' := by
  go_enter Try.func25, Try.ntmps25
  go_wp2
  go_ret
  exact ⟨ret_i64 (pick_eq v n h0 h1), rfl⟩

theorem pick_any (v n : Int) (w : World) (h0 : 1 ≤ n) (h1 : n ≤ 1073741824) :
    Calls Try.prog 25 #[.int .i64 v, .int .i64 n] w fun e w' => e = .returned (.int .i64 (pickS v n)) ∧ w = w' := pickL_any v n w h0 (by omega)

end Go.Proofs.Ytebhliepncmghaa

namespace Go.Proofs.Ytebhliepncmghaa
open Go.RowKit

/-- Block g is a source of which the numbers r are left. -/
def Src (w : World) (g : Nat) (r : List Int) : Prop :=
  ∃ (zs : List Int) (i : Nat) (p : Option Addr) (cap : Nat), zs.drop i = r ∧ i ≤ zs.length ∧ zs.length ≤ 17592186043904 ∧ w.cell? ⟨g, 0, none⟩ = some (.slice p zs.length cap) ∧ w.cell? ⟨g, 1, none⟩ = some (.int .i64 i) ∧
    w.frozen? ⟨g, 1, none⟩ = false ∧ IntsIn w p zs ∧ (zs ≠ [] → ∀ b off, p = some ⟨b, off, none⟩ → b < g)

/-- The next choice from 0 to n - 1. -/
def nextV (r : List Int) (n : Int) : Int := match r with | [] => 0 | x :: _ => pickS x n

theorem nextV_bd (r : List Int) (n : Int) (h : 1 ≤ n) : 0 ≤ nextV r n ∧ nextV r n < n := by
  unfold nextV
  split
  · omega
  · exact pickS_bd _ n h

theorem RowIn.grown {t : IntKind} {w w' : World} {p : Option Addr} {zs : List Int} {g : Nat} (h : RowIn t w p zs) (hg : w.grownBy w' (some g)) (hp : ∀ b off, p = some ⟨b, off, none⟩ → b ≠ g) : RowIn t w' p zs := by
  intro k hk
  obtain ⟨b, off, e, hc⟩ := h k hk
  exact ⟨b, off, e, hg.cell hc (by simpa using hp b off e)⟩

theorem Src.below {w w' : World} {g : Nat} {r : List Int} (h : Src w g r) (hb : Below w.heap.size w w') : Src w' g r := by
  obtain ⟨zs, i, p, cap, h1, h2, h3, h4, h5, h6, h7, h8⟩ := h
  have hlt := World.block_lt_of_cell? w _ h4
  have hlt1 := World.block_lt_of_cell? w _ h5
  exact ⟨zs, i, p, cap, h1, h2, h3, (hb.cell (p := ⟨g, 0, none⟩) hlt).trans h4, (hb.cell (p := ⟨g, 1, none⟩) hlt1).trans h5, (hb.frozen (p := ⟨g, 1, none⟩) hlt1).trans h6, h7.below hb, h8⟩

theorem Src.alloc {w : World} {g : Nat} {r : List Int} (h : Src w g r) (o : Obj) : Src (w.alloc o) g r := h.below ((Below.refl _ _).alloc (Nat.le_refl _) o)

theorem grownBy_trans {w w1 w2 : World} {row : Option Nat} (h : w.grownBy w1 row) (k : w1.grownBy w2 row) : w.grownBy w2 row :=
  ⟨k.os.trans h.os, k.tape.trans h.tape, k.output.trans h.output, Nat.le_trans h.size k.size, fun i hi hne => (k.block i (Nat.lt_of_lt_of_le hi h.size) hne).trans (h.block i hi hne)⟩

theorem grownBy_of_below {w w1 w2 : World} {row : Option Nat} (h : w.grownBy w1 row) (k : Below w1.heap.size w1 w2) : w.grownBy w2 row := grownBy_trans h (below_grownBy k row)

theorem grownBy_drewN {w w1 : World} {row : Option Nat} (h : w.grownBy w1 row) (n : Nat) : w.grownBy (w1.drewN n) row := ⟨h.os, h.tape, h.output, h.size, h.block⟩

theorem grownBy_store (w : World) (g o : Nat) (v : Value) : w.grownBy (w.setCell ⟨g, o, none⟩ v) (some g) :=
  ⟨rfl, rfl, rfl, by simp, fun k _ hne => heap_setCell_other w ⟨g, o, none⟩ k v (fun e => hne (by simp [e]))⟩

/-- A source is kept where nothing is written but blocks behind it. -/
theorem Src.grown {w w' : World} {g : Nat} {r : List Int} {row : Option Nat} (h : Src w g r) (hg : w.grownBy w' row) (hr : ∀ k, row = some k → g < k) : Src w' g r := by
  obtain ⟨zs, i, p, cap, h1, h2, h3, h4, h5, h6, h7, h8⟩ := h
  have hne : ∀ b, b ≤ g → some b ≠ row := fun b hb e => by have := hr b e.symm; omega
  have hlt := World.block_lt_of_cell? w _ h4
  refine ⟨zs, i, p, cap, h1, h2, h3, hg.cell h4 (hne g (Nat.le_refl _)), hg.cell h5 (hne g (Nat.le_refl _)), ?_, ?_, h8⟩
  · exact (World.frozen?_of_block (hg.block g hlt (hne g (Nat.le_refl _)))).trans h6
  · intro k hk
    obtain ⟨b, off, e, hc⟩ := h7 k hk
    have hb := h8 (by intro e; rw [e] at hk; simp at hk) b off e
    exact ⟨b, off, e, hg.cell hc (hne b (by omega))⟩

/-- What Next leaves. -/
def NextPost (g : Nat) (v : Int) (r : List Int) (w : World) (e : Ending) (w' : World) : Prop :=
  e = .returned (.int .i64 v) ∧ Src w' g r ∧ w.grownBy w' (some g)

theorem pick_quiet (v n : Int) (w : World) (h0 : 1 ≤ n) (h1 : n ≤ 1073741824) :
    Calls Try.prog 25 #[.int .i64 v, .int .i64 n] w fun e w' => e = .returned (.int .i64 (pickS v n)) ∧ w' = w :=
  (pick_any v n w h0 h1).mono fun _ _ ⟨a, b⟩ => ⟨a, b.symm⟩

set_option maxHeartbeats 1000000 in
theorem next_any (g : Nat) (r : List Int) (n : Int) (w : World) (hs : Src w g r) (h0 : 1 ≤ n) (h1 : n ≤ 1073741824) :
    Calls Try.prog 27 #[.pointer (some ⟨g, 0, none⟩), .int .i64 n] w (NextPost g (nextV r n) r.tail w) := by
  obtain ⟨zs, i, p, cap, hd, hi, hl, hc0, hc1, hf, hin, hp⟩ := hs
  have HD := Lib.hid hd
  have HI := Lib.hid hin
  have HQ := Lib.hid hp
  clear hd hin hp
  by_cases hlt : i < zs.length
  · have HP := Lib.hid (HQ.out (by intro e; rw [e] at hlt; simp at hlt))
    clear HQ
    obtain ⟨b, off, rfl, hck⟩ := HI.out i hlt
    have hbg : b < g := HP.out b off rfl
    obtain ⟨x, hx⟩ : ∃ x, zs.getD i 0 = x := ⟨_, rfl⟩
    rw [hx] at hck
    have hdr : zs.drop i = x :: zs.drop (i + 1) := by
      rw [List.drop_eq_getElem_cons hlt, ← hx]; simp [hlt]
    have HR : Hid (r = x :: zs.drop (i + 1)) := by unfold Hid; rw [← HD.out, hdr]
    have HB := Lib.hid hbg
    have hge : decide (zs.length ≤ i) = false := by simp; omega
    clear hx hdr hbg
    go_enter Try.func27, Try.ntmps27
    go_wp2
    go_quiet (fail)
    go_upto_region 4 with (fail)
    generalize hW : World.setCell (World.drewN w _) ⟨g, 1, none⟩ (.int .i64 (i + 1)) = W1
    have hgr : w.grownBy W1 (some g) := by rw [← hW]; exact grownBy_trans (grownBy_drewN (World.grownBy.mk rfl rfl rfl (Nat.le_refl _) fun _ _ _ => rfl) _) (grownBy_store _ g 1 _)
    have e0 : W1.cell? ⟨g, 0, none⟩ = some (.slice (some ⟨b, off, none⟩) zs.length cap) := by rw [← hW]; exact (World.cell?_setCell_other _ _ _ _ (by simp)).trans hc0
    have e1 : W1.cell? ⟨g, 1, none⟩ = some (.int .i64 (i + 1)) := by rw [← hW]; exact World.cell?_setCell_same _ _ _ hc1
    have ef : W1.frozen? ⟨g, 1, none⟩ = false := by rw [← hW]; exact (World.frozen?_setCell _ _ _ _).trans hf
    have ek : W1.cell? ⟨b, off + i, none⟩ = some (.int .i64 x) := hgr.cell hck (by have := HB.out; simp; omega)
    have hx1 : IntKind.i64.wrap ((i : Int) + 1 - 1) = i := by rw [IntWalk.i64_in _ (by omega)]; omega
    have hI1 := HI.out.grown hgr (fun b off e => Nat.ne_of_lt (HP.out b off e))
    have HG := Lib.hid hgr
    have HI1 := Lib.hid hI1
    have hS1 : Src W1 g (zs.drop (i + 1)) := ⟨zs, i + 1, _, cap, rfl, by omega, hl, e0, e1, ef, hI1, fun _ => HP.out⟩
    have HS1 := Lib.hid hS1
    clear hW hgr hI1 hc0 hc1 hf hck hS1
    go_quiet ((go_at_call 25; exact Calls.quiet_of_same (pick_quiet _ _ _ (by omega) (by omega))))
    go_wp2
    go_ret
    rw [HR.out]
    exact ⟨rfl, HS1.out.below (below_drewN (Below.refl _ _) _), grownBy_drewN HG.out _⟩
  · have hge : decide (zs.length ≤ i) = true := by simp; omega
    have HR : Hid (r = []) := by unfold Hid; rw [← HD.out]; exact List.drop_of_length_le (by omega)
    go_enter Try.func27, Try.ntmps27
    go_wp2
    go_quiet (fail)
    go_wp2
    go_ret
    rw [HR.out]
    refine ⟨rfl, ⟨zs, i, p, cap, ?_, hi, hl, hc0, hc1, hf, HI.out, HQ.out⟩, grownBy_drewN (World.grownBy.mk rfl rfl rfl (Nat.le_refl _) fun _ _ _ => rfl) _⟩
    exact List.drop_of_length_le (by omega)

end Go.Proofs.Ytebhliepncmghaa
