/-
  The contract of keep.Spans.
-/
import Derived.Test.YtimabgaobhfiaaaSource
import Derived.Test.YtimabgaobhfiaaaRanAppAt
import Derived.Deep.RegionHeld3
namespace Go.Proofs.Ytimabgaobhfiaaa
open Go.RowKit

/-- A new source. -/
def NewSrc (zs : List Int) (w : World) (e : Ending) (w' : World) : Prop :=
  ∃ g, e = .returned (.pointer (some ⟨g, 0, none⟩)) ∧ w.heap.size ≤ g ∧ Src w' g zs ∧ Below w.heap.size w w'

set_option maxHeartbeats 400000 in
theorem from_any (p : Option Addr) (cap : Nat) (zs : List Int) (w : World) (hin : IntsIn w p zs) (hl : zs.length ≤ 17592186043904) :
    Calls Try.prog 38 #[.slice p zs.length cap] w (NewSrc zs w) := by
  have HI := Lib.hid hin
  by_cases h0 : zs = []
  · subst h0
    clear hin
    go_enter Try.func38, Try.ntmps38
    go_wp2
    go_ret
    refine ⟨w.heap.size, rfl, Nat.le_refl _, ⟨[], 0, p, cap, rfl, Nat.le_refl _, by simp, ?_, ?_, ?_, HI.out.alloc _, fun h => absurd rfl h⟩, (Below.refl _ _).alloc (Nat.le_refl _) _⟩
    · simp
    · simp
    · simp
  · have hp : ∀ b off, p = some ⟨b, off, none⟩ → b < w.heap.size := by
      intro b off e
      obtain ⟨b', off', e', hc⟩ := hin 0 (List.length_pos_iff.2 h0)
      rw [e] at e'
      cases e'
      have := World.block_lt_of_cell? w _ hc
      simp only at this
      omega
    have HP := Lib.hid hp
    clear hin hp
    go_enter Try.func38, Try.ntmps38
    go_wp2
    go_ret
    refine ⟨w.heap.size, rfl, Nat.le_refl _, ⟨zs, 0, p, cap, rfl, Nat.zero_le _, hl, ?_, ?_, ?_, HI.out.alloc _, fun _ => HP.out⟩, (Below.refl _ _).alloc (Nat.le_refl _) _⟩
    · simp
    · simp
    · simp

theorem next_at (g : Nat) (r : List Int) (n v : Int) (w : World) (hs : Src w g r) (h0 : 1 ≤ n) (h1 : n ≤ 1073741824) (hv : Hid (nextV r n = v)) :
    Calls Try.prog 39 #[.pointer (some ⟨g, 0, none⟩), .int .i64 n] w (NextPost g v r.tail w) := hv.out ▸ next_any g r n w hs h0 h1

/-- The spans that a source gives. -/
def spanLoop : Nat → List Int → Int → List Sp
  | 0, _, _ => []
  | n + 1, r, at' => (at' + nextV r 4, at' + nextV r 4 + nextV r.tail.tail 5, nextV r.tail 3) :: spanLoop n r.tail.tail.tail (at' + nextV r 4 + nextV r.tail.tail 5 + 1)

def spansS (l : List Int) : List Sp := spanLoop (nextV l.tail 7).toNat l.tail.tail (nextV l 5)

theorem spanLoop_length (n : Nat) (r : List Int) (a : Int) : (spanLoop n r a).length = n := by
  induction n generalizing r a with
  | zero => rfl
  | succ n ih => simp [spanLoop, ih]

theorem spanLoop_asc (n : Nat) (r : List Int) (a : Int) (h0 : a + 8 * n ≤ 1000) : ascB a (spanLoop n r a) = true := by
  induction n generalizing r a with
  | zero => rfl
  | succ n ih =>
    obtain ⟨x0, x1⟩ := nextV_bd r 4 (by omega)
    obtain ⟨y0, y1⟩ := nextV_bd r.tail.tail 5 (by omega)
    rw [spanLoop, asc_cons]
    refine ⟨by simp only; omega, by simp only; omega, by simp only; omega, ih _ _ (by simp only; omega)⟩

theorem spansS_facts (l : List Int) : (spansS l).length ≤ 6 ∧ ascB 0 (spansS l) = true := by
  obtain ⟨x0, x1⟩ := nextV_bd l 5 (by omega)
  obtain ⟨y0, y1⟩ := nextV_bd l.tail 7 (by omega)
  refine ⟨by rw [spansS, spanLoop_length]; omega, asc_weak (spanLoop_asc _ _ _ (by omega)) (by omega)⟩

theorem spansS_valid (l : List Int) : validS (spansS l) = true := by
  obtain ⟨h1, h2⟩ := spansS_facts l
  rw [validS, h2, decide_eq_true (by omega)]; rfl

set_option maxRecDepth 100000 in
set_option maxHeartbeats 4000000 in
theorem kspans_any (p : Option Addr) (cap n : Nat) (zs : List Int) (w : World) (hin : IntsIn w p zs) (hz : zs.length = n) (hl : n ≤ 17592186043904) :
    Calls Try.prog 25 #[.slice p n cap] w (OwnPost (spansS zs) w) := by
  subst hz
  have HI := Lib.hid hin
  clear hin
  obtain ⟨a0, a1⟩ := nextV_bd zs 5 (by omega)
  obtain ⟨v0, v1⟩ := nextV_bd zs.tail 7 (by omega)
  obtain ⟨A, hA⟩ : ∃ A, nextV zs 5 = A := ⟨_, rfl⟩
  obtain ⟨n, hn⟩ : ∃ n : Nat, nextV zs.tail 7 = n := ⟨(nextV zs.tail 7).toNat, by omega⟩
  have HU : Hid ([] ++ spanLoop n zs.tail.tail A = spansS zs) := by unfold Hid spansS; rw [hn, hA]; simp
  rw [hA] at a0 a1
  have hn6 : n ≤ 6 := by omega
  obtain ⟨U, hU⟩ : ∃ U, spansS zs = U := ⟨_, rfl⟩
  have hUl : U.length ≤ 6 := by rw [← hU]; exact (spansS_facts zs).1
  rw [hU] at HU ⊢
  have HUL := Lib.hid hUl
  have HA := Lib.hid hA
  have HN := Lib.hid hn
  clear v0 v1 hn hA hU hUl
  go_enter Try.func25, Try.ntmps25
  go_wp2_with fail
  refine (from_any p cap zs _ HI.out hl).mono ?_
  rintro e w1 ⟨g, rfl, hg, hs1, hb1⟩
  have HS1 := Lib.hid hs1
  have HB1 := Lib.hid hb1
  clear hs1 hb1
  go_wp2_with fail
  refine (next_at g zs 5 A _ HS1.out (by omega) (by omega) HA).mono ?_
  rintro e w2 ⟨rfl, hs2, hg2⟩
  have HS2 := Lib.hid hs2
  have HB2 := Lib.hid (HB1.out.grown hg2 HB1.out.size (by intro k e; cases e; exact hg))
  clear hs2 hg2 HS1 HB1
  go_wp2_with fail
  refine (next_at g zs.tail 7 n _ HS2.out (by omega) (by omega) HN).mono ?_
  rintro e w3 ⟨rfl, hs3, hg3⟩
  have hgz : g < w3.heap.size := by obtain ⟨_, _, _, _, _, _, _, h4, _⟩ := hs3; exact World.block_lt_of_cell? w3 _ h4
  have HS3 := Lib.hid hs3
  have HB3 := Lib.hid (HB2.out.grown hg3 HB2.out.size (by intro k e; cases e; exact hg))
  clear hs3 hg3 HS2 HB2
  go_wp2
  go_loopw [4, 5, 6] (fun v av m wr => ∃ (k : Nat) (a : Int) (P : List Sp) (r : List Int), k ≤ 6 ∧ 0 ≤ a ∧ a + 8 * k ≤ 60 ∧ m = .int .i64 k ∧ av = .int .i64 a ∧ Hid (P ++ spanLoop k r a = U) ∧ Hid (Src wr g r) ∧ Hid (Spans wr (g + 1) v P) ∧ Hid (g < wr.heap.size) ∧ Hid (Below w.heap.size w wr)) (fun _ _ m _ => (intOf m).toNat)
  case atStart => exact ⟨n, A, [], zs.tail.tail, hn6, a0, by omega, rfl, rfl, HU, HS3, Spans.nil _ _, hgz, HB3⟩
  case round =>
    obtain ⟨k, a, P, r, hk, ha0, ha1, rfl, rfl, hEq, hs, hown, hgl, hbel⟩ := hrel
    by_cases h0 : 0 < k
    · obtain ⟨j, rfl⟩ : ∃ j, k = j + 1 := ⟨k - 1, by omega⟩
      obtain ⟨x0, x1⟩ := nextV_bd r 4 (by omega)
      obtain ⟨y0, y1⟩ := nextV_bd r.tail.tail 5 (by omega)
      obtain ⟨x, hx⟩ : ∃ x, nextV r 4 = x := ⟨_, rfl⟩
      obtain ⟨y, hy⟩ : ∃ y, nextV r.tail.tail 5 = y := ⟨_, rfl⟩
      obtain ⟨z, hz⟩ : ∃ z, nextV r.tail 3 = z := ⟨_, rfl⟩
      rw [hx] at x0 x1
      rw [hy] at y0 y1
      have HE2 : Hid ((P ++ [(a + x, a + x + y, z)]) ++ spanLoop j r.tail.tail.tail (a + x + y + 1) = U) := by
        unfold Hid; rw [← hEq.out, spanLoop, hx, hy, hz]; simp
      have HPL : Hid (P.length ≤ 6) := by
        have h1 := congrArg List.length hEq.out
        have h2 := HUL.out
        unfold Hid
        rw [List.length_append] at h1
        omega
      have HX := Lib.hid hx
      have HY := Lib.hid hy
      have HZ := Lib.hid hz
      have hgl' := hgl.out
      clear hx hy hz hEq
      go_wp2_with fail
      refine (next_at g r 4 x _ hs.out (by omega) (by omega) HX).mono ?_
      rintro e w4 ⟨rfl, hs4, hg4⟩
      have hne4 : Value.ownBlock u4 = none ∨ Value.ownBlock u4 ≠ some g := by
        cases hv : Value.ownBlock u4 with
        | none => simp
        | some b => have := (World.ownsRow.lt hown.out b hv).1; simp; omega
      have hown4 : Spans w4 (g + 1) u4 P := World.ownsRow.kept hown.out hg4 hne4
      have HS4 := Lib.hid hs4
      have HO4 := Lib.hid hown4
      have HB4 := Lib.hid (hbel.out.grown hg4 hbel.out.size (by intro j e; cases e; exact hg))
      have hz4 := hg4.size
      clear hs4 hg4 hown4 hs hown hbel
      go_wp2_with fail
      refine (next_at g r.tail 3 z _ HS4.out (by omega) (by omega) HZ).mono ?_
      rintro e w5 ⟨rfl, hs5, hg5⟩
      have hown5 : Spans w5 (g + 1) u4 P := World.ownsRow.kept HO4.out hg5 hne4
      have HS5 := Lib.hid hs5
      have HO5 := Lib.hid hown5
      have HB5 := Lib.hid (HB4.out.grown hg5 HB4.out.size (by intro j e; cases e; exact hg))
      have hz5 := hg5.size
      clear hs5 hg5 hown5 HS4 HO4 HB4
      go_wp2_with fail
      have hh : Value.ownBlock u4 ≠ some w5.heap.size := fun e => Nat.lt_irrefl _ (World.ownsRow.lt HO5.out _ e).2
      have hC := Cur.new w5 (a + x) 0 z 49
      have hf1 : (w5.alloc (.cells #[.int .i64 (a + x), .int .i64 0, .int .i64 z] 49)).frozen? ⟨w5.heap.size, 1, none⟩ = false := by simp
      have hS := HS5.out.alloc (.cells #[.int .i64 (a + x), .int .i64 0, .int .i64 z] 49)
      have hO := Spans.alloc HO5.out (.cells #[.int .i64 (a + x), .int .i64 0, .int .i64 z] 49)
      have hB := HB5.out.alloc HB5.out.size (.cells #[.int .i64 (a + x), .int .i64 0, .int .i64 z] 49)
      have hgh : g < w5.heap.size := by omega
      have hbh : w.heap.size ≤ w5.heap.size := HB5.out.size
      generalize w5.alloc (.cells #[.int .i64 (a + x), .int .i64 0, .int .i64 z] 49) = W5 at hC hf1 hS hO hB ⊢
      generalize w5.heap.size = h at hh hC hf1 hgh hbh ⊢
      have HS := Lib.hid hS
      have HO := Lib.hid hO
      have HB := Lib.hid hB
      have HH := Lib.hid hh
      have hne : h ≠ g := by omega
      have hzh := hC.2.2.2.2
      obtain ⟨k0, k1, k2, _, _⟩ := hC
      have hwr : IntKind.i64.wrap (a + x + y) = a + x + y := IntWalk.i64_in _ (by omega)
      clear hS hO hB hh HS5 HO5 HB5 hz4 hz5
      go_upto_region 8 with (fail)
      go_cut [28] (fun _ wx => Hid (wx.cell? ⟨h, 0, none⟩ = some (.int .i64 (a + x))) ∧ Hid (wx.cell? ⟨h, 1, none⟩ = some (.int .i64 (a + x + y))) ∧ Hid (wx.cell? ⟨h, 2, none⟩ = some (.int .i64 z)) ∧ Hid (Src wx g r.tail.tail.tail) ∧ Hid (Spans wx (g + 1) u4 P) ∧ Hid (Below w.heap.size w wx) ∧ Hid (g < wx.heap.size))
      case first =>
        go_region_held3 (fun w' => w'.cell? ⟨h, 0, none⟩ = some (.int .i64 (a + x)))
          (first
            | go_keep
            | (go_split_ands; exact hg6.cell (a := ⟨h, 0, none⟩) (by assumption) (by simp; omega))
            | (go_split_ands; exact (World.cell?_setCell_other _ ⟨h, 1, none⟩ ⟨h, 0, none⟩ _ (by simp)).trans (by assumption)))
          (first
            | (go_at_call 39; refine (next_at g r.tail.tail 5 y _ (HS.out.below (below_drewN (Below.refl _ _) 1)) (by omega) (by omega) HY).mono ?_; rintro e w6 ⟨rfl, hs6, hg6⟩; have c1 : w6.cell? ⟨h, 1, none⟩ = some (.int .i64 0) := hg6.cell (a := ⟨h, 1, none⟩) k1 (by simp; omega); have f1 : w6.frozen? ⟨h, 1, none⟩ = false := (World.frozen?_of_block (a := ⟨h, 1, none⟩) (hg6.block h hzh (by simp; omega))).trans hf1))
        all_goals
          go_wp2_with fail
          go_meet
          have hg7 : W5.grownBy w6 (some g) := ⟨hg6.os, hg6.tape, hg6.output, hg6.size, hg6.block⟩
          have e0 : w6.cell? ⟨h, 0, none⟩ = some (.int .i64 (a + x)) := hg7.cell (a := ⟨h, 0, none⟩) k0 (by simp; omega)
          have e2 : w6.cell? ⟨h, 2, none⟩ = some (.int .i64 z) := hg7.cell (a := ⟨h, 2, none⟩) k2 (by simp; omega)
          have ho6 : Spans w6 (g + 1) u4 P := World.ownsRow.kept HO.out hg7 hne4
          have hzz := hg7.size
          refine ⟨(World.cell?_setCell_other _ ⟨h, 1, none⟩ ⟨h, 0, none⟩ _ (by simp)).trans e0, World.cell?_setCell_same _ _ _ c1, (World.cell?_setCell_other _ ⟨h, 1, none⟩ ⟨h, 2, none⟩ _ (by simp)).trans e2,
            Src.grown hs6 (grownBy_store w6 h 1 _) (by intro k e; cases e; exact hgh), ho6.store HH.out 1 _, (HB.out.grown hg7 HB.out.size (by intro k e; cases e; exact hg)).setCell (p := ⟨h, 1, none⟩) hbh _, ?_⟩
          have hgW : h < W5.heap.size := hzh
          unfold Hid
          simp [World.setCell]
          omega
      case rest =>
        obtain ⟨c0, c1, c2, hs9, ho9, hb9, hz9⟩ := hcut
        have d0 := c0.out
        have d1 := c1.out
        have d2 := c2.out
        have hz9' := hz9.out
        have hr9 : ∀ k, Value.ownBlock u4 = some k → g < k := fun k hk => by have := ho9.out.base k hk; omega
        have hh9 : some h ≠ Value.ownBlock u4 := Ne.symm HH.out
        clear k0 k1 k2 hf1 hwr
        go_wp2_with (at_builtin; refine wpList_append_span (.tmp 31) (.tmp 33) rfl rfl (g + 1) u4 P rfl ho9.out (a + x, a + x + y, z) 1 _ rfl (by simp) (by have := HPL.out; omega) hz9' ?_; intro v10 w10 ho10 hg10; have f1 : w10.cell? ⟨h, 1, none⟩ = some (.int .i64 (a + x + y)) := hg10.cell (a := ⟨h, 1, none⟩) c1.out hh9)
        have hzz := hg10.size
        have HO10 := Lib.hid ho10
        have HS10 := Lib.hid (Src.grown hs9.out hg10 hr9)
        have HB10 := Lib.hid (hb9.out.grown hg10 hb9.out.size (fun k hk => by have := hr9 k hk; omega))
        have HZ10 := Lib.hid (Nat.lt_of_lt_of_le hz9' hzz)
        clear d0 d1 d2 c0 c1 c2 ho10 hg10 hr9 hh9 hs9 ho9 hb9 hzz
        go_wp2
        go_roundw
        case rel => exact ⟨j, a + x + y + 1, P ++ [(a + x, a + x + y, z)], r.tail.tail.tail, by omega, by omega, by omega, by go_num, by go_num, HE2, HS10, HO10, HZ10, HB10⟩
        case measure => simp [intOf]
    · obtain rfl : k = 0 := by omega
      have HU2 : Hid (P = U) := by unfold Hid; rw [← hEq.out]; simp [spanLoop]
      go_wp2
      go_ret
      exact ⟨_, rfl, by rw [← HU2.out]; exact hown.out.mono (by omega), hbel.out⟩

end Go.Proofs.Ytimabgaobhfiaaa
