/-
  The walk of RangesKeeps.
-/
import Derived.Test.YtkapjihjbflliaaRanLaw
namespace Go.Proofs.Ytkapjihjbflliaa.rangesKeepsW
open Go.RowKit

/-- A slice of n spans in a block of its own, between lo and hi. -/
def WrIn (w : World) (lo hi : Nat) (v : Value) (n : Nat) : Prop := (∃ xs, w.ownsRow lo 42 3 v n xs) ∧ ∀ k, v.ownBlock = some k → k < hi

theorem WrIn.kept {w w' : World} {lo hi n : Nat} {v : Value} {row : Option Nat} (h : WrIn w lo hi v n) (hg : w.grownBy w' row) (hr : ∀ k, row = some k → k < lo ∨ hi ≤ k) : WrIn w' lo hi v n := by
  obtain ⟨⟨xs, hx⟩, h2⟩ := h
  refine ⟨⟨xs, World.ownsRow.kept hx hg ?_⟩, h2⟩
  cases hv : v.ownBlock with
  | none => exact .inl rfl
  | some b =>
    right
    intro e
    have h3 := h2 b hv
    have h4 := (World.ownsRow.lt hx b hv).1
    rcases hr b e.symm with h5 | h5 <;> omega

theorem WrIn.of {w : World} {lo n c : Nat} {p : Option Addr} {L : List Sp} (h : Spans w lo (.slice p n c) L) (hn : L.length = n) : WrIn w lo w.heap.size (.slice p n c) n := by
  subst hn
  exact ⟨⟨_, h⟩, fun k hk => (World.ownsRow.lt h k hk).2⟩

theorem WrIn.at_ {w : World} {lo hi n c k : Nat} {p : Option Addr} (h : WrIn w lo hi (.slice p n c) n) (hk : k < n) :
    ∃ g u0 u1 u2, p = some ⟨g, 0, none⟩ ∧ lo ≤ g ∧ g < hi ∧ w.cell? ⟨g, k * 3, none⟩ = some u0 ∧ w.cell? ⟨g, k * 3 + 1, none⟩ = some u1 ∧ w.cell? ⟨g, k * 3 + 2, none⟩ = some u2 ∧ ∀ j, w.frozen? ⟨g, j, none⟩ = false := by
  obtain ⟨⟨xs, hx⟩, h2⟩ := h
  obtain ⟨g, cap, e, hb, hlt⟩ := hx.form (by omega)
  injection e with e1 _ e3
  subst e1; subst e3
  have hl := hx.1
  have c0 := hx.cellAt (k * 3) (by omega)
  have c1 := hx.cellAt (k * 3 + 1) (by omega)
  have c2 := hx.cellAt (k * 3 + 2) (by omega)
  rw [List.getElem?_eq_getElem (by omega)] at c0 c1 c2
  exact ⟨g, _, _, _, rfl, hb, h2 g rfl, c0, c1, c2, hx.frozenAt⟩

theorem WrIn.stored {w : World} {lo hi n c g : Nat} (h : WrIn w lo hi (.slice (some ⟨g, 0, none⟩) n c) n) (j : Nat) (u : Value) : WrIn (w.setCell ⟨g, j, none⟩ u) lo hi (.slice (some ⟨g, 0, none⟩) n c) n := by
  obtain ⟨⟨xs, hx⟩, h2⟩ := h
  exact ⟨⟨_, (hx.stored j u).1⟩, h2⟩

theorem grown_trans {w w1 w2 : World} {row : Option Nat} (h : w.grownBy w1 row) (k : w1.grownBy w2 row) : w.grownBy w2 row :=
  ⟨k.os.trans h.os, k.tape.trans h.tape, k.output.trans h.output, Nat.le_trans h.size k.size, fun i hi hne => (k.block i (Nat.lt_of_lt_of_le hi h.size) hne).trans (h.block i hi hne)⟩

/-- What the writing into the results leaves. -/
structure Inv (w0 w3 wr : World) (n4 n5 n6 H : Nat) (pa pb : Option Addr) (A B : List Sp) (vs vt vo vn : Value) (ls lt lo ln : Nat) : Prop where
  s : WrIn wr w3.heap.size n4 vs ls
  t : WrIn wr n4 n5 vt lt
  o : WrIn wr n5 n6 vo lo
  n : WrIn wr n6 H vn ln
  c0 : wr.cell? ⟨H, 0, none⟩ = some vs
  c1 : wr.cell? ⟨H, 1, none⟩ = some vt
  c2 : wr.cell? ⟨H, 2, none⟩ = some vo
  c3 : wr.cell? ⟨H, 3, none⟩ = some vn
  a : SpIn wr pa A
  b : SpIn wr pb B
  below : Below w0.heap.size w0 wr

/-- A row between the first result and the table of results has been written; the result that lies there is kept. -/
theorem Inv.step {w0 w3 wr w' : World} {n4 n5 n6 H : Nat} {pa pb : Option Addr} {A B : List Sp} {vs vt vo vn : Value} {ls lt lo ln : Nat} {row : Option Nat}
    (h : Inv w0 w3 wr n4 n5 n6 H pa pb A B vs vt vo vn ls lt lo ln) (hg : wr.grownBy w' row) (ha : SpIn w3 pa A) (hb : SpIn w3 pb B) (h03 : w0.heap.size ≤ w3.heap.size) (hH : w3.heap.size ≤ H)
    (hr : ∀ k, row = some k → w3.heap.size ≤ k ∧ k < H)
    (hs : (∀ k, row = some k → k < w3.heap.size ∨ n4 ≤ k) ∨ WrIn w' w3.heap.size n4 vs ls) (ht : (∀ k, row = some k → k < n4 ∨ n5 ≤ k) ∨ WrIn w' n4 n5 vt lt)
    (ho : (∀ k, row = some k → k < n5 ∨ n6 ≤ k) ∨ WrIn w' n5 n6 vo lo) (hn : (∀ k, row = some k → k < n6 ∨ H ≤ k) ∨ WrIn w' n6 H vn ln) : Inv w0 w3 w' n4 n5 n6 H pa pb A B vs vt vo vn ls lt lo ln := by
  have hne : some H ≠ row := fun e => by have := hr H e.symm; omega
  refine ⟨?_, ?_, ?_, ?_, hg.cell (a := ⟨H, 0, none⟩) h.c0 hne, hg.cell (a := ⟨H, 1, none⟩) h.c1 hne, hg.cell (a := ⟨H, 2, none⟩) h.c2 hne, hg.cell (a := ⟨H, 3, none⟩) h.c3 hne,
    SpIn.older ha h.a hg (fun k hk => (hr k hk).1), SpIn.older hb h.b hg (fun k hk => (hr k hk).1), h.below.grown hg h.below.size (fun k hk => Nat.le_trans h03 (hr k hk).1)⟩
  · rcases hs with hs | hs
    · exact h.s.kept hg hs
    · exact hs
  · rcases ht with ht | ht
    · exact h.t.kept hg ht
    · exact ht
  · rcases ho with ho | ho
    · exact h.o.kept hg ho
    · exact ho
  · rcases hn with hn | hn
    · exact h.n.kept hg hn
    · exact hn

theorem WrIn.row {w : World} {lo hi n : Nat} {v : Value} (h : WrIn w lo hi v n) : ∀ k, v.ownBlock = some k → lo ≤ k ∧ k < hi := fun k hk => ⟨by obtain ⟨⟨xs, hx⟩, _⟩ := h; exact (World.ownsRow.lt hx k hk).1, h.2 k hk⟩

/-- One of the four results, and the way back when it has been written. -/
theorem Inv.pick {w0 w3 wr : World} {n4 n5 n6 H : Nat} {pa pb ps pt po pn : Option Addr} {A B : List Sp} {ls lt lo ln cs ct co cn : Nat}
    (h : Inv w0 w3 wr n4 n5 n6 H pa pb A B (.slice ps ls cs) (.slice pt lt ct) (.slice po lo co) (.slice pn ln cn) ls lt lo ln) (ha : SpIn w3 pa A) (hb : SpIn w3 pb B) (h03 : w0.heap.size ≤ w3.heap.size)
    (h34 : w3.heap.size ≤ n4) (h45 : n4 ≤ n5) (h56 : n5 ≤ n6) (h6H : n6 ≤ H) (j : Nat) (hj : j < 4) :
    ∃ p n c lo' hi', wr.cell? ⟨H, j, none⟩ = some (.slice p n c) ∧ WrIn wr lo' hi' (.slice p n c) n ∧
      ∀ wq, WrIn wq lo' hi' (.slice p n c) n → wr.grownBy wq (Value.slice p n c).ownBlock → Inv w0 w3 wq n4 n5 n6 H pa pb A B (.slice ps ls cs) (.slice pt lt ct) (.slice po lo co) (.slice pn ln cn) ls lt lo ln := by
  have hj' : j = 0 ∨ j = 1 ∨ j = 2 ∨ j = 3 := by omega
  rcases hj' with rfl | rfl | rfl | rfl
  · exact ⟨_, _, _, _, _, h.c0, h.s, fun wq hw hg => h.step hg ha hb h03 (by omega) (fun k hk => by have := h.s.row k hk; omega) (.inr hw) (.inl fun k hk => by have := h.s.row k hk; omega) (.inl fun k hk => by have := h.s.row k hk; omega) (.inl fun k hk => by have := h.s.row k hk; omega)⟩
  · exact ⟨_, _, _, _, _, h.c1, h.t, fun wq hw hg => h.step hg ha hb h03 (by omega) (fun k hk => by have := h.t.row k hk; omega) (.inl fun k hk => by have := h.t.row k hk; omega) (.inr hw) (.inl fun k hk => by have := h.t.row k hk; omega) (.inl fun k hk => by have := h.t.row k hk; omega)⟩
  · exact ⟨_, _, _, _, _, h.c2, h.o, fun wq hw hg => h.step hg ha hb h03 (by omega) (fun k hk => by have := h.o.row k hk; omega) (.inl fun k hk => by have := h.o.row k hk; omega) (.inl fun k hk => by have := h.o.row k hk; omega) (.inr hw) (.inl fun k hk => by have := h.o.row k hk; omega)⟩
  · exact ⟨_, _, _, _, _, h.c3, h.n, fun wq hw hg => h.step hg ha hb h03 (by omega) (fun k hk => by have := h.n.row k hk; omega) (.inl fun k hk => by have := h.n.row k hk; omega) (.inl fun k hk => by have := h.n.row k hk; omega) (.inl fun k hk => by have := h.n.row k hk; omega) (.inr hw)⟩

theorem named3 (x : List Sp × Int) : ∃ L e, Hid (x = (L, e)) := ⟨_, _, rfl⟩

/-- RetAt, the slice's length named. -/
theorem retLen {L : List Sp} {er : Int} {w : World} {e : Ending} {w' : World} (h : RetAt L er w e w') : ∃ p n c, e = .returned (.tuple #[.slice p n c, .int .i64 er]) ∧ Hid (WrIn w' w.heap.size w'.heap.size (.slice p n c) n) ∧ Hid (n ≤ 256 ∨ 256 < n) ∧ Below w.heap.size w w' := by
  obtain ⟨p, c, h1, h2, _, h4⟩ := h
  exact ⟨p, _, c, h1, WrIn.of h2.out rfl, by unfold Hid; omega, h4⟩
theorem ownLen {L : List Sp} {w : World} {e : Ending} {w' : World} (h : OwnAt L w e w') : ∃ p n c, e = .returned (.slice p n c) ∧ Hid (WrIn w' w.heap.size w'.heap.size (.slice p n c) n) ∧ Below w.heap.size w w' := by
  obtain ⟨p, c, h1, h2, _, h4⟩ := h
  exact ⟨p, _, c, h1, WrIn.of h2.out rfl, h4⟩

theorem WrIn.le {w : World} {lo hi n c : Nat} {p : Option Addr} (h : WrIn w lo hi (.slice p n c) n) : n ≤ maxLen := by
  obtain ⟨⟨xs, hx⟩, _⟩ := h
  rcases hx.2 with ⟨h1, h2⟩ | ⟨g, cap, cur, h1, _, _, h4, h5, _⟩
  · unfold maxLen; omega
  · omega

theorem WrIn.below {w w' : World} {lo hi n : Nat} {v : Value} (h : WrIn w lo hi v n) (hb : Below w.heap.size w w') : WrIn w' lo hi v n :=
  h.kept (row := none) (below_grownBy hb none) (by simp)

set_option maxRecDepth 100000 in
set_option maxHeartbeats 8000000 in
theorem walk (a0 : Option Addr) (len0 cap0 : Nat) (z0 : List Int) (a1 : Option Addr) (len1 cap1 : Nat) (z1 : List Int) (from_ to_ : Int) (w : World) (w0 : IsRow .i64 w a0 len0 cap0 z0) (w1 : IsRow .i64 w a1 len1 cap1 z1)
    (_ : (Lit.int .i64 from_).wf = true) (_ : (Lit.int .i64 to_).wf = true) :
    Calls Try.prog 8 #[.slice a0 len0 cap0, .slice a1 len1 cap1, .int .i64 from_, .int .i64 to_] w fun e w' => e = .returned (.bool true) ∧ Below w.heap.size w w' := by
  obtain ⟨zs, hz, hzl, hzs, _⟩ := w0.inn
  obtain ⟨us, hu, hul, hus, _⟩ := w1.inn
  simp only [IntKind.bits] at hzl hul
  have hz1 : len0 ≤ 17592186043904 := by omega
  have hu1 : len1 ≤ 17592186043904 := by omega
  have HZ := Lib.hid hz.symm
  have HU := Lib.hid hu.symm
  have HZI := Lib.hid hzs
  have HUI := Lib.hid hus
  clear hz hu hzs hus w0 w1 hzl hul
  obtain ⟨A, hA⟩ : ∃ A, Hid (spansS zs = A) := ⟨_, rfl⟩
  obtain ⟨B, hB⟩ : ∃ B, Hid (spansS us = B) := ⟨_, rfl⟩
  have hvA := spansS_valid zs
  have hvB := spansS_valid us
  rw [hA.out] at hvA
  rw [hB.out] at hvB
  have hlA : Hid (A.length ≤ maxLen) := by have := valid_len hvA; unfold Hid maxLen; omega
  have hlB : Hid (B.length ≤ maxLen) := by have := valid_len hvB; unfold Hid maxLen; omega
  obtain ⟨x, hx, x1, x2⟩ := pick_named from_ 50 (by omega)
  obtain ⟨y, hy, y1, y2⟩ := pick_named to_ 9 (by omega)
  obtain ⟨S, eS, hS⟩ := named3 (setS A x (x + y) 1)
  obtain ⟨T, eT, hT⟩ := named3 (clearS A x (x + y))
  obtain ⟨O, eO, hO⟩ := named3 (overS A B)
  obtain ⟨N, hN⟩ : ∃ N, Hid (normS A = N) := ⟨_, rfl⟩
  clear hvA hvB
  go_enter Try.func8, Try.ntmps8
  go_wp2_with fail
  refine (kspans_at a0 cap0 len0 zs A _ HZI.out HZ hz1 hA).mono ?_
  rintro e w2 ⟨pa, ca, rfl, _, ia, hb⟩
  have HUI2 := Lib.hid (HUI.out.below hb)
  have HBl := Lib.hid hb
  clear hb
  go_wp2_with fail
  refine (kspans_at a1 cap1 len1 us B _ HUI2.out HU hu1 hB).mono ?_
  rintro e w3 ⟨pb, cb, rfl, sb, ib, hb⟩
  obtain ⟨hcb, hcb0⟩ := sb.out.caps
  have HCB0 := Lib.hid hcb0
  replace ia := Lib.hid (ia.out.below hb)
  replace HBl := Lib.hid (HBl.out.trans (hb.mono HBl.out.size))
  clear hb hcb0
  have HA3 := ia
  have HB3 := ib
  have HBl3 := Lib.hid HBl.out.size
  go_wp2_with fail
  refine (pick_at from_ 50 x _ (by omega) (by omega) hx).mono ?_
  rintro e w4 ⟨rfl, rfl⟩
  go_wp2_with fail
  refine (pick_at to_ 9 y _ (by omega) (by omega) hy).mono ?_
  rintro e w4 ⟨rfl, rfl⟩
  go_wp2_with fail
  refine ((set_at pa _ ca A S x (x + y) 1 eS _ rfl hlA.out ia.out hS).mono fun _ _ h => retLen h).mono ?_
  rintro e w4 ⟨ps, ls, cs, rfl, hs, _, hb⟩
  replace ia := Lib.hid (ia.out.below hb)
  replace ib := Lib.hid (ib.out.below hb)
  replace HBl := Lib.hid (HBl.out.trans (hb.mono HBl.out.size))
  have hz34 := hb.size
  clear hb
  go_wp2_with fail
  refine (pick_at to_ 9 y _ (by omega) (by omega) hy).mono ?_
  rintro e w5 ⟨rfl, rfl⟩
  go_wp2_with fail
  refine ((clear_at pa _ ca A T x (x + y) eT _ rfl hlA.out ia.out hT).mono fun _ _ h => retLen h).mono ?_
  rintro e w5 ⟨pt, lt, ct, rfl, ht, _, hb⟩
  replace ia := Lib.hid (ia.out.below hb)
  replace ib := Lib.hid (ib.out.below hb)
  replace hs := Lib.hid (hs.out.below hb)
  replace HBl := Lib.hid (HBl.out.trans (hb.mono HBl.out.size))
  have hz45 := hb.size
  clear hb
  go_wp2_with fail
  refine ((overlay_at pa pb _ _ ca cb A B O eO _ rfl rfl hlA.out hlB.out hcb HCB0 ia.out ib.out hO).mono fun _ _ h => retLen h).mono ?_
  rintro e w6 ⟨po, lo, co, rfl, ho, _, hb⟩
  replace ia := Lib.hid (ia.out.below hb)
  replace ib := Lib.hid (ib.out.below hb)
  replace hs := Lib.hid (hs.out.below hb)
  replace ht := Lib.hid (ht.out.below hb)
  replace HBl := Lib.hid (HBl.out.trans (hb.mono HBl.out.size))
  have hz56 := hb.size
  clear hb
  go_wp2_with fail
  refine ((normal_at pa _ ca A N _ rfl hlA.out ia.out hN).mono fun _ _ h => ownLen h).mono ?_
  rintro e w7 ⟨pn, ln, cn, rfl, hn, hb⟩
  replace ia := Lib.hid (ia.out.below hb)
  replace ib := Lib.hid (ib.out.below hb)
  replace hs := Lib.hid (hs.out.below hb)
  replace ht := Lib.hid (ht.out.below hb)
  replace ho := Lib.hid (ho.out.below hb)
  replace HBl := Lib.hid (HBl.out.trans (hb.mono HBl.out.size))
  have hz67 := hb.size
  clear hb
  go_wp2
  have hInv : Inv w w3 (w7.alloc (.cells #[.slice ps ls cs, .slice pt lt ct, .slice po lo co, .slice pn ln cn] 22)) w4.heap.size w5.heap.size w6.heap.size w7.heap.size pa pb A B (.slice ps ls cs) (.slice pt lt ct) (.slice po lo co) (.slice pn ln cn) ls lt lo ln := by
    have hg := World.grownBy_alloc w7 (.cells #[.slice ps ls cs, .slice pt lt ct, .slice po lo co, .slice pn ln cn] 22) none
    refine ⟨hs.out.kept hg (by simp), ht.out.kept hg (by simp), ho.out.kept hg (by simp), hn.out.kept hg (by simp), ?_, ?_, ?_, ?_, ia.out.alloc _, ib.out.alloc _, HBl.out.alloc HBl.out.size _⟩ <;> simp [World.cell?_alloc_new]
  have h03 : Hid (w.heap.size ≤ w3.heap.size) := HBl3
  generalize w7.alloc (.cells #[.slice ps ls cs, .slice pt lt ct, .slice po lo co, .slice pn ln cn] 22) = w8 at hInv ⊢
  generalize hH : w7.heap.size = H at hInv hz67 ⊢
  have HInv := Lib.hid hInv
  clear hInv hs ht ho hn HBl ia ib hH
  go_loopw [62] (fun jv wr => ∃ j : Nat, j ≤ 4 ∧ jv = .int .i64 j ∧ Hid (Inv w w3 wr w4.heap.size w5.heap.size w6.heap.size H pa pb A B (.slice ps ls cs) (.slice pt lt ct) (.slice po lo co) (.slice pn ln cn) ls lt lo ln)) (fun jv _ => 4 - (intOf jv).toNat)
  case atStart => exact ⟨0, Nat.zero_le _, rfl, HInv⟩
  case round =>
    clear HInv
    obtain ⟨j, hj, rfl, hI⟩ := hrel
    obtain ⟨wo, rfl⟩ : ∃ wo : World, wo = wr := ⟨_, rfl⟩
    by_cases hlt : j < 4
    · obtain ⟨p, n, c, l', h', hcell, hW, hback⟩ := hI.out.pick HA3.out HB3.out h03.out hz34 hz45 hz56 hz67 j hlt
      have HW := Lib.hid hW
      have HBk := Lib.hid hback
      have hnm := hW.le
      unfold maxLen at hnm
      clear hW hback hI
      go_wp2
      clear hcell
      go_loopw [68] (fun iv wq => ∃ k : Nat, k ≤ n ∧ iv = .int .i64 k ∧ Hid (WrIn wq l' h' (.slice p n c) n) ∧ Hid (wo.grownBy wq (Value.slice p n c).ownBlock)) (fun iv _ => n - (intOf iv).toNat)
      case atStart => exact ⟨0, Nat.zero_le _, rfl, HW, sp_grownBy_refl _ _⟩
      case round =>
        clear HW
        obtain ⟨k, hk, rfl, hw, hg⟩ := hrel
        by_cases hkn : k < n
        · obtain ⟨g, u0, u1, u2, rfl, hg1, hg2, c0, c1, c2, hf⟩ := hw.out.at_ hkn
          have f0 := hf (k * 3)
          have f1 := hf (k * 3 + 1)
          have f2 := hf (k * 3 + 2)
          clear hf
          go_wp2
          go_roundw
          case rel => exact ⟨k + 1, by omega, by go_num, ((hw.out.stored _ _).stored _ _).stored _ _, grown_trans (grown_trans (grown_trans hg.out (sp_grownBy_store _ g _ _)) (sp_grownBy_store _ g _ _)) (sp_grownBy_store _ g _ _)⟩
          case measure => simp [intOf]; omega
        · obtain rfl : k = n := by omega
          have HI2 := Lib.hid (HBk.out _ hw.out hg.out)
          clear hw hg HBk
          go_wp2
          go_roundw
          case rel => exact ⟨j + 1, by omega, by go_num, HI2⟩
          case measure => simp [intOf]; omega
    · obtain rfl : j = 4 := by omega
      have ia := Lib.hid hI.out.a
      have ib := Lib.hid hI.out.b
      have HBl := Lib.hid hI.out.below
      clear hI
      go_wp2_with fail
      refine (awake_any _).mono ?_
      rintro e w9 ⟨rfl, hb⟩
      replace ia := Lib.hid (ia.out.below hb)
      replace ib := Lib.hid (ib.out.below hb)
      replace HBl := Lib.hid (HBl.out.trans (hb.mono HBl.out.size))
      clear hb
      go_wp2_with fail
      refine (kspans_at a0 cap0 len0 zs A _ (HZI.out.below HBl.out) HZ hz1 hA).mono ?_
      rintro e w10 ⟨pc, cc, rfl, _, ic, hb⟩
      replace ia := Lib.hid (ia.out.below hb)
      replace ib := Lib.hid (ib.out.below hb)
      replace HBl := Lib.hid (HBl.out.trans (hb.mono HBl.out.size))
      clear hb
      go_wp2_with fail
      refine (sameS_at _ _ _ _ _ _ A _ ia.out ic.out rfl rfl hlA.out).mono ?_
      rintro e w11 ⟨rfl, hb⟩
      replace ib := Lib.hid (ib.out.below hb)
      replace HBl := Lib.hid (HBl.out.trans (hb.mono HBl.out.size))
      clear hb
      go_wp2_with fail
      refine (kspans_at a1 cap1 len1 us B _ (HUI.out.below HBl.out) HU hu1 hB).mono ?_
      rintro e w12 ⟨pd, cd, rfl, _, id', hb⟩
      replace ib := Lib.hid (ib.out.below hb)
      replace HBl := Lib.hid (HBl.out.trans (hb.mono HBl.out.size))
      clear hb
      go_wp2_with fail
      refine (sameS_at _ _ _ _ _ _ B _ ib.out id'.out rfl rfl hlB.out).mono ?_
      rintro e w13 ⟨rfl, hb⟩
      replace HBl := Lib.hid (HBl.out.trans (hb.mono HBl.out.size))
      clear hb
      go_wp2
      go_ret
      exact ⟨rfl, HBl.out⟩

end Go.Proofs.Ytkapjihjbflliaa.rangesKeepsW
