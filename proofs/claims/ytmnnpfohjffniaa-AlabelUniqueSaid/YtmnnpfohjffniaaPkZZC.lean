/-
  puny: the encoder's parts: basicBytes, startState, stepsTo, put, placedBefore, appendNumber.
  puny: indicesOfOthers, Encode.
-/
import Derived.Test.YtmnnpfohjffniaaQPunA
import Derived.Test.YtmnnpfohjffniaaQPunIdx
import Derived.Test.YtmnnpfohjffniaaPkL
import Derived.Test.YtmnnpfohjffniaaQPunRow
import Derived.StillTailTactics
import Derived.Deep.DeepCutAuto
import Derived.Test.YtmnnpfohjffniaaQPunSrtG
import Derived.Test.YtmnnpfohjffniaaQAppend
set_option linter.unusedSimpArgs false
set_option linter.unusedVariables false
namespace Go.Proofs.Ytmnnpfohjffniaa
open Go.RowKit
set_option linter.unusedVariables false

theorem pun_step {w w1 w2 : World} {row row2 : Option Nat} (h : w.grownBy w1 row) (k : w1.grownBy w2 row2) (hr : ∀ b, b < w.heap.size → row ≠ some b → row2 ≠ some b) : w.grownBy w2 row :=
  ⟨k.os.trans h.os, k.tape.trans h.tape, k.output.trans h.output, Nat.le_trans h.size k.size, fun i hi hne =>
    (k.block i (Nat.lt_of_lt_of_le hi h.size) (fun e => hr i hi (fun e2 => hne e2.symm) e.symm)).trans (h.block i hi hne)⟩
theorem pun_off {a b c : Option Nat} {m n : Nat} (h : ∀ i, i < m → a ≠ some i → b ≠ some i) (k : ∀ i, i < n → b ≠ some i → c ≠ some i) (hmn : m ≤ n) : ∀ i, i < m → a ≠ some i → c ≠ some i :=
  fun i hi hne => k i (Nat.lt_of_lt_of_le hi hmn) (h i hi hne)
theorem pun_refl (w : World) (row : Option Nat) : w.grownBy w row := ⟨rfl, rfl, rfl, Nat.le_refl _, fun _ _ _ => rfl⟩

/-! a new row of bytes -/
theorem pun_make_rowN {P : Program} (t e : TypeId) (i : TypeInfo) (z : Value) (ht : P.underlying t = some (.slice e)) (hi : P.info? e = some i) (hz : i.zero = some z)
    (kl kc : IntKind) (n c : Nat) (hnc : n ≤ c) (hbytes : i.bytes * c ≤ 281474976710656) (h63 : c ≤ 9223372036854775807) (w : World) :
    (Instr.makeSlice t (.int kl (n : Int)) (.int kc (c : Int))).run P w = .ok (.slice (some ⟨w.heap.size, 0, none⟩) n c) (w.alloc (.cells (madeCells z.cells (c * i.size)) e)) := by
  have hb : (i.bytes : Int) * (c : Int) ≤ 281474976710656 := by
    have h : ((i.bytes * c : Nat) : Int) ≤ 281474976710656 := by omega
    rwa [Int.natCast_mul] at h
  have hr := run_make (P := P) w t e i z ht hi hz kl kc n c (by omega) (by omega) hb (by omega)
  simp only [Int.toNat_natCast] at hr
  exact hr

def madeBytes (c : Nat) : Obj := .cells (madeCells (Value.cells (.int .u8 0)) (c * 1)) 5
theorem run_make_bytes (c : Nat) (hc : c ≤ 4194304) (w : World) :
    (Instr.makeSlice 34 (.int .i64 0) (.int .i64 (c : Int))).run Try.prog w = .ok (.slice (some ⟨w.heap.size, 0, none⟩) 0 c) (w.alloc (madeBytes c)) := by
  obtain ⟨i0, hi, hz0, hz1, hz2⟩ := info_parts Try.info5
  have h := pun_make_rowN (P := Try.prog) 34 5 i0 _ Try.underlying34 hi hz0 .i64 .i64 0 c (Nat.zero_le _) (by rw [hz2]; omega) (by omega) w
  rw [hz1] at h
  exact h
theorem OwnB.made (w : World) (B c : Nat) (hB : B ≤ w.heap.size) (hc : c ≤ 4194304) : OwnB (w.alloc (madeBytes c)) B (.slice (some ⟨w.heap.size, 0, none⟩) 0 c) [] := by
  have h : (w.alloc (madeBytes c)).ownsRow B 5 1 (.slice (some ⟨w.heap.size, 0, none⟩) 0 c) 0 [] := World.ownsRow_made w _ c hB (by unfold maxLen; omega) (size_madeCells _ _)
  obtain ⟨h1, h2⟩ := h
  rcases h2 with ⟨e, _⟩ | ⟨g, cap, cur, e, hb, hg, hn, hc2, hs, ht⟩
  · cases e
  · cases e
    exact ⟨w.heap.size, c, cur, (0, 0), rfl, hb, hg, .inr rfl, Nat.zero_le _, hc2, by simpa using hs, by simp⟩

theorem basS_snoc (l : List Int) : ∀ (k : Nat), k < l.length → basS (l.take (k + 1)) = basS (l.take k) ++ (if basB (l.getD k 0) = true then [l.getD k 0] else []) := by
  intro k hk
  have e : l.take (k + 1) = l.take k ++ [l.getD k 0] := take_snoc_int l k hk
  have happ : ∀ (a b : List Int), basS (a ++ b) = basS a ++ basS b := by
    intro a b
    unfold basS basF
    induction a with
    | nil => simp [placed]
    | cons c a ih =>
      simp only [List.cons_append, List.map_cons, placed]
      rw [ih]
      split <;> simp
  rw [e, happ]
  congr 1

/-- A new slice of bytes. -/
def BytPost (w : World) (xs : List Int) (e : Ending) (w' : World) : Prop :=
  ∃ v, e = .returned v ∧ OwnB w' w.heap.size v xs ∧ Below w.heap.size w w'

set_option maxHeartbeats 2000000 in
theorem basic_at (p : Option Addr) (n cap : Nat) (l X : List Int) (w : World) (hin : IntsIn w p l) (hn : Hid (l.length = n)) (hn2 : n ≤ 4096) (hs : Hid (∀ c ∈ l, scpB c = true)) (hX : Hid (basS l = X)) :
    Calls Try.prog 31 #[.slice p n cap] w (BytPost w X) := by
  have HI := Lib.hid hin
  have hmk := run_make_bytes (n + 1) (by omega)
  have HO0 := Lib.hid (OwnB.made w w.heap.size (n + 1) (Nat.le_refl _) (by omega))
  have HB0 := Lib.hid ((Below.refl w.heap.size w).alloc (Nat.le_refl _) (madeBytes (n + 1)))
  have hcs : ((n + 1 : Nat) : Int) = (n : Int) + 1 := by omega
  rw [hcs] at hmk
  clear hin hcs
  go_enter Try.func31, Try.ntmps31
  go_wp2
  go_loopw [3, 12] (fun vv u wr => ∃ k : Nat, u = .int .i64 k ∧ k ≤ n ∧ Hid (OwnB wr w.heap.size vv (basS (l.take k))) ∧ Hid (Below w.heap.size w wr)) (fun _ u _ => n - (intOf u).toNat)
  case atStart => exact ⟨0, rfl, Nat.zero_le _, HO0, HB0⟩
  case round =>
    obtain ⟨k, rfl, hk, ho, hb⟩ := hrel
    by_cases hlt : k < n
    · have hkl : k < l.length := by rw [hn.out]; exact hlt
      obtain ⟨b, off, rfl, hck⟩ := (HI.out.below hb.out) k hkl
      obtain ⟨x, hx⟩ : ∃ x, l.getD k 0 = x := ⟨_, rfl⟩
      have hxs : scpB x = true := by rw [← hx]; exact hs.out _ (by simp [hkl])
      have hxb := scp_bd hxs
      have HSN := Lib.hid (basS_snoc l k hkl)
      rw [hx] at hck HSN
      clear hx hkl hxs
      cases hbs : basB x with
      | true =>
        have HBB := Lib.hid hbs
        have hx128 : x < 128 := by unfold basB at hbs; exact of_decide_eq_true hbs
        rw [hbs] at HSN
        have hw8 : IntKind.u8.wrap x = x := by rw [IntKind.wrap_u8]; omega
        have HL : Hid ((basS (l.take k)).length + 1 ≤ 140737490452480) := by
          have := placed_len (l.take k) (basF (l.take k))
          have h2 : (l.take k).length ≤ k := by simp; omega
          unfold Hid; unfold basS; omega
        have HW := Lib.hid hb.out.size
        clear hbs hxb hx128
        go_wp2_with (first
          | (go_at_call 43; refine (isbasic_at x true _ HBB).mono ?_; rintro e w1 ⟨rfl, rfl⟩)
          | (at_builtin; refine wpList_append_byte rfl _ _ rfl w.heap.size _ (basS (l.take k)) rfl ho.out x 1 _ rfl rfl HL.out HW.out ?_; intro v1 w2 ho1 hg1 hf1))
        have HO1 : Hid (OwnB w2 w.heap.size v1 (basS (l.take (k + 1)))) := by unfold Hid; rw [HSN.out]; exact ho1
        have HB1 : Hid (Below w.heap.size w w2) := hb.out.grown hg1 HW.out (fun j hj => ho.out.base j hj)
        clear ho1 hg1 hf1
        go_wp2
        go_roundw
        case rel => exact ⟨k + 1, by go_num, by omega, HO1, HB1⟩
        case measure => simp [intOf]; omega
      | false =>
        have HBB := Lib.hid hbs
        rw [hbs] at HSN
        have HO1 : Hid (OwnB wr w.heap.size u3 (basS (l.take (k + 1)))) := by unfold Hid; rw [HSN.out]; simpa using ho.out
        clear hbs
        go_wp2_with (go_at_call 43; refine (isbasic_at x false _ HBB).mono ?_; rintro e w1 ⟨rfl, rfl⟩)
        go_roundw
        case rel => exact ⟨k + 1, by go_num, by omega, HO1, hb.out⟩
        case measure => simp [intOf]; omega
    · obtain rfl : k = n := by omega
      have HO1 : Hid (OwnB wr w.heap.size u3 X) := by
        have := ho.out
        rw [List.take_of_length_le (by rw [hn.out]; exact Nat.le_refl _), hX.out] at this
        exact this
      go_wp2
      go_ret
      exact ⟨_, rfl, HO1.out, hb.out⟩

/-! the state -/
/-- Block g holds five cells. -/
def F5 (w : World) (g : Nat) (v0 v1 v2 v3 v4 : Value) : Prop :=
  w.cell? ⟨g, 0, none⟩ = some v0 ∧ w.cell? ⟨g, 1, none⟩ = some v1 ∧ w.cell? ⟨g, 2, none⟩ = some v2 ∧ w.cell? ⟨g, 3, none⟩ = some v3 ∧ w.cell? ⟨g, 4, none⟩ = some v4 ∧ (∀ k, w.frozen? ⟨g, k, none⟩ = false) ∧ g < w.heap.size
theorem F5.grown {w w' : World} {g : Nat} {v0 v1 v2 v3 v4 : Value} {row : Option Nat} (h : F5 w g v0 v1 v2 v3 v4) (hg : w.grownBy w' row) (hne : row ≠ some g) : F5 w' g v0 v1 v2 v3 v4 := by
  obtain ⟨h0, h1, h2, h3, h4, hf, hl⟩ := h
  exact ⟨hg.cell h0 (Ne.symm hne), hg.cell h1 (Ne.symm hne), hg.cell h2 (Ne.symm hne), hg.cell h3 (Ne.symm hne), hg.cell h4 (Ne.symm hne), fun k => (World.frozen?_of_block (hg.block g hl (Ne.symm hne))).trans (hf k), Nat.lt_of_lt_of_le hl hg.size⟩
theorem F5.drewN {w : World} {g : Nat} {v0 v1 v2 v3 v4 : Value} (h : F5 w g v0 v1 v2 v3 v4) (n : Nat) : F5 (w.drewN n) g v0 v1 v2 v3 v4 := h
theorem F5.drew {w : World} {g : Nat} {v0 v1 v2 v3 v4 : Value} (h : F5 w g v0 v1 v2 v3 v4) : F5 w.drew g v0 v1 v2 v3 v4 := h
theorem F5.set0 {w : World} {g : Nat} {v0 v1 v2 v3 v4 : Value} (h : F5 w g v0 v1 v2 v3 v4) (v : Value) : F5 (w.setCell ⟨g, 0, none⟩ v) g v v1 v2 v3 v4 := by
  obtain ⟨h0, h1, h2, h3, h4, hf, hl⟩ := h
  exact ⟨World.cell?_setCell_same _ _ _ h0, (World.cell?_setCell_other _ _ _ _ (by simp)).trans h1, (World.cell?_setCell_other _ _ _ _ (by simp)).trans h2, (World.cell?_setCell_other _ _ _ _ (by simp)).trans h3, (World.cell?_setCell_other _ _ _ _ (by simp)).trans h4, fun k => (World.frozen?_setCell _ _ _ _).trans (hf k), by simpa [World.setCell] using hl⟩
theorem F5.set1 {w : World} {g : Nat} {v0 v1 v2 v3 v4 : Value} (h : F5 w g v0 v1 v2 v3 v4) (v : Value) : F5 (w.setCell ⟨g, 1, none⟩ v) g v0 v v2 v3 v4 := by
  obtain ⟨h0, h1, h2, h3, h4, hf, hl⟩ := h
  exact ⟨(World.cell?_setCell_other _ _ _ _ (by simp)).trans h0, World.cell?_setCell_same _ _ _ h1, (World.cell?_setCell_other _ _ _ _ (by simp)).trans h2, (World.cell?_setCell_other _ _ _ _ (by simp)).trans h3, (World.cell?_setCell_other _ _ _ _ (by simp)).trans h4, fun k => (World.frozen?_setCell _ _ _ _).trans (hf k), by simpa [World.setCell] using hl⟩
theorem F5.set2 {w : World} {g : Nat} {v0 v1 v2 v3 v4 : Value} (h : F5 w g v0 v1 v2 v3 v4) (v : Value) : F5 (w.setCell ⟨g, 2, none⟩ v) g v0 v1 v v3 v4 := by
  obtain ⟨h0, h1, h2, h3, h4, hf, hl⟩ := h
  exact ⟨(World.cell?_setCell_other _ _ _ _ (by simp)).trans h0, (World.cell?_setCell_other _ _ _ _ (by simp)).trans h1, World.cell?_setCell_same _ _ _ h2, (World.cell?_setCell_other _ _ _ _ (by simp)).trans h3, (World.cell?_setCell_other _ _ _ _ (by simp)).trans h4, fun k => (World.frozen?_setCell _ _ _ _).trans (hf k), by simpa [World.setCell] using hl⟩
theorem F5.set3 {w : World} {g : Nat} {v0 v1 v2 v3 v4 : Value} (h : F5 w g v0 v1 v2 v3 v4) (v : Value) : F5 (w.setCell ⟨g, 3, none⟩ v) g v0 v1 v2 v v4 := by
  obtain ⟨h0, h1, h2, h3, h4, hf, hl⟩ := h
  exact ⟨(World.cell?_setCell_other _ _ _ _ (by simp)).trans h0, (World.cell?_setCell_other _ _ _ _ (by simp)).trans h1, (World.cell?_setCell_other _ _ _ _ (by simp)).trans h2, World.cell?_setCell_same _ _ _ h3, (World.cell?_setCell_other _ _ _ _ (by simp)).trans h4, fun k => (World.frozen?_setCell _ _ _ _).trans (hf k), by simpa [World.setCell] using hl⟩
theorem F5.set4 {w : World} {g : Nat} {v0 v1 v2 v3 v4 : Value} (h : F5 w g v0 v1 v2 v3 v4) (v : Value) : F5 (w.setCell ⟨g, 4, none⟩ v) g v0 v1 v2 v3 v := by
  obtain ⟨h0, h1, h2, h3, h4, hf, hl⟩ := h
  exact ⟨(World.cell?_setCell_other _ _ _ _ (by simp)).trans h0, (World.cell?_setCell_other _ _ _ _ (by simp)).trans h1, (World.cell?_setCell_other _ _ _ _ (by simp)).trans h2, (World.cell?_setCell_other _ _ _ _ (by simp)).trans h3, World.cell?_setCell_same _ _ _ h4, fun k => (World.frozen?_setCell _ _ _ _).trans (hf k), by simpa [World.setCell] using hl⟩
theorem F5.new (w : World) (v0 v1 v2 v3 v4 : Value) (ty : TypeId) : F5 (w.alloc (.cells #[v0, v1, v2, v3, v4] ty)) w.heap.size v0 v1 v2 v3 v4 := by
  refine ⟨?_, ?_, ?_, ?_, ?_, fun k => ?_, ?_⟩ <;> simp [World.cell?_alloc_new]

/-- Block g is a state: code point, index, how many are in place, bias, whether it is a later number. -/
def StB (w : World) (g : Nat) (n : Int) (i P b : Nat) (later : Bool) : Prop := F5 w g (.int .i64 n) (.int .i64 i) (.int .i64 P) (.int .i64 b) (.bool later)

theorem start_at (P : Nat) (w : World) : Calls Try.prog 32 #[.int .i64 P] w fun e w' => e = .returned (.agg #[.int .i64 128, .int .i64 0, .int .i64 P, .int .i64 72, .bool false]) ∧ Below w.heap.size w w' := by
  go_enter Try.func32, Try.ntmps32
  go_wp2
  refine bodyPost_ret (results_cell_row rfl _ _ w.heap.size _ _ _ _ rfl (heap_alloc_new _ _) Try.underlying51 rfl (by kernel_rfl)) rfl ?_
  exact ⟨rfl, (Below.refl _ _).alloc (Nat.le_refl _) _⟩

set_option maxHeartbeats 1000000 in
theorem steps_at (g : Nat) (n : Int) (i P b : Nat) (later : Bool) (c : Int) (j : Nat) (v : Int) (w : World) (hs : StB w g n i P b later) (hP : P ≤ 4096) (hn0 : 0 ≤ n) (hn1 : n ≤ 1114111) (hc0 : 0 ≤ c) (hc1 : c ≤ 1114111) (hi : i ≤ 4096) (hj : j ≤ 4096) (hv : Hid ((c - n) * ((P : Int) + 1) + j - i = v)) :
    Calls Try.prog 34 #[.pointer (some ⟨g, 0, none⟩), .int .i64 c, .int .i64 j] w fun e w' => e = .returned (.int .i64 v) ∧ ∃ q, w' = w.drewN q := by
  obtain ⟨h0, h1, h2, h3, h4, hf, hl⟩ := hs
  have hm : -4564517778 ≤ (c - n) * ((P : Int) + 1) ∧ (c - n) * ((P : Int) + 1) ≤ 4564517778 := by
    have e : (c - n).natAbs * (P + 1) ≤ 1114111 * 4097 := Nat.mul_le_mul (by omega) (by omega)
    have e2 : ((c - n) * ((P : Int) + 1)).natAbs = (c - n).natAbs * (P + 1) := by
      rw [Int.natAbs_mul]; congr 1
    omega
  obtain ⟨M, hM⟩ : ∃ M, (c - n) * ((P : Int) + 1) = M := ⟨_, rfl⟩
  rw [hM] at hm
  have hv2 : M + j - i = v := by rw [← hM]; exact hv.out
  have w1 : IntKind.i64.wrap (c - n) = c - n := IntWalk.i64_in _ (by omega)
  have w2 : IntKind.i64.wrap ((P : Int) + 1) = (P : Int) + 1 := IntWalk.i64_in _ (by omega)
  have w3 : IntKind.i64.wrap ((c - n) * ((P : Int) + 1)) = M := by rw [hM]; exact IntWalk.i64_in _ (by omega)
  have w4 : IntKind.i64.wrap (M + (j : Int)) = M + j := IntWalk.i64_in _ (by omega)
  have w5 : IntKind.i64.wrap (M + (j : Int) - (i : Int)) = v := by rw [IntWalk.i64_in _ (by omega)]; exact hv2
  clear hv2 hM hv hm
  go_enter Try.func34, Try.ntmps34
  go_wp2
  go_quiet (fail)
  go_wp2
  go_ret
  exact ⟨rfl, _, rfl⟩

set_option maxHeartbeats 1000000 in
theorem placedb_at (p : Option Addr) (n cap a P : Nat) (l : List Int) (w : World) (hin : IntsIn w p l) (hn : Hid (l.length = n)) (hn2 : n ≤ 1099511627776) (hcap : n ≤ cap) (ha : a < n) (hP : Hid (pbL l a = P)) :
    Calls Try.prog 35 #[.slice p n cap, .int .i64 a] w fun e w' => e = .returned (.int .i64 P) ∧ ∃ q, w' = w.drewN q := by
  have HI := Lib.hid hin
  obtain ⟨b, off, rfl, hca⟩ := hin a (by rw [hn.out]; exact ha)
  obtain ⟨y, hy⟩ : ∃ y, l.getD a 0 = y := ⟨_, rfl⟩
  rw [hy] at hca
  have hac : a ≤ cap := by omega
  have HP : Hid (cntLe y (l.take a) = P) := by unfold Hid; rw [← hy]; exact hP.out
  clear hin hy
  go_enter Try.func35, Try.ntmps35
  go_wp2
  go_loopw [5, 12] (fun u v wr => ∃ k m : Nat, u = .int .i64 m ∧ v = .int .i64 k ∧ k ≤ a ∧ m ≤ k ∧ Hid (cntLe y (l.take k) = m) ∧ ∃ q, wr = w.drewN q) (fun _ v _ => a - (intOf v).toNat)
  case atStart => exact ⟨0, 0, rfl, rfl, Nat.zero_le _, Nat.le_refl _, rfl, 0, rfl⟩
  case round =>
    obtain ⟨k, m, rfl, rfl, hk, hmk, hm, q, rfl⟩ := hrel
    by_cases hlt : k < a
    · have hkl : k < l.length := by rw [hn.out]; omega
      obtain ⟨b2, off2, e2, hck⟩ := HI.out k hkl
      cases e2
      obtain ⟨x, hx⟩ : ∃ x, l.getD k 0 = x := ⟨_, rfl⟩
      rw [hx] at hck
      have hck2 : (w.drewN q).cell? ⟨b, off + k, none⟩ = some (.int .i64 x) := hck
      have hca2 : (w.drewN q).cell? ⟨b, off + a, none⟩ = some (.int .i64 y) := hca
      have HS : Hid (cntLe y (l.take (k + 1)) = m + (if x ≤ y then 1 else 0)) := by
        unfold Hid; rw [take_snoc_int l k hkl, cntLe_append, hm.out, hx]; simp [cntLe]
      have hkn : k < n := by omega
      clear hx hkl hck
      by_cases hxy : x ≤ y
      · have HS2 : Hid (cntLe y (l.take (k + 1)) = m + 1) := by unfold Hid; rw [HS.out, if_pos hxy]
        go_wp2
        go_roundw
        case rel => exact ⟨k + 1, m + 1, by go_num, by go_num, by omega, by omega, HS2, q, rfl⟩
        case measure => simp [intOf]; omega
      · have HS2 : Hid (cntLe y (l.take (k + 1)) = m) := by unfold Hid; rw [HS.out, if_neg hxy]; rfl
        have hd : decide (x ≤ y) = false := decide_eq_false hxy
        go_wp2
        go_roundw
        case rel => exact ⟨k + 1, m, rfl, by go_num, by omega, by omega, HS2, q, rfl⟩
        case measure => simp [intOf]; omega
    · obtain rfl : k = a := by omega
      have HE : Hid (m = P) := by unfold Hid; rw [← hm.out, HP.out]
      go_wp2
      go_ret
      exact ⟨by rw [HE.out]; rfl, q, rfl⟩

/-- What appendNumber leaves. -/
def NumApp (B : Nat) (v : Value) (ys : List Int) (w : World) (e : Ending) (w' : World) : Prop :=
  ∃ v', e = .returned v' ∧ OwnB w' B v' ys ∧ w.grownBy w' v.ownBlock ∧ ∀ b, b < w.heap.size → v.ownBlock ≠ some b → v'.ownBlock ≠ some b

set_option maxHeartbeats 2000000 in
theorem appnum_at (B : Nat) (v : Value) (xs ys : List Int) (N b : Nat) (w : World) (hB : B ≤ w.heap.size) (hown : OwnB w B v xs) (hx : xs.length ≤ 1099511627776) (hN : N ≤ 2147483647) (hb : b ≤ 70368744177664) (hY : Hid (xs ++ (pnumS b 0 N).map pdigB = ys)) :
    Calls Try.prog 36 #[v, .int .i64 N, .int .i64 b] w (NumApp B v ys w) := by
  have HO := Lib.hid hown
  clear hown
  go_enter Try.func36, Try.ntmps36
  go_wp2
  go_loopw [0, 1, 7] (fun vv u t wr => ∃ (M j : Nat) (zs : List Int), u = .int .i64 M ∧ t = .int .i64 j ∧ M ≤ 2147483647 ∧ j ≤ 2147483648 - M ∧ zs.length ≤ xs.length + j ∧ Hid (zs ++ (pnumS b j M).map pdigB = ys) ∧ Hid (OwnB wr B vv zs) ∧ Hid (w.grownBy wr v.ownBlock) ∧ Hid (∀ k, k < w.heap.size → v.ownBlock ≠ some k → vv.ownBlock ≠ some k)) (fun _ u _ _ => (intOf u).toNat)
  case atStart => exact ⟨N, 0, xs, rfl, rfl, hN, by omega, by omega, hY, HO, pun_refl _ _, fun _ _ h => h⟩
  case round =>
    obtain ⟨M, j, zs, rfl, rfl, hM, hj, hzl, hz, ho, hg, hoff⟩ := hrel
    obtain ⟨T, hT⟩ : ∃ T, thr b j = T := ⟨_, rfl⟩
    obtain ⟨ht1, ht2⟩ := thr_bd b j
    rw [hT] at ht1 ht2
    have HT := Lib.hid hT
    have HS : Hid (pnumS b j M = if M < T then [M] else (T + (M - T) % (36 - T)) :: pnumS b (j + 1) ((M - T) / (36 - T))) := by
      unfold Hid; rw [pnumS, hT]; split <;> rfl
    have HBB : Hid (B ≤ wr.heap.size) := Nat.le_trans hB hg.out.size
    clear hT
    by_cases hlt : M < T
    · have HE : Hid (zs ++ [pdigB M] = ys) := by unfold Hid; rw [← hz.out, HS.out, if_pos hlt]; rfl
      have hM36 : M < 36 := by omega
      go_wp2_with (first
        | (go_at_call 47; refine (thr_at j b T _ (by omega) (by omega) HT).mono ?_; rintro e w1 ⟨rfl, rfl⟩)
        | (go_at_call 48; refine (digit_at M (pdigB M) _ hM36 rfl).mono ?_; rintro e w2 ⟨rfl, rfl⟩)
        | (at_builtin; refine wpList_append_byte rfl _ _ rfl B _ zs rfl ho.out (pdigB M) 1 _ rfl rfl (by omega) HBB.out ?_; intro v1 w3 ho1 hg1 hf1))
      have HO1 : Hid (OwnB w3 B v1 ys) := by rw [← HE.out]; exact ho1
      have HG1 := Lib.hid (pun_step hg.out hg1 hoff.out)
      have HF1 := Lib.hid (pun_off hoff.out hf1 hg.out.size)
      clear ho1 hg1 hf1
      go_wp2
      go_ret
      exact ⟨_, rfl, HO1.out, HG1.out, HF1.out⟩
    · obtain ⟨f, hf⟩ : ∃ f, 36 - T = f := ⟨_, rfl⟩
      obtain ⟨R, hR⟩ : ∃ R, M - T = R := ⟨_, rfl⟩
      obtain ⟨Q, hQ⟩ : ∃ Q, R / f = Q := ⟨_, rfl⟩
      obtain ⟨D, hD⟩ : ∃ D, T + R % f = D := ⟨_, rfl⟩
      rw [hf, hR, hQ, hD, if_neg hlt] at HS
      have HE : Hid ((zs ++ [pdigB D]) ++ (pnumS b (j + 1) Q).map pdigB = ys) := by unfold Hid; rw [← hz.out, HS.out]; simp
      have hf10 : 10 ≤ f := by omega
      have hmod : R % f < f := Nat.mod_lt _ (by omega)
      have hD36 : D < 36 := by omega
      have hQR : Q ≤ R := by rw [← hQ]; exact Nat.div_le_self _ _
      have i1 : (M : Int) - (T : Int) = (R : Int) := by omega
      have i2 : (36 : Int) - (T : Int) = (f : Int) := by omega
      have i3 : (R : Int).tmod (f : Int) = ((R % f : Nat) : Int) := rfl
      have i5 : (R : Int).tdiv (f : Int) = (Q : Int) := by rw [← hQ]; rfl
      obtain ⟨r, hr⟩ : ∃ r, R % f = r := ⟨_, rfl⟩
      rw [hr] at i3 hmod hD
      have i4 : (T : Int) + (r : Int) = (D : Int) := by omega
      have hnlt : ¬ ((M : Int) < (T : Int)) := by omega
      have hRM : R + 1 ≤ M := by omega
      clear hf hR hQ hD hr HS
      go_wp2_with (first
        | (go_at_call 47; refine (thr_at j b T _ (by omega) (by omega) HT).mono ?_; rintro e w1 ⟨rfl, rfl⟩)
        | (go_at_call 48; refine (digit_at D (pdigB D) _ hD36 rfl).mono ?_; rintro e w2 ⟨rfl, rfl⟩)
        | (at_builtin; refine wpList_append_byte rfl _ _ rfl B _ zs rfl ho.out (pdigB D) 1 _ rfl rfl (by omega) HBB.out ?_; intro v1 w3 ho1 hg1 hf1))
      have HO1 := Lib.hid ho1
      have HG1 := Lib.hid (pun_step hg.out hg1 hoff.out)
      have HF1 := Lib.hid (pun_off hoff.out hf1 hg.out.size)
      clear ho1 hg1 hf1
      go_wp2
      go_roundw
      case rel => exact ⟨Q, j + 1, zs ++ [pdigB D], rfl, by go_num, by omega, by omega, by simp; omega, HE, HO1, HG1, HF1⟩
      case measure => simp [intOf]; omega

set_option maxRecDepth 100000 in
set_option maxHeartbeats 2000000 in
theorem put_at (g : Nat) (n : Int) (i P b : Nat) (later : Bool) (N C J A : Nat) (w : World) (hs : StB w g n i P b later) (hP : P + 1 ≤ 4096) (hn0 : 0 ≤ n) (hn1 : n ≤ 1099511627776) (hi : i ≤ 4096) (hN : N ≤ 2147483647) (hC : Hid ((N + i) / (P + 1) = C)) (hJ : Hid ((N + i) % (P + 1) = J)) (hA : Hid (adaptN N (P + 1) (!later) = A)) :
    Calls Try.prog 37 #[.pointer (some ⟨g, 0, none⟩), .int .i64 N] w fun e w' => e = .returned (.tuple #[.int .i64 (n + C), .int .i64 J]) ∧ StB w' g (n + C) (J + 1) (P + 1) A true ∧ w.grownBy w' (some g) := by
  have HS := Lib.hid hs
  obtain ⟨h0, h1, h2, h3, h4, hf, hl⟩ := hs
  obtain ⟨S, hS⟩ : ∃ S, N + i = S := ⟨_, rfl⟩
  obtain ⟨P1, hP1⟩ : ∃ P1, P + 1 = P1 := ⟨_, rfl⟩
  have hCS : C ≤ S := by rw [← hC.out, hS]; exact Nat.div_le_self _ _
  have hJP : J < P1 := by rw [← hJ.out, ← hP1]; exact Nat.mod_lt _ (by omega)
  have i1 : (N : Int) + (i : Int) = (S : Int) := by omega
  have i2 : (P : Int) + 1 = (P1 : Int) := by omega
  have i3 : (S : Int).tdiv (P1 : Int) = (C : Int) := by rw [← hC.out, ← hS, ← hP1]; rfl
  have i4 : (S : Int).tmod (P1 : Int) = (J : Int) := by rw [← hJ.out, ← hS, ← hP1]; rfl
  have w1 : IntKind.i64.wrap (P1 : Int) = (P1 : Int) := IntWalk.i64_in _ (by omega)
  have w2 : IntKind.i64.wrap (C : Int) = (C : Int) := IntWalk.i64_in _ (by omega)
  have w3 : IntKind.i64.wrap (n + (C : Int)) = n + (C : Int) := IntWalk.i64_in _ (by omega)
  rw [hP1] at hP hA ⊢
  have HP1 := Lib.hid hP1
  have f0 := hf 0
  have f1 := hf 1
  have f2 := hf 2
  have f3 := hf 3
  have f4 := hf 4
  clear hS hP1 hC hJ hf
  go_enter Try.func37, Try.ntmps37
  go_wp2
  go_quiet (fail)
  go_upto_region 4 with (fail)
  have HS1 : Hid (StB ((w.drewN nq).setCell ⟨g, 2, none⟩ (.int .i64 P1)) g n i P1 b later) := (HS.out.drewN nq).set2 _
  have HG1 : Hid (w.grownBy ((w.drewN nq).setCell ⟨g, 2, none⟩ (.int .i64 P1)) (some g)) := grownBy_trans (grownBy_drewN (pun_refl w (some g)) nq) (grownBy_store _ g 2 _)
  generalize (w.drewN nq).setCell ⟨g, 2, none⟩ (.int .i64 P1) = W1 at HS1 HG1 ⊢
  clear h0 h1 h2 h3 h4 hl f0 f1 f2 f3 f4
  obtain ⟨h0, h1, h2, h3, h4, hf, hl⟩ := HS1.out
  have f3 := hf 3
  clear hf
  go_still_tail 14, (by kernel_rfl)
  still_call (adapt_at_in N P1 A _ _ (by omega) (by omega) hP hA)
  repeat still_step
  refine wpStill_nil ?_
  change wpList _ _ _ _ _ W1.drew
  have HS2 : Hid (StB W1.drew g n i P1 b later) := HS1.out.drew
  have HG2 : Hid (w.grownBy W1.drew (some g)) := grown_drew HG1.out
  clear h0 h1 h2 h3 h4 hl f3 HS1 HG1
  generalize W1.drew = W2 at HS2 HG2 ⊢
  obtain ⟨h0, h1, h2, h3, h4, hf, hl⟩ := HS2.out
  have f3 := hf 3
  clear hf
  go_upto_region 5 with (fail)
  have HS3 : Hid (StB (W2.setCell ⟨g, 3, none⟩ (.int .i64 A)) g n i P1 A later) := HS2.out.set3 _
  have HG3 : Hid (w.grownBy (W2.setCell ⟨g, 3, none⟩ (.int .i64 A)) (some g)) := grownBy_trans HG2.out (grownBy_store _ g 3 _)
  clear h0 h1 h2 h3 h4 hl f3 HS2 HG2
  generalize W2.setCell ⟨g, 3, none⟩ (.int .i64 A) = W3 at HS3 HG3 ⊢
  obtain ⟨h0, h1, h2, h3, h4, hf, hl⟩ := HS3.out
  have f0 := hf 0
  have f1 := hf 1
  have f4 := hf 4
  obtain ⟨J1, hJ1⟩ : ∃ J1, J + 1 = J1 := ⟨_, rfl⟩
  have hj1 : (J : Int) + 1 = (J1 : Int) := by omega
  have HJ1 := Lib.hid hJ1
  clear hf hJ1
  go_wp2
  go_ret2
  refine ⟨rfl, ?_, ?_⟩
  · rw [HJ1.out]; exact ((HS3.out.set0 _).set1 _).set4 _
  exact (grownBy_trans (grownBy_trans (grownBy_trans HG3.out (grownBy_store _ g 0 _)) (grownBy_store _ g 1 _)) (grownBy_store _ g 4 _))

end Go.Proofs.Ytmnnpfohjffniaa

namespace Go.Proofs.Ytmnnpfohjffniaa
open Go.RowKit Go.Sort
set_option linter.unusedVariables false

theorem in_drewN {w : World} {p : Option Addr} {l : List Int} (h : IntsIn w p l) (n : Nat) : IntsIn (w.drewN n) p l := h

/-- A new slice of ints, with its room. -/
theorem Ints.cap {w : World} {B : Nat} {v : Value} {zs : List Int} (h : Ints w B v zs) : ∃ p cap, v = .slice p zs.length cap ∧ IntsIn w p zs ∧ zs.length ≤ cap ∧ (∀ b off, p = some ⟨b, off, none⟩ → B ≤ b ∧ b < w.heap.size) := by
  obtain ⟨p, cap, e, hin⟩ := h.inn
  obtain ⟨h1, h2⟩ := h
  rcases h2 with ⟨rfl, h3⟩ | ⟨g, cap2, cur, rfl, hB, hg, hn, hc, hs, ht⟩
  · injection e with e1 e2 e3
    subst e1
    exact ⟨none, cap, by rw [← e2, ← e3], hin, by omega, fun b off e => by cases e⟩
  · cases e
    refine ⟨_, _, rfl, hin, by simpa using hn, fun b off e => ?_⟩
    cases e
    exact ⟨hB, (Array.getElem?_eq_some_iff.1 hg).1⟩

/-- The places of what is not basic, in order. -/
def IdxOf (l : List Int) (I : List Nat) : Prop := (∀ a, a ∈ I ↔ a < l.length ∧ basB (l.getD a 0) = false) ∧ I.Pairwise (fun x y : Nat => ltT l x y = true)

theorem idx_nil {l : List Int} (h : othN l l.length = []) : IdxOf l [] := by
  refine ⟨fun a => ⟨fun h => (by cases h), fun ⟨h1, h2⟩ => ?_⟩, List.Pairwise.nil⟩
  have : (a : Int) ∈ othN l l.length := (othN_mem l _ _).2 ⟨a, h1, rfl, h2⟩
  rw [h] at this; cases this

def IdxPost (l : List Int) (w : World) (e : Ending) (w' : World) : Prop :=
  ∃ (I : List Nat) (v : Value), e = .returned v ∧ IdxOf l I ∧ Ints w' w.heap.size v (I.map (fun a : Nat => (a : Int))) ∧ Below w.heap.size w w'

set_option maxRecDepth 100000 in
set_option maxHeartbeats 4000000 in
theorem others_at (p : Option Addr) (n cap : Nat) (l : List Int) (w : World) (hin : IntsIn w p l) (hn : Hid (l.length = n)) (hn2 : n ≤ 4096) :
    Calls Try.prog 33 #[.slice p n cap] w (IdxPost l w) := by
  have HI := Lib.hid hin
  have HBX0 : Hid (Below w.heap.size w (w.alloc (.cells #[.slice p n cap] 22))) := (Below.refl w.heap.size w).alloc (Nat.le_refl _) _
  obtain ⟨i0, hi, hz0, hz1, hz2⟩ := info_parts Try.info3
  have hbc : (w.alloc (.cells #[.slice p n cap] 22)).cell? ⟨w.heap.size, 0, none⟩ = some (.slice p n cap) := by simp [World.cell?_alloc_new]
  have HBC := Lib.hid hbc
  have HSZ : Hid ((w.alloc (.cells #[.slice p n cap] 22)).heap.size = w.heap.size + 1) := by unfold Hid; simp
  clear hin hbc
  go_enter Try.func33, Try.ntmps33
  go_upto_region 2 with (fail)
  generalize w.alloc (.cells #[.slice p n cap] 22) = W0 at HBX0 HBC HSZ ⊢
  have hbc := HBC.out
  go_wp2
  go_loopw [3, 8] (fun vv u wr => ∃ k : Nat, u = .int .i64 k ∧ k ≤ n ∧ Hid (Ints wr (w.heap.size + 1) vv (othN l k)) ∧ Hid (othN l k = [] → vv = .slice none 0 0) ∧ Hid (W0.grownBy wr none)) (fun _ u _ => n - (intOf u).toNat)
  case atStart => exact ⟨0, rfl, Nat.zero_le _, Ints.nil _ _, fun _ => rfl, pun_refl _ _⟩
  case round =>
    clear hbc
    obtain ⟨k, rfl, hk, ho, hnil, hg⟩ := hrel
    by_cases hlt : k < n
    · have hkl : k < l.length := by rw [hn.out]; exact hlt
      obtain ⟨b, off, rfl, hck⟩ := ((HI.out.below HBX0.out).grownNone hg.out) k hkl
      obtain ⟨x, hx⟩ : ∃ x, l.getD k 0 = x := ⟨_, rfl⟩
      rw [hx] at hck
      have HO : Hid (othN l (k + 1) = if basB x = true then othN l k else othN l k ++ [(k : Int)]) := by unfold Hid; rw [othN, hx]
      have HLN := Lib.hid (othN_len l k)
      have HWZ := Lib.hid hg.out.size
      clear hx hkl
      cases hbs : basB x with
      | true =>
        have HBB := Lib.hid hbs
        rw [hbs] at HO
        have HO1 : Hid (Ints wr (w.heap.size + 1) u3 (othN l (k + 1))) := by unfold Hid; rw [HO.out]; exact ho.out
        have HN1 : Hid (othN l (k + 1) = [] → u3 = .slice none 0 0) := by unfold Hid; rw [HO.out]; exact hnil.out
        clear hbs
        go_wp2_with (go_at_call 43; refine (isbasic_at x true _ HBB).mono ?_; rintro e w1 ⟨rfl, rfl⟩)
        go_roundw
        case rel => exact ⟨k + 1, by go_num, by omega, HO1, HN1, hg.out⟩
        case measure => simp [intOf]; omega
      | false =>
        have HBB := Lib.hid hbs
        rw [hbs] at HO
        have hown3 := ho.out
        unfold Ints at hown3
        have HOW := Lib.hid hown3
        clear hbs hown3
        go_wp2_with (first
          | (go_at_call 43; refine (isbasic_at x false _ HBB).mono ?_; rintro e w1 ⟨rfl, rfl⟩)
          | (at_builtin; refine wpList_append_own _ rfl _ _ 22 rfl (w.heap.size + 1) 3 i0 (.int .i64 0) 1 8 Try.underlying22 hi hz0 hz1 hz2 rfl (by decide) _ _ _ rfl (HOW.out.alloc _) ⟨_, 0, none⟩ 1 1 [.int .i64 k] rfl rfl (cell_one_new _ _ _) ?c2 ?c3 ?c4 ?c5 ?_))
        case c2 => intro u hu; simp at hu; subst hu; rfl
        case c3 => have := HLN.out; unfold maxLen; omega
        case c4 => have := HLN.out; omega
        case c5 => have := HWZ.out; have := HSZ.out; simp; omega
        intro v' w4 hown4 hg4 _
        have HO4 : Hid (Ints w4 (w.heap.size + 1) v' (othN l (k + 1))) := by unfold Hid; rw [HO.out]; unfold Ints; simpa using hown4
        have HN4 : Hid (othN l (k + 1) = [] → v' = .slice none 0 0) := by unfold Hid; rw [HO.out]; intro e; simp at e
        have HG4 : Hid (W0.grownBy w4 none) := by
          have h1 : W0.grownBy (World.alloc _ _) none := grownBy_trans hg.out (World.grownBy_alloc _ (.cells #[.int .i64 k] 3) none)
          refine pun_step h1 hg4 ?_
          intro j hj _ e
          have := (HOW.out.lt j e).1
          have := HSZ.out
          omega
        clear hown4 hg4
        go_wp2
        go_roundw
        case rel => exact ⟨k + 1, by go_num, by omega, HO4, HN4, HG4⟩
        case measure => simp [intOf]; omega
    · obtain rfl : k = n := by omega
      have HO : Hid (Ints wr (w.heap.size + 1) u3 (othN l l.length)) := by rw [hn.out]; exact ho
      have HN : Hid (othN l l.length = [] → u3 = .slice none 0 0) := by rw [hn.out]; exact hnil
      have HB : Hid (Below w.heap.size w wr) := HBX0.out.grown hg.out (by have := HSZ.out; omega) (by simp)
      by_cases h0 : othN l l.length = []
      · obtain rfl := HN.out h0
        have HID := Lib.hid (idx_nil h0)
        clear h0 HN HO ho hnil
        go_wp2_with fail
        refine (sort_nil _ _).mono ?_
        rintro ex w5 ⟨rfl, rfl⟩
        go_wp2
        go_ret
        exact ⟨[], _, rfl, HID.out, Ints.nil _ _, HB.out⟩
      · obtain ⟨g, cp, e, hBg, hcp, hsr⟩ := SRow.ofInts HO.out h0
        subst e
        obtain ⟨d, hd⟩ : ∃ d, (othN l l.length).toArray = d := ⟨_, rfl⟩
        have hdl : d.toList = othN l l.length := by rw [← hd]
        have hdz : d.size = (othN l l.length).length := by rw [← hd]; simp
        rw [hd] at hsr
        obtain ⟨N, hNe⟩ : ∃ N, d.size = N := ⟨_, rfl⟩
        have HNN := Lib.hid hNe
        have hle := othN_len l l.length
        have HVL : Hid (Val l d) := by
          intro i hi2
          have hm : d[i]! ∈ othN l l.length := by rw [← hdl, getElem!_pos d i hi2]; simp
          obtain ⟨a, a1, a2, _⟩ := (othN_mem l _ _).1 hm
          rw [a2]; omega
        have HAS : Hid (∀ i j, i < j → j < N → d[i]! < d[j]!) := by
          intro i j hij hj
          rw [← hNe] at hj
          have := List.pairwise_iff_getElem.1 (othN_asc l l.length)
          rw [← hdl] at this
          have h3 := this i j (by simp; omega) (by simpa using hj) hij
          rw [getElem!_pos d i (by omega), getElem!_pos d j hj]
          simpa using h3
        have HCM : Hid (CmpOk l w.heap.size g wr) := by
          intro W hW x y c h1 h2 h3 h4 h5
          refine closure_at l p cap w.heap.size W ?_ ?_ (by rw [hn.out]; omega) x y c h1 h2 h3 h4 h5
          · rw [hn.out]
            exact hW.cell (hg.out.cell HBC.out (by simp)) (by simp; omega)
          · refine ((HI.out.below HBX0.out).grownNone hg.out).grown hW ?_
            intro b off e
            intro e2
            subst e2
            by_cases hl0 : 0 < l.length
            · obtain ⟨b2, off2, e3, hc3⟩ := HI.out 0 hl0
              rw [e] at e3
              cases e3
              have := World.block_lt_of_cell? w _ hc3
              simp only at this
              omega
            · have : l = [] := List.eq_nil_of_length_eq_zero (by omega)
              rw [this] at h0
              exact h0 rfl
        have HSR := Lib.hid hsr
        have HDL := Lib.hid hdl
        have HDZ := Lib.hid hdz
        have hdN : N ≤ 1099511627776 := by have := hn.out; omega
        rw [← hdz, hNe]
        have hBg2 : w.heap.size ≤ g := by omega
        clear hd hdl hdz hsr hle h0 HN ho hnil HO hNe
        go_wp2_with fail
        refine (sort_at l g cp w.heap.size N d wr wr HCM.out (pun_refl _ _) HVL.out HSR.out HNN hdN HAS.out).mono ?_
        rintro ex w5 ⟨rfl, d', hs5, hz5, ⟨hp5, ho5⟩, hg5⟩
        obtain ⟨I, e1, e2, e3⟩ := sorted_idx l HDL.out (by rw [HNN.out]; exact hp5) (by rw [HNN.out]; exact ho5)
        have HI5 : Hid (Ints w5 w.heap.size (.slice (some ⟨g, 0, none⟩) N cp) (I.map (fun a : Nat => (a : Int)))) := by
          unfold Hid; rw [← e1, ← HNN.out, ← hz5]; exact hs5.toInts hBg2 hcp
        have HB5 : Hid (Below w.heap.size w w5) := HB.out.grown hg5 HB.out.size (by rintro j ⟨⟩; exact hBg2)
        have HX : Hid (IdxOf l I) := ⟨e2, e3⟩
        clear hs5 hz5 hp5 ho5 hg5 e1 e2 e3
        go_wp2
        go_ret
        exact ⟨I, _, rfl, HX.out, HI5.out, HB5.out⟩

end Go.Proofs.Ytmnnpfohjffniaa
