/-
  The laws of stream: dense, the example, awake (genSL.py).
  stream: what holds between the rounds of a law's loop over one stream.
  stream: two streams side by side, the program's and the reference's.
-/
import Derived.Test.YtfmfifmmaihodaaGreatDoorSxPkZW
import Derived.Test.YtfmfifmmaihodaaGreatDoorSxPkZ
import Derived.Test.YtfmfifmmaihodaaGreatDoorSxPkZU
import Derived.Test.YtfmfifmmaihodaaGreatDoorSxTblQ
set_option linter.unusedSimpArgs false
set_option linter.unusedVariables false
namespace Go.Proofs.YtfmfifmmaihodaaGreatDoor
open Go.RowKit
set_option linter.unusedVariables false

def dense9L : List Int := [97, 98, 769, 776, 803, 837, 945, 7680, 7681, 7682, 7683, 7684, 4352, 4449, 4520, 44032]
theorem dense9L_sca : ∀ j, j < 16 → scaB (dense9L.getD j 0) = true := by decide

/-- What 'dense' leaves: at most fifteen scalar values in a new slice. -/
def Dense9Post (w : World) (e : Ending) (w' : World) : Prop :=
  ∃ (xs : List Int) (v : Value), e = .returned v ∧ xs.length ≤ 15 ∧ xs.all scaB = true ∧ Ints w' w.heap.size v xs ∧ Below w.heap.size w w'

set_option maxHeartbeats 1000000 in
theorem dense9_any (p : Option Addr) (cap : Nat) (zs : List Int) (w : World) (hin : IntsIn w p zs) (hl : zs.length ≤ 17592186043904) :
    Calls Tryz.prog 14 #[.slice p zs.length cap] w (Dense9Post w) := by
  have HI := Lib.hid hin
  clear hin
  obtain ⟨v0, v1⟩ := nextV_bd zs 16 (by omega)
  obtain ⟨n, hn⟩ : ∃ n : Nat, nextV zs 16 = n := ⟨(nextV zs 16).toNat, by omega⟩
  have hn15 : n ≤ 15 := by omega
  have HN := Lib.hid hn
  clear v0 v1 hn
  go_enter Tryz.func14, Tryz.ntmps14
  go_wp2_with fail
  refine (from_any p cap zs _ HI.out hl).mono ?_
  rintro e w1 ⟨g, rfl, hg, hs1, hb1⟩
  have HS1 := Lib.hid hs1
  have HB1 := Lib.hid hb1
  clear hs1 hb1
  go_wp2_with fail
  refine (next_at g zs 16 n _ HS1.out (by omega) (by omega) HN).mono ?_
  rintro e w2 ⟨rfl, hs2, hg2⟩
  have hb2 : Below w.heap.size w w2 := HB1.out.grown hg2 HB1.out.size (by intro k e; cases e; exact hg)
  have HS2 := Lib.hid hs2
  have HB2 := Lib.hid hb2
  clear hs2 hb2 hg2
  go_wp2
  go_loopw [4, 5] (fun v m wr => ∃ k : Nat, ∃ xs : List Int, ∃ r : List Int, k ≤ 15 ∧ m = .int .i64 k ∧ xs.length + k ≤ 15 ∧ Hid (xs.all scaB = true) ∧ Hid (Src wr g r) ∧ Hid (Ints wr (g + 1) v xs) ∧ Hid (Below w.heap.size w wr)) (fun _ m _ => (intOf m).toNat)
  case atStart => exact ⟨n, [], zs.tail, hn15, rfl, by simp; omega, rfl, HS2, Ints.nil _ _, HB2⟩
  case round =>
    obtain ⟨k, xs, r, hk, rfl, hxk, ha, hs, hown, hbel⟩ := hrel
    by_cases h0 : 0 < k
    · obtain ⟨q, hq⟩ : ∃ q : Nat, nextV r 16 = q := ⟨(nextV r 16).toNat, by have := nextV_bd r 16 (by omega); omega⟩
      have hq16 : q < 16 := by have := nextV_bd r 16 (by omega); omega
      have HQ := Lib.hid hq
      obtain ⟨c, hc⟩ : ∃ c, dense9L.getD q 0 = c := ⟨_, rfl⟩
      have HC : Hid (scaB c = true) := by unfold Hid; rw [← hc]; exact dense9L_sca q hq16
      have hlt := hs.out.lt
      obtain ⟨Lm, hLm⟩ : ∃ o : Obj, o = .cells #[.int .i64 97, .int .i64 98, .int .i64 769, .int .i64 776, .int .i64 803, .int .i64 837, .int .i64 945, .int .i64 7680, .int .i64 7681, .int .i64 7682, .int .i64 7683, .int .i64 7684, .int .i64 4352, .int .i64 4449, .int .i64 4520, .int .i64 44032] 3 := ⟨_, rfl⟩
      have hcl : (wr.alloc Lm).cell? ⟨wr.heap.size, q, none⟩ = some (.int .i64 c) := by
        rw [hLm]
        obtain ⟨b, off, e, hce⟩ := lit_ints wr #[.int .i64 97, .int .i64 98, .int .i64 769, .int .i64 776, .int .i64 803, .int .i64 837, .int .i64 945, .int .i64 7680, .int .i64 7681, .int .i64 7682, .int .i64 7683, .int .i64 7684, .int .i64 4352, .int .i64 4449, .int .i64 4520, .int .i64 44032] dense9L 3 rfl q (by simpa [dense9L] using hq16)
        cases e
        rw [Nat.zero_add, hc] at hce
        exact hce
      have HCL := Lib.hid hcl
      have HSA : Hid (Src (wr.alloc Lm) g r) := hs.out.alloc _
      have HOA : Hid (Ints (wr.alloc Lm) (g + 1) u4 xs) := hown.out.alloc _
      have HBA : Hid (Below w.heap.size w (wr.alloc Lm)) := hbel.out.alloc hbel.out.size _
      have HLT := Lib.hid hlt
      rw [hLm] at HCL HSA HOA HBA
      clear hq hc hcl hLm hlt
      go_wp2_with fail
      refine (next_at g r 16 q _ HSA.out (by omega) (by omega) HQ).mono ?_
      rintro e w3 ⟨rfl, hs3, hg3⟩
      have hcl : w3.cell? ⟨wr.heap.size, q, none⟩ = some (.int .i64 c) := hg3.cell HCL.out (by have := HLT.out; simp; omega)
      have hk3 := (Keeps.of_grown hg3).weak (Q := fun b => b = g) (fun b _ e => by injection e with e; exact e.symm)
      have hown3 := hk3.owns HOA.out (fun b hb e => by have := World.ownsRow.lt HOA.out b hb; omega)
      have HO3 := Lib.hid (Ints.alloc hown3 (.cells #[.int .i64 c] 3))
      have HS3 := Lib.hid hs3
      have HB3 := Lib.hid (HBA.out.trans (hk3.below HBA.out.size (fun b _ e => by omega)))
      have HSL := Lib.hid hs3.lt
      have hqi : (q : Int) < 16 := by omega
      clear hs3 hg3 hown3 hk3
      go_wp2_with (at_builtin; refine wpList_append_one _ _ rfl rfl (g + 1) u4 xs (by rfl) (by exact HO3.out) _ 1 c (by rfl) (by simp [World.cell?_alloc_new]) (by omega) (by have := HSL.out; simp; omega) ?_; intro v' w4 hown4 hg4 hv4)
      have hA : (xs ++ [c]).all scaB = true := by rw [List.all_append, ha.out]; simpa using HC.out
      have hown3' : Ints (w3.alloc (.cells #[.int .i64 c] 3)) (g + 1) u4 xs := HO3.out
      have hB : Below w.heap.size w w4 := (HB3.out.alloc HB3.out.size _).grown hg4 (by have := HB3.out.size; simp; omega) (fun j hj => by have := (World.ownsRow.lt hown3' j hj).1; omega)
      have hS : Src w4 g r.tail := (HS3.out.alloc _).grown hg4 (fun j hj => by have := (World.ownsRow.lt hown3' j hj).1; omega)
      have HA := Lib.hid hA
      have HI4 := Lib.hid hown4
      have HB := Lib.hid hB
      have HS := Lib.hid hS
      clear hA hB hS hown4 hg4 hv4 hown3' hcl
      go_wp2
      go_roundw
      case rel => exact ⟨k - 1, xs ++ [c], r.tail, by omega, by go_num, by simp; omega, HA, HS, HI4, HB⟩
      case measure => simp [intOf]; omega
    · obtain rfl : k = 0 := by omega
      have HO := Lib.hid (Ints.mono hown.out (B' := w.heap.size) (by omega))
      go_wp2
      go_ret
      exact ⟨xs, _, rfl, by omega, ha.out, HO.out, hbel.out⟩

theorem example9_any (w : World) :
    Calls Tryz.prog 44 #[] w fun e w' => ∃ g h, e = .returned (ex7X g h).agg ∧ TabV w' (ex7X g h) ex7T ∧ Below w.heap.size w w' := by
  obtain ⟨b0, hb0⟩ : ∃ b, b = w.heap.size := ⟨_, rfl⟩
  have hbx := (((BoxT.new w (ex7X (w.heap.size + 1) (w.heap.size + 3)) 26).below ((Below.refl _ _).alloc (Nat.le_refl _) (.cells #[.int .i64 769, .int .i64 769, .int .i64 230] 50))).below ((Below.refl _ _).alloc (Nat.le_refl _) (.cells #[.int .i64 101, .int .i64 769] 3))).below ((Below.refl _ _).alloc (Nat.le_refl _) (.cells #[.int .i64 233, .slice (some ⟨w.heap.size + 2, 0, none⟩) 2 2] 64))
  simp only [tabCells, ex7X] at hbx
  have HBX := Lib.hid hbx
  clear hbx
  go_enter Tryz.func44, Tryz.ntmps44
  go_wp2
  obtain ⟨⟨Q0, Q1, Q2, Q3, Q4, Q5⟩, ⟨Q6, Q7, Q8, Q9, Q10, Q11⟩⟩ := HBX.out.load
  simp only at Q0 Q1 Q2 Q3 Q4 Q5 Q6 Q7 Q8 Q9 Q10 Q11
  refine bodyPost_ret (v := (ex7X (w.heap.size + 1) (w.heap.size + 3)).agg) (by simp [results, Tryz.results44, go_sem, Q0, Q1, Q2, Q3, Q4, Q5, Q6, Q7, Q8, Q9, Q10, Q11, ex7X]) rfl ?_
  refine ⟨w.heap.size + 1, w.heap.size + 3, rfl, ?_, (((((Below.refl _ _).alloc (Nat.le_refl _) _).alloc (by simp) _).alloc (by simp; omega) _).alloc (by simp; omega) _)⟩
  have hs := cells_alloc (cells_alloc (lit_cells (w.alloc (.cells (tabCells (ex7X (w.heap.size + 1) (w.heap.size + 3))) 26)) #[.int .i64 769, .int .i64 769, .int .i64 230] 50) (.cells #[.int .i64 101, .int .i64 769] 3)) (.cells #[.int .i64 233, .slice (some ⟨w.heap.size + 2, 0, none⟩) 2 2] 64)
  have hd := lit_cells (((w.alloc (.cells (tabCells (ex7X (w.heap.size + 1) (w.heap.size + 3))) 26)).alloc (.cells #[.int .i64 769, .int .i64 769, .int .i64 230] 50)).alloc (.cells #[.int .i64 101, .int .i64 769] 3)) #[.int .i64 233, .slice (some ⟨w.heap.size + 2, 0, none⟩) 2 2] 64
  have hi := (lit_ints ((w.alloc (.cells (tabCells (ex7X (w.heap.size + 1) (w.heap.size + 3))) 26)).alloc (.cells #[.int .i64 769, .int .i64 769, .int .i64 230] 50)) #[.int .i64 101, .int .i64 769] [101, 769] 3 rfl).alloc (.cells #[.int .i64 233, .slice (some ⟨w.heap.size + 2, 0, none⟩) 2 2] 64)
  simp only [World.size_alloc] at hs hd hi
  exact ⟨exS _, ex7_cls _ _ hs, exS _, exS _, exS _, exS _, exS _, exM _, exM _, ex7_dec _ _ _ hd hi, exI _, exM _⟩

theorem ex9_N : newE ex7T ((8 : Nat) : Int) = 0 := by decide +kernel
theorem ex9_1 : pushT (nrmT ex7T) 8 [] 101 = ([101], [], 0) := by decide +kernel
theorem ex9_2 : pushT (nrmT ex7T) 8 [101] 769 = ([101, 769], [], 0) := by decide +kernel
theorem ex9_3 : pushT (nrmT ex7T) 8 [101, 769] 98 = ([98], [233], 0) := by decide +kernel

set_option maxRecDepth 100000 in
set_option maxHeartbeats 4000000 in
theorem awake9_any (w : World) (hr : Rsv w) : Calls Tryz.prog 17 #[] w (Gives (.bool true) w) := by
  have HR := Lib.hid hr
  clear hr
  go_enter Tryz.func17, Tryz.ntmps17
  go_wp2_with fail
  refine (example9_any _).mono ?_
  rintro e w1 ⟨g1, h1, rfl, ht1, hb1⟩
  have HB1 := Lib.hid hb1
  have HT1 := Lib.hid ht1
  clear ht1 hb1
  simp only [ex7X, TV.agg]
  go_wp2_with fail
  refine (new_at (ex7X g1 h1) ex7T 8 _ HT1.out (HR.out.below HB1.out) ex9_N).mono ?_
  rintro e w2 ⟨s, y, rfl, hs, hz, hz2, hb⟩
  have HZ := Lib.hid hz
  have HS := Lib.hid (hs.fresh (c' := w2.heap.size) (by omega))
  have HC : Hid (w2.heap.size ≤ w2.heap.size) := Nat.le_refl _
  have HB2 := Lib.hid (HB1.out.trans (hb.mono HB1.out.size))
  have HW2 : Hid (w.heap.size ≤ s) := Nat.le_trans HB1.out.size hz
  generalize w1.heap.size = lo at HS HZ
  clear hs hz hz2 hb
  go_wp2_with fail
  refine (push_at lo s s y (nrmT ex7T) 8 w2.heap.size _ [] 101 [101] [] 0 _ HS.out (HR.out.below HB2.out) HC.out ex9_1).mono ?_
  rintro e w3 ⟨u3, v3, rfl, hu3, hs3, hk3, _⟩
  obtain ⟨p3, c3, rfl, _⟩ := hu3.inn
  have HS3 := Lib.hid hs3
  have HC3 : Hid (w2.heap.size ≤ w3.heap.size) := hk3.size
  have HB3 := Lib.hid (HB2.out.trans (hk3.below HB2.out.size (fun b hb e => by
    rcases e with rfl | e
    · exact HW2.out
    · cases e)))
  clear hu3 hs3 hk3 HS HC
  go_wp2_with fail
  refine (push_at lo s s y (nrmT ex7T) 8 w2.heap.size _ [101] 769 [101, 769] [] 0 _ HS3.out (HR.out.below HB3.out) HC3.out ex9_2).mono ?_
  rintro e w4 ⟨u4, v4, rfl, hu4, hs4, hk4, _⟩
  obtain ⟨p4, c4, rfl, _⟩ := hu4.inn
  have HS4 := Lib.hid hs4
  have HC4 : Hid (w2.heap.size ≤ w4.heap.size) := Nat.le_trans HC3.out hk4.size
  have HB4 := Lib.hid (HB3.out.trans (hk4.below HB3.out.size (fun b hb e => by
    rcases e with rfl | e
    · exact HW2.out
    · exact Nat.le_trans HB2.out.size (HS3.out.hlt b e).1)))
  clear hu4 hs4 hk4 HS3
  go_wp2_with fail
  refine (push_at lo s s y (nrmT ex7T) 8 w2.heap.size _ [101, 769] 98 [98] [233] 0 _ HS4.out (HR.out.below HB4.out) HC4.out ex9_3).mono ?_
  rintro e w5 ⟨u5, v5, rfl, hu5, hs5, hk5, _⟩
  obtain ⟨p5, c5, rfl, hi5⟩ := hu5.inn
  have HS5 := Lib.hid hs5
  have HI5 := Lib.hid hi5
  have HB5 := Lib.hid (HB4.out.trans (hk5.below HB4.out.size (fun b hb e => by
    rcases e with rfl | e
    · exact HW2.out
    · exact Nat.le_trans HB2.out.size (HS4.out.hlt b e).1)))
  clear hu5 hs5 hk5 HS4 hi5
  have HA5 : Hid (Below w5.heap.size w5 (w5.alloc (.cells #[.int .i64 233] 3))) := (Below.refl _ _).alloc (Nat.le_refl _) _
  have HI6 := Lib.hid (lit_ints w5 #[.int .i64 233] [233] 3 rfl)
  go_wp2_with fail
  refine (same_at _ _ [233] [233] true _ ⟨_, _, rfl, HI5.out.below HA5.out, by simp⟩ ⟨_, _, rfl, HI6.out, by simp⟩ (by simp [Hid])).mono ?_
  rintro e w6 ⟨rfl, hb6⟩
  have HS6 := Lib.hid ((HS5.out.below HA5.out).below hb6)
  have HB6 := Lib.hid ((HB5.out.trans (HA5.out.mono HB5.out.size)).trans (hb6.mono (Nat.le_trans HB5.out.size HA5.out.size)))
  clear hb6 HI5 HI6
  go_wp2_with fail
  refine (held_at lo s s y (nrmT ex7T) 8 w2.heap.size _ [98] 1 _ HS6.out rfl).mono ?_
  rintro e w7 ⟨rfl, hb7⟩
  have HB7 := Lib.hid (HB6.out.trans (hb7.mono HB6.out.size))
  clear hb7
  go_wp2
  go_ret
  exact ⟨rfl, HB7.out⟩

end Go.Proofs.YtfmfifmmaihodaaGreatDoor

namespace Go.Proofs.YtfmfifmmaihodaaGreatDoor
open Go.RowKit
set_option linter.unusedVariables false

theorem newE_mk {T : Tb} {z : Int} (h : checkT T = 0) (h1 : 1 ≤ z) (h2 : z ≤ 32) : newE T z = 0 := by
  unfold newE
  rw [if_neg (by omega), if_neg (by omega)]

theorem push_ok {T : Tb} {m : Nat} {H : List Int} {z : Int} (hz : scaB z = true) (hl : H.length < m) : (pushT T m H z).2.2 = 0 := by
  rcases push_cases T m H z with ⟨h1, h2⟩ | ⟨h1, hB, h2⟩ | ⟨h1, hB, h3, h2⟩ | ⟨h1, hB, h3, h2⟩
  · rw [hz] at h1; cases h1
  · rw [h2]
  · omega
  · rw [h2]
theorem push_out {T : Tb} {m : Nat} {H : List Int} {z : Int} : (pushT T m H z).2.1.length ≤ 4096 := by
  rcases push_cases T m H z with ⟨h1, h2⟩ | ⟨h1, hB, h2⟩ | ⟨h1, hB, h3, h2⟩ | ⟨h1, hB, h3, h2⟩ <;> rw [h2] <;> simp
  exact nfcL_len T H

/-- An element of a row of the law's own. -/
theorem Ints.get {w : World} {B : Nat} {p : Option Addr} {n c : Nat} {xs : List Int} (h : Ints w B (.slice p n c) xs) (hn : xs.length = n) (k : Nat) (hk : k < n) :
    ∃ g, p = some ⟨g, 0, none⟩ ∧ w.cell? ⟨g, k, none⟩ = some (.int .i64 (xs.getD k 0)) := by
  obtain ⟨g, c', e, _, _, hc, _⟩ := h.row (by omega)
  injection e with e1 e2 e3
  exact ⟨g, e1, hc k (by omega)⟩
theorem Ints.sli {w : World} {B : Nat} {p : Option Addr} {n c : Nat} {xs : List Int} (h : Ints w B (.slice p n c) xs) : IntsIn w p xs := by
  obtain ⟨p', c', e, hi⟩ := h.inn
  injection e with e1 e2 e3
  rw [e1]; exact hi

/-- One stream (block s, holds H in v), a list xs in vin, and two rows that the law makes: O in o, K in q. -/
structure WSt (W0 : World) (lo s : Nat) (y : TV) (U : Tb) (m c : Nat) (vin : Value) (xs : List Int) (wr : World) (v : Value) (H : List Int) (o : Value) (O : List Int) (q : Value) (K : List Int) : Prop where
  bel : Below W0.heap.size W0 wr
  low : W0.heap.size ≤ s
  str : StrV wr lo s s y U m c v H
  csz : c ≤ wr.heap.size
  inn : Ints wr (s + 1) vin xs
  ilt : ∀ b, vin.ownBlock = some b → b < c
  out : Ints wr c o O
  kep : Ints wr c q K
  dvo : ∀ b, o.ownBlock = some b → v.ownBlock ≠ some b
  dvq : ∀ b, q.ownBlock = some b → v.ownBlock ≠ some b
  doq : ∀ b, q.ownBlock = some b → o.ownBlock ≠ some b

section
variable {W0 wr w' : World} {lo s : Nat} {y : TV} {U : Tb} {m c : Nat} {vin : Value} {xs : List Int} {v v' : Value} {H H' : List Int} {o o' : Value} {O O' : List Int} {q q' : Value} {K K' : List Int}

theorem WSt.push (h : WSt W0 lo s y U m c vin xs wr v H o O q K) (hk : Keeps wr w' (fun k => k = s ∨ v.ownBlock = some k)) (hs : StrV w' lo s s y U m c v' H') (ho : ∀ b, b < wr.heap.size → v.ownBlock ≠ some b → v'.ownBlock ≠ some b) :
    WSt W0 lo s y U m c vin xs w' v' H' o O q K := by
  have hsc := h.str.sc
  have hlow := h.low
  have hv := h.str.hlt
  have h1 := fun b hb => World.ownsRow.lt h.out b hb
  have h2 := fun b hb => World.ownsRow.lt h.kep b hb
  have h3 := fun b hb => World.ownsRow.lt h.inn b hb
  refine ⟨h.bel.trans (hk.below h.bel.size (fun k _ e => ?_)), h.low, hs, Nat.le_trans h.csz hk.size, hk.owns h.inn (fun k e r => ?_), h.ilt, hk.owns h.out (fun k e r => ?_), hk.owns h.kep (fun k e r => ?_), fun b e => ho b (h1 b e).2 (h.dvo b e), fun b e => ho b (h2 b e).2 (h.dvq b e), h.doq⟩
  · rcases e with e | e
    · omega
    · have := hv k e; omega
  · rcases r with r | r
    · have := h3 k e; omega
    · have := hv k r; have := h.ilt k e; omega
  · rcases r with r | r
    · have := h1 k e; omega
    · exact h.dvo k e r
  · rcases r with r | r
    · have := h2 k e; omega
    · exact h.dvq k e r

theorem WSt.below (h : WSt W0 lo s y U m c vin xs wr v H o O q K) (hb : Below wr.heap.size wr w') : WSt W0 lo s y U m c vin xs w' v H o O q K :=
  ⟨h.bel.trans (hb.mono h.bel.size), h.low, h.str.below hb, Nat.le_trans h.csz hb.size, h.inn.below hb, h.ilt, h.out.below hb, h.kep.below hb, h.dvo, h.dvq, h.doq⟩

theorem WSt.app (h : WSt W0 lo s y U m c vin xs wr v H o O q K) (hg : wr.grownBy w' o.ownBlock) (ho : Ints w' c o' O') (hv : o'.ownBlock = o.ownBlock ∨ o'.ownBlock = some wr.heap.size) :
    WSt W0 lo s y U m c vin xs w' v H o' O' q K := by
  have hsc := h.str.sc
  have hlow := h.low
  have hvv := h.str.hlt
  have hk := Keeps.of_grown hg
  have h1 := fun b hb => World.ownsRow.lt h.out b hb
  have h2 := fun b hb => World.ownsRow.lt h.kep b hb
  have h3 := fun b hb => World.ownsRow.lt h.inn b hb
  refine ⟨h.bel.trans (hk.below h.bel.size (fun k _ e => by have := h1 k e; omega)), h.low, h.str.keeps hk (fun k _ e => ⟨?_, ?_, h.dvo k e⟩), Nat.le_trans h.csz hk.size, hk.owns h.inn (fun k e r => ?_), h.ilt, ho, hk.owns h.kep (fun k e r => h.doq k e r), fun b e => ?_, h.dvq, fun b e e2 => ?_⟩
  · have := h1 k e; unfold rows; omega
  · have := h1 k e; omega
  · have := h1 k r; have := h.ilt k e; omega
  · rcases hv with hv | hv
    · exact h.dvo b (by rw [← hv, e])
    · rw [hv] at e
      injection e with e
      intro e2
      have := hvv b e2
      omega
  · rcases hv with hv | hv
    · exact h.doq b e (by rw [← hv, e2])
    · rw [hv] at e2
      injection e2 with e2
      have := h2 b e
      omega

theorem WSt.appk (h : WSt W0 lo s y U m c vin xs wr v H o O q K) (hg : wr.grownBy w' q.ownBlock) (ho : Ints w' c q' K') (hv : q'.ownBlock = q.ownBlock ∨ q'.ownBlock = some wr.heap.size) :
    WSt W0 lo s y U m c vin xs w' v H o O q' K' := by
  have hsc := h.str.sc
  have hlow := h.low
  have hvv := h.str.hlt
  have hk := Keeps.of_grown hg
  have h1 := fun b hb => World.ownsRow.lt h.out b hb
  have h2 := fun b hb => World.ownsRow.lt h.kep b hb
  have h3 := fun b hb => World.ownsRow.lt h.inn b hb
  refine ⟨h.bel.trans (hk.below h.bel.size (fun k _ e => by have := h2 k e; omega)), h.low, h.str.keeps hk (fun k _ e => ⟨?_, ?_, h.dvq k e⟩), Nat.le_trans h.csz hk.size, hk.owns h.inn (fun k e r => ?_), h.ilt, hk.owns h.out (fun k e r => h.doq k r e), ho, h.dvo, fun b e => ?_, fun b e e2 => ?_⟩
  · have := h2 k e; unfold rows; omega
  · have := h2 k e; omega
  · have := h2 k r; have := h.ilt k e; omega
  · rcases hv with hv | hv
    · exact h.dvq b (by rw [← hv, e])
    · rw [hv] at e
      injection e with e
      intro e2
      have := hvv b e2
      omega
  · rcases hv with hv | hv
    · exact h.doq b (by rw [← hv, e]) e2
    · rw [hv] at e
      injection e with e
      have := h1 b e2
      omega
end

/-- Where the loop begins. -/
theorem WSt.start {W0 w2 w3 : World} {s : Nat} {y : TV} {U : Tb} {m : Nat} {vin : Value} {xs : List Int} (hs : StrV w2 W0.heap.size s s y U m (s + 1) (.slice none 0 0) []) (hz : W0.heap.size ≤ s) (hz2 : w2.heap.size = s + 1) (hb : Below W0.heap.size W0 w2)
    (hb3 : Below w2.heap.size w2 w3) (hi : Ints w3 w2.heap.size vin xs) : WSt W0 W0.heap.size s y U m w3.heap.size vin xs w3 (.slice none 0 0) [] (.slice none 0 0) [] (.slice none 0 0) [] := by
  have h1 := hb3.size
  exact ⟨hb.trans (hb3.mono hb.size), hz, (hs.below hb3).fresh (by omega), Nat.le_refl _, hz2 ▸ hi, fun b e => (World.ownsRow.lt hi b e).2, Ints.nil _ _, Ints.nil _ _, (by intro b e; cases e), (by intro b e; cases e), (by intro b e; cases e)⟩

/-- What was returned is the NFC of what was accepted, up to the last boundary. -/
def Whl (T : Tb) (P H O : List Int) : Prop := ∃ Q, P = Q ++ H ∧ O = nfcL T Q ∧ (Q = [] ∨ (∃ b r, H = b :: r ∧ bndT T b = true))
theorem Whl.start (T : Tb) (h : checkT T = 0) : Whl T [] [] [] := ⟨[], rfl, (nfc_nil h).1.symm, .inl rfl⟩
theorem Whl.len {T : Tb} {P H O : List Int} (h : Whl T P H O) : H.length ≤ P.length ∧ O.length ≤ 4096 := by
  obtain ⟨Q, h1, h2, _⟩ := h
  refine ⟨by rw [h1]; simp, by rw [h2]; exact nfcL_len T Q⟩
theorem Whl.push {T : Tb} {m : Nat} {P H O H' O' : List Int} {z : Int} (h : Whl T P H O) (hc : checkT T = 0) (hP : P.length + 1 ≤ 200) (hPs : P.all scaB = true) (hp : pushT T m H z = (H', O', 0)) : Whl T (P ++ [z]) H' (O ++ O') := by
  have := push_whole (T := T) (most := m) (c := z) hc (by omega : P.length ≤ 200) hPs h (by rw [hp]) hP
  rw [hp] at this
  exact this
theorem Whl.fin {T : Tb} {P H O : List Int} (h : Whl T P H O) (hc : checkT T = 0) (hP : P.length ≤ 200) (hPs : P.all scaB = true) : O ++ nfcL T H = nfcL T P := end_whole hc hP hPs h

end Go.Proofs.YtfmfifmmaihodaaGreatDoor

namespace Go.Proofs.YtfmfifmmaihodaaGreatDoor
open Go.RowKit
set_option linter.unusedVariables false

/-- Stream a (block sa) and the reference's (block sb), and a list xs in vin. -/
structure TwS (W0 : World) (sa sb : Nat) (y x : TV) (U T : Tb) (m c : Nat) (vin : Value) (xs : List Int) (wr : World) (va vb : Value) (Ha Hb : List Int) : Prop where
  bel : Below W0.heap.size W0 wr
  low : W0.heap.size ≤ sa
  ord : sa < sb
  sta : StrV wr W0.heap.size sa sa y U m c va Ha
  stb : StrV wr 0 W0.heap.size sb x T m c vb Hb
  csz : c ≤ wr.heap.size
  inn : Ints wr (sb + 1) vin xs
  ilt : ∀ b, vin.ownBlock = some b → b < c
  dab : ∀ b, va.ownBlock = some b → vb.ownBlock ≠ some b

section
variable {W0 wr w' : World} {sa sb : Nat} {y x : TV} {U T : Tb} {m c : Nat} {vin : Value} {xs : List Int} {va va' vb vb' : Value} {Ha Hb H' : List Int}

theorem TwS.below (h : TwS W0 sa sb y x U T m c vin xs wr va vb Ha Hb) (hb : Below wr.heap.size wr w') : TwS W0 sa sb y x U T m c vin xs w' va vb Ha Hb :=
  ⟨h.bel.trans (hb.mono h.bel.size), h.low, h.ord, h.sta.below hb, h.stb.below hb, Nat.le_trans h.csz hb.size, h.inn.below hb, h.ilt, h.dab⟩

theorem TwS.pushA (h : TwS W0 sa sb y x U T m c vin xs wr va vb Ha Hb) (hk : Keeps wr w' (fun k => k = sa ∨ va.ownBlock = some k)) (hs : StrV w' W0.heap.size sa sa y U m c va' H') (ho : ∀ b, b < wr.heap.size → va.ownBlock ≠ some b → va'.ownBlock ≠ some b) :
    TwS W0 sa sb y x U T m c vin xs w' va' vb H' Hb := by
  have h1 := h.low
  have h2 := h.ord
  have h3 := h.stb.sc
  have ha := h.sta.hlt
  have hb := h.stb.hlt
  have hi := fun b hb => World.ownsRow.lt h.inn b hb
  refine ⟨h.bel.trans (hk.below h.bel.size (fun k _ e => ?_)), h.low, h.ord, hs, h.stb.keeps hk (fun k _ e => ?_), Nat.le_trans h.csz hk.size, hk.owns h.inn (fun k e r => ?_), h.ilt, fun b e e2 => ho b (hb b e2).2 (fun e3 => h.dab b e3 e2) e⟩
  · rcases e with e | e
    · omega
    · have := ha k e; omega
  · rcases e with e | e
    · exact ⟨by unfold rows; omega, by omega, fun e2 => by have := hb k e2; omega⟩
    · have := ha k e
      exact ⟨by unfold rows; omega, by omega, h.dab k e⟩
  · rcases r with r | r
    · have := hi k e; omega
    · have := ha k r; have := h.ilt k e; omega

theorem TwS.pushB (h : TwS W0 sa sb y x U T m c vin xs wr va vb Ha Hb) (hk : Keeps wr w' (fun k => k = sb ∨ vb.ownBlock = some k)) (hs : StrV w' 0 W0.heap.size sb x T m c vb' H') (ho : ∀ b, b < wr.heap.size → vb.ownBlock ≠ some b → vb'.ownBlock ≠ some b) :
    TwS W0 sa sb y x U T m c vin xs w' va vb' Ha H' := by
  have h1 := h.low
  have h2 := h.ord
  have h3 := h.stb.sc
  have ha := h.sta.hlt
  have hb := h.stb.hlt
  have hi := fun b hb => World.ownsRow.lt h.inn b hb
  refine ⟨h.bel.trans (hk.below h.bel.size (fun k _ e => ?_)), h.low, h.ord, h.sta.keeps hk (fun k _ e => ?_), hs, Nat.le_trans h.csz hk.size, hk.owns h.inn (fun k e r => ?_), h.ilt, fun b e => ho b (ha b e).2 (h.dab b e)⟩
  · rcases e with e | e
    · omega
    · have := hb k e; omega
  · rcases e with e | e
    · exact ⟨by unfold rows; omega, by omega, fun e2 => by have := ha k e2; omega⟩
    · have := hb k e
      exact ⟨by unfold rows; omega, by omega, fun e2 => h.dab k e2 e⟩
  · rcases r with r | r
    · have := hi k e; omega
    · have := hb k r; have := h.ilt k e; omega
end

theorem TwS.start {W0 w1 w2 w3 : World} {sa sb : Nat} {y x : TV} {U T : Tb} {m : Nat} {vin : Value} {xs : List Int} (ha : StrV w1 W0.heap.size sa sa y U m (sa + 1) (.slice none 0 0) []) (hz : W0.heap.size ≤ sa) (hz2 : w1.heap.size = sa + 1) (hb : Below W0.heap.size W0 w1)
    (hs : StrV w2 0 W0.heap.size sb x T m (sb + 1) (.slice none 0 0) []) (hy : w1.heap.size ≤ sb) (hy2 : w2.heap.size = sb + 1) (hb2 : Below w1.heap.size w1 w2) (hb3 : Below w2.heap.size w2 w3) (hi : Ints w3 w2.heap.size vin xs) :
    TwS W0 sa sb y x U T m w3.heap.size vin xs w3 (.slice none 0 0) (.slice none 0 0) [] [] := by
  have h1 := hb3.size
  have hb12 := hb.trans (hb2.mono hb.size)
  exact ⟨hb12.trans (hb3.mono hb12.size), hz, by omega, ((ha.below hb2).below hb3).fresh (by omega), (hs.below hb3).fresh (by omega), Nat.le_refl _, hy2 ▸ hi, fun b e => (World.ownsRow.lt hi b e).2, (by intro b e; cases e)⟩

end Go.Proofs.YtfmfifmmaihodaaGreatDoor
