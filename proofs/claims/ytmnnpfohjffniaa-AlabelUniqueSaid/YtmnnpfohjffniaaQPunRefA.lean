/-
  The reference's puny: digit, number, least.
-/
import Derived.Test.YtmnnpfohjffniaaQPunA
import Derived.Test.YtmnnpfohjffniaaQPunRow
set_option linter.unusedSimpArgs false
set_option linter.unusedVariables false
namespace Go.Proofs.Ytmnnpfohjffniaa
open Go.RowKit
set_option linter.unusedVariables false

theorem rdig_lit : ∀ v, v < 36 → (ByteArray.mk #[97, 98, 99, 100, 101, 102, 103, 104, 105, 106, 107, 108, 109, 110, 111, 112, 113, 114, 115, 116, 117, 118, 119, 120, 121, 122, 48, 49, 50, 51, 52, 53, 54, 55, 56, 57]).extract v (v + 1) = strOfNums [pdigB v] := by decide +kernel

theorem pstrOf_append (a b : List Int) : strOfNums (a ++ b) = strOfNums a ++ strOfNums b := by
  apply ByteArray.ext; simp [strOfNums]

set_option maxHeartbeats 1000000 in
theorem rdigit_at (v : Nat) (S : ByteArray) (w : World) (h : v < 36) (hS : Hid (strOfNums [pdigB v] = S)) :
    Calls Try.prog 51 #[.int .i64 v] w fun e w' => e = .returned (.string S) ∧ w' = w := by
  obtain ⟨v1, hv1⟩ : ∃ v1, v + 1 = v1 := ⟨_, rfl⟩
  have i1 : (v : Int) + 1 = (v1 : Int) := by omega
  have HS : Hid ((ByteArray.mk #[97, 98, 99, 100, 101, 102, 103, 104, 105, 106, 107, 108, 109, 110, 111, 112, 113, 114, 115, 116, 117, 118, 119, 120, 121, 122, 48, 49, 50, 51, 52, 53, 54, 55, 56, 57]).extract v v1 = S) := by unfold Hid; rw [← hv1, rdig_lit v h]; exact hS.out
  have h1 : v1 ≤ 36 := by omega
  have h2 : v ≤ v1 := by omega
  clear hv1
  go_enter Try.func51, Try.ntmps51
  go_wp2
  go_ret
  exact ⟨by rw [← HS.out]; rfl, rfl⟩

set_option maxHeartbeats 2000000 in
theorem rnumber_at (N b : Nat) (R : ByteArray) (w : World) (hN : N ≤ 2147483647) (hb : b ≤ 70368744177664) (hR : Hid (strOfNums ((pnumS b 0 N).map pdigB) = R)) :
    Calls Try.prog 40 #[.int .i64 N, .int .i64 b] w fun e w' => e = .returned (.string R) ∧ w' = w := by
  go_enter Try.func40, Try.ntmps40
  go_wp2
  go_loopw [0, 5, 6] (fun u vs t wr => ∃ (M j : Nat) (S : ByteArray), u = .int .i64 M ∧ t = .int .i64 j ∧ vs = .string S ∧ M ≤ 2147483647 ∧ j ≤ 2147483648 - M ∧ S.size ≤ j ∧ Hid (S ++ strOfNums ((pnumS b j M).map pdigB) = R) ∧ wr = w) (fun u _ _ _ => (intOf u).toNat)
  case atStart => exact ⟨N, 0, ByteArray.mk #[], rfl, rfl, rfl, hN, by omega, Nat.le_refl _, by unfold Hid; rw [show (ByteArray.mk #[] : ByteArray) = ByteArray.empty from rfl, ByteArray.empty_append]; exact hR.out, rfl⟩
  case round =>
    obtain ⟨M, j, S, rfl, rfl, rfl, hM, hj, hSz, hz, rfl⟩ := hrel
    obtain ⟨T, hT⟩ : ∃ T, thr b j = T := ⟨_, rfl⟩
    obtain ⟨ht1, ht2⟩ := thr_bd b j
    rw [hT] at ht1 ht2
    have HT := Lib.hid hT
    have HS : Hid (pnumS b j M = if M < T then [M] else (T + (M - T) % (36 - T)) :: pnumS b (j + 1) ((M - T) / (36 - T))) := by
      unfold Hid; rw [pnumS, hT]; split <;> rfl
    clear hT
    by_cases hlt : M < T
    · obtain ⟨Y, hY⟩ : ∃ Y, strOfNums [pdigB M] = Y := ⟨_, rfl⟩
      have HE : Hid (S ++ Y = R) := by
        unfold Hid; rw [← hz.out, HS.out, if_pos hlt, ← hY]; rfl
      have hYs : Y.size = 1 := by rw [← hY, strOfNums_size]; rfl
      have HY := Lib.hid hY
      have hM36 : M < 36 := by omega
      clear hY
      go_wp2_with (first
        | (go_at_call 50; refine (rthr_at j b T _ (by omega) (by omega) HT).mono ?_; rintro e w1 ⟨rfl, rfl⟩)
        | (go_at_call 51; refine (rdigit_at M Y _ hM36 HY).mono ?_; rintro e w2 ⟨rfl, rfl⟩))
      go_ret
      exact ⟨by rw [← HE.out]; rfl, rfl⟩
    · obtain ⟨f, hf⟩ : ∃ f, 36 - T = f := ⟨_, rfl⟩
      obtain ⟨Q0, hQ0⟩ : ∃ Q0, M - T = Q0 := ⟨_, rfl⟩
      obtain ⟨Q, hQ⟩ : ∃ Q, Q0 / f = Q := ⟨_, rfl⟩
      obtain ⟨D, hD⟩ : ∃ D, T + Q0 % f = D := ⟨_, rfl⟩
      rw [hf, hQ0, hQ, hD, if_neg hlt] at HS
      obtain ⟨Y, hY⟩ : ∃ Y, strOfNums [pdigB D] = Y := ⟨_, rfl⟩
      have HE : Hid ((S ++ Y) ++ strOfNums ((pnumS b (j + 1) Q).map pdigB) = R) := by
        unfold Hid; rw [← hz.out, HS.out, List.map_cons, ← List.singleton_append, pstrOf_append, hY, ByteArray.append_assoc]
      have hYs : Y.size = 1 := by rw [← hY, strOfNums_size]; rfl
      have HY := Lib.hid hY
      have hSY : (S ++ Y).size = S.size + 1 := by rw [ByteArray.size_append, hYs]
      have HSY := Lib.hid hSY
      have hf10 : 10 ≤ f := by omega
      have hmod : Q0 % f < f := Nat.mod_lt _ (by omega)
      have hD36 : D < 36 := by omega
      have hQR : Q ≤ Q0 := by rw [← hQ]; exact Nat.div_le_self _ _
      have i1 : (M : Int) - (T : Int) = (Q0 : Int) := by omega
      have i2 : (36 : Int) - (T : Int) = (f : Int) := by omega
      have i3 : (Q0 : Int).tmod (f : Int) = ((Q0 % f : Nat) : Int) := rfl
      have i5 : (Q0 : Int).tdiv (f : Int) = (Q : Int) := by rw [← hQ]; rfl
      obtain ⟨r, hr⟩ : ∃ r, Q0 % f = r := ⟨_, rfl⟩
      rw [hr] at i3 hmod hD
      have i4 : (T : Int) + (r : Int) = (D : Int) := by omega
      have hnlt : ¬ ((M : Int) < (T : Int)) := by omega
      have hRM : Q0 + 1 ≤ M := by omega
      clear hf hQ0 hQ hD hr HS hY hSY
      go_wp2_with (first
        | (go_at_call 50; refine (rthr_at j b T _ (by omega) (by omega) HT).mono ?_; rintro e w1 ⟨rfl, rfl⟩)
        | (go_at_call 51; refine (rdigit_at D Y _ hD36 HY).mono ?_; rintro e w2 ⟨rfl, rfl⟩))
      go_roundw
      case rel => exact ⟨Q, j + 1, S ++ Y, rfl, by go_num, rfl, by omega, by omega, by rw [HSY.out]; omega, HE, by first | rfl | trivial⟩
      case measure => simp [intOf]; omega

/-! a row of Booleans -/
def BRow (w : World) (g : Nat) (F : List Bool) : Prop :=
  ∃ cur : Array Value, w.heap[g]? = some (.cells cur 4 (0, 0)) ∧ cur.size = F.length ∧ ∀ k, k < F.length → cur[k]? = some (.bool (F.getD k true))
theorem BRow.cell {w : World} {g : Nat} {F : List Bool} (h : BRow w g F) {k : Nat} (hk : k < F.length) : w.cell? ⟨g, k, none⟩ = some (.bool (F.getD k true)) := by
  obtain ⟨cur, h1, h2, h3⟩ := h
  simp only [World.cell?, h1, h3 k hk]
  rfl
theorem BRow.soft {w : World} {g : Nat} {F : List Bool} (h : BRow w g F) (k : Nat) : w.frozen? ⟨g, k, none⟩ = false := by
  obtain ⟨cur, h1, _⟩ := h
  simp [World.frozen?, h1]
theorem BRow.lt {w : World} {g : Nat} {F : List Bool} (h : BRow w g F) : g < w.heap.size := by
  obtain ⟨cur, h1, _⟩ := h
  exact (Array.getElem?_eq_some_iff.1 h1).1
theorem BRow.grown {w w' : World} {g : Nat} {F : List Bool} {row : Option Nat} (h : BRow w g F) (hg : w.grownBy w' row) (hne : row ≠ some g) : BRow w' g F := by
  obtain ⟨cur, h1, h2⟩ := h
  refine ⟨cur, ?_, h2⟩
  rw [hg.block g (Array.getElem?_eq_some_iff.1 h1).1 (fun e => hne e.symm)]
  exact h1
theorem BRow.set {w : World} {g : Nat} {F : List Bool} (h : BRow w g F) {i : Nat} (hi : i < F.length) (x : Bool) : BRow (w.setCell ⟨g, i, none⟩ (.bool x)) g (F.set i x) := by
  obtain ⟨cur, h1, h2, h3⟩ := h
  refine ⟨cur.setIfInBounds i (.bool x), ?_, by simpa using h2, fun k hk => ?_⟩
  · rw [setCell_eq_setRow w g i cur _ _ _ h1]; exact setRow_heap w g cur _ _ _ h1
  · have hk' : k < F.length := by simpa using hk
    rw [Array.getElem?_setIfInBounds]
    by_cases e : i = k
    · subst e
      rw [if_pos rfl, if_pos (by omega), getD_set_eq F i x hi]
    · rw [if_neg e, h3 k hk', getD_set_ne F i k x e]

def madeBools (c : Nat) : Obj := .cells (madeCells (Value.cells (.bool false)) (c * 1)) 4
theorem Try.info4 : (Try.prog.info? 4).map (fun i => (i.zero, i.size, i.bytes)) = some (some (.bool false), 1, 1) := by kernel_rfl
theorem run_make_bools (c : Nat) (hc : c ≤ 4194304) (w : World) :
    (Instr.makeSlice 57 (.int .i64 (c : Int)) (.int .i64 (c : Int))).run Try.prog w = .ok (.slice (some ⟨w.heap.size, 0, none⟩) c c) (w.alloc (madeBools c)) := by
  obtain ⟨i0, hi, hz0, hz1, hz2⟩ := info_parts Try.info4
  have hb : (i0.bytes : Int) * (c : Int) ≤ 281474976710656 := by rw [hz2]; omega
  have hr := run_make (P := Try.prog) w 57 4 i0 _ Try.underlying57 hi hz0 .i64 .i64 c c (by omega) (by omega) hb (by omega)
  simp only [Int.toNat_natCast, hz1] at hr
  exact hr
theorem BRow.made (w : World) (c : Nat) : BRow (w.alloc (madeBools c)) w.heap.size (List.replicate c false) := by
  refine ⟨_, heap_alloc_new w _, by rw [size_madeCells]; simp [Value.cells], fun k hk => ?_⟩
  have hk' : k < c := by simpa using hk
  simp [madeCells, Value.cells, List.getD, hk', List.getElem?_replicate, Nat.mod_one]

/-- The index of the first least one that is not in place, or -1. -/
def lkI (o : Option Nat) : Int := match o with | none => -1 | some a => a

theorem leastK_step (l : List Int) (F : List Bool) (k : Nat) : leastK l F (k + 1) = match leastK l F k with
    | none => if F.getD k true = false then some k else none
    | some a => if F.getD k true = false ∧ l.getD k 0 < l.getD a 0 then some k else some a := rfl
theorem leastK_lt (l : List Int) (F : List Bool) {k a : Nat} (h : leastK l F k = some a) : a < k := (leastK_some l F k a h).lt

set_option maxHeartbeats 2000000 in
theorem rleast_at (p : Option Addr) (n cap g : Nat) (l : List Int) (F : List Bool) (R : Option Nat) (w : World) (hin : IntsIn w p l) (hn : Hid (l.length = n)) (hn2 : n ≤ 4096) (hF : Hid (F.length = n)) (hB : BRow w g F) (hR : Hid (leastK l F n = R)) :
    Calls Try.prog 39 #[.slice p n cap, .slice (some ⟨g, 0, none⟩) n n] w fun e w' => e = .returned (.int .i64 (lkI R)) ∧ w' = w := by
  have HI := Lib.hid hin
  have HB := Lib.hid hB
  clear hin hB
  go_enter Try.func39, Try.ntmps39
  go_wp2
  go_loopw [5, 10] (fun u v wr => ∃ (k : Nat) (o : Option Nat), u = .int .i64 (lkI o) ∧ v = .int .i64 k ∧ k ≤ n ∧ Hid (leastK l F k = o) ∧ wr = w) (fun _ v _ => n - (intOf v).toNat)
  case atStart => exact ⟨0, none, rfl, rfl, Nat.zero_le _, rfl, rfl⟩
  case round =>
    obtain ⟨k, o, rfl, rfl, hk, ho, rfl⟩ := hrel
    by_cases hlt : k < n
    · have hkl : k < l.length := by rw [hn.out]; exact hlt
      obtain ⟨b, off, rfl, hck⟩ := HI.out k hkl
      obtain ⟨x, hx⟩ : ∃ x, l.getD k 0 = x := ⟨_, rfl⟩
      rw [hx] at hck
      have hcb := HB.out.cell (k := k) (by rw [hF.out]; exact hlt)
      have hst := leastK_step l F k
      rw [ho.out, hx] at hst
      cases hf : F.getD k true with
      | true =>
        rw [hf] at hcb hst
        have HS : Hid (leastK l F (k + 1) = o) := by
          unfold Hid; rw [hst]
          cases o with
          | none => rfl
          | some a => simp
        clear hst hf hx hkl ho
        go_wp2
        go_roundw
        case rel => exact ⟨k + 1, o, rfl, by go_num, by omega, HS, by first | rfl | trivial⟩
        case measure => simp [intOf]; omega
      | false =>
        rw [hf] at hcb hst
        cases o with
        | none =>
          have HS : Hid (leastK l F (k + 1) = some k) := by unfold Hid; rw [hst]; rfl
          simp only [lkI]
          clear hst hf hx hkl ho
          go_wp2
          go_roundw
          case rel => exact ⟨k + 1, some k, rfl, by go_num, by omega, HS, by first | rfl | trivial⟩
          case measure => simp [intOf]; omega
        | some a =>
          have hak := leastK_lt l F ho.out
          obtain ⟨b2, off2, e2, hca⟩ := HI.out a (by omega)
          cases e2
          obtain ⟨y, hy⟩ : ∃ y, l.getD a 0 = y := ⟨_, rfl⟩
          simp only at hst
          rw [hy] at hca hst
          have han : a < n := by omega
          simp only [lkI]
          have hna : ¬ ((a : Int) < 0) := by omega
          have hda : decide ((a : Int) < 0) = false := decide_eq_false hna
          by_cases hxy : x < y
          · have HS : Hid (leastK l F (k + 1) = some k) := by unfold Hid; rw [hst]; simp [hxy]
            clear hst hf hx hy hkl ho
            go_wp2
            go_roundw
            case rel => exact ⟨k + 1, some k, rfl, by go_num, by omega, HS, by first | rfl | trivial⟩
            case measure => simp [intOf]; omega
          · have HS : Hid (leastK l F (k + 1) = some a) := by unfold Hid; rw [hst]; simp [hxy]
            have hdx : decide (x < y) = false := decide_eq_false hxy
            clear hst hf hx hy hkl ho
            go_wp2
            go_roundw
            case rel => exact ⟨k + 1, some a, rfl, by go_num, by omega, HS, by first | rfl | trivial⟩
            case measure => simp [intOf]; omega
    · obtain rfl : k = n := by omega
      have HE : Hid (o = R) := by unfold Hid; rw [← ho.out, hR.out]
      go_wp2
      go_ret
      exact ⟨by rw [HE.out]; rfl, rfl⟩

end Go.Proofs.Ytmnnpfohjffniaa
