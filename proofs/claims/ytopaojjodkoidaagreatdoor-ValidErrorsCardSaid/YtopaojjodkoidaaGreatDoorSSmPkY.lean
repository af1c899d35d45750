/- hangul: plain mathematics: kinds, parts, decompositions, com -/
import Derived.Test.YtopaojjodkoidaaGreatDoorSSmPkA
set_option linter.unusedSimpArgs false
set_option linter.unusedVariables false
namespace Go.Proofs.YtopaojjodkoidaaGreatDoor
open Go.RowKit
def kindS (c : Int) : Int :=
 if 4352 ≤ c ∧ c ≤ 4370 then 1 else if 4449 ≤ c ∧ c ≤ 4469 then 2 else if 4520 ≤ c ∧ c ≤ 4546 then 3
 else if c < 44032 ∨ 55203 < c then 0 else if (c - 44032) % 28 = 0 then 4 else 5
def partsS (c : Int) : Int × Int × Int × Bool :=
 if 44032 ≤ c ∧ c ≤ 55203 then ((c - 44032) / 28 / 21, (c - 44032) / 28 % 21, (c - 44032) % 28, true) else (0, 0, 0, false)
def decS (c : Int) : List Int :=
 if 44032 ≤ c ∧ c ≤ 55203 then
  (if (c - 44032) % 28 = 0 then [4352 + (c - 44032) / 28 / 21, 4449 + (c - 44032) / 28 % 21]
   else [4352 + (c - 44032) / 28 / 21, 4449 + (c - 44032) / 28 % 21, 4519 + (c - 44032) % 28])
 else []
def compS (a b : Int) : Int × Bool :=
 if kindS a = 1 ∧ kindS b = 2 then (44032 + (21 * (a - 4352) + b - 4449) * 28, true)
 else if kindS a = 4 ∧ kindS b = 3 then (a + b - 4519, true) else (0, false)
def flatS (c : Int) : List Int := if decS c = [] then [c] else decS c
theorem kindS_1 {c : Int} : kindS c = 1 ↔ 4352 ≤ c ∧ c ≤ 4370 := by
 unfold kindS; constructor
 ·intro h; by_cases h1 : 4352 ≤ c ∧ c ≤ 4370
  ·exact h1
  ·rw [if_neg h1] at h; split at h <;> first | omega | (split at h <;> first | omega | (split at h <;> first | omega | (split at h <;> omega)))
 ·intro h; rw [if_pos h]
theorem kindS_2 {c : Int} : kindS c = 2 ↔ 4449 ≤ c ∧ c ≤ 4469 := by
 unfold kindS; constructor
 ·intro h; by_cases h1 : 4449 ≤ c ∧ c ≤ 4469
  ·exact h1
  ·rw [if_neg h1] at h; split at h <;> first | omega | (split at h <;> first | omega | (split at h <;> first | omega | (split at h <;> omega)))
 ·intro h; rw [if_neg (by omega), if_pos h]
theorem kindS_3 {c : Int} : kindS c = 3 ↔ 4520 ≤ c ∧ c ≤ 4546 := by
 unfold kindS; constructor
 ·intro h; by_cases h1 : 4520 ≤ c ∧ c ≤ 4546
  ·exact h1
  ·rw [if_neg h1] at h; split at h <;> first | omega | (split at h <;> first | omega | (split at h <;> first | omega | (split at h <;> omega)))
 ·intro h; rw [if_neg (by omega), if_neg (by omega), if_pos h]
theorem kindS_4 {c : Int} : kindS c = 4 ↔ 44032 ≤ c ∧ c ≤ 55203 ∧ (c - 44032) % 28 = 0 := by
 unfold kindS; constructor
 ·intro h; split at h <;> first | omega | (split at h <;> first | omega | (split at h <;> first | omega | (split at h <;> first | omega | (split at h <;> omega))))
 ·intro h; rw [if_neg (by omega), if_neg (by omega), if_neg (by omega), if_neg (by omega), if_pos h.2.2]
theorem kindS_5 {c : Int} : kindS c = 5 ↔ 44032 ≤ c ∧ c ≤ 55203 ∧ (c - 44032) % 28 ≠ 0 := by
 unfold kindS; constructor
 ·intro h; split at h <;> first | omega | (split at h <;> first | omega | (split at h <;> first | omega | (split at h <;> first | omega | (split at h <;> omega))))
 ·intro h; rw [if_neg (by omega), if_neg (by omega), if_neg (by omega), if_neg (by omega), if_neg h.2.2]
theorem kindS_0 {c : Int} (h1 : ¬(4352 ≤ c ∧ c ≤ 4370)) (h2 : ¬(4449 ≤ c ∧ c ≤ 4469)) (h3 : ¬(4520 ≤ c ∧ c ≤ 4546)) (h : c < 44032 ∨ 55203 < c) : kindS c = 0 := by
 unfold kindS; rw [if_neg h1, if_neg h2, if_neg h3, if_pos h]
theorem partsS_cases {c i j k : Int} {b : Bool} (h : partsS c = (i, j, k, b)) :
 (b = false ∧ i = 0 ∧ j = 0 ∧ k = 0 ∧ (c < 44032 ∨ 55203 < c)) ∨
 (b = true ∧ 0 ≤ i ∧ i < 19 ∧ 0 ≤ j ∧ j < 21 ∧ 0 ≤ k ∧ k < 28 ∧ c = 44032 + (21 * i + j) * 28 + k) := by
 unfold partsS at h
 split at h
 ·rename_i hc
  simp only [Prod.mk.injEq] at h
  obtain ⟨rfl, rfl, rfl, rfl⟩ := h
  right; refine ⟨rfl, ?_⟩; omega
 ·simp only [Prod.mk.injEq] at h
  obtain ⟨rfl, rfl, rfl, rfl⟩ := h
  left; exact ⟨rfl, rfl, rfl, rfl, by omega⟩
theorem decS_of {c i j k : Int} {b : Bool} (h : partsS c = (i, j, k, b)) :
 decS c = (bif b then (if k = 0 then [4352 + i, 4449 + j] else [4352 + i, 4449 + j, 4519 + k]) else []) := by
 unfold partsS at h
 unfold decS
 split at h
 ·rename_i hc
  rw [if_pos hc]
  simp only [Prod.mk.injEq] at h
  obtain ⟨rfl, rfl, rfl, rfl⟩ := h
  rfl
 ·rename_i hc
  rw [if_neg hc]
  simp only [Prod.mk.injEq] at h
  obtain ⟨rfl, rfl, rfl, rfl⟩ := h
  rfl
theorem compS_12 {a b : Int} (h1 : kindS a = 1) (h2 : kindS b = 2) : compS a b = (44032 + (21 * (a - 4352) + b - 4449) * 28, true) := by
 unfold compS; rw [if_pos ⟨h1, h2⟩]
theorem compS_43 {a b : Int} (h1 : kindS a = 4) (h2 : kindS b = 3) : compS a b = (a + b - 4519, true) := by
 unfold compS; rw [if_neg (by rw [h1, h2]; decide), if_pos ⟨h1, h2⟩]
theorem compS_no {a b : Int} (h1 : ¬(kindS a = 1 ∧ kindS b = 2)) (h2 : ¬(kindS a = 4 ∧ kindS b = 3)) : compS a b = (0, false) := by
 unfold compS; rw [if_neg h1, if_neg h2]
theorem compS_cases {a b x : Int} {o : Bool} (h : compS a b = (x, o)) :
 (o = true ∧ kindS a = 1 ∧ kindS b = 2 ∧ x = 44032 + (21 * (a - 4352) + b - 4449) * 28) ∨
 (o = true ∧ kindS a = 4 ∧ kindS b = 3 ∧ x = a + b - 4519) ∨ (o = false ∧ x = 0) := by
 unfold compS at h
 split at h
 ·rename_i hc; simp only [Prod.mk.injEq] at h; exact .inl ⟨h.2.symm, hc.1, hc.2, h.1.symm⟩
 ·split at h
  ·rename_i hc; simp only [Prod.mk.injEq] at h; exact .inr (.inl ⟨h.2.symm, hc.1, hc.2, h.1.symm⟩)
  ·simp only [Prod.mk.injEq] at h; exact .inr (.inr ⟨h.2.symm, h.1.symm⟩)
theorem comp_lv {a b x : Int} (h1 : kindS a = 1) (h2 : kindS b = 2) (hx : x = 44032 + (21 * (a - 4352) + b - 4449) * 28) :
 kindS x = 4 ∧ decS x = flatS a ++ [b] := by
 rw [kindS_1] at h1
 rw [kindS_2] at h2
 refine ⟨kindS_4.2 (by omega), ?_⟩
 have ha : decS a = [] := by unfold decS; rw [if_neg (by omega)]
 unfold flatS
 rw [if_pos ha]
 unfold decS
 rw [if_pos (by omega), if_pos (by omega)]
 simp only [List.cons_append, List.nil_append, List.cons.injEq, and_true]
 omega
theorem comp_lvt {a b x : Int} (h1 : kindS a = 4) (h2 : kindS b = 3) (hx : x = a + b - 4519) :
 kindS x = 5 ∧ decS x = flatS a ++ [b] := by
 rw [kindS_4] at h1
 rw [kindS_3] at h2
 refine ⟨kindS_5.2 (by omega), ?_⟩
 have ha : decS a = [4352 + (a - 44032) / 28 / 21, 4449 + (a - 44032) / 28 % 21] := by unfold decS; rw [if_pos (by omega), if_pos h1.2.2]
 unfold flatS
 rw [if_neg (by rw [ha]; simp), ha]
 unfold decS
 rw [if_pos (by omega), if_neg (by omega)]
 simp only [List.cons_append, List.nil_append, List.cons.injEq, and_true]
 omega
theorem ints_lit_at (w : World) (C : Array Value) (xs : List Int) (t : TypeId) (h : C.toList = xs.map (.int .i64)) : IntsIn (w.alloc (.cells C t)) (some ⟨w.heap.size, 0, none⟩) xs := by
 intro k hk
 refine ⟨_, _, rfl, ?_⟩
 rw [Nat.zero_add, World.cell?_alloc_new, ← Array.getElem?_toList, h]
 simp [hk]
def GivesH (L : List Int) (w : World) (e : Ending) (w' : World) : Prop :=
 ∃ p cap, e = .returned (.slice p L.length cap) ∧ IntsIn w' p L ∧ Below w.heap.size w w'
set_option maxHeartbeats 400000 in
theorem within_at (c f n : Int) (B : Bool) (w : World) (h0 : 0 ≤ f) (h1 : f ≤ 100000) (n0 : 0 ≤ n) (n1 : n ≤ 100000) (hB : Hid (decide (f ≤ c ∧ c < f + n) = B)) :
 Calls Tryz.prog 176 #[.int .i64 c, .int .i64 f, .int .i64 n] w fun e w' => e = .returned (.bool B) ∧ w = w' := by
 by_cases g1 : f ≤ c
 ·by_cases g2 : c < f + n
  ·have e : B = true := by rw [← hB.out]; exact decide_eq_true ⟨g1, g2⟩
   subst e
   clear hB
   go_enter Tryz.func176, Tryz.ntmps176
   go_wp2
   go_ret
   exact ⟨rfl, rfl⟩
  ·have e : B = false := by rw [← hB.out]; exact decide_eq_false (fun h => g2 h.2)
   subst e
   have d2 : decide (c < f + n) = false := decide_eq_false g2
   clear hB
   go_enter Tryz.func176, Tryz.ntmps176
   go_wp2
   go_ret
   exact ⟨rfl, rfl⟩
 ·have e : B = false := by rw [← hB.out]; exact decide_eq_false (fun h => g1 h.1)
  subst e
  have d2 : decide (f ≤ c) = false := decide_eq_false g1
  clear hB
  go_enter Tryz.func176, Tryz.ntmps176
  go_wp2
  go_ret
  exact ⟨rfl, rfl⟩
theorem results_tmp4 {fn : Func} {t u v x : Tmp} (h : fn.results = #[.tmp t, .tmp u, .tmp v, .tmp x]) (tmps : Array Value) (P : Program) (w : World) :
 (results fn tmps).run P w = .ok (.tuple #[tmps.getD t undef, tmps.getD u undef, tmps.getD v undef, tmps.getD x undef]) w := by
 simp [results, h]
theorem tdiv_pos (a b : Int) (h : 0 ≤ a) : a.tdiv b = a / b := Int.tdiv_eq_ediv_of_nonneg h
theorem tmod_pos (a b : Int) (h : 0 ≤ a) : a.tmod b = a % b := Int.tmod_eq_emod_of_nonneg h
set_option maxHeartbeats 1000000 in
theorem parts_at (c i j k : Int) (b : Bool) (w : World) (h : Hid (partsS c = (i, j, k, b))) :
 Calls Tryz.prog 173 #[.int .i64 c] w fun e w' => e = .returned (.tuple #[.int .i64 i, .int .i64 j, .int .i64 k, .bool b]) ∧ w = w' := by
 rcases partsS_cases h.out with ⟨rfl, rfl, rfl, rfl, hc⟩ | ⟨rfl, hi0, hi1, hj0, hj1, hk0, hk1, hc⟩
 ·have HB : Hid (decide (44032 ≤ c ∧ c < 44032 + 11172) = false) := decide_eq_false (by omega)
  clear h hc
  go_enter Tryz.func173, Tryz.ntmps173
  go_wp2_with fail
  refine (within_at c 44032 11172 false _ (by omega) (by omega) (by omega) (by omega) HB).mono ?_
  rintro e w' ⟨rfl, rfl⟩
  go_wp2
  try simp only [Exit.inBlock, Exit.then]
  refine bodyPost_ret (results_tmp4 rfl _ _ _) rfl ?_
  exact ⟨rfl, rfl⟩
 ·have HB : Hid (decide (44032 ≤ c ∧ c < 44032 + 11172) = true) := decide_eq_true (by omega)
  obtain ⟨x, hx⟩ : ∃ x, c - 44032 = x := ⟨_, rfl⟩
  obtain ⟨y, hy⟩ : ∃ y, x / 28 = y := ⟨_, rfl⟩
  have x0 : 0 ≤ x := by omega
  have x1 : x < 11172 := by omega
  have y0 : 0 ≤ y := by omega
  have y1 : y < 399 := by omega
  have e1 : x.tdiv 28 = y := by rw [tdiv_pos _ _ x0]; omega
  have e2 : x.tmod 28 = k := by rw [tmod_pos _ _ x0]; omega
  have e3 : y.tdiv 21 = i := by rw [tdiv_pos _ _ y0]; omega
  have e4 : y.tmod 21 = j := by rw [tmod_pos _ _ y0]; omega
  have e5 : x / 28 = y := hy
  have e6 : x % 28 = k := by omega
  have e7 : y / 21 = i := by omega
  have e8 : y % 21 = j := by omega
  clear h hc hy
  go_enter Tryz.func173, Tryz.ntmps173
  go_wp2_with fail
  refine (within_at c 44032 11172 true _ (by omega) (by omega) (by omega) (by omega) HB).mono ?_
  rintro e w' ⟨rfl, rfl⟩
  go_wp2
  try simp only [Exit.inBlock, Exit.then]
  refine bodyPost_ret (results_tmp4 rfl _ _ _) rfl ?_
  exact ⟨rfl, rfl⟩
set_option maxHeartbeats 1000000 in
theorem kind_any (c : Int) (w : World) :
 Calls Tryz.prog 144 #[.int .i64 c] w fun e w' => e = .returned (.int .i64 (kindS c)) ∧ w = w' := by
 obtain ⟨B1, h1⟩ : ∃ B, decide (4352 ≤ c ∧ c < 4352 + 19) = B := ⟨_, rfl⟩
 obtain ⟨B2, h2⟩ : ∃ B, decide (4449 ≤ c ∧ c < 4449 + 21) = B := ⟨_, rfl⟩
 obtain ⟨B3, h3⟩ : ∃ B, decide (4520 ≤ c ∧ c < 4520 + 27) = B := ⟨_, rfl⟩
 obtain ⟨i, j, k, b, hp⟩ : ∃ i j k b, partsS c = (i, j, k, b) := ⟨_, _, _, _, rfl⟩
 obtain ⟨Z, hz⟩ : ∃ Z, (k == 0) = Z := ⟨_, rfl⟩
 have HK : Hid (kindS c = (bif B1 then 1 else bif B2 then 2 else bif B3 then 3 else bif b then (bif Z then 4 else 5) else 0)) := by
  unfold Hid
  subst h1 h2 h3 hz
  by_cases g1 : 4352 ≤ c ∧ c < 4352 + 19
  ·rw [decide_eq_true g1, kindS_1.2 (by omega)]; rfl
  ·by_cases g2 : 4449 ≤ c ∧ c < 4449 + 21
   ·rw [decide_eq_false g1, decide_eq_true g2, kindS_2.2 (by omega)]; rfl
   ·by_cases g3 : 4520 ≤ c ∧ c < 4520 + 27
    ·rw [decide_eq_false g1, decide_eq_false g2, decide_eq_true g3, kindS_3.2 (by omega)]; rfl
    ·rw [decide_eq_false g1, decide_eq_false g2, decide_eq_false g3]
     rcases partsS_cases hp with ⟨rfl, rfl, rfl, rfl, hc⟩ | ⟨rfl, hi0, hi1, hj0, hj1, hk0, hk1, hc⟩
     ·rw [kindS_0 (by omega) (by omega) (by omega) hc]; rfl
     ·by_cases hk : k = 0
      ·rw [kindS_4.2 (by omega)]; subst hk; rfl
      ·rw [kindS_5.2 (by omega), show (k == 0) = false by simp [hk]]; rfl
 have H1 := Lib.hid h1
 have H2 := Lib.hid h2
 have H3 := Lib.hid h3
 have HP := Lib.hid hp
 clear h1 h2 h3 hp
 go_enter Tryz.func144, Tryz.ntmps144
 go_wp2_with fail
 refine (within_at c 4352 19 B1 _ (by omega) (by omega) (by omega) (by omega) H1).mono ?_
 rintro e w' ⟨rfl, rfl⟩
 cases B1
 case true => go_wp2; go_ret; rw [HK.out]; exact ⟨rfl, rfl⟩
 go_wp2_with fail
 refine (within_at c 4449 21 B2 _ (by omega) (by omega) (by omega) (by omega) H2).mono ?_
 rintro e w' ⟨rfl, rfl⟩
 cases B2
 case true => go_wp2; go_ret; rw [HK.out]; exact ⟨rfl, rfl⟩
 go_wp2_with fail
 refine (within_at c 4520 27 B3 _ (by omega) (by omega) (by omega) (by omega) H3).mono ?_
 rintro e w' ⟨rfl, rfl⟩
 cases B3
 case true => go_wp2; go_ret; rw [HK.out]; exact ⟨rfl, rfl⟩
 go_wp2_with fail
 refine (parts_at c i j k b _ HP).mono ?_
 rintro e w' ⟨rfl, rfl⟩
 cases b
 ·go_wp2; go_ret; rw [HK.out]; exact ⟨rfl, rfl⟩
 ·cases Z
  ·go_wp2; go_ret; rw [HK.out]; exact ⟨rfl, rfl⟩
  ·go_wp2; go_ret; rw [HK.out]; exact ⟨rfl, rfl⟩
theorem kind_at (c k : Int) (w : World) (h : Hid (kindS c = k)) :
 Calls Tryz.prog 144 #[.int .i64 c] w fun e w' => e = .returned (.int .i64 k) ∧ w = w' := h.out ▸ kind_any c w
set_option maxHeartbeats 1000000 in
theorem hdec_at (c : Int) (L : List Int) (w : World) (h : Hid (decS c = L)) :
 Calls Tryz.prog 138 #[.int .i64 c] w (GivesH L w) := by
 obtain ⟨i, j, k, b, hp⟩ : ∃ i j k b, partsS c = (i, j, k, b) := ⟨_, _, _, _, rfl⟩
 have hd := decS_of hp
 rw [h.out] at hd
 have HP := Lib.hid hp
 clear h
 rcases partsS_cases hp with ⟨rfl, rfl, rfl, rfl, hc⟩ | ⟨rfl, hi0, hi1, hj0, hj1, hk0, hk1, hc⟩
 ·have e : L = [] := hd
  subst e
  clear hp hd hc
  go_enter Tryz.func138, Tryz.ntmps138
  go_wp2_with fail
  refine (parts_at c 0 0 0 false _ HP).mono ?_
  rintro e w' ⟨rfl, rfl⟩
  go_wp2
  go_ret
  exact ⟨none, 0, rfl, fun k hk => by simp at hk, Below.refl _ _⟩
 ·by_cases hk : k = 0
  ·subst hk
   have e : L = [4352 + i, 4449 + j] := hd
   subst e
   clear hp hd hc
   go_enter Tryz.func138, Tryz.ntmps138
   go_wp2_with fail
   refine (parts_at c i j 0 true _ HP).mono ?_
   rintro e w' ⟨rfl, rfl⟩
   go_wp2
   go_ret
   exact ⟨_, _, rfl, ints_lit_at _ _ [4352 + i, 4449 + j] _ rfl, (Below.refl _ _).alloc (Nat.le_refl _) _⟩
  ·have e : L = [4352 + i, 4449 + j, 4519 + k] := by rw [hd]; simp [hk]
   subst e
   have hz : (k == 0) = false := by simp [hk]
   clear hp hd hc
   go_enter Tryz.func138, Tryz.ntmps138
   go_wp2_with fail
   refine (parts_at c i j k true _ HP).mono ?_
   rintro e w' ⟨rfl, rfl⟩
   go_wp2
   go_ret
   exact ⟨_, _, rfl, ints_lit_at _ _ [4352 + i, 4449 + j, 4519 + k] _ rfl, (Below.refl _ _).alloc (Nat.le_refl _) _⟩
set_option maxHeartbeats 1000000 in
theorem hcomp_at (a b x : Int) (o : Bool) (w : World) (h : Hid (compS a b = (x, o))) :
 Calls Tryz.prog 116 #[.int .i64 a, .int .i64 b] w fun e w' => e = .returned (.tuple #[.int .i64 x, .bool o]) ∧ w = w' := by
 obtain ⟨k1, h1⟩ : ∃ k, Hid (kindS a = k) := ⟨_, rfl⟩
 obtain ⟨k2, h2⟩ : ∃ k, Hid (kindS b = k) := ⟨_, rfl⟩
 by_cases g1 : k1 = 1
 ·subst g1
  by_cases g2 : k2 = 2
  ·subst g2
   have hx := h.out
   rw [compS_12 h1.out h2.out] at hx
   simp only [Prod.mk.injEq] at hx
   obtain ⟨hx, rfl⟩ := hx
   have a1 := kindS_1.1 h1.out
   have b1 := kindS_2.1 h2.out
   obtain ⟨a0, a1⟩ := a1
   obtain ⟨b0, b1⟩ := b1
   clear h
   go_enter Tryz.func116, Tryz.ntmps116
   go_wp2_with fail
   refine (kind_at a 1 _ h1).mono ?_
   rintro e w' ⟨rfl, rfl⟩
   go_wp2_with fail
   refine (kind_at b 2 _ h2).mono ?_
   rintro e w' ⟨rfl, rfl⟩
   go_wp2
   go_ret2
   exact ⟨rfl, rfl⟩
  ·have hx := h.out
   rw [compS_no (by rw [h2.out]; exact fun h => g2 h.2) (by rw [h1.out]; exact fun h => absurd h.1 (by decide))] at hx
   simp only [Prod.mk.injEq] at hx
   obtain ⟨rfl, rfl⟩ := hx
   have z2 : (k2 == 2) = false := by simp [g2]
   clear h
   go_enter Tryz.func116, Tryz.ntmps116
   go_wp2_with fail
   refine (kind_at a 1 _ h1).mono ?_
   rintro e w' ⟨rfl, rfl⟩
   go_wp2_with fail
   refine (kind_at b k2 _ h2).mono ?_
   rintro e w' ⟨rfl, rfl⟩
   go_wp2
   go_ret2
   exact ⟨rfl, rfl⟩
 ·by_cases g4 : k1 = 4
  ·subst g4
   by_cases g3 : k2 = 3
   ·subst g3
    have hx := h.out
    rw [compS_43 h1.out h2.out] at hx
    simp only [Prod.mk.injEq] at hx
    obtain ⟨hx, rfl⟩ := hx
    have a1 := kindS_4.1 h1.out
    have b1 := kindS_3.1 h2.out
    obtain ⟨a0, a1, _⟩ := a1
    obtain ⟨b0, b1⟩ := b1
    clear h
    go_enter Tryz.func116, Tryz.ntmps116
    go_wp2_with fail
    refine (kind_at a 4 _ h1).mono ?_
    rintro e w' ⟨rfl, rfl⟩
    go_wp2_with fail
    refine (kind_at b 3 _ h2).mono ?_
    rintro e w' ⟨rfl, rfl⟩
    go_wp2
    go_ret2
    exact ⟨rfl, rfl⟩
   ·have hx := h.out
    rw [compS_no (by rw [h1.out]; exact fun h => absurd h.1 (by decide)) (by rw [h2.out]; exact fun h => g3 h.2)] at hx
    simp only [Prod.mk.injEq] at hx
    obtain ⟨rfl, rfl⟩ := hx
    have z2 : (k2 == 3) = false := by simp [g3]
    clear h
    go_enter Tryz.func116, Tryz.ntmps116
    go_wp2_with fail
    refine (kind_at a 4 _ h1).mono ?_
    rintro e w' ⟨rfl, rfl⟩
    go_wp2_with fail
    refine (kind_at b k2 _ h2).mono ?_
    rintro e w' ⟨rfl, rfl⟩
    go_wp2
    go_ret2
    exact ⟨rfl, rfl⟩
  ·have hx := h.out
   rw [compS_no (by rw [h1.out]; exact fun h => g1 h.1) (by rw [h1.out]; exact fun h => g4 h.1)] at hx
   simp only [Prod.mk.injEq] at hx
   obtain ⟨rfl, rfl⟩ := hx
   have z1 : (k1 == 1) = false := by simp [g1]
   have z2 : (k1 == 4) = false := by simp [g4]
   clear h
   go_enter Tryz.func116, Tryz.ntmps116
   go_wp2_with fail
   refine (kind_at a k1 _ h1).mono ?_
   rintro e w' ⟨rfl, rfl⟩
   go_wp2_with fail
   refine (kind_at b k2 _ h2).mono ?_
   rintro e w' ⟨rfl, rfl⟩
   go_wp2
   go_ret2
   exact ⟨rfl, rfl⟩
set_option maxHeartbeats 400000 in
theorem syl_at (c : Int) (B : Bool) (w : World) (hB : Hid (decide (44032 ≤ c ∧ c ≤ 55203) = B)) :
 Calls Tryz.prog 53 #[.int .i64 c] w fun e w' => e = .returned (.bool B) ∧ w = w' := by
 by_cases g1 : 44032 ≤ c
 ·by_cases g2 : c ≤ 55203
  ·have e : B = true := by rw [← hB.out]; exact decide_eq_true ⟨g1, g2⟩
   subst e
   clear hB
   go_enter Tryz.func53, Tryz.ntmps53
   go_wp2
   go_ret
   exact ⟨rfl, rfl⟩
  ·have e : B = false := by rw [← hB.out]; exact decide_eq_false (fun h => g2 h.2)
   subst e
   have d2 : decide (c ≤ 55203) = false := decide_eq_false g2
   clear hB
   go_enter Tryz.func53, Tryz.ntmps53
   go_wp2
   go_ret
   exact ⟨rfl, rfl⟩
 ·have e : B = false := by rw [← hB.out]; exact decide_eq_false (fun h => g1 h.1)
  subst e
  have d2 : decide (44032 ≤ c) = false := decide_eq_false g1
  clear hB
  go_enter Tryz.func53, Tryz.ntmps53
  go_wp2
  go_ret
  exact ⟨rfl, rfl⟩
set_option maxHeartbeats 1000000 in
theorem rparts_out (c : Int) (w : World) (h : c < 44032 ∨ 55203 < c) :
 Calls Tryz.prog 128 #[.int .i64 c] w fun e w' => e = .returned (.tuple #[.int .i64 0, .int .i64 0, .int .i64 0, .bool false]) ∧ w = w' := by
 have HB : Hid (decide (44032 ≤ c ∧ c ≤ 55203) = false) := decide_eq_false (by omega)
 clear h
 go_enter Tryz.func128, Tryz.ntmps128
 go_wp2
 go_loop [6] (fun i => ∃ n : Nat, n ≤ 19 ∧ i = .int .i64 n) (fun i => 19 - (intOf i).toNat)
 case atStart => exact ⟨0, by omega, rfl⟩
 case round =>
  obtain ⟨n, hn, rfl⟩ := hrel
  by_cases hlt : n < 19
  ·go_wp2
   go_loop [7] (fun j => ∃ m : Nat, m ≤ 21 ∧ j = .int .i64 m) (fun j => 21 - (intOf j).toNat)
   case atStart => exact ⟨0, by omega, rfl⟩
   case round =>
    obtain ⟨m, hm, rfl⟩ := hrel
    by_cases hlm : m < 21
    ·go_wp2_with fail
     refine (syl_at c false _ HB).mono ?_
     rintro e w' ⟨rfl, rfl⟩
     go_wp2
     go_round
     case rel => exact ⟨m + 1, by omega, by go_num⟩
     case measure => simp [intOf]; omega
    ·go_wp2
     go_round
     case rel => exact ⟨n + 1, by omega, by go_num⟩
     case measure => simp [intOf]; omega
  ·go_wp2
   try simp only [Exit.inBlock, Exit.then]
   refine bodyPost_ret (results_tmp4 rfl _ _ _) rfl ?_
   exact ⟨rfl, rfl⟩
set_option maxHeartbeats 1000000 in
theorem rparts_in (c i j k : Int) (w : World) (hi0 : 0 ≤ i) (hi1 : i < 19) (hj0 : 0 ≤ j) (hj1 : j < 21) (hk0 : 0 ≤ k) (hk1 : k < 28) (hc : c = 44032 + (21 * i + j) * 28 + k) :
 Calls Tryz.prog 128 #[.int .i64 c] w fun e w' => e = .returned (.tuple #[.int .i64 i, .int .i64 j, .int .i64 k, .bool true]) ∧ w = w' := by
 have HB : Hid (decide (44032 ≤ c ∧ c ≤ 55203) = true) := decide_eq_true (by omega)
 have c0 : 44032 ≤ c := by omega
 have c1 : c ≤ 55203 := by omega
 have HC := Lib.hid hc
 clear hc
 go_enter Tryz.func128, Tryz.ntmps128
 go_wp2
 go_loop [6] (fun q => ∃ n : Nat, n ≤ 19 ∧ q = .int .i64 n ∧ Hid ((n : Int) ≤ i)) (fun q => 19 - (intOf q).toNat)
 case atStart => exact ⟨0, by omega, rfl, by unfold Hid; omega⟩
 case round =>
  obtain ⟨n, hn, rfl, hni⟩ := hrel
  have hlt : n < 19 := by have := hni.out; omega
  go_wp2
  go_loop [7] (fun q => ∃ m : Nat, m ≤ 21 ∧ q = .int .i64 m ∧ Hid ((n : Int) = i → (m : Int) ≤ j)) (fun q => 21 - (intOf q).toNat)
  case atStart => exact ⟨0, by omega, rfl, by unfold Hid; omega⟩
  case round =>
   obtain ⟨m, hm, rfl, hmj⟩ := hrel
   by_cases hlm : m < 21
   ·obtain ⟨x, hx⟩ : ∃ x, c - 44032 - (21 * (n : Int) + (m : Int)) * 28 = x := ⟨_, rfl⟩
    have x0 : 0 ≤ x := by have := hni.out; have := hmj.out; have := HC.out; omega
    by_cases hx1 : x < 28
    ·have e1 : (n : Int) = i := by have := hni.out; have := hmj.out; have := HC.out; omega
     have e2 : (m : Int) = j := by have := hni.out; have := hmj.out; have := HC.out; omega
     have e3 : x = k := by have := HC.out; omega
     have E1 := Lib.hid e1
     have E2 := Lib.hid e2
     have E3 := Lib.hid e3
     clear e1 e2 e3
     go_wp2_with fail
     refine (syl_at c true _ HB).mono ?_
     rintro e w' ⟨rfl, rfl⟩
     go_wp2
     try simp only [Exit.inBlock, Exit.then]
     refine bodyPost_ret (results_tmp4 rfl _ _ _) rfl ?_
     rw [E1.out, E2.out, E3.out]
     exact ⟨rfl, rfl⟩
    ·have d2 : decide (x < 28) = false := decide_eq_false hx1
     have HN : Hid ((n : Int) = i → ((m + 1 : Nat) : Int) ≤ j) := by
      unfold Hid; intro e; have := HC.out; omega
     go_wp2_with fail
     refine (syl_at c true _ HB).mono ?_
     rintro e w' ⟨rfl, rfl⟩
     go_wp2
     go_round
     case rel => exact ⟨m + 1, by omega, by go_num, HN⟩
     case measure => simp [intOf]; omega
   ·have HN : Hid (((n + 1 : Nat) : Int) ≤ i) := by
     unfold Hid; have := hni.out; have h2 := hmj.out; by_cases e : (n : Int) = i
     ·have := h2 e; omega
     ·omega
    go_wp2
    go_round
    case rel => exact ⟨n + 1, by omega, by go_num, HN⟩
    case measure => simp [intOf]; omega
theorem rparts_at (c i j k : Int) (b : Bool) (w : World) (h : Hid (partsS c = (i, j, k, b))) :
 Calls Tryz.prog 128 #[.int .i64 c] w fun e w' => e = .returned (.tuple #[.int .i64 i, .int .i64 j, .int .i64 k, .bool b]) ∧ w = w' := by
 rcases partsS_cases h.out with ⟨rfl, rfl, rfl, rfl, hc⟩ | ⟨rfl, hi0, hi1, hj0, hj1, hk0, hk1, hc⟩
 ·exact rparts_out c w hc
 ·exact rparts_in c i j k w hi0 hi1 hj0 hj1 hk0 hk1 hc
set_option maxHeartbeats 1000000 in
theorem rkind_any (c : Int) (w : World) :
 Calls Tryz.prog 108 #[.int .i64 c] w fun e w' => e = .returned (.int .i64 (kindS c)) ∧ w = w' := by
 have hcases : c < 4352 ∨ (4352 ≤ c ∧ c < 4371) ∨ (4371 ≤ c ∧ c < 4449) ∨ (4449 ≤ c ∧ c < 4470) ∨ (4470 ≤ c ∧ c < 4520) ∨ (4520 ≤ c ∧ c < 4547) ∨ (4547 ≤ c ∧ c < 44032) ∨ (44032 ≤ c ∧ c ≤ 55203) ∨ 55203 < c := by omega
 rcases hcases with h | h | h | h | h | h | h | h | h
 ·have HB : Hid (decide (44032 ≤ c ∧ c ≤ 55203) = false) := decide_eq_false (by omega)
  have p1 : decide (4352 ≤ c) = false := decide_eq_false (by omega)
  have p2 : decide (4449 ≤ c) = false := decide_eq_false (by omega)
  have p3 : decide (4520 ≤ c) = false := decide_eq_false (by omega)
  have HK : Hid (kindS c = 0) := kindS_0 (by omega) (by omega) (by omega) (by omega)
  go_enter Tryz.func108, Tryz.ntmps108
  go_wp2_with fail
  refine (syl_at c false _ HB).mono ?_
  rintro e w' ⟨rfl, rfl⟩
  go_wp2
  go_ret
  rw [HK.out]
  exact ⟨rfl, rfl⟩
 ·have p1 : 4352 ≤ c := by omega
  have q1 : c ≤ 4370 := by omega
  have p2 : decide (4449 ≤ c) = false := decide_eq_false (by omega)
  have p3 : decide (4520 ≤ c) = false := decide_eq_false (by omega)
  have HK : Hid (kindS c = 1) := kindS_1.2 (by omega)
  go_enter Tryz.func108, Tryz.ntmps108
  go_wp2
  go_ret
  rw [HK.out]
  exact ⟨rfl, rfl⟩
 ·have HB : Hid (decide (44032 ≤ c ∧ c ≤ 55203) = false) := decide_eq_false (by omega)
  have p1 : 4352 ≤ c := by omega
  have q1 : decide (c ≤ 4370) = false := decide_eq_false (by omega)
  have p2 : decide (4449 ≤ c) = false := decide_eq_false (by omega)
  have p3 : decide (4520 ≤ c) = false := decide_eq_false (by omega)
  have HK : Hid (kindS c = 0) := kindS_0 (by omega) (by omega) (by omega) (by omega)
  go_enter Tryz.func108, Tryz.ntmps108
  go_wp2_with fail
  refine (syl_at c false _ HB).mono ?_
  rintro e w' ⟨rfl, rfl⟩
  go_wp2
  go_ret
  rw [HK.out]
  exact ⟨rfl, rfl⟩
 ·have p1 : 4352 ≤ c := by omega
  have q1 : decide (c ≤ 4370) = false := decide_eq_false (by omega)
  have p2 : 4449 ≤ c := by omega
  have q2 : c ≤ 4469 := by omega
  have p3 : decide (4520 ≤ c) = false := decide_eq_false (by omega)
  have HK : Hid (kindS c = 2) := kindS_2.2 (by omega)
  go_enter Tryz.func108, Tryz.ntmps108
  go_wp2
  go_ret
  rw [HK.out]
  exact ⟨rfl, rfl⟩
 ·have HB : Hid (decide (44032 ≤ c ∧ c ≤ 55203) = false) := decide_eq_false (by omega)
  have p1 : 4352 ≤ c := by omega
  have q1 : decide (c ≤ 4370) = false := decide_eq_false (by omega)
  have p2 : 4449 ≤ c := by omega
  have q2 : decide (c ≤ 4469) = false := decide_eq_false (by omega)
  have p3 : decide (4520 ≤ c) = false := decide_eq_false (by omega)
  have HK : Hid (kindS c = 0) := kindS_0 (by omega) (by omega) (by omega) (by omega)
  go_enter Tryz.func108, Tryz.ntmps108
  go_wp2_with fail
  refine (syl_at c false _ HB).mono ?_
  rintro e w' ⟨rfl, rfl⟩
  go_wp2
  go_ret
  rw [HK.out]
  exact ⟨rfl, rfl⟩
 ·have p1 : 4352 ≤ c := by omega
  have q1 : decide (c ≤ 4370) = false := decide_eq_false (by omega)
  have p2 : 4449 ≤ c := by omega
  have q2 : decide (c ≤ 4469) = false := decide_eq_false (by omega)
  have p3 : 4520 ≤ c := by omega
  have q3 : c ≤ 4546 := by omega
  have HK : Hid (kindS c = 3) := kindS_3.2 (by omega)
  go_enter Tryz.func108, Tryz.ntmps108
  go_wp2
  go_ret
  rw [HK.out]
  exact ⟨rfl, rfl⟩
 ·have HB : Hid (decide (44032 ≤ c ∧ c ≤ 55203) = false) := decide_eq_false (by omega)
  have p1 : 4352 ≤ c := by omega
  have q1 : decide (c ≤ 4370) = false := decide_eq_false (by omega)
  have p2 : 4449 ≤ c := by omega
  have q2 : decide (c ≤ 4469) = false := decide_eq_false (by omega)
  have p3 : 4520 ≤ c := by omega
  have q3 : decide (c ≤ 4546) = false := decide_eq_false (by omega)
  have HK : Hid (kindS c = 0) := kindS_0 (by omega) (by omega) (by omega) (by omega)
  go_enter Tryz.func108, Tryz.ntmps108
  go_wp2_with fail
  refine (syl_at c false _ HB).mono ?_
  rintro e w' ⟨rfl, rfl⟩
  go_wp2
  go_ret
  rw [HK.out]
  exact ⟨rfl, rfl⟩
 ·have HB : Hid (decide (44032 ≤ c ∧ c ≤ 55203) = true) := decide_eq_true (by omega)
  obtain ⟨x, hx⟩ : ∃ x, c - 44032 = x := ⟨_, rfl⟩
  have x0 : 0 ≤ x := by omega
  have x1 : x < 11172 := by omega
  have p1 : 4352 ≤ c := by omega
  have q1 : decide (c ≤ 4370) = false := decide_eq_false (by omega)
  have p2 : 4449 ≤ c := by omega
  have q2 : decide (c ≤ 4469) = false := decide_eq_false (by omega)
  have p3 : 4520 ≤ c := by omega
  have q3 : decide (c ≤ 4546) = false := decide_eq_false (by omega)
  by_cases hm : x % 28 = 0
  ·have e1 : x.tmod 28 = 0 := by rw [tmod_pos _ _ x0]; exact hm
   have HK : Hid (kindS c = 4) := kindS_4.2 (by omega)
   go_enter Tryz.func108, Tryz.ntmps108
   go_wp2_with fail
   refine (syl_at c true _ HB).mono ?_
   rintro e w' ⟨rfl, rfl⟩
   go_wp2
   go_ret
   rw [HK.out]
   exact ⟨rfl, rfl⟩
  ·have e1 : (x.tmod 28 == 0) = false := by rw [tmod_pos _ _ x0]; simp [hm]
   have e2 : (x % 28 == 0) = false := by simp [hm]
   have HK : Hid (kindS c = 5) := kindS_5.2 (by omega)
   go_enter Tryz.func108, Tryz.ntmps108
   go_wp2_with fail
   refine (syl_at c true _ HB).mono ?_
   rintro e w' ⟨rfl, rfl⟩
   go_wp2
   go_ret
   rw [HK.out]
   exact ⟨rfl, rfl⟩
 ·have HB : Hid (decide (44032 ≤ c ∧ c ≤ 55203) = false) := decide_eq_false (by omega)
  have p1 : 4352 ≤ c := by omega
  have q1 : decide (c ≤ 4370) = false := decide_eq_false (by omega)
  have p2 : 4449 ≤ c := by omega
  have q2 : decide (c ≤ 4469) = false := decide_eq_false (by omega)
  have p3 : 4520 ≤ c := by omega
  have q3 : decide (c ≤ 4546) = false := decide_eq_false (by omega)
  have HK : Hid (kindS c = 0) := kindS_0 (by omega) (by omega) (by omega) (by omega)
  go_enter Tryz.func108, Tryz.ntmps108
  go_wp2_with fail
  refine (syl_at c false _ HB).mono ?_
  rintro e w' ⟨rfl, rfl⟩
  go_wp2
  go_ret
  rw [HK.out]
  exact ⟨rfl, rfl⟩
theorem rkind_at (c k : Int) (w : World) (h : Hid (kindS c = k)) :
 Calls Tryz.prog 108 #[.int .i64 c] w fun e w' => e = .returned (.int .i64 k) ∧ w = w' := h.out ▸ rkind_any c w
set_option maxHeartbeats 1000000 in
theorem rhdec_at (c : Int) (L : List Int) (w : World) (h : Hid (decS c = L)) :
 Calls Tryz.prog 106 #[.int .i64 c] w (GivesH L w) := by
 obtain ⟨i, j, k, b, hp⟩ : ∃ i j k b, partsS c = (i, j, k, b) := ⟨_, _, _, _, rfl⟩
 have hd := decS_of hp
 rw [h.out] at hd
 have HP := Lib.hid hp
 clear h
 rcases partsS_cases hp with ⟨rfl, rfl, rfl, rfl, hc⟩ | ⟨rfl, hi0, hi1, hj0, hj1, hk0, hk1, hc⟩
 ·have e : L = [] := hd
  subst e
  clear hp hd hc
  go_enter Tryz.func106, Tryz.ntmps106
  go_wp2_with fail
  refine (rparts_at c 0 0 0 false _ HP).mono ?_
  rintro e w' ⟨rfl, rfl⟩
  go_wp2
  go_ret
  exact ⟨none, 0, rfl, fun k hk => by simp at hk, Below.refl _ _⟩
 ·by_cases hk : k = 0
  ·subst hk
   have e : L = [4352 + i, 4449 + j] := hd
   subst e
   clear hp hd hc
   go_enter Tryz.func106, Tryz.ntmps106
   go_wp2_with fail
   refine (rparts_at c i j 0 true _ HP).mono ?_
   rintro e w' ⟨rfl, rfl⟩
   go_wp2
   go_ret
   exact ⟨_, _, rfl, ints_lit_at _ _ [4352 + i, 4449 + j] _ rfl, (Below.refl _ _).alloc (Nat.le_refl _) _⟩
  ·have e : L = [4352 + i, 4449 + j, 4519 + k] := by rw [hd]; simp [hk]
   subst e
   have hz : (k == 0) = false := by simp [hk]
   clear hp hd hc
   go_enter Tryz.func106, Tryz.ntmps106
   go_wp2_with fail
   refine (rparts_at c i j k true _ HP).mono ?_
   rintro e w' ⟨rfl, rfl⟩
   go_wp2
   go_ret
   exact ⟨_, _, rfl, ints_lit_at _ _ [4352 + i, 4449 + j, 4519 + k] _ rfl, (Below.refl _ _).alloc (Nat.le_refl _) _⟩
set_option maxHeartbeats 1000000 in
theorem rhcomp_at (a b x : Int) (o : Bool) (w : World) (h : Hid (compS a b = (x, o))) :
 Calls Tryz.prog 76 #[.int .i64 a, .int .i64 b] w fun e w' => e = .returned (.tuple #[.int .i64 x, .bool o]) ∧ w = w' := by
 obtain ⟨k1, h1⟩ : ∃ k, Hid (kindS a = k) := ⟨_, rfl⟩
 obtain ⟨k2, h2⟩ : ∃ k, Hid (kindS b = k) := ⟨_, rfl⟩
 by_cases g1 : k1 = 1
 ·subst g1
  by_cases g2 : k2 = 2
  ·subst g2
   have hx := h.out
   rw [compS_12 h1.out h2.out] at hx
   simp only [Prod.mk.injEq] at hx
   obtain ⟨hx, rfl⟩ := hx
   have a1 := kindS_1.1 h1.out
   have b1 := kindS_2.1 h2.out
   obtain ⟨a0, a1⟩ := a1
   obtain ⟨b0, b1⟩ := b1
   clear h
   go_enter Tryz.func76, Tryz.ntmps76
   go_wp2_with fail
   refine (rkind_at a 1 _ h1).mono ?_
   rintro e w' ⟨rfl, rfl⟩
   go_wp2_with fail
   refine (rkind_at b 2 _ h2).mono ?_
   rintro e w' ⟨rfl, rfl⟩
   go_wp2
   go_ret2
   exact ⟨rfl, rfl⟩
  ·have hx := h.out
   rw [compS_no (by rw [h2.out]; exact fun h => g2 h.2) (by rw [h1.out]; exact fun h => absurd h.1 (by decide))] at hx
   simp only [Prod.mk.injEq] at hx
   obtain ⟨rfl, rfl⟩ := hx
   have z2 : (k2 == 2) = false := by simp [g2]
   clear h
   go_enter Tryz.func76, Tryz.ntmps76
   go_wp2_with fail
   refine (rkind_at a 1 _ h1).mono ?_
   rintro e w' ⟨rfl, rfl⟩
   go_wp2_with fail
   refine (rkind_at b k2 _ h2).mono ?_
   rintro e w' ⟨rfl, rfl⟩
   go_wp2_with fail
   refine (rkind_at a 1 _ h1).mono ?_
   rintro e w' ⟨rfl, rfl⟩
   go_wp2
   go_ret2
   exact ⟨rfl, rfl⟩
 ·by_cases g4 : k1 = 4
  ·subst g4
   by_cases g3 : k2 = 3
   ·subst g3
    have hx := h.out
    rw [compS_43 h1.out h2.out] at hx
    simp only [Prod.mk.injEq] at hx
    obtain ⟨hx, rfl⟩ := hx
    have a1 := kindS_4.1 h1.out
    have b1 := kindS_3.1 h2.out
    obtain ⟨a0, a1, _⟩ := a1
    obtain ⟨b0, b1⟩ := b1
    clear h
    go_enter Tryz.func76, Tryz.ntmps76
    go_wp2_with fail
    refine (rkind_at a 4 _ h1).mono ?_
    rintro e w' ⟨rfl, rfl⟩
    go_wp2_with fail
    refine (rkind_at a 4 _ h1).mono ?_
    rintro e w' ⟨rfl, rfl⟩
    go_wp2_with fail
    refine (rkind_at b 3 _ h2).mono ?_
    rintro e w' ⟨rfl, rfl⟩
    go_wp2
    go_ret2
    exact ⟨rfl, rfl⟩
   ·have hx := h.out
    rw [compS_no (by rw [h1.out]; exact fun h => absurd h.1 (by decide)) (by rw [h2.out]; exact fun h => g3 h.2)] at hx
    simp only [Prod.mk.injEq] at hx
    obtain ⟨rfl, rfl⟩ := hx
    have z2 : (k2 == 3) = false := by simp [g3]
    clear h
    go_enter Tryz.func76, Tryz.ntmps76
    go_wp2_with fail
    refine (rkind_at a 4 _ h1).mono ?_
    rintro e w' ⟨rfl, rfl⟩
    go_wp2_with fail
    refine (rkind_at a 4 _ h1).mono ?_
    rintro e w' ⟨rfl, rfl⟩
    go_wp2_with fail
    refine (rkind_at b k2 _ h2).mono ?_
    rintro e w' ⟨rfl, rfl⟩
    go_wp2
    go_ret2
    exact ⟨rfl, rfl⟩
  ·have hx := h.out
   rw [compS_no (by rw [h1.out]; exact fun h => g1 h.1) (by rw [h1.out]; exact fun h => g4 h.1)] at hx
   simp only [Prod.mk.injEq] at hx
   obtain ⟨rfl, rfl⟩ := hx
   have z1 : (k1 == 1) = false := by simp [g1]
   have z2 : (k1 == 4) = false := by simp [g4]
   clear h
   go_enter Tryz.func76, Tryz.ntmps76
   go_wp2_with fail
   refine (rkind_at a k1 _ h1).mono ?_
   rintro e w' ⟨rfl, rfl⟩
   go_wp2_with fail
   refine (rkind_at a k1 _ h1).mono ?_
   rintro e w' ⟨rfl, rfl⟩
   go_wp2
   go_ret2
   exact ⟨rfl, rfl⟩
end Go.Proofs.YtopaojjodkoidaaGreatDoor
