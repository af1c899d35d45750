/-
  mapping: plain mathematics: what the statuses make of a sequence.
  mapping: contracts of the references Map, Stable, Deviations.
-/
import Derived.Test.YtiafhifbgdkgaaaGreatDoorPkZ
import Derived.Test.YtiafhifbgdkgaaaGreatDoorQTblQ
import Derived.Test.YtiafhifbgdkgaaaGreatDoorPkT
import Derived.Test.YtiafhifbgdkgaaaGreatDoorQTblR
import Derived.Test.YtiafhifbgdkgaaaGreatDoorPkS
import Derived.Test.YtiafhifbgdkgaaaGreatDoorQTabRN
set_option linter.unusedSimpArgs false
set_option linter.unusedVariables false
namespace Go.Proofs.YtiafhifbgdkgaaaGreatDoor
set_option linter.unusedVariables false

/-- What becomes of one code point that is not disallowed. -/
def map1 (T : Tb) (c : Int) : List Int := if staT T c = 3 then mapsT T c else if staT T c = 1 ∨ staT T c = 4 then [c] else []
def mapF (T : Tb) (l : List Int) : List Int := l.flatMap (map1 T)
/-- The first disallowed code point, from k on. -/
def badK (T : Tb) : Nat → List Int → Option Nat
  | _, [] => none
  | k, c :: r => if staT T c = 0 then some k else badK T (k + 1) r
/-- Map: the result, the index, the error (16 status, 7 full). -/
def mapR (T : Tb) (l : List Int) : List Int × Nat × Int :=
  if accE T l ≠ 0 then ([], 0, accE T l) else match badK T 0 l with
    | some i => ([], i, 16)
    | none => if 4096 < (mapF T l).length then ([], 0, 7) else (mapF T l, 0, 0)
def stbB (T : Tb) (l : List Int) : Bool := decide ((mapR T l).2.2 = 0) && ((mapR T l).1 == l)
def devK (T : Tb) : Nat → List Int → List Int
  | _, [] => []
  | k, c :: r => (if staT T c = 4 then [(k : Int)] else []) ++ devK T (k + 1) r
def devT (T : Tb) (l : List Int) : List Int := if accE T l ≠ 0 then [] else devK T 0 l

theorem badK_none {T : Tb} : ∀ (k : Nat) (l : List Int), badK T k l = none ↔ ∀ c ∈ l, staT T c ≠ 0
  | _, [] => by simp [badK]
  | k, c :: r => by
    rw [badK]
    by_cases h : staT T c = 0
    · rw [if_pos h]; simp [h]
    · rw [if_neg h, badK_none (k + 1) r]; simp [h]
theorem badK_some {T : Tb} : ∀ (k : Nat) (l : List Int) (i : Nat), badK T k l = some i → k ≤ i ∧ i < k + l.length ∧ staT T (l.getD (i - k) 0) = 0 ∧ ∀ j, j < i - k → staT T (l.getD j 0) ≠ 0
  | _, [], i, h => by cases h
  | k, c :: r, i, h => by
    rw [badK] at h
    by_cases hc : staT T c = 0
    · rw [if_pos hc] at h
      injection h with h
      subst h
      refine ⟨Nat.le_refl _, by simp, by simpa using hc, fun j hj => by omega⟩
    · rw [if_neg hc] at h
      obtain ⟨h1, h2, h3, h4⟩ := badK_some (k + 1) r i h
      have e : i - k = (i - (k + 1)) + 1 := by omega
      refine ⟨by omega, by simp; omega, by rw [e]; simpa using h3, fun j hj => ?_⟩
      cases j with
      | zero => simpa using hc
      | succ j => have := h4 j (by omega); simpa using this
theorem badK_append {T : Tb} : ∀ (k : Nat) (a b : List Int), badK T k (a ++ b) = (badK T k a).or (badK T (k + a.length) b)
  | k, [], b => by simp [badK]
  | k, c :: r, b => by
    rw [List.cons_append, badK, badK]
    by_cases h : staT T c = 0
    · rw [if_pos h, if_pos h]; rfl
    · rw [if_neg h, if_neg h, badK_append (k + 1) r b, List.length_cons]
      congr 2
      omega
theorem mapF_append (T : Tb) (a b : List Int) : mapF T (a ++ b) = mapF T a ++ mapF T b := by unfold mapF; rw [List.flatMap_append]

/-- What is mapped to in well-formed tables: at most eighteen scalar values. -/
theorem map1_sca {T : Tb} (h : checkT T = 0) {c : Int} (hc : scaB c = true) : (map1 T c).length ≤ 18 ∧ ∀ y ∈ map1 T c, scaB y = true := by
  have h4 := (check_rules h).2.2.2.1
  unfold map1
  split
  · unfold mapsT
    split
    · rename_i hu
      have := uppB_iff.1 hu
      refine ⟨by simp, fun y hy => ?_⟩
      rw [List.mem_singleton] at hy
      subst hy
      unfold scaB; simp; omega
    · by_cases hm : findM T.map c = []
      · rw [hm]; exact ⟨by simp, fun y hy => by cases hy⟩
      · have hmem := findM_mem hm
        unfold r4 at h4
        simp only [Bool.and_eq_true] at h4
        have := List.all_eq_true.1 h4.2.1 _ hmem
        unfold seqS at this
        simp only [Bool.and_eq_true, decide_eq_true_eq] at this
        exact ⟨this.1.2, fun y hy => List.all_eq_true.1 this.2 y hy⟩
  · split
    · refine ⟨by simp, fun y hy => ?_⟩
      rw [List.mem_singleton] at hy
      subst hy
      exact hc
    · exact ⟨by simp, fun y hy => by cases hy⟩
theorem mapF_sca {T : Tb} (h : checkT T = 0) : ∀ (l : List Int), l.all scaB = true → (mapF T l).length ≤ 18 * l.length ∧ (mapF T l).all scaB = true
  | [], _ => by simp [mapF]
  | c :: r, hl => by
    simp only [List.all_cons, Bool.and_eq_true] at hl
    obtain ⟨h1, h2⟩ := map1_sca h hl.1
    obtain ⟨h3, h4⟩ := mapF_sca h r hl.2
    have e : mapF T (c :: r) = map1 T c ++ mapF T r := by unfold mapF; rw [List.flatMap_cons]
    rw [e]
    refine ⟨by rw [List.length_append, List.length_cons]; omega, ?_⟩
    rw [List.all_append, h4, List.all_eq_true.2 h2]; rfl

/-- What stands in a result is valid or deviant. -/
theorem mapF_sta {T : Tb} (h : Made T) {l : List Int} : ∀ y ∈ mapF T l, staT T y = 1 ∨ staT T y = 4 := by
  intro y hy
  unfold mapF at hy
  rw [List.mem_flatMap] at hy
  obtain ⟨c, _, hy⟩ := hy
  unfold map1 at hy
  split at hy
  · exact (h.maps c).2 y hy
  · split at hy
    · rename_i hs
      rw [List.mem_singleton] at hy
      subst hy
      exact hs
    · cases hy
theorem mapF_same {T : Tb} : ∀ {l : List Int}, (∀ y ∈ l, staT T y = 1 ∨ staT T y = 4) → mapF T l = l
  | [], _ => rfl
  | c :: r, h => by
    have e : mapF T (c :: r) = map1 T c ++ mapF T r := by unfold mapF; rw [List.flatMap_cons]
    have hc := h c (by simp)
    rw [e, mapF_same (fun y hy => h y (by simp [hy]))]
    unfold map1
    rw [if_neg (by omega), if_pos hc]; rfl

theorem mapR_ok {T : Tb} {l : List Int} (h : (mapR T l).2.2 = 0) : accE T l = 0 ∧ badK T 0 l = none ∧ (mapF T l).length ≤ 4096 ∧ mapR T l = (mapF T l, 0, 0) := by
  unfold mapR at h ⊢
  split at h
  · rename_i h1; exact absurd h h1
  · rename_i h1
    have h1' : accE T l = 0 := by omega
    rw [if_neg (by omega)]
    cases hb : badK T 0 l with
    | some i => rw [hb] at h; simp at h
    | none =>
      rw [hb] at h
      simp only at h ⊢
      split at h
      · simp at h
      · rename_i h2
        rw [if_neg h2]
        exact ⟨h1', by first | rfl | trivial, by omega, by first | rfl | trivial⟩
theorem mapR_mk {T : Tb} {l : List Int} (h1 : accE T l = 0) (h2 : badK T 0 l = none) (h3 : (mapF T l).length ≤ 4096) : mapR T l = (mapF T l, 0, 0) := by
  unfold mapR
  rw [if_neg (by omega), h2]
  simp only
  rw [if_neg (by omega)]

/-- Map of a result of Map is the same result. -/
theorem map_twice {T : Tb} (h : Made T) {l : List Int} (he : (mapR T l).2.2 = 0) : mapR T (mapR T l).1 = ((mapR T l).1, 0, 0) ∧ stbB T (mapR T l).1 = true := by
  obtain ⟨h1, h2, h3, h4⟩ := mapR_ok he
  rw [h4]
  simp only
  obtain ⟨hc, hl, hs⟩ := accE_ok h1
  obtain ⟨s1, s2⟩ := mapF_sca hc l hs
  have hst := mapF_sta h (l := l)
  have hsame := mapF_same hst
  have e : mapR T (mapF T l) = (mapF T l, 0, 0) := by
    have := mapR_mk (T := T) (l := mapF T l) (accE_zero hc h3 s2) ((badK_none 0 _).2 (fun c hcm => by have := hst c hcm; omega)) (by rw [hsame]; exact h3)
    rwa [hsame] at this
  refine ⟨e, ?_⟩
  unfold stbB
  rw [e]; simp

/-- Map of two sequences. -/
theorem map_concat {T : Tb} (hc : checkT T = 0) {a b : List Int} (ha : a.all scaB = true) (hb : b.all scaB = true) (hl : 18 * (a.length + b.length) ≤ 4096) :
    ((mapR T a).2.2 = 0 ∨ (mapR T a).2.2 = 16) ∧ ((mapR T b).2.2 = 0 ∨ (mapR T b).2.2 = 16) ∧
    ((mapR T a).2.2 = 0 → (mapR T b).2.2 = 0 → mapR T (a ++ b) = ((mapR T a).1 ++ (mapR T b).1, 0, 0)) ∧
    ((mapR T a).2.2 ≠ 0 → (mapR T (a ++ b)).2.2 = 16 ∧ (mapR T (a ++ b)).1 = [] ∧ (mapR T (a ++ b)).2.1 < a.length) ∧
    ((mapR T a).2.2 = 0 → (mapR T b).2.2 ≠ 0 → (mapR T (a ++ b)).2.2 = 16 ∧ (mapR T (a ++ b)).1 = [] ∧ a.length ≤ (mapR T (a ++ b)).2.1) := by
  have ea : accE T a = 0 := accE_zero hc (by omega) ha
  have eb : accE T b = 0 := accE_zero hc (by omega) hb
  have hab : (a ++ b).all scaB = true := by rw [List.all_append, ha, hb]; rfl
  have eab : accE T (a ++ b) = 0 := accE_zero hc (by rw [List.length_append]; omega) hab
  have la := (mapF_sca hc a ha).1
  have lb := (mapF_sca hc b hb).1
  have lab := (mapF_sca hc (a ++ b) hab).1
  rw [List.length_append] at lab
  have key : ∀ l : List Int, accE T l = 0 → (mapF T l).length ≤ 4096 → mapR T l = match badK T 0 l with | some i => ([], i, 16) | none => (mapF T l, 0, 0) := by
    intro l h1 h2
    unfold mapR
    rw [if_neg (by omega)]
    cases badK T 0 l with
    | some i => rfl
    | none => simp only; rw [if_neg (by omega)]
  have ka := key a ea (by omega)
  have kb := key b eb (by omega)
  have kab := key (a ++ b) eab (by omega)
  have hap := badK_append (T := T) 0 a b
  rw [Nat.zero_add] at hap
  cases h1 : badK T 0 a with
  | some i =>
    rw [h1] at ka hap
    simp only at ka
    have hi := badK_some 0 a i h1
    have hor : badK T 0 (a ++ b) = some i := by rw [hap]; rfl
    rw [hor] at kab
    simp only at kab
    rw [ka, kab]
    refine ⟨.inr rfl, ?_, fun h => by simp at h, fun _ => ⟨rfl, rfl, by have := hi.2.1; simp only; omega⟩, fun h => by simp at h⟩
    rw [kb]
    cases badK T 0 b <;> simp
  | none =>
    rw [h1] at ka hap
    simp only at ka
    have hor : badK T 0 (a ++ b) = badK T a.length b := by rw [hap]; rfl
    rw [ka]
    cases h2 : badK T 0 b with
    | none =>
      rw [h2] at kb
      simp only at kb
      have h3 : badK T a.length b = none := (badK_none _ _).2 ((badK_none _ _).1 h2)
      rw [hor, h3] at kab
      simp only at kab
      rw [kb, kab, mapF_append]
      exact ⟨.inl rfl, .inl rfl, fun _ _ => rfl, fun h => absurd rfl h, fun _ h => absurd rfl h⟩
    | some i =>
      rw [h2] at kb
      simp only at kb
      cases h3 : badK T a.length b with
      | none => exact absurd ((badK_none 0 b).2 ((badK_none _ _).1 h3)) (by rw [h2]; simp)
      | some k =>
        have hk := badK_some _ _ _ h3
        rw [hor, h3] at kab
        simp only at kab
        rw [kb, kab]
        exact ⟨.inl rfl, .inr rfl, fun _ h => by simp at h, fun h => absurd rfl h, fun _ _ => ⟨rfl, rfl, hk.1⟩⟩

end Go.Proofs.YtiafhifbgdkgaaaGreatDoor

namespace Go.Proofs.YtiafhifbgdkgaaaGreatDoor
open Go.RowKit
set_option linter.unusedVariables false

theorem badK_first {T : Tb} : ∀ (m : Nat) (l : List Int) (k : Nat), k < l.length → (∀ j, j < k → staT T (l.getD j 0) ≠ 0) → staT T (l.getD k 0) = 0 → badK T m l = some (m + k)
  | m, [], k, h, _, _ => by simp at h
  | m, c :: r, 0, h, _, hz => by
    rw [badK, if_pos (by simpa using hz)]; rfl
  | m, c :: r, k + 1, h, hg, hz => by
    have h0 := hg 0 (by omega)
    rw [badK, if_neg (by simpa using h0), badK_first (m + 1) r k (by simpa using h) (fun j hj => by have := hg (j + 1) (by omega); simpa only [List.getD_cons_succ] using this) (by simpa only [List.getD_cons_succ] using hz)]
    rw [show m + 1 + k = m + (k + 1) by omega]
theorem badK_all {T : Tb} {l : List Int} (hg : ∀ j, j < l.length → staT T (l.getD j 0) ≠ 0) : badK T 0 l = none :=
  (badK_none 0 l).2 fun c hc => by
    obtain ⟨i, hi, rfl⟩ := List.getElem_of_mem hc
    have := hg i hi
    rwa [show l.getD i 0 = l[i] by simp [hi]] at this
theorem mapF_snoc (T : Tb) (l : List Int) (k : Nat) (h : k < l.length) : mapF T (l.take (k + 1)) = mapF T (l.take k) ++ map1 T (l.getD k 0) := by
  rw [take_snoc_int l k h, mapF_append]
  unfold mapF
  simp
theorem map1_map {T : Tb} {c : Int} (h : staT T c = 3) : map1 T c = mapsT T c := if_pos h
theorem map1_self {T : Tb} {c : Int} (h : staT T c = 1 ∨ staT T c = 4) : map1 T c = [c] := by unfold map1; rw [if_neg (by omega), if_pos h]
theorem map1_none {T : Tb} {c : Int} (h1 : staT T c ≠ 3) (h : ¬ (staT T c = 1 ∨ staT T c = 4)) : map1 T c = [] := by unfold map1; rw [if_neg h1, if_neg h]
theorem mapF_lenT {T : Tb} (hc : checkT T = 0) {l : List Int} (hs : l.all scaB = true) (k : Nat) : (mapF T (l.take k)).length ≤ 18 * k := by
  have h1 := (mapF_sca hc (l.take k) (by
    rw [List.all_eq_true] at hs ⊢
    exact fun c h => hs c (List.mem_of_mem_take h))).1
  have h2 : (l.take k).length ≤ k := by simp; omega
  omega
theorem mapR_acc {T : Tb} {l : List Int} (h : accE T l ≠ 0) : mapR T l = ([], 0, accE T l) := by unfold mapR; rw [if_pos h]
theorem mapR_bad {T : Tb} {l : List Int} {i : Nat} (h : accE T l = 0) (hb : badK T 0 l = some i) : mapR T l = ([], i, 16) := by unfold mapR; rw [if_neg (by omega), hb]
theorem mapR_end {T : Tb} {l : List Int} (h : accE T l = 0) (hb : badK T 0 l = none) : mapR T l = if 4096 < (mapF T l).length then ([], 0, 7) else (mapF T l, 0, 0) := by unfold mapR; rw [if_neg (by omega), hb]

theorem mapR_len (T : Tb) (l : List Int) : (mapR T l).1.length ≤ 4096 := by
  unfold mapR
  split
  · simp
  · cases badK T 0 l with
    | some i => simp
    | none =>
      simp only
      split
      · simp
      · simp only; omega

theorem racce_at (x : TV) (T : Tb) (p : Option Addr) (cap : Nat) (zs : List Int) (E : Int) (w : World) (hx : TabV w x T) (hcap : CapOf x) (hin : IntsIn w p zs) (hl : zs.length ≤ 17592186043904) (hE : Hid (accE T zs = E)) :
    Calls Tryz.prog 31 #[x.agg, .slice p zs.length cap] w (Gives (.int .i64 E) w) := by
  have hac := fun W (h1 : TabV W x T) h2 => racc_at x T p cap zs E W h1 hcap h2 hl hE
  have HE := Lib.hid (Env.new hx)
  have HI := Lib.hid hin
  obtain ⟨n, hn⟩ : ∃ n, zs.length = n := ⟨_, rfl⟩
  rw [hn] at hl hac ⊢
  have HAC := Lib.hid hac
  clear hx hin hn hcap hac
  simp only [TV.agg]
  go_enter Tryz.func31, Tryz.ntmps31
  obtain ⟨⟨k0, k1, k2, k3, k4, k5⟩, ⟨k6, k7, k8, k9, k10, k11⟩⟩ := HE.out.box.load
  go_wp2_with fail
  refine (HAC.out _ HE.out.tab (HI.out.below HE.out.bel)).mono ?_
  rintro e w1 ⟨rfl, hb1⟩
  replace HE := Lib.hid (HE.out.step hb1)
  clear hb1 k0 k1 k2 k3 k4 k5 k6 k7 k8 k9 k10 k11
  go_wp2
  go_ret
  exact ⟨rfl, HE.out.bel⟩

theorem map_one (w : World) (c : Int) : IntsIn (w.alloc (.cells #[.int .i64 c] 3)) (some ⟨w.heap.size, 0, none⟩) [c] := by
  intro k hk
  have : k = 0 := by simp at hk; exact hk
  subst this
  exact ⟨_, _, rfl, by simp [World.cell?_alloc_new]⟩

/-- What Map leaves. -/
def MapRet (L : List Int) (K : Nat) (E : Int) (w : World) (e : Ending) (w' : World) : Prop :=
  ∃ v, e = .returned (.tuple #[v, .int .i64 K, .int .i64 E]) ∧ Ints w' w.heap.size v L ∧ Below w.heap.size w w'

theorem devK_snoc (T : Tb) : ∀ (m : Nat) (l : List Int) (k : Nat), k < l.length → devK T m (l.take (k + 1)) = devK T m (l.take k) ++ (if staT T (l.getD k 0) = 4 then [((m + k : Nat) : Int)] else [])
  | m, [], k, h => by simp at h
  | m, c :: r, 0, h => by simp [devK]
  | m, c :: r, k + 1, h => by
    rw [List.take_succ_cons, List.take_succ_cons, devK, devK, devK_snoc T (m + 1) r k (by simpa using h), List.append_assoc]
    simp only [List.getD_cons_succ]
    rw [show m + 1 + k = m + (k + 1) by omega]
theorem devK_len (T : Tb) : ∀ (m : Nat) (l : List Int), (devK T m l).length ≤ l.length
  | _, [] => Nat.le_refl _
  | m, c :: r => by rw [devK, List.length_append]; have := devK_len T (m + 1) r; split <;> simp <;> omega

end Go.Proofs.YtiafhifbgdkgaaaGreatDoor
