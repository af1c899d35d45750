/- The tables that keep.Tables makes, plain mathematics: they a -/
import Derived.Test.YtopaojjodkoidaaGreatDoorSSmTabL
import Derived.Test.YtopaojjodkoidaaGreatDoorSSmPkE
import Derived.Test.YtopaojjodkoidaaGreatDoorSSmPkA
import Derived.Deep.QuietTactic
import Derived.BigQuiet
import Derived.Deep.DeepCutAuto
import Derived.Test.YtopaojjodkoidaaGreatDoorSSmPkC
import Derived.Test.YtopaojjodkoidaaGreatDoorSSmPkF
set_option linter.unusedSimpArgs false
set_option linter.unusedVariables false
namespace Go.Proofs.YtopaojjodkoidaaGreatDoor
def poolL : List Int := [173, 183, 769, 776, 803, 837, 885, 945, 946, 947, 1072, 1488, 1523, 1576, 1577, 1632, 1776, 2381, 7680, 7681, 7682, 7683, 7684, 8204, 8205, 12539, 19968, 128512]
def poolAt (k : Nat) : Int := poolL.getD k 1114112
theorem pool_step : ∀ k, k < 28 → poolAt k + 1 ≤ poolAt (k + 1) := by decide +kernel
theorem pool_mem : ∀ k, k < 28 → poolAt k ∈ poolL := by decide +kernel
theorem pool_bd : ∀ k, k < 28 → 0 ≤ poolAt k ∧ poolAt k ≤ 1114111 := by decide +kernel
theorem pool_free : ∀ c ∈ poolL, resB c = false := by decide +kernel
structure PoolSp (k : Nat) (hi : Int) (L : List Sp) : Prop where
 asc : ascB 0 L = true
 fin : ends 0 L ≤ poolAt k
 len : L.length ≤ k
 mem : ∀ s ∈ L, s.1 = s.2.1 ∧ s.1 ∈ poolL ∧ 1 ≤ s.2.2 ∧ s.2.2 ≤ hi
theorem PoolSp.nil (hi : Int) : PoolSp 0 hi [] := ⟨rfl, by decide, Nat.le_refl _, by simp⟩
theorem PoolSp.skip {k : Nat} {hi : Int} {L : List Sp} (h : PoolSp k hi L) (hk : k < 28) : PoolSp (k + 1) hi L :=
 ⟨h.asc, by have := pool_step k hk; have := h.fin; omega, by have := h.len; omega, h.mem⟩
theorem PoolSp.snoc {k : Nat} {hi v : Int} {L : List Sp} (h : PoolSp k hi L) (hk : k < 28) (h1 : 1 ≤ v) (h2 : v ≤ hi) : PoolSp (k + 1) hi (L ++ [(poolAt k, poolAt k, v)]) := by
 refine ⟨?_, ?_, ?_, ?_⟩
 ·rw [asc_snoc_iff]
  have := pool_bd k hk
  exact ⟨h.asc, h.fin, Int.le_refl _, this.2⟩
 ·rw [ends_append]; exact pool_step k hk
 ·have := h.len; simp; omega
 ·intro s hs
  rcases List.mem_append.1 hs with hs | hs
  ·exact h.mem s hs
  ·simp only [List.mem_singleton] at hs
   subst hs
   exact ⟨rfl, pool_mem k hk, h1, h2⟩
def addL (L : List Sp) (s : Sp) (v : Int) : List Sp := if 0 < v then L ++ [(s.1, s.2.1, v)] else L
theorem PoolSp.add {k : Nat} {hi v : Int} {L : List Sp} (h : PoolSp k hi L) (hk : k < 28) (h2 : v ≤ hi) (z : Int) : PoolSp (k + 1) hi (addL L (poolAt k, poolAt k, z) v) := by
 unfold addL
 split
 ·exact h.snoc hk (by omega) h2
 ·exact h.skip hk
theorem PoolSp.in_pool {k : Nat} {hi c v : Int} {L : List Sp} (h : PoolSp k hi L) (hv : val L c = some v) : c ∈ poolL := by
 obtain ⟨s, hs, h1, h2, _⟩ := val_mem hv
 obtain ⟨e, hm, _⟩ := h.mem s hs
 have : s.1 = c := by omega
 rw [← this]; exact hm
theorem PoolSp.none {k : Nat} {hi c : Int} {L : List Sp} (h : PoolSp k hi L) (hc : c ∉ poolL) : val L c = none := by
 cases hv : val L c with
 | none => rfl
 | some v => exact absurd (h.in_pool hv) hc
theorem PoolSp.spOk {k : Nat} {hi : Int} {L : List Sp} (h : PoolSp k hi L) : spOk L = true := by
 unfold Go.Proofs.YtopaojjodkoidaaGreatDoor.spOk
 rw [h.asc, Bool.true_and, List.all_eq_true]
 intro s hs
 obtain ⟨e, hm, _⟩ := h.mem s hs
 have := pool_free s.1 hm
 unfold resB at this
 rw [← e, this]; rfl
theorem PoolSp.vals {k : Nat} {hi lo : Int} {L : List Sp} (h : PoolSp k hi L) (hl : lo ≤ 1) : valOk lo hi L = true := by
 unfold valOk
 rw [List.all_eq_true]
 intro s hs
 obtain ⟨_, _, h1, h2⟩ := h.mem s hs
 simp only [Bool.and_eq_true, decide_eq_true_eq]
 omega
theorem val_of_in {lo : Int} {L : List Sp} (ha : ascB lo L = true) {s : Sp} (hs : s ∈ L) : val L s.1 = some s.2.2 := by
 induction L generalizing lo with
 | nil => cases hs
 | cons t r ih =>
  rw [asc_cons] at ha
  rw [val_cons]
  rcases List.mem_cons.1 hs with rfl | hs
  ·rw [if_pos (by omega)]
  ·have := asc_mem ha.2.2.2 hs
   rw [if_neg (by omega)]
   exact ih ha.2.2.2 hs
def marks : List Int := [769, 776, 803, 837, 945]
def headOk (j : Nat) (a : Int) : Prop := a = 97 ∨ a = 98 ∨ ∃ i : Nat, i < j ∧ a = 7680 + i
def toOk (j : Nat) (tl : List Int) : Prop := ∃ a, headOk j a ∧ (tl = [a] ∨ ∃ b ∈ marks, tl = [a, b])
structure DecOk (k : Nat) (D : List Mp) (E : List Int) : Prop where
 len : D.length ≤ k
 elen : E.length ≤ k
 asc : ascI 0 1114111 (froms D) = true
 fin : endI 0 (froms D) ≤ 7680 + k
 easc : ascI 0 1114111 E = true
 efin : endI 0 E ≤ 7680 + k
 mem : ∀ m ∈ D, ∃ j : Nat, j < k ∧ m.1 = 7680 + j ∧ toOk j m.2
 exc : ∀ c ∈ E, hasM D c = true
 dup : D.Pairwise fun a b => a.2 = b.2 → b.1 ∈ E
theorem DecOk.nil : DecOk 0 [] [] := ⟨Nat.le_refl _, Nat.le_refl _, rfl, by decide, rfl, by decide, by simp, by simp, List.Pairwise.nil⟩
theorem DecOk.skip {k : Nat} {D : List Mp} {E : List Int} (h : DecOk k D E) : DecOk (k + 1) D E :=
 ⟨by have := h.len; omega, by have := h.elen; omega, h.asc, by have := h.fin; omega, h.easc, by have := h.efin; omega, fun m hm => by obtain ⟨j, h1, h2⟩ := h.mem m hm; exact ⟨j, by omega, h2⟩, h.exc, h.dup⟩
theorem froms_snoc (D : List Mp) (m : Mp) : froms (D ++ [m]) = froms D ++ [m.1] := by simp [froms]
theorem hasM_snoc (D : List Mp) (m : Mp) (c : Int) : hasM (D ++ [m]) c = (hasM D c || decide (m.1 = c)) := by simp [hasM]
theorem DecOk.snoc {k : Nat} {D : List Mp} {E : List Int} {tl : List Int} {B : Bool} (h : DecOk k D E) (hk : k < 5) (ht : toOk k tl) (hB : B = false → ∀ d ∈ D, d.2 ≠ tl) :
 DecOk (k + 1) (D ++ [(7680 + (k : Int), tl)]) (if B then E ++ [7680 + (k : Int)] else E) := by
 refine ⟨?_, ?_, ?_, ?_, ?_, ?_, ?_, ?_, ?_⟩
 ·have := h.len; simp; omega
 ·have := h.elen; split <;> simp <;> omega
 ·rw [froms_snoc, ascI_snoc]; exact ⟨h.asc, h.fin, by simp only; omega⟩
 ·rw [froms_snoc, endI_snoc]; simp only; omega
 ·split
  ·rw [ascI_snoc]; exact ⟨h.easc, h.efin, by omega⟩
  ·exact h.easc
 ·split
  ·rw [endI_snoc]; omega
  ·have := h.efin; omega
 ·intro m hm
  rcases List.mem_append.1 hm with hm | hm
  ·obtain ⟨j, h1, h2⟩ := h.mem m hm; exact ⟨j, by omega, h2⟩
  ·simp only [List.mem_singleton] at hm
   subst hm
   exact ⟨k, by omega, rfl, ht⟩
 ·intro c hc
  rw [hasM_snoc, Bool.or_eq_true, decide_eq_true_eq]
  split at hc
  ·rcases List.mem_append.1 hc with hc | hc
   ·exact .inl (h.exc c hc)
   ·simp only [List.mem_singleton] at hc; exact .inr hc.symm
  ·exact .inl (h.exc c hc)
 ·rw [List.pairwise_append]
  refine ⟨?_, List.pairwise_singleton _ _, ?_⟩
  ·refine h.dup.imp ?_
   intro a b hab e
   have := hab e
   split
   ·exact List.mem_append_left _ this
   ·exact this
  ·intro a ha b hb e
   simp only [List.mem_singleton] at hb
   subst hb
   cases B with
   | false => exact absurd e (hB rfl a ha)
   | true => simp
theorem dec_low {k : Nat} {D : List Mp} {E : List Int} (h : DecOk k D E) {c : Int} (hc : c < 7680) : hasM D c = false := by
 cases hb : hasM D c with
 | false => rfl
 | true =>
  obtain ⟨m, hm, e⟩ := hasM_iff.1 hb
  obtain ⟨j, _, e2, _⟩ := h.mem m hm
  omega
theorem marks_low : ∀ b ∈ marks, b < 7680 ∧ scaB b = true ∧ forb b = false := by decide +kernel
theorem headOk.facts {j : Nat} {a : Int} (h : headOk j a) (hj : j < 5) : scaB a = true ∧ forb a = false := by
 rcases h with rfl | rfl | ⟨i, hi, rfl⟩
 ·decide
 ·decide
 ·have : i = 0 ∨ i = 1 ∨ i = 2 ∨ i = 3 ∨ i = 4 := by omega
  rcases this with rfl | rfl | rfl | rfl | rfl <;> decide +kernel
theorem toOk.facts {j : Nat} {tl : List Int} (h : toOk j tl) (hj : j < 5) : 1 ≤ tl.length ∧ tl.length ≤ 2 ∧ tl.all scaB = true ∧ (tl.all fun c => !forb c) = true := by
 obtain ⟨a, ha, hto⟩ := h
 have hf := ha.facts hj
 rcases hto with rfl | ⟨b, hb, rfl⟩
 ·simp [hf]
 ·have := marks_low b hb
  simp [hf, this]
theorem siz_low {k : Nat} {D : List Mp} {E : List Int} (h : DecOk k D E) {c : Int} (hc : c < 7680) : siz D c = 1 := siz_nil (findM_nil (dec_low h hc))
theorem dec_siz {k : Nat} {D : List Mp} {E : List Int} (h : DecOk k D E) (hk : k ≤ 5) (j : Nat) : siz D (7680 + j) ≤ j + 2 := by
 induction j using Nat.strongRecOn with
 | ind j ih =>
  by_cases he : findM D (7680 + j) = []
  ·rw [siz_nil he]; omega
  ·have hl : D.length ≤ 256 := by have := h.len; omega
   rw [siz_eq hl he]
   have hh : hasM D (7680 + j) = true := by
    cases hb : hasM D (7680 + j) with
    | true => rfl
    | false => exact absurd (findM_nil hb) he
   obtain ⟨j', h1, h2, ht⟩ := h.mem _ (findM_has hh)
   simp only at h2 ht
   obtain rfl : j = j' := by omega
   obtain ⟨a, ha, hto⟩ := ht
   have hsa : siz D a ≤ j + 1 := by
    rcases ha with rfl | rfl | ⟨i, hi, rfl⟩
    ·rw [siz_low h (by omega)]; omega
    ·rw [siz_low h (by omega)]; omega
    ·have := ih i hi; omega
   rcases hto with e | ⟨b, hb, e⟩
   ·rw [e]; simp; omega
   ·have hsb := siz_low h (marks_low b hb).1
    rw [e]; simp [hsb]; omega
theorem comp_free {T : Tb} {c : Int} (h : compT T c = true) : c ∉ T.exc := by
 intro hc
 unfold compT at h
 rw [cmpF] at h
 split at h
 ·rename_i a b _
  have : excT T c = true := by simpa [excT] using hc
  rw [this] at h
  simp at h
 ·cases h
theorem DecOk.r8 {k : Nat} {T : Tb} (h : DecOk k T.dec T.exc) : r8 T = true := by
 unfold Go.Proofs.YtopaojjodkoidaaGreatDoor.r8 cmpTos
 rw [decide_eq_true_eq, List.Nodup, List.pairwise_map]
 have h2 : (T.dec.filter fun m => compT T m.1).Pairwise fun a b => a.2 = b.2 → b.1 ∈ T.exc := h.dup.filter _
 refine h2.imp_of_mem ?_
 intro a b _ hb hab e
 have hc := (List.mem_filter.1 hb).2
 exact comp_free hc (hab e)
def mapTo (tl : List Int) : Prop := ∃ a ∈ ([97, 98, 99] : List Int), tl = [a] ∨ tl = [a, 46]
structure MapOk (k : Nat) (M : List Mp) (S : List Sp) : Prop where
 sp : PoolSp k 4 S
 len : M.length ≤ k
 asc : ascI 0 1114111 (froms M) = true
 fin : endI 0 (froms M) ≤ poolAt k
 mem : ∀ m ∈ M, (m.1, m.1, 3) ∈ S ∧ m.1 ∈ poolL ∧ mapTo m.2
 cnt : cntV 3 S = M.length
 back : ∀ s ∈ S, s.2.2 = 3 → hasM M s.1 = true
theorem MapOk.nil : MapOk 0 [] [] := ⟨PoolSp.nil _, Nat.le_refl _, rfl, by decide, by simp, rfl, by simp⟩
theorem MapOk.plain {k : Nat} {M : List Mp} {S : List Sp} {v : Int} (h : MapOk k M S) (hk : k < 28) (hv : v ≤ 4) (h3 : v ≠ 3) (z : Int) : MapOk (k + 1) M (addL S (poolAt k, poolAt k, z) v) := by
 refine ⟨h.sp.add hk hv z, by have := h.len; omega, h.asc, by have := h.fin; have := pool_step k hk; omega, ?_, ?_, ?_⟩
 ·intro m hm
  obtain ⟨h1, h2⟩ := h.mem m hm
  refine ⟨?_, h2⟩
  unfold addL
  split
  ·exact List.mem_append_left _ h1
  ·exact h1
 ·unfold addL
  split
  ·rw [cntV_snoc, if_neg h3, h.cnt]; omega
  ·exact h.cnt
 ·intro s hs h3s
  unfold addL at hs
  split at hs
  ·rcases List.mem_append.1 hs with hs | hs
   ·exact h.back s hs h3s
   ·simp only [List.mem_singleton] at hs
    subst hs
    exact absurd h3s h3
  ·exact h.back s hs h3s
theorem MapOk.more {k : Nat} {M : List Mp} {S : List Sp} {tl : List Int} (h : MapOk k M S) (hk : k < 28) (ht : mapTo tl) (z : Int) : MapOk (k + 1) (M ++ [(poolAt k, tl)]) (addL S (poolAt k, poolAt k, z) 3) := by
 have hb := pool_bd k hk
 refine ⟨h.sp.add hk (by omega) z, by have := h.len; simp; omega, ?_, ?_, ?_, ?_, ?_⟩
 ·rw [froms_snoc, ascI_snoc]; exact ⟨h.asc, h.fin, hb.2⟩
 ·rw [froms_snoc, endI_snoc]; exact pool_step k hk
 ·intro m hm
  unfold addL
  rw [if_pos (by omega)]
  rcases List.mem_append.1 hm with hm | hm
  ·obtain ⟨h1, h2⟩ := h.mem m hm
   exact ⟨List.mem_append_left _ h1, h2⟩
  ·simp only [List.mem_singleton] at hm
   subst hm
   exact ⟨by simp, pool_mem k hk, ht⟩
 ·unfold addL
  rw [if_pos (by omega), cntV_snoc, h.cnt]
  simp only [List.length_append, List.length_cons, List.length_nil, if_true]
  omega
 ·intro s hs h3s
  rw [hasM_snoc, Bool.or_eq_true, decide_eq_true_eq]
  unfold addL at hs
  rw [if_pos (by omega)] at hs
  rcases List.mem_append.1 hs with hs | hs
  ·exact .inl (h.back s hs h3s)
  ·simp only [List.mem_singleton] at hs
   subst hs
   exact .inr rfl
def protoL : List Mp := [(48, [111]), (109, [114, 110]), (945, [97]), (1072, [97]), (1632, [111, 803])]
def protoAt (k : Nat) : Int := (protoL.map (·.1)).getD k 1114112
structure ProOk (k : Nat) (I : List Sp) (P : List Mp) : Prop where
 len : P.length ≤ k
 asc : ascI 0 1114111 (froms P) = true
 fin : endI 0 (froms P) ≤ protoAt k
 mem : ∀ m ∈ P, m ∈ protoL ∧ (val I m.1).isSome = false ∧ (val I (m.2.getLastD 0)).isSome = false
theorem proto_step : ∀ k, k < 5 → protoAt k + 1 ≤ protoAt (k + 1) := by decide +kernel
theorem proto_at : ∀ k, k < 5 → protoL.getD k (0, []) ∈ protoL ∧ (protoL.getD k (0, [])).1 = protoAt k ∧ 0 ≤ protoAt k ∧ protoAt k ≤ 1114111 := by decide +kernel
theorem proto_from : ∀ m ∈ protoL, m.1 < 7680 ∧ resP m.1 = false ∧ 1 ≤ m.2.length ∧ m.2.length ≤ 2 := by decide +kernel
theorem proto_to : ∀ m ∈ protoL, ∀ c ∈ m.2, c < 7680 ∧ scaB c = true ∧ sylB c = false ∧ (c = m.2.getLastD 0 ∨ c ∉ poolL) ∧ ∀ n ∈ protoL, n.1 ≠ c := by decide +kernel
theorem ProOk.nil (I : List Sp) : ProOk 0 I [] := ⟨Nat.le_refl _, rfl, by decide, by simp⟩
theorem ProOk.skip {k : Nat} {I : List Sp} {P : List Mp} (h : ProOk k I P) (hk : k < 5) : ProOk (k + 1) I P :=
 ⟨by have := h.len; omega, h.asc, by have := h.fin; have := proto_step k hk; omega, h.mem⟩
theorem ProOk.snoc {k : Nat} {I : List Sp} {P : List Mp} (h : ProOk k I P) (hk : k < 5) (h1 : (val I (protoL.getD k (0, [])).1).isSome = false) (h2 : (val I ((protoL.getD k (0, [])).2.getLastD 0)).isSome = false) :
 ProOk (k + 1) I (P ++ [protoL.getD k (0, [])]) := by
 obtain ⟨g1, g2, g3, g4⟩ := proto_at k hk
 refine ⟨by have := h.len; simp; omega, ?_, ?_, ?_⟩
 ·rw [froms_snoc, ascI_snoc, g2]; exact ⟨h.asc, h.fin, g4⟩
 ·rw [froms_snoc, endI_snoc, g2]; exact proto_step k hk
 ·intro m hm
  rcases List.mem_append.1 hm with hm | hm
  ·exact h.mem m hm
  ·rw [List.mem_singleton] at hm
   subst hm
   exact ⟨g1, h1, h2⟩
structure Made (T : Tb) : Prop where
 cat : PoolSp 28 8 T.cat
 cls : PoolSp 28 254 T.cls
 joi : PoolSp 28 5 T.joi
 bid : PoolSp 28 11 T.bid
 scr : PoolSp 28 60 T.scr
 ign : PoolSp 28 1 T.ign
 map : MapOk 28 T.map T.sta
 dec : DecOk 5 T.dec T.exc
 pro : ProOk 5 T.ign T.pro
 ext : T.ext = [] ∨ T.ext = [(12539, [7, 8])]
theorem Made.r2 {T : Tb} (h : Made T) : r2 T = true := by
 have hd : (froms T.dec).all (fun c => !resB c) = true := by
  rw [List.all_eq_true]
  intro c hc
  simp only [froms, List.mem_map] at hc
  obtain ⟨m, hm, rfl⟩ := hc
  obtain ⟨j, h1, h2, _⟩ := h.dec.mem m hm
  have : j = 0 ∨ j = 1 ∨ j = 2 ∨ j = 3 ∨ j = 4 := by omega
  rw [h2]
  rcases this with rfl | rfl | rfl | rfl | rfl <;> decide +kernel
 have hx : keyOk T.exc = true := by
  unfold keyOk
  rw [h.dec.easc, Bool.true_and, List.all_eq_true]
  intro c hc
  obtain ⟨m, hm, rfl⟩ := hasM_iff.1 (h.dec.exc c hc)
  exact List.all_eq_true.1 hd m.1 (by simp only [froms, List.mem_map]; exact ⟨m, hm, rfl⟩)
 have hm : keyOk (froms T.map) = true := by
  unfold keyOk
  rw [h.map.asc, Bool.true_and, List.all_eq_true]
  intro c hc
  simp only [froms, List.mem_map] at hc
  obtain ⟨m, hm, rfl⟩ := hc
  rw [pool_free _ (h.map.mem m hm).2.1]; rfl
 have hp : keyOkP (froms T.pro) = true := by
  unfold keyOkP
  rw [h.pro.asc, Bool.true_and, List.all_eq_true]
  intro c hc
  simp only [froms, List.mem_map] at hc
  obtain ⟨m, hm, rfl⟩ := hc
  rw [(proto_from _ (h.pro.mem m hm).1).2.1]; rfl
 have he : keyOk (froms T.ext) = true := by
  rcases h.ext with e | e <;> rw [e] <;> decide +kernel
 have hdk : keyOk (froms T.dec) = true := by unfold keyOk; rw [h.dec.asc, hd]; rfl
 unfold Go.Proofs.YtopaojjodkoidaaGreatDoor.r2 spansT
 simp only [List.all_cons, List.all_nil, h.cat.spOk, h.cls.spOk, h.joi.spOk, h.bid.spOk, h.scr.spOk, h.ign.spOk, h.map.sp.spOk, hx, hm, hp, he, hdk, Bool.and_self]
theorem mapTo.facts {tl : List Int} (h : mapTo tl) : 1 ≤ tl.length ∧ tl.length ≤ 2 ∧ ∀ c ∈ tl, scaB c = true ∧ fixT c = 1 ∧ c ∉ poolL := by
 obtain ⟨a, ha, hto⟩ := h
 simp only [List.mem_cons, List.not_mem_nil, or_false] at ha
 rcases ha with rfl | rfl | rfl <;> rcases hto with rfl | rfl <;> decide +kernel
theorem Made.check {T : Tb} (h : Made T) : checkT T = 0 := by
 have h1 : r1 T = true := by
  have a1 := h.cat.len
  have a2 := h.cls.len
  have a3 := h.joi.len
  have a4 := h.bid.len
  have a5 := h.scr.len
  have a6 := h.ign.len
  have a7 := h.map.sp.len
  have b1 := h.map.len
  have b2 := h.dec.len
  have b3 := h.pro.len
  have b4 := h.dec.elen
  have b5 : T.ext.length ≤ 1 := by rcases h.ext with e | e <;> rw [e] <;> simp
  unfold r1 spansT mpsT fewS fewM
  simp only [List.all_cons, List.all_nil, Bool.and_eq_true, decide_eq_true_eq, and_true]
  omega
 have h3 : r3 T = true := by
  unfold r3
  rw [h.cat.vals (by omega), h.cls.vals (by omega), h.joi.vals (by omega), h.bid.vals (by omega), h.scr.vals (by omega), h.map.sp.vals (by omega), h.ign.vals (by omega)]
  rfl
 have h4 : r4 T = true := by
  unfold r4
  simp only [Bool.and_eq_true]
  refine ⟨?_, ?_, ?_, ?_⟩
  ·rcases h.ext with e | e <;> rw [e] <;> decide +kernel
  ·rw [List.all_eq_true]
   intro m hm
   obtain ⟨g1, g2, g3⟩ := (h.map.mem m hm).2.2.facts
   unfold seqS
   simp only [Bool.and_eq_true, decide_eq_true_eq, List.all_eq_true]
   exact ⟨⟨g1, by omega⟩, fun c hc => (g3 c hc).1⟩
  ·rw [List.all_eq_true]
   intro m hm
   obtain ⟨j, hj, _, ht⟩ := h.dec.mem m hm
   obtain ⟨g1, g2, g3, _⟩ := ht.facts hj
   unfold seqS
   rw [g3]
   simp only [Bool.and_eq_true, decide_eq_true_eq, and_true]
   omega
  ·rw [List.all_eq_true]
   intro m hm
   have hp := (h.pro.mem m hm).1
   obtain ⟨_, _, g1, g2⟩ := proto_from m hp
   unfold seqS
   simp only [Bool.and_eq_true, decide_eq_true_eq, List.all_eq_true]
   exact ⟨⟨g1, by omega⟩, fun c hc => (proto_to m hp c hc).2.1⟩
 have h5 : r5 T = true := by
  unfold r5
  rw [Bool.and_eq_true, decide_eq_true_eq, List.all_eq_true]
  refine ⟨fun m hm => ?_, h.map.cnt⟩
  obtain ⟨g1, g2, g3⟩ := h.map.mem m hm
  unfold mapOk
  rw [Bool.and_eq_true, decide_eq_true_eq, List.all_eq_true]
  have e := val_of_in h.map.sp.asc g1
  simp only at e
  refine ⟨by unfold staT; rw [e]; rfl, fun c hc => ?_⟩
  obtain ⟨_, f1, f2⟩ := g3.facts.2.2 c hc
  unfold okSta staT
  rw [h.map.sp.none f2]
  simp [f1]
 have h6 : r6 T = true := by
  unfold r6
  rw [Bool.and_eq_true, List.all_eq_true, List.all_eq_true]
  refine ⟨fun m hm => ?_, fun m hm => ?_⟩
  ·obtain ⟨j, hj, _, ht⟩ := h.dec.mem m hm
   obtain ⟨_, g2, _, g4⟩ := ht.facts hj
   unfold short2
   rw [g4, decide_eq_true g2]; rfl
  ·obtain ⟨j, hj, e, _⟩ := h.dec.mem m hm
   have := dec_siz h.dec (Nat.le_refl _) j
   rw [decide_eq_true_eq, e]; omega
 have h7 : r7 T = true := by
  unfold r7
  rw [List.all_eq_true]
  exact h.dec.exc
 have h9 : r9 T = true := by
  unfold r9
  rw [List.all_eq_true]
  intro m hm
  obtain ⟨hp, g1, g2⟩ := h.pro.mem m hm
  unfold proOk plain ignT
  rw [dec_low h.dec (proto_from m hp).1, g1]
  simp only [Bool.not_false, Bool.true_and, List.all_eq_true]
  intro c hc
  obtain ⟨f1, _, f3, f4, f5⟩ := proto_to m hp c hc
  have hn : hasM T.pro c = false := by
   cases hb : hasM T.pro c with
   | false => rfl
   | true =>
    obtain ⟨n, hn, e⟩ := hasM_iff.1 hb
    exact absurd e (f5 n (h.pro.mem n hn).1)
  have hi : (val T.ign c).isSome = false := by
   rcases f4 with e | e
   ·rw [e]; exact g2
   ·rw [h.ign.none e]; rfl
  rw [hn, f3, dec_low h.dec f1, hi]; rfl
 simp [checkT, h1, h.r2, h3, h4, h5, h6, h7, h.dec.r8, h9]
open Go.RowKit
def pickS (v n : Int) : Int := (v % 18446744073709551616) % n
theorem pickS_bd (v n : Int) (h : 1 ≤ n) : 0 ≤ pickS v n ∧ pickS v n < n := by
 unfold pickS; exact ⟨Int.emod_nonneg _ (by omega), Int.emod_lt_of_pos _ (by omega)⟩
theorem pick_eq (v n : Int) (h0 : 1 ≤ n) (h1 : n ≤ 1125899906842624) : wrap64 ((IntKind.u64.wrap v).tmod n) = pickS v n := by
 have hb := pickS_bd v n h0
 have e : (IntKind.u64.wrap v).tmod n = pickS v n := by
  rw [IntKind.wrap_u64, Int.tmod_eq_emod_of_nonneg (Int.emod_nonneg _ (by omega))]
  rfl
 rw [e]
 exact IntWalk.wrap64_in _ ⟨by omega, by omega⟩
theorem ret_i64 {a b : Int} (h : a = b) : Ending.returned (.int .i64 a) = .returned (.int .i64 b) := by rw [h]
set_option maxHeartbeats 400000 in
theorem pickL_any (v n : Int) (w : World) (h0 : 1 ≤ n) (h1 : n ≤ 1125899906842624) :
 Calls Tryz.prog 22 #[.int .i64 v, .int .i64 n] w fun e w' => e = .returned (.int .i64 (pickS v n)) ∧ w = w' := by
 go_enter Tryz.func22, Tryz.ntmps22
 go_wp2
 go_ret
 exact ⟨ret_i64 (pick_eq v n h0 h1), rfl⟩
theorem pick_any (v n : Int) (w : World) (h0 : 1 ≤ n) (h1 : n ≤ 1073741824) :
 Calls Tryz.prog 22 #[.int .i64 v, .int .i64 n] w fun e w' => e = .returned (.int .i64 (pickS v n)) ∧ w = w' := pickL_any v n w h0 (by omega)
def Src (w : World) (g : Nat) (r : List Int) : Prop :=
 ∃ (zs : List Int) (i : Nat) (p : Option Addr) (cap : Nat), zs.drop i = r ∧ i ≤ zs.length ∧ zs.length ≤ 17592186043904 ∧ w.cell? ⟨g, 0, none⟩ = some (.slice p zs.length cap) ∧ w.cell? ⟨g, 1, none⟩ = some (.int .i64 i) ∧
  w.frozen? ⟨g, 1, none⟩ = false ∧ IntsIn w p zs ∧ (zs ≠ [] → ∀ b off, p = some ⟨b, off, none⟩ → b < g)
def nextV (r : List Int) (n : Int) : Int := match r with | [] => 0 | x :: _ => pickS x n
theorem nextV_bd (r : List Int) (n : Int) (h : 1 ≤ n) : 0 ≤ nextV r n ∧ nextV r n < n := by
 unfold nextV
 split
 ·omega
 ·exact pickS_bd _ n h
theorem RowIn.grown {t : IntKind} {w w' : World} {p : Option Addr} {zs : List Int} {g : Nat} (h : RowIn t w p zs) (hg : w.grownBy w' (some g)) (hp : ∀ b off, p = some ⟨b, off, none⟩ → b ≠ g) : RowIn t w' p zs := by
 intro k hk
 obtain ⟨b, off, e, hc⟩ := h k hk
 exact ⟨b, off, e, hg.cell hc (by simpa using hp b off e)⟩
theorem Src.below {w w' : World} {g : Nat} {r : List Int} (h : Src w g r) (hb : Below w.heap.size w w') : Src w' g r := by
 obtain ⟨zs, i, p, cap, h1, h2, h3, h4, h5, h6, h7, h8⟩ := h
 have hlt := World.block_lt_of_cell? w _ h4
 have hlt1 := World.block_lt_of_cell? w _ h5
 exact ⟨zs, i, p, cap, h1, h2, h3, (hb.cell (p := ⟨g, 0, none⟩) hlt).trans h4, (hb.cell (p := ⟨g, 1, none⟩) hlt1).trans h5, (hb.frozen (p := ⟨g, 1, none⟩) hlt1).trans h6, h7.below hb, h8⟩
theorem Src.alloc {w : World} {g : Nat} {r : List Int} (h : Src w g r) (o : Obj) : Src (w.alloc o) g r := h.below ((Below.refl _ _).alloc (Nat.le_refl _) o)
theorem grownBy_trans {w w1 w2 : World} {row : Option Nat} (h : w.grownBy w1 row) (k : w1.grownBy w2 row) : w.grownBy w2 row :=
 ⟨k.os.trans h.os, k.tape.trans h.tape, k.output.trans h.output, Nat.le_trans h.size k.size, fun i hi hne => (k.block i (Nat.lt_of_lt_of_le hi h.size) hne).trans (h.block i hi hne)⟩
theorem grownBy_of_below {w w1 w2 : World} {row : Option Nat} (h : w.grownBy w1 row) (k : Below w1.heap.size w1 w2) : w.grownBy w2 row := grownBy_trans h (below_grownBy k row)
theorem grownBy_drewN {w w1 : World} {row : Option Nat} (h : w.grownBy w1 row) (n : Nat) : w.grownBy (w1.drewN n) row := ⟨h.os, h.tape, h.output, h.size, h.block⟩
theorem grownBy_store (w : World) (g o : Nat) (v : Value) : w.grownBy (w.setCell ⟨g, o, none⟩ v) (some g) :=
 ⟨rfl, rfl, rfl, by simp, fun k _ hne => heap_setCell_other w ⟨g, o, none⟩ k v (fun e => hne (by simp [e]))⟩
theorem Src.grown {w w' : World} {g : Nat} {r : List Int} {row : Option Nat} (h : Src w g r) (hg : w.grownBy w' row) (hr : ∀ k, row = some k → g < k) : Src w' g r := by
 obtain ⟨zs, i, p, cap, h1, h2, h3, h4, h5, h6, h7, h8⟩ := h
 have hne : ∀ b, b ≤ g → some b ≠ row := fun b hb e => by have := hr b e.symm; omega
 have hlt := World.block_lt_of_cell? w _ h4
 refine ⟨zs, i, p, cap, h1, h2, h3, hg.cell h4 (hne g (Nat.le_refl _)), hg.cell h5 (hne g (Nat.le_refl _)), ?_, ?_, h8⟩
 ·exact (World.frozen?_of_block (hg.block g hlt (hne g (Nat.le_refl _)))).trans h6
 ·intro k hk
  obtain ⟨b, off, e, hc⟩ := h7 k hk
  have hb := h8 (by intro e; rw [e] at hk; simp at hk) b off e
  exact ⟨b, off, e, hg.cell hc (hne b (by omega))⟩
def NextPost (g : Nat) (v : Int) (r : List Int) (w : World) (e : Ending) (w' : World) : Prop :=
 e = .returned (.int .i64 v) ∧ Src w' g r ∧ w.grownBy w' (some g)
theorem pick_quiet (v n : Int) (w : World) (h0 : 1 ≤ n) (h1 : n ≤ 1073741824) :
 Calls Tryz.prog 22 #[.int .i64 v, .int .i64 n] w fun e w' => e = .returned (.int .i64 (pickS v n)) ∧ w' = w :=
 (pick_any v n w h0 h1).mono fun _ _ ⟨a, b⟩ => ⟨a, b.symm⟩
set_option maxHeartbeats 1000000 in
theorem next_any (g : Nat) (r : List Int) (n : Int) (w : World) (hs : Src w g r) (h0 : 1 ≤ n) (h1 : n ≤ 1073741824) :
 Calls Tryz.prog 24 #[.pointer (some ⟨g, 0, none⟩), .int .i64 n] w (NextPost g (nextV r n) r.tail w) := by
 obtain ⟨zs, i, p, cap, hd, hi, hl, hc0, hc1, hf, hin, hp⟩ := hs
 have HD := Lib.hid hd
 have HI := Lib.hid hin
 have HQ := Lib.hid hp
 clear hd hin hp
 by_cases hlt : i < zs.length
 ·have HP := Lib.hid (HQ.out (by intro e; rw [e] at hlt; simp at hlt))
  clear HQ
  obtain ⟨b, off, rfl, hck⟩ := HI.out i hlt
  have hbg : b < g := HP.out b off rfl
  obtain ⟨x, hx⟩ : ∃ x, zs.getD i 0 = x := ⟨_, rfl⟩
  rw [hx] at hck
  have hdr : zs.drop i = x :: zs.drop (i + 1) := by
   rw [List.drop_eq_getElem_cons hlt, ← hx]; simp [hlt]
  have HR : Hid (r = x :: zs.drop (i + 1)) := by unfold Hid; rw [← HD.out, hdr]
  have HB := Lib.hid hbg
  have hge : decide (zs.length ≤ i) = false := by simp; omega
  clear hx hdr hbg
  go_enter Tryz.func24, Tryz.ntmps24
  go_wp2
  go_quiet (fail)
  go_upto_region 4 with (fail)
  generalize hW : World.setCell (World.drewN w _) ⟨g, 1, none⟩ (.int .i64 (i + 1)) = W1
  have hgr : w.grownBy W1 (some g) := by rw [← hW]; exact grownBy_trans (grownBy_drewN (World.grownBy.mk rfl rfl rfl (Nat.le_refl _) fun _ _ _ => rfl) _) (grownBy_store _ g 1 _)
  have e0 : W1.cell? ⟨g, 0, none⟩ = some (.slice (some ⟨b, off, none⟩) zs.length cap) := by rw [← hW]; exact (World.cell?_setCell_other _ _ _ _ (by simp)).trans hc0
  have e1 : W1.cell? ⟨g, 1, none⟩ = some (.int .i64 (i + 1)) := by rw [← hW]; exact World.cell?_setCell_same _ _ _ hc1
  have ef : W1.frozen? ⟨g, 1, none⟩ = false := by rw [← hW]; exact (World.frozen?_setCell _ _ _ _).trans hf
  have ek : W1.cell? ⟨b, off + i, none⟩ = some (.int .i64 x) := hgr.cell hck (by have := HB.out; simp; omega)
  have hx1 : IntKind.i64.wrap ((i : Int) + 1 - 1) = i := by rw [IntWalk.i64_in _ (by omega)]; omega
  have hI1 := HI.out.grown hgr (fun b off e => Nat.ne_of_lt (HP.out b off e))
  have HG := Lib.hid hgr
  have HI1 := Lib.hid hI1
  have hS1 : Src W1 g (zs.drop (i + 1)) := ⟨zs, i + 1, _, cap, rfl, by omega, hl, e0, e1, ef, hI1, fun _ => HP.out⟩
  have HS1 := Lib.hid hS1
  clear hW hgr hI1 hc0 hc1 hf hck hS1
  go_quiet ((go_at_call 22; exact Calls.quiet_of_same (pick_quiet _ _ _ (by omega) (by omega))))
  go_wp2
  go_ret
  rw [HR.out]
  exact ⟨rfl, HS1.out.below (below_drewN (Below.refl _ _) _), grownBy_drewN HG.out _⟩
 ·have hge : decide (zs.length ≤ i) = true := by simp; omega
  have HR : Hid (r = []) := by unfold Hid; rw [← HD.out]; exact List.drop_of_length_le (by omega)
  go_enter Tryz.func24, Tryz.ntmps24
  go_wp2
  go_quiet (fail)
  go_wp2
  go_ret
  rw [HR.out]
  refine ⟨rfl, ⟨zs, i, p, cap, ?_, hi, hl, hc0, hc1, hf, HI.out, HQ.out⟩, grownBy_drewN (World.grownBy.mk rfl rfl rfl (Nat.le_refl _) fun _ _ _ => rfl) _⟩
  exact List.drop_of_length_le (by omega)
structure Keeps (w w' : World) (R : Nat → Prop) : Prop where
 os : w'.os = w.os
 tape : w'.tape = w.tape
 output : w'.output = w.output
 size : w.heap.size ≤ w'.heap.size
 block : ∀ k, k < w.heap.size → ¬ R k → w'.heap[k]? = w.heap[k]?
theorem Keeps.refl (w : World) (R : Nat → Prop) : Keeps w w R := ⟨rfl, rfl, rfl, Nat.le_refl _, fun _ _ _ => rfl⟩
theorem Keeps.of_grown {w w' : World} {row : Option Nat} (h : w.grownBy w' row) : Keeps w w' (fun k => row = some k) := ⟨h.os, h.tape, h.output, h.size, fun k hk hr => h.block k hk (fun e => hr e.symm)⟩
theorem Keeps.of_below {w w' : World} {B : Nat} (h : Below B w w') : Keeps w w' (fun k => B ≤ k) := ⟨h.os, h.tape, h.output, h.size, fun k hk hr => h.block k (by omega)⟩
theorem Keeps.weak {w w' : World} {R Q : Nat → Prop} (h : Keeps w w' R) (hq : ∀ k, k < w.heap.size → R k → Q k) : Keeps w w' Q := ⟨h.os, h.tape, h.output, h.size, fun k hk hr => h.block k hk (fun e => hr (hq k hk e))⟩
theorem Keeps.trans {w w1 w2 : World} {R Q S : Nat → Prop} (h : Keeps w w1 R) (k : Keeps w1 w2 Q) (h1 : ∀ b, b < w.heap.size → R b → S b) (h2 : ∀ b, b < w.heap.size → Q b → S b) : Keeps w w2 S :=
 ⟨k.os.trans h.os, k.tape.trans h.tape, k.output.trans h.output, Nat.le_trans h.size k.size, fun b hb hs => (k.block b (Nat.lt_of_lt_of_le hb h.size) (fun e => hs (h2 b hb e))).trans (h.block b hb (fun e => hs (h1 b hb e)))⟩
theorem Keeps.below {B : Nat} {w w' : World} {R : Nat → Prop} (h : Keeps w w' R) (hB : B ≤ w.heap.size) (hr : ∀ k, k < w.heap.size → R k → B ≤ k) : Below B w w' :=
 ⟨h.os, h.tape, h.output, h.size, fun k hk => h.block k (by omega) (fun e => by have := hr k (by omega) e; omega)⟩
theorem Keeps.cell {w w' : World} {R : Nat → Prop} (h : Keeps w w' R) {a : Addr} {v : Value} (hc : w.cell? a = some v) (hr : ¬ R a.block) : w'.cell? a = some v :=
 (World.cell?_of_block (h.block a.block (World.block_lt_of_cell? w a hc) hr)).trans hc
theorem Keeps.alloc (w : World) (o : Obj) : Keeps w (w.alloc o) (fun _ => False) := ⟨rfl, rfl, rfl, by simp, fun k hk _ => Below.heap_alloc _ _ _ hk⟩
theorem Keeps.store (w : World) (g o : Nat) (v : Value) : Keeps w (w.setCell ⟨g, o, none⟩ v) (fun k => k = g) := ⟨rfl, rfl, rfl, by simp [World.setCell], fun k hk hr => Below.heap_setCell _ _ _ _ hr⟩
theorem Keeps.owns {w w' : World} {R : Nat → Prop} {B : Nat} {e : TypeId} {z : Nat} {v : Value} {n : Nat} {xs : List Value} (h : Keeps w w' R) (ho : w.ownsRow B e z v n xs) (hr : ∀ k, v.ownBlock = some k → ¬ R k) : w'.ownsRow B e z v n xs := by
 obtain ⟨h1, h2⟩ := ho
 refine ⟨h1, ?_⟩
 rcases h2 with h2 | ⟨g, cap, cur, rfl, hB, hg, r⟩
 ·exact .inl h2
 ·refine .inr ⟨g, cap, cur, rfl, hB, ?_, r⟩
  have hlt : g < w.heap.size := by
   rcases Nat.lt_or_ge g w.heap.size with hlt | hge
   ·exact hlt
   ·rw [Array.getElem?_eq_none hge] at hg; cases hg
  rw [h.block g hlt (hr g rfl), hg]
theorem Src.lt {w : World} {g : Nat} {r : List Int} (h : Src w g r) : g < w.heap.size := by
 obtain ⟨_, _, _, _, _, _, _, h4, _⟩ := h
 exact World.block_lt_of_cell? w _ h4
theorem Src.keeps {w w' : World} {R : Nat → Prop} {g : Nat} {r : List Int} (h : Src w g r) (hg : Keeps w w' R) (hr : ∀ b, b ≤ g → ¬ R b) : Src w' g r := by
 obtain ⟨zs, i, p, cap, h1, h2, h3, h4, h5, h6, h7, h8⟩ := h
 have hlt := World.block_lt_of_cell? w _ h4
 refine ⟨zs, i, p, cap, h1, h2, h3, hg.cell h4 (hr g (Nat.le_refl _)), hg.cell h5 (hr g (Nat.le_refl _)), ?_, ?_, h8⟩
 ·exact (World.frozen?_of_block (hg.block g hlt (hr g (Nat.le_refl _)))).trans h6
 ·intro k hk
  obtain ⟨b, off, e, hc⟩ := h7 k hk
  have hb := h8 (by intro e; rw [e] at hk; simp at hk) b off e
  exact ⟨b, off, e, hg.cell hc (hr b (by omega))⟩
def Lies (w : World) (P : Nat → Prop) (v : Value) : Prop := ∀ b off n c, v = .slice (some ⟨b, off, none⟩) n c → P b ∧ b < w.heap.size
theorem Lies.nil (w : World) (P : Nat → Prop) (n c : Nat) : Lies w P (.slice none n c) := by intro b off n c e; cases e
theorem Lies.size {w w' : World} {P : Nat → Prop} {v : Value} (h : Lies w P v) (hs : w.heap.size ≤ w'.heap.size) : Lies w' P v := fun b off n c e => ⟨(h b off n c e).1, Nat.lt_of_lt_of_le (h b off n c e).2 hs⟩
theorem Lies.weak {w : World} {P Q : Nat → Prop} {v : Value} (h : Lies w P v) (hq : ∀ b, b < w.heap.size → P b → Q b) : Lies w Q v := fun b off n c e => ⟨hq b (h b off n c e).2 (h b off n c e).1, (h b off n c e).2⟩
def MpO (w : World) (P : Nat → Prop) (v : Value) (l : List Mp) : Prop :=
 ∃ p c, v = .slice p l.length c ∧ Lies w P v ∧ l.length ≤ 17592186043904 ∧ ∀ k, k < l.length → ∃ b off u, p = some ⟨b, off, none⟩ ∧ w.cell? ⟨b, off + k * 2, none⟩ = some (.int .i64 (l.getD k mp0).1) ∧ w.cell? ⟨b, off + k * 2 + 1, none⟩ = some u ∧ InV w u (l.getD k mp0).2 ∧ Lies w P u
def InO (w : World) (P : Nat → Prop) (v : Value) (l : List Int) : Prop := InV w v l ∧ Lies w P v
def SpO (w : World) (P : Nat → Prop) (v : Value) (l : List Sp) : Prop := SpV w v l ∧ Lies w P v
theorem InV.keeps {w w' : World} {P R : Nat → Prop} {v : Value} {l : List Int} (h : InV w v l) (hl : Lies w P v) (hg : Keeps w w' R) (hr : ∀ k, k < w.heap.size → R k → ¬ P k) : InV w' v l := by
 obtain ⟨p, c, rfl, h1, h2⟩ := h
 refine ⟨p, c, rfl, fun k hk => ?_, h2⟩
 obtain ⟨b, off, rfl, hc⟩ := h1 k hk
 have hp := hl b off _ _ rfl
 exact ⟨b, off, rfl, hg.cell hc fun e => hr b hp.2 e hp.1⟩
theorem InO.keeps {w w' : World} {P R : Nat → Prop} {v : Value} {l : List Int} (h : InO w P v l) (hg : Keeps w w' R) (hr : ∀ k, k < w.heap.size → R k → ¬ P k) : InO w' P v l := ⟨h.1.keeps h.2 hg hr, h.2.size hg.size⟩
theorem SpO.keeps {w w' : World} {P R : Nat → Prop} {v : Value} {l : List Sp} (h : SpO w P v l) (hg : Keeps w w' R) (hr : ∀ k, k < w.heap.size → R k → ¬ P k) : SpO w' P v l := by
 obtain ⟨⟨p, c, rfl, h1, h2⟩, hl⟩ := h
 refine ⟨⟨p, c, rfl, fun k hk => ?_, h2⟩, hl.size hg.size⟩
 obtain ⟨b, off, rfl, c1, c2, c3⟩ := h1 k hk
 have hp := hl b off _ _ rfl
 have hn : ¬ R b := fun e => hr b hp.2 e hp.1
 exact ⟨b, off, rfl, hg.cell c1 hn, hg.cell c2 hn, hg.cell c3 hn⟩
theorem MpO.keeps {w w' : World} {P R : Nat → Prop} {v : Value} {l : List Mp} (h : MpO w P v l) (hg : Keeps w w' R) (hr : ∀ k, k < w.heap.size → R k → ¬ P k) : MpO w' P v l := by
 obtain ⟨p, c, rfl, hl, h2, h3⟩ := h
 refine ⟨p, c, rfl, hl.size hg.size, h2, fun k hk => ?_⟩
 obtain ⟨b, off, u, rfl, c1, c2, c3, c4⟩ := h3 k hk
 have hp := hl b off _ _ rfl
 have hn : ¬ R b := fun e => hr b hp.2 e hp.1
 exact ⟨b, off, u, rfl, hg.cell c1 hn, hg.cell c2 hn, c3.keeps c4 hg hr, c4.size hg.size⟩
theorem InO.weak {w : World} {P Q : Nat → Prop} {v : Value} {l : List Int} (h : InO w P v l) (hq : ∀ b, b < w.heap.size → P b → Q b) : InO w Q v l := ⟨h.1, h.2.weak hq⟩
theorem SpO.weak {w : World} {P Q : Nat → Prop} {v : Value} {l : List Sp} (h : SpO w P v l) (hq : ∀ b, b < w.heap.size → P b → Q b) : SpO w Q v l := ⟨h.1, h.2.weak hq⟩
theorem MpO.weak {w : World} {P Q : Nat → Prop} {v : Value} {l : List Mp} (h : MpO w P v l) (hq : ∀ b, b < w.heap.size → P b → Q b) : MpO w Q v l := by
 obtain ⟨p, c, rfl, hl, h2, h3⟩ := h
 refine ⟨p, c, rfl, hl.weak hq, h2, fun k hk => ?_⟩
 obtain ⟨b, off, u, e, c1, c2, c3, c4⟩ := h3 k hk
 exact ⟨b, off, u, e, c1, c2, c3, c4.weak hq⟩
theorem MpO.mpv {w : World} {P : Nat → Prop} {v : Value} {l : List Mp} (h : MpO w P v l) : MpV w v l := by
 obtain ⟨p, c, rfl, hl, h2, h3⟩ := h
 refine ⟨p, c, rfl, fun k hk => ?_, h2⟩
 obtain ⟨b, off, u, e, c1, c2, c3, c4⟩ := h3 k hk
 exact ⟨b, off, u, e, c1, c2, c3⟩
theorem MpO.nil (w : World) (P : Nat → Prop) : MpO w P (.slice none 0 0) [] := ⟨none, 0, rfl, Lies.nil _ _ _ _, by simp, fun k hk => absurd hk (Nat.not_lt_zero _)⟩
theorem InO.nil (w : World) (P : Nat → Prop) : InO w P (.slice none 0 0) [] := ⟨noI w, Lies.nil _ _ _ _⟩
theorem SpO.nil (w : World) (P : Nat → Prop) : SpO w P (.slice none 0 0) [] := ⟨noS w, Lies.nil _ _ _ _⟩
def BoxF (w : World) (g : Nat) (f : Nat → Value) : Prop := ∀ i, i < 12 → w.cell? ⟨g, i, none⟩ = some (f i) ∧ w.frozen? ⟨g, i, none⟩ = false
structure Cold (w : World) (P : Nat → Prop) (f : Nat → Value) (S : Nat → List Sp) (E M D R : List Mp) (X : List Int) : Prop where
 sp : ∀ i, i < 7 → SpO w P (f i) (S i)
 ext : MpO w P (f 7) E
 map : MpO w P (f 8) M
 dec : MpO w P (f 9) D
 exc : InO w P (f 10) X
 pro : MpO w P (f 11) R
section
variable {w w' : World} {P Q R : Nat → Prop} {f : Nat → Value} {S : Nat → List Sp} {E M D Z : List Mp} {X : List Int}
theorem Cold.keeps (h : Cold w P f S E M D Z X) (hg : Keeps w w' R) (hr : ∀ k, k < w.heap.size → R k → ¬ P k) : Cold w' P f S E M D Z X :=
 ⟨fun i hi => (h.sp i hi).keeps hg hr, h.ext.keeps hg hr, h.map.keeps hg hr, h.dec.keeps hg hr, h.exc.keeps hg hr, h.pro.keeps hg hr⟩
theorem Cold.weak (h : Cold w P f S E M D Z X) (hq : ∀ b, b < w.heap.size → P b → Q b) : Cold w Q f S E M D Z X :=
 ⟨fun i hi => (h.sp i hi).weak hq, h.ext.weak hq, h.map.weak hq, h.dec.weak hq, h.exc.weak hq, h.pro.weak hq⟩
theorem Cold.below (h : Cold w P f S E M D Z X) (hb : Below w.heap.size w w') : Cold w' P f S E M D Z X :=
 h.keeps (Keeps.of_below hb) (fun k hk e => by omega)
abbrev tbOf (S : Nat → List Sp) (E M D R : List Mp) (X : List Int) : Tb := ⟨S 0, S 1, S 2, S 3, S 4, S 5, S 6, E, M, D, X, R⟩
abbrev xOf (f : Nat → Value) : TV := ⟨f 0, f 1, f 2, f 3, f 4, f 5, f 6, f 7, f 8, f 9, f 10, f 11⟩
theorem Cold.tab (h : Cold w P f S E M D Z X) : TabV w (xOf f) (tbOf S E M D Z X) :=
 ⟨(h.sp 0 (by omega)).1, (h.sp 1 (by omega)).1, (h.sp 2 (by omega)).1, (h.sp 3 (by omega)).1, (h.sp 4 (by omega)).1, (h.sp 5 (by omega)).1, (h.sp 6 (by omega)).1, h.ext.mpv, h.map.mpv, h.dec.mpv, h.exc.1, h.pro.mpv⟩
end
theorem BoxF.box {w : World} {g : Nat} {f : Nat → Value} (h : BoxF w g f) : BoxT w g (xOf f) :=
 ⟨⟨(h 0 (by omega)).1, (h 1 (by omega)).1, (h 2 (by omega)).1, (h 3 (by omega)).1, (h 4 (by omega)).1, (h 5 (by omega)).1⟩, ⟨(h 6 (by omega)).1, (h 7 (by omega)).1, (h 8 (by omega)).1, (h 9 (by omega)).1, (h 10 (by omega)).1, (h 11 (by omega)).1⟩⟩
theorem BoxF.lt {w : World} {g : Nat} {f : Nat → Value} (h : BoxF w g f) : g < w.heap.size := World.block_lt_of_cell? w _ (h 0 (by omega)).1
theorem BoxF.keeps {w w' : World} {R : Nat → Prop} {g : Nat} {f : Nat → Value} (h : BoxF w g f) (hg : Keeps w w' R) (hr : ¬ R g) : BoxF w' g f := by
 intro i hi
 obtain ⟨h1, h2⟩ := h i hi
 exact ⟨hg.cell h1 hr, (World.frozen?_of_block (a := ⟨g, i, none⟩) (hg.block g h.lt hr)).trans h2⟩
theorem BoxF.below {w w' : World} {g : Nat} {f : Nat → Value} (h : BoxF w g f) (hb : Below w.heap.size w w') : BoxF w' g f := h.keeps (Keeps.of_below hb) (Nat.not_le_of_lt h.lt)
def upd {A : Type} (f : Nat → A) (i : Nat) (v : A) : Nat → A := fun j => if j = i then v else f j
theorem upd_same {A : Type} (f : Nat → A) (i : Nat) (v : A) : upd f i v i = v := by simp [upd]
theorem upd_other {A : Type} (f : Nat → A) {i j : Nat} (v : A) (h : j ≠ i) : upd f i v j = f j := by simp [upd, h]
structure Sets (w w' : World) (g i : Nat) (v : Value) : Prop where
 cell : w'.cell? ⟨g, i, none⟩ = some v
 keep : Keeps w w' (fun k => k = g)
 froz : ∀ j, w'.frozen? ⟨g, j, none⟩ = w.frozen? ⟨g, j, none⟩
 rest : ∀ j, j ≠ i → w'.cell? ⟨g, j, none⟩ = w.cell? ⟨g, j, none⟩
theorem BoxF.sets {w w' : World} {g i : Nat} {f : Nat → Value} {v : Value} (h : BoxF w g f) (hs : Sets w w' g i v) : BoxF w' g (upd f i v) := by
 intro j hj
 obtain ⟨h1, h2⟩ := h j hj
 refine ⟨?_, (hs.froz j).trans h2⟩
 by_cases e : j = i
 ·subst e; rw [upd_same]; exact hs.cell
 ·rw [upd_other _ _ e, hs.rest j e]; exact h1
theorem Sets.store (w : World) (g i : Nat) (v u : Value) (hc : w.cell? ⟨g, i, none⟩ = some u) : Sets w (w.setCell ⟨g, i, none⟩ v) g i v :=
 ⟨World.cell?_setCell_same _ _ _ hc, Keeps.store w g i v, fun j => World.frozen?_setCell _ _ _ _, fun j hj => World.cell?_setCell_other _ _ _ _ (by intro e; cases e; exact hj rfl)⟩
theorem Sets.same (w : World) (g i : Nat) (v : Value) (hc : w.cell? ⟨g, i, none⟩ = some v) {w' : World} (hb : Below w.heap.size w w') : Sets w w' g i v := by
 have hlt := World.block_lt_of_cell? w _ hc
 refine ⟨(hb.cell (p := ⟨g, i, none⟩) hlt).trans hc, (Keeps.of_below hb).weak (fun k hk e => by omega), fun j => hb.frozen (p := ⟨g, j, none⟩) hlt, fun j _ => hb.cell (p := ⟨g, j, none⟩) hlt⟩
theorem Sets.behind {w w1 w' : World} {g i : Nat} {v : Value} {R : Nat → Prop} (hs : Sets w1 w' g i v) (hg : Keeps w w1 R) (hr : ∀ k, k < w.heap.size → ¬ R k) (hlt : g < w.heap.size) : Sets w w' g i v := by
 have hblk := hg.block g hlt (hr g hlt)
 refine ⟨hs.cell, hg.trans hs.keep (fun b hb e => absurd e (hr b hb)) (fun b hb e => e), fun j => (hs.froz j).trans (World.frozen?_of_block (a := ⟨g, j, none⟩) hblk), fun j hj => (hs.rest j hj).trans (World.cell?_of_block (a := ⟨g, j, none⟩) hblk)⟩
theorem Cold.setS {w w' : World} {P : Nat → Prop} {g i : Nat} {f : Nat → Value} {S : Nat → List Sp} {E M D R : List Mp} {X : List Int} {v : Value} {L : List Sp} (h : Cold w P f S E M D R X) (hi : i < 7)
 (hg : Keeps w w' (fun k => k = g)) (hP : ¬ P g) (hv : SpO w' P v L) : Cold w' P (upd f i v) (upd S i L) E M D R X := by
 have h' := h.keeps hg (fun k _ e => by subst e; exact hP)
 refine ⟨fun j hj => ?_, ?_, ?_, ?_, ?_, ?_⟩
 ·by_cases e : j = i
  ·subst e; rw [upd_same, upd_same]; exact hv
  ·rw [upd_other _ _ e, upd_other _ _ e]; exact h'.sp j hj
 ·rw [upd_other _ _ (by omega)]; exact h'.ext
 ·rw [upd_other _ _ (by omega)]; exact h'.map
 ·rw [upd_other _ _ (by omega)]; exact h'.dec
 ·rw [upd_other _ _ (by omega)]; exact h'.exc
 ·rw [upd_other _ _ (by omega)]; exact h'.pro
end Go.Proofs.YtopaojjodkoidaaGreatDoor
