/-
  The references of table: Check.
-/
import Derived.Test.YtopaojjodkoidaaGreatDoorSSmTabRD
import Derived.Test.YtopaojjodkoidaaGreatDoorSSmPkK
import Derived.Test.YtopaojjodkoidaaGreatDoorSSmPkZZR
import Derived.Test.YtopaojjodkoidaaGreatDoorSSmTabRL
import Derived.Test.YtopaojjodkoidaaGreatDoorSSmPkE
set_option linter.unusedSimpArgs false
set_option linter.unusedVariables false
namespace Go.Proofs.YtopaojjodkoidaaGreatDoor
open Go.RowKit
theorem r4_len {T : Tb} (h : r4 T = true) : ∀ m ∈ T.dec, m.2.length ≤ 18 := fun m hm => by
 simp only [r4, Bool.and_eq_true] at h
 have := List.all_eq_true.1 h.2.2.1 m hm
 simp only [seqS, Bool.and_eq_true, decide_eq_true_eq] at this
 exact this.1.2
theorem has_pro {T : Tb} (h : r4 T = true) (c : Int) : hasM T.pro c = decide (findM T.pro c ≠ []) := by
 cases hh : hasM T.pro c with
 | false => rw [findM_nil hh]; rfl
 | true =>
  have hm := findM_has hh
  simp only [r4, Bool.and_eq_true] at h
  have := List.all_eq_true.1 h.2.2.2 _ hm
  simp only [seqS, Bool.and_eq_true, decide_eq_true_eq] at this
  have hne : findM T.pro c ≠ [] := fun e => by rw [e] at this; simp at this
  exact (decide_eq_true hne).symm
theorem r3_ign {T : Tb} (h : r3 T = true) : valOk 1 1 T.ign = true := by
 simp only [r3, Bool.and_eq_true] at h; exact h.2.2.2.2.2.2
theorem r2_sta {T : Tb} (h : r2 T = true) : spOk T.sta = true := by
 simp only [r2, spansT, List.all_cons, List.all_nil, Bool.and_eq_true] at h; exact h.1.2.2.2.2.2.1
theorem rsmall_at (x : TV) (T : Tb) (B : Bool) (w : World) (hx : TabV w x T) (hB : Hid (r1 T = B)) : Calls Tryz.prog 122 #[x.agg] w (Gives (.bool B) w) := hB.out ▸ rsmall_any x T w hx
theorem rplaced_at (x : TV) (T : Tb) (B : Bool) (w : World) (hx : TabV w x T) (h1 : r1 T = true) (hB : Hid (r2 T = B)) : Calls Tryz.prog 123 #[x.agg] w (Gives (.bool B) w) := hB.out ▸ rplaced_any x T w hx h1
theorem rranged_at (x : TV) (T : Tb) (B : Bool) (w : World) (hx : TabV w x T) (hB : Hid (r3 T = B)) : Calls Tryz.prog 124 #[x.agg] w (Gives (.bool B) w) := hB.out ▸ rranged_any x T w hx
theorem rsized_at (x : TV) (T : Tb) (B : Bool) (w : World) (hx : TabV w x T) (hB : Hid (r4 T = B)) : Calls Tryz.prog 125 #[x.agg] w (Gives (.bool B) w) := hB.out ▸ rsized_any x T w hx
theorem rmapped_at (x : TV) (T : Tb) (B : Bool) (w : World) (hx : TabV w x T) (h2 : r2 T = true) (hB : Hid (r5 T = B)) : Calls Tryz.prog 126 #[x.agg] w (Gives (.bool B) w) := hB.out ▸ rmapped_any x T w hx (r2_sta h2)
theorem rfinite_at (x : TV) (T : Tb) (B : Bool) (w : World) (hx : TabV w x T) (h1 : r1 T = true) (h4 : r4 T = true) (hB : Hid (r6 T = B)) : Calls Tryz.prog 127 #[x.agg] w (Gives (.bool B) w) := hB.out ▸ rfinite_any x T w hx (r4_len h4) (few_mp h1).2.2.1
def clash (T : Tb) (a b : Mp) : Bool := compT T a.1 && (compT T b.1 && decide (a.2 = b.2))
theorem nodup_step {T : Tb} {i : Nat} (hi : i < T.dec.length) (h : (cmpTos T (T.dec.take i)).Nodup) (hn : ∀ j, j < i → clash T (T.dec.getD i mp0) (T.dec.getD j mp0) = false) : (cmpTos T (T.dec.take (i + 1))).Nodup := by
 rw [take_snoc_mp T.dec i hi, cmpTos_snoc]
 split
 ·rename_i hc
  rw [List.nodup_append]
  refine ⟨h, by simp, ?_⟩
  intro y hy z hz
  rw [List.mem_singleton] at hz
  subst hz
  rintro rfl
  simp only [cmpTos, List.mem_map, List.mem_filter] at hy
  obtain ⟨m, ⟨hm, hcm⟩, he⟩ := hy
  obtain ⟨j, hj, rfl⟩ := List.getElem_of_mem hm
  have hji : j < i := by simp at hj; omega
  have := hn j hji
  have e : (T.dec.take i)[j] = T.dec.getD j mp0 := by simp [show j < T.dec.length by omega]
  rw [e] at hcm he
  rw [clash, hc, hcm, decide_eq_true he.symm] at this
  cases this
 ·simpa using h
theorem nodup_clash {T : Tb} {i j : Nat} (hi : i < T.dec.length) (hj : j < i) (h : clash T (T.dec.getD i mp0) (T.dec.getD j mp0) = true) : r8 T = false := by
 simp only [clash, Bool.and_eq_true, decide_eq_true_eq] at h
 obtain ⟨h1, h2, h3⟩ := h
 have e : T.dec = T.dec.take i ++ ([T.dec.getD i mp0] ++ T.dec.drop (i + 1)) := by
  have : T.dec.getD i mp0 = T.dec[i] := by simp [hi]
  rw [this, List.singleton_append, ← List.drop_eq_getElem_cons hi, List.take_append_drop]
 unfold r8
 apply decide_eq_false
 intro hn
 rw [e] at hn
 have hsp : ∀ a b : List Mp, cmpTos T (a ++ b) = cmpTos T a ++ cmpTos T b := fun a b => by simp [cmpTos]
 rw [hsp, hsp, List.nodup_append] at hn
 have hm1 : (T.dec.getD j mp0).2 ∈ cmpTos T (T.dec.take i) := by
  simp only [cmpTos, List.mem_map, List.mem_filter]
  refine ⟨_, ⟨?_, h2⟩, rfl⟩
  have hlen : j < (T.dec.take i).length := by simp; omega
  have : T.dec.getD j mp0 = (T.dec.take i)[j] := by simp [show j < T.dec.length by omega]
  rw [this]; exact List.getElem_mem hlen
 have hm2 : (T.dec.getD i mp0).2 ∈ cmpTos T [T.dec.getD i mp0] ++ cmpTos T (T.dec.drop (i + 1)) := by
  apply List.mem_append_left
  simp only [cmpTos, List.mem_map, List.mem_filter, List.mem_singleton]
  exact ⟨_, ⟨rfl, h1⟩, rfl⟩
 exact hn.2.2 _ hm1 _ hm2 h3.symm
end Go.Proofs.YtopaojjodkoidaaGreatDoor
