/-
  The encoding of tables, plain mathematics.
  strings.Builder: copyCheck, WriteString, String, of a builder that lies in a block of its own.
-/
import Derived.Test.YtnnhcgflmhjakaaGreatDoorPkL
import Derived.Test.YtnnhcgflmhjakaaGreatDoorPkM
import Derived.Test.YtnnhcgflmhjakaaGreatDoorPkB
import Derived.Test.YtnnhcgflmhjakaaGreatDoorQTabH
import Derived.Test.YtnnhcgflmhjakaaGreatDoorPkA
import Derived.Lib.Builder
import Derived.Lib.AppendStr
import Derived.Lib.UnsafeStr
import Derived.Laws.Externs
import Derived.RegionTactic
set_option linter.unusedSimpArgs false
set_option linter.unusedVariables false
namespace Go.Proofs.YtnnhcgflmhjakaaGreatDoor
open Go Go.RowKit
set_option linter.unusedVariables false

def encSp (l : List Sp) : ByteArray := putB l.length ++ encS 0 l
def encLi (l : List Int) : ByteArray := putB l.length ++ encL 0 l
def encRow (m : Mp) : ByteArray := putB m.1 ++ encLi m.2

/-- What is written, one piece behind the other. -/
def accS (b : ByteArray) : List (List Sp) → ByteArray
  | [] => b
  | l :: r => accS (b ++ encSp l) r
def accR (b : ByteArray) : List Mp → ByteArray
  | [] => b
  | m :: r => accR (b ++ encRow m) r
def accM (b : ByteArray) : List (List Mp) → ByteArray
  | [] => b
  | l :: r => accM (accR (b ++ putB l.length) l) r

def sigB : ByteArray := ⟨#[78, 68, 84, 49]⟩
def rowsB (T : Tb) : ByteArray := accM (accS sigB (spansT T)) (mpsT T) ++ encLi T.exc

/-- Encode. -/
def encT (T : Tb) : ByteArray × Int :=
  if checkT T ≠ 0 then (ByteArray.empty, 2)
  else if 32768 < (rowsB T ++ putB (sumS (rowsB T))).size then (ByteArray.empty, 7) else (rowsB T ++ putB (sumS (rowsB T)), 0)

theorem accS_append (b : ByteArray) (a : List (List Sp)) (l : List Sp) : accS b (a ++ [l]) = accS b a ++ encSp l := by
  induction a generalizing b with
  | nil => rfl
  | cons x r ih => exact ih _
theorem accR_append (b : ByteArray) (a : List Mp) (m : Mp) : accR b (a ++ [m]) = accR b a ++ encRow m := by
  induction a generalizing b with
  | nil => rfl
  | cons x r ih => exact ih _
theorem accM_append (b : ByteArray) (a : List (List Mp)) (l : List Mp) : accM b (a ++ [l]) = accR (accM b a ++ putB l.length) l := by
  induction a generalizing b with
  | nil => rfl
  | cons x r ih => exact ih _

theorem take_snoc_any {α : Type} (l : List α) (k : Nat) (d : α) (h : k < l.length) : l.take (k + 1) = l.take k ++ [l.getD k d] := by
  rw [List.take_succ_eq_append_getElem h]; simp [h]

theorem accS_take (b : ByteArray) (L : List (List Sp)) (k : Nat) (h : k < L.length) : accS b (L.take (k + 1)) = accS b (L.take k) ++ encSp (L.getD k []) := by
  rw [take_snoc_any L k [] h, accS_append]
theorem accR_take (b : ByteArray) (L : List Mp) (k : Nat) (h : k < L.length) : accR b (L.take (k + 1)) = accR b (L.take k) ++ encRow (L.getD k mp0) := by
  rw [take_snoc_any L k mp0 h, accR_append]
theorem accM_take (b : ByteArray) (L : List (List Mp)) (k : Nat) (h : k < L.length) : accM b (L.take (k + 1)) = accR (accM b (L.take k) ++ putB (L.getD k []).length) (L.getD k []) := by
  rw [take_snoc_any L k [] h, accM_append]

theorem encSp_size (l : List Sp) : (encSp l).size ≤ 10 + 30 * l.length := by
  have h1 := encS_size l 0
  have h2 := (putB_size (l.length : Int)).2
  rw [encSp, ByteArray.size_append]; omega
theorem encLi_size (l : List Int) : (encLi l).size ≤ 10 + 10 * l.length := by
  have h1 := encL_size l 0
  have h2 := (putB_size (l.length : Int)).2
  rw [encLi, ByteArray.size_append]; omega
theorem encRow_size (m : Mp) : (encRow m).size ≤ 20 + 10 * m.2.length := by
  have h1 := encLi_size m.2
  have h2 := (putB_size m.1).2
  rw [encRow, ByteArray.size_append]; omega

theorem accS_size (b : ByteArray) (L : List (List Sp)) (h : ∀ l ∈ L, l.length ≤ 256) : (accS b L).size ≤ b.size + 7690 * L.length := by
  induction L generalizing b with
  | nil => simp [accS]
  | cons l r ih =>
    have h1 := ih (b ++ encSp l) (fun x hx => h x (by simp [hx]))
    have h2 := encSp_size l
    have h3 := h l (by simp)
    rw [ByteArray.size_append] at h1
    simp only [accS, List.length_cons]; omega
theorem accR_size (b : ByteArray) (L : List Mp) (h : ∀ m ∈ L, m.2.length ≤ 18) : (accR b L).size ≤ b.size + 200 * L.length := by
  induction L generalizing b with
  | nil => simp [accR]
  | cons l r ih =>
    have h1 := ih (b ++ encRow l) (fun x hx => h x (by simp [hx]))
    have h2 := encRow_size l
    have h3 := h l (by simp)
    rw [ByteArray.size_append] at h1
    simp only [accR, List.length_cons]; omega
theorem accM_size (b : ByteArray) (L : List (List Mp)) (h : ∀ l ∈ L, l.length ≤ 256 ∧ ∀ m ∈ l, m.2.length ≤ 18) : (accM b L).size ≤ b.size + 51210 * L.length := by
  induction L generalizing b with
  | nil => simp [accM]
  | cons l r ih =>
    have h1 := ih (accR (b ++ putB l.length) l) (fun x hx => h x (by simp [hx]))
    have h2 := accR_size (b ++ putB l.length) l (h l (by simp)).2
    have h3 := (h l (by simp)).1
    have h4 := (putB_size (l.length : Int)).2
    rw [ByteArray.size_append] at h2
    simp only [accM, List.length_cons]; omega

/-- What Encode needs of tables that are well-formed. -/
structure EncOk (T : Tb) : Prop where
  sp : ∀ l ∈ spansT T, l.length ≤ 256 ∧ ascB 0 l = true ∧ ∀ s ∈ l, modB s.2.2 = true
  mp : ∀ l ∈ mpsT T, l.length ≤ 256 ∧ ∀ m ∈ l, 0 ≤ m.1 ∧ m.1 ≤ 1114111 ∧ m.2.length ≤ 18 ∧ ∀ v ∈ m.2, modB v = true
  exc : T.exc.length ≤ 256 ∧ ∀ v ∈ T.exc, modB v = true

theorem EncOk.s {T : Tb} (h : EncOk T) (k : Nat) (hk : k < 7) : putSpansS ByteArray.empty ((spansT T).getD k []) = (encSp ((spansT T).getD k []), 0) ∧ ∀ b, putSpansS b ((spansT T).getD k []) = (b ++ encSp ((spansT T).getD k []), 0) := by
  have hm : (spansT T).getD k [] ∈ spansT T := by
    rw [List.getD_eq_getElem?_getD, List.getElem?_eq_getElem (by rw [spansT_len]; exact hk)]; exact List.getElem_mem _
  obtain ⟨h1, h2, h3⟩ := h.sp _ hm
  have key : ∀ b, putSpansS b ((spansT T).getD k []) = (b ++ encSp ((spansT T).getD k []), 0) := by
    intro b
    have hv : validS ((spansT T).getD k []) = true := by unfold validS; rw [h2, decide_eq_true h1]; rfl
    rw [putSpansS, if_pos hv, putSF_ok _ _ _ h3, encSp, str_assoc]
  refine ⟨?_, key⟩
  rw [key]
  congr 1

theorem putList_ok (l : List Int) (h1 : l.length ≤ 256) (h2 : ∀ v ∈ l, modB v = true) (b : ByteArray) : putListS b l = (b ++ encLi l, 0) := by
  rw [putListS, if_neg (by omega), putLF_ok _ _ _ h2, encLi, str_assoc]

theorem EncOk.m {T : Tb} (h : EncOk T) (k : Nat) (hk : k < 4) : ((mpsT T).getD k []).length ≤ 256 ∧ ∀ j, j < ((mpsT T).getD k []).length → 0 ≤ (((mpsT T).getD k []).getD j mp0).1 ∧ (((mpsT T).getD k []).getD j mp0).1 ≤ 1114111 ∧ (((mpsT T).getD k []).getD j mp0).2.length ≤ 18 ∧ (∀ v ∈ (((mpsT T).getD k []).getD j mp0).2, modB v = true) := by
  have hm : (mpsT T).getD k [] ∈ mpsT T := by
    rw [List.getD_eq_getElem?_getD, List.getElem?_eq_getElem (by rw [mpsT_len]; exact hk)]; exact List.getElem_mem _
  obtain ⟨h1, h2⟩ := h.mp _ hm
  exact ⟨h1, fun j hj => h2 _ (mp_getD_mem _ _ hj)⟩

theorem rowsB_parts {T : Tb} (h : EncOk T) : (∀ k, k ≤ 7 → (accS sigB ((spansT T).take k)).size ≤ 60000) ∧ (∀ k, k ≤ 4 → (accM (accS sigB (spansT T)) ((mpsT T).take k)).size ≤ 300000) ∧
    (∀ k j, k < 4 → j ≤ ((mpsT T).getD k []).length → (accR (accM (accS sigB (spansT T)) ((mpsT T).take k) ++ putB ((mpsT T).getD k []).length) (((mpsT T).getD k []).take j)).size ≤ 400000) := by
  have e4 : sigB.size = 4 := rfl
  have hS : ∀ k, k ≤ 7 → (accS sigB ((spansT T).take k)).size ≤ 60000 := by
    intro k hk
    have := accS_size sigB ((spansT T).take k) (fun l hl => (h.sp l (List.mem_of_mem_take hl)).1)
    have h2 : ((spansT T).take k).length ≤ 7 := by rw [List.length_take, spansT_len]; omega
    omega
  have hM : ∀ k, k ≤ 4 → (accM (accS sigB (spansT T)) ((mpsT T).take k)).size ≤ 300000 := by
    intro k hk
    have := accM_size (accS sigB (spansT T)) ((mpsT T).take k) (fun l hl => ⟨(h.mp l (List.mem_of_mem_take hl)).1, fun m hm => ((h.mp l (List.mem_of_mem_take hl)).2 m hm).2.2.1⟩)
    have h2 : ((mpsT T).take k).length ≤ 4 := by rw [List.length_take, mpsT_len]; omega
    have h3 := hS 7 (by omega)
    rw [List.take_of_length_le (Nat.le_of_eq (spansT_len T))] at h3
    omega
  refine ⟨hS, hM, fun k j hk hj => ?_⟩
  obtain ⟨h1, h2⟩ := h.m k hk
  have h3 := accR_size (accM (accS sigB (spansT T)) ((mpsT T).take k) ++ putB ((mpsT T).getD k []).length) (((mpsT T).getD k []).take j) (fun m hm => by
    obtain ⟨i, hi, e⟩ := List.getElem_of_mem (List.mem_of_mem_take hm)
    have := (h2 i hi).2.2.1
    have e2 : ((mpsT T).getD k []).getD i mp0 = m := by rw [List.getD_eq_getElem?_getD, List.getElem?_eq_getElem hi, ← e]; rfl
    rw [e2] at this
    exact this)
  have h4 := hM k (by omega)
  have h5 := (putB_size (((mpsT T).getD k []).length : Int)).2
  have h6 : (((mpsT T).getD k []).take j).length ≤ 256 := by rw [List.length_take]; omega
  rw [ByteArray.size_append] at h3
  omega

theorem enc_ok {T : Tb} (h : checkT T = 0) : EncOk T := by
  have h0 : r1 T = true ∧ r2 T = true ∧ r3 T = true ∧ r4 T = true := by
    unfold checkT at h
    cases h1 : r1 T <;> cases h2 : r2 T <;> cases h3 : r3 T <;> cases h4 : r4 T <;> simp [h1, h2, h3, h4] at h <;> simp
  obtain ⟨h1, h2, h3, h4⟩ := h0
  simp only [r1, Bool.and_eq_true, decide_eq_true_eq, List.all_eq_true, fewS, fewM] at h1
  simp only [r2, Bool.and_eq_true, List.all_eq_true, spOk] at h2
  obtain ⟨hs1, hm1, he1⟩ := h1
  obtain ⟨hs2, k0, k1, k2, k3, ke⟩ := h2
  have kv : ∀ (lo hi : Int) (l : List Sp), valOk lo hi l = true → -1073741824 ≤ lo → hi ≤ 1073741824 → ∀ s ∈ l, modB s.2.2 = true := by
    intro lo hi l hv h5 h6 s hs
    have := List.all_eq_true.1 hv s hs
    simp only [Bool.and_eq_true, decide_eq_true_eq] at this
    rw [modB_iff]; omega
  have kf : ∀ l : List Int, ascI 0 1114111 l = true → ∀ v ∈ l, 0 ≤ v ∧ v ≤ 1114111 := fun l hl v hv => ⟨(ascI_mem hl hv).1, (ascI_mem hl hv).2.1⟩
  have kk : ∀ l : List Int, keyOk l = true → ascI 0 1114111 l = true := fun l hl => by unfold keyOk at hl; rw [Bool.and_eq_true] at hl; exact hl.1
  have kkP : ∀ l : List Int, keyOkP l = true → ascI 0 1114111 l = true := fun l hl => by unfold keyOkP at hl; rw [Bool.and_eq_true] at hl; exact hl.1
  simp only [r3, Bool.and_eq_true] at h3
  obtain ⟨v0, v1, v2, v3, v4, v5, v6⟩ := h3
  simp only [r4, Bool.and_eq_true, List.all_eq_true] at h4
  obtain ⟨q0, q1, q2, q3⟩ := h4
  have kS : ∀ m : Mp, seqS m = true → m.2.length ≤ 18 ∧ ∀ v ∈ m.2, modB v = true := by
    intro m hm
    simp only [seqS, Bool.and_eq_true, decide_eq_true_eq, List.all_eq_true] at hm
    refine ⟨hm.1.2, fun v hv => ?_⟩
    have := hm.2 v hv
    simp only [scaB, Bool.and_eq_true, decide_eq_true_eq] at this
    rw [modB_iff]; omega
  have kE : ∀ m : Mp, seqE m = true → m.2.length ≤ 18 ∧ ∀ v ∈ m.2, modB v = true := by
    intro m hm
    simp only [seqE, Bool.and_eq_true, decide_eq_true_eq] at hm
    refine ⟨hm.1.2, fun v hv => ?_⟩
    have h9 := ascI_mem hm.2 hv
    rw [modB_iff]; omega
  have kfm : ∀ l : List Mp, ascI 0 1114111 (froms l) = true → ∀ m ∈ l, 0 ≤ m.1 ∧ m.1 ≤ 1114111 := fun l hl m hm => kf _ hl m.1 (List.mem_map.2 ⟨m, hm, rfl⟩)
  refine ⟨fun l hl => ⟨hs1 l hl, (hs2 l hl).1, ?_⟩, fun l hl => ⟨hm1 l hl, fun m hm => ?_⟩, he1, fun v hv => ?_⟩
  · simp only [spansT, List.mem_cons, List.not_mem_nil, or_false] at hl
    rcases hl with rfl | rfl | rfl | rfl | rfl | rfl | rfl
    · exact kv 0 8 _ v0 (by omega) (by omega)
    · exact kv 1 254 _ v1 (by omega) (by omega)
    · exact kv 0 5 _ v2 (by omega) (by omega)
    · exact kv 0 11 _ v3 (by omega) (by omega)
    · exact kv 0 60 _ v4 (by omega) (by omega)
    · exact kv 0 4 _ v5 (by omega) (by omega)
    · exact kv 1 1 _ v6 (by omega) (by omega)
  · simp only [mpsT, List.mem_cons, List.not_mem_nil, or_false] at hl
    rcases hl with rfl | rfl | rfl | rfl
    · exact ⟨(kfm _ (kk _ k0) m hm).1, (kfm _ (kk _ k0) m hm).2, kE m (q0 m hm)⟩
    · exact ⟨(kfm _ (kk _ k1) m hm).1, (kfm _ (kk _ k1) m hm).2, kS m (q1 m hm)⟩
    · exact ⟨(kfm _ (kk _ k2) m hm).1, (kfm _ (kk _ k2) m hm).2, kS m (q2 m hm)⟩
    · exact ⟨(kfm _ (kkP _ k3) m hm).1, (kfm _ (kkP _ k3) m hm).2, kS m (q3 m hm)⟩
  · have := kf _ (kk _ ke) v hv
    rw [modB_iff]; omega

end Go.Proofs.YtnnhcgflmhjakaaGreatDoor

namespace Go.Proofs.YtnnhcgflmhjakaaGreatDoor
open Go Go.RowKit
set_option linter.unusedVariables false

theorem Tryz.infoByte : (Tryz.prog.info? 5).map (fun i => (i.zero, i.size, i.bytes)) = some (some (.int .u8 0), 1, 1) := by kernel_rfl
end Go.Proofs.YtnnhcgflmhjakaaGreatDoor
