/-
  stream: plain mathematics: normalization form C can be cut in front of a boundary; what a stream holds.
  stream: plain mathematics: the tables that a stream keeps (class, decompositions, exclusions) say the same of normalization.
  stream: a stream in memory: its block, its tables, the slice that it holds.
  stream.Boundary, and the reference's.
-/
import Derived.Test.YtfmfifmmaihodaaGreatDoorSxPkZS
import Derived.Test.YtfmfifmmaihodaaGreatDoorSxPkZ
import Derived.Test.YtfmfifmmaihodaaGreatDoorSxTblC
import Derived.Test.YtfmfifmmaihodaaGreatDoorSxPkZT
import Derived.Test.YtfmfifmmaihodaaGreatDoorSxPkZU
import Derived.Test.YtfmfifmmaihodaaGreatDoorSxPkF
import Derived.BigQuiet
import Derived.Deep.RegionLaw
set_option linter.unusedSimpArgs false
set_option linter.unusedVariables false
namespace Go.Proofs.YtfmfifmmaihodaaGreatDoor
set_option linter.unusedVariables false

def bndT (T : Tb) (c : Int) : Bool := decide (checkT T = 0) && (scaB c && (decide (clsT T ((expT T c).headD 0) = 0) && !secB T ((expT T c).headD 0)))

theorem bnd_facts {T : Tb} {c : Int} (h : bndT T c = true) : checkT T = 0 ∧ scaB c = true ∧ ∃ d W, expT T c = d :: W ∧ clsT T d = 0 ∧ secB T d = false := by
  unfold bndT at h
  simp only [Bool.and_eq_true, decide_eq_true_eq, Bool.not_eq_true'] at h
  obtain ⟨h1, h2, h3, h4⟩ := h
  refine ⟨h1, h2, ?_⟩
  cases he : expT T c with
  | nil => have := (exp_len h1 c).1; rw [he] at this; simp at this
  | cons d W => rw [he] at h3 h4; exact ⟨d, W, rfl, h3, h4⟩

theorem goN_sep {T : Tb} (h : checkT T = 0) {d : Int} (hs : secB T d = false) (h0 : clsT T d = 0) (A B : List Int) (s : Int) (M : List Int) : goN T s M (A ++ d :: B) = goN T s M A ++ goN T d [] B := by
  induction A generalizing s M with
  | nil => rw [List.nil_append, goN_start (stepO_no (pair_no h hs)) h0]; rfl
  | cons c r ih =>
    rw [List.cons_append]
    cases hst : stepO T s M c with
    | some p => rw [goN_some hst, goN_some hst, ih]
    | none =>
      by_cases h1 : clsT T c = 0
      · rw [goN_start hst h1, goN_start hst h1, ih]; simp
      · rw [goN_mark hst h1, goN_mark hst h1, ih]
theorem go0_sep {T : Tb} (h : checkT T = 0) {d : Int} (hs : secB T d = false) (h0 : clsT T d = 0) (A B M : List Int) : go0 T M (A ++ d :: B) = go0 T M A ++ goN T d [] B := by
  induction A generalizing M with
  | nil =>
    have e : go0 T M (d :: B) = if clsT T d = 0 then M ++ goN T d [] B else go0 T (M ++ [d]) B := rfl
    rw [List.nil_append, e, if_pos h0]; rfl
  | cons c r ih =>
    rw [List.cons_append, go0, go0]
    by_cases h1 : clsT T c = 0
    · rw [if_pos h1, if_pos h1, goN_sep h hs h0]; simp
    · rw [if_neg h1, if_neg h1, ih]

/-- NFC, of a list that is not too long. -/
theorem nfc_cut {T : Tb} {a b : List Int} {c : Int} (hb : bndT T c = true) (ha : nfdE T a = 0) (hc : nfdE T (c :: b) = 0) (hab : nfdE T (a ++ c :: b) = 0) : nfcL T (a ++ c :: b) = nfcL T a ++ nfcL T (c :: b) := by
  obtain ⟨h, _, d, W, he, h0, hs⟩ := bnd_facts hb
  obtain ⟨R, hR⟩ : ∃ R, ordS (clsT T) (W ++ flatT T b) = R := ⟨_, rfl⟩
  have e1 : nfdL T (c :: b) = d :: R := by
    rw [nfdL_ok hc, all_cons, he, List.cons_append]
    have := ordS_sep (clsT T) h0 [] (W ++ flatT T b)
    rw [List.nil_append, hR] at this
    rw [this]; rfl
  have e2 : nfdL T (a ++ c :: b) = nfdL T a ++ d :: R := by
    rw [nfdL_ok hab, all_append, all_cons, he, List.cons_append, ordS_sep _ h0, hR, nfdL_ok ha]
  rw [nfcL_ok hab, nfcL_ok ha, nfcL_ok hc, e1, e2]
  unfold nfcS
  rw [go0_sep h hs h0, go0, if_pos h0]; rfl

theorem nfc_nil {T : Tb} (h : checkT T = 0) : nfcL T [] = [] ∧ nfdE T [] = 0 := by
  have e : nfdE T [] = 0 := nfd_small h rfl (by simp)
  refine ⟨?_, e⟩
  rw [nfcL_ok e, nfdL_ok e]; rfl

/-- One call of Push: what is held, what is returned, the error. -/
def pushT (T : Tb) (most : Nat) (H : List Int) (c : Int) : List Int × List Int × Int :=
  if scaB c = false then (H, [], 3) else if bndT T c = true then ([c], nfcL T H, 0) else if most ≤ H.length then (H, [], 7) else (H ++ [c], [], 0)

/-- What was accepted: what was returned, and the NFC of what is held. -/
theorem push_whole {T : Tb} (h : checkT T = 0) {most : Nat} {P H O : List Int} {c : Int} (hP : P.length ≤ 200) (hPs : P.all scaB = true)
    (hw : ∃ Q, P = Q ++ H ∧ O = nfcL T Q ∧ (Q = [] ∨ (∃ b r, H = b :: r ∧ bndT T b = true))) (he : (pushT T most H c).2.2 = 0) (hl : P.length + 1 ≤ 200) :
    ∃ Q, P ++ [c] = Q ++ (pushT T most H c).1 ∧ O ++ (pushT T most H c).2.1 = nfcL T Q ∧ (Q = [] ∨ (∃ b r, (pushT T most H c).1 = b :: r ∧ bndT T b = true)) := by
  obtain ⟨Q, rfl, rfl, hb⟩ := hw
  unfold pushT at he ⊢
  split
  · rename_i h1; rw [if_pos h1] at he; simp at he
  · rename_i h1
    rw [if_neg h1] at he
    split
    · rename_i h2
      refine ⟨Q ++ H, rfl, ?_, .inr ⟨c, [], rfl, h2⟩⟩
      rw [List.all_append, Bool.and_eq_true] at hPs
      rw [List.length_append] at hP
      rcases hb with rfl | ⟨b, r, rfl, hbb⟩
      · rw [(nfc_nil h).1]; simp
      · exact (nfc_cut hbb (nfd_small h hPs.1 (by omega)) (nfd_small h hPs.2 (by omega)) (nfd_small h (by rw [List.all_append, hPs.1, hPs.2]; rfl) (by simp at hP ⊢; omega))).symm
    · rename_i h2
      rw [if_neg h2] at he
      split
      · rename_i h3; rw [if_pos h3] at he; simp at he
      · refine ⟨Q, by simp, by simp, ?_⟩
        rcases hb with rfl | ⟨b, r, rfl, hbb⟩
        · exact .inl rfl
        · exact .inr ⟨b, r ++ [c], rfl, hbb⟩

/-- At the end. -/
theorem end_whole {T : Tb} (h : checkT T = 0) {P H O : List Int} (hP : P.length ≤ 200) (hPs : P.all scaB = true)
    (hw : ∃ Q, P = Q ++ H ∧ O = nfcL T Q ∧ (Q = [] ∨ (∃ b r, H = b :: r ∧ bndT T b = true))) : O ++ nfcL T H = nfcL T P := by
  obtain ⟨Q, rfl, rfl, hb⟩ := hw
  rw [List.all_append, Bool.and_eq_true] at hPs
  rw [List.length_append] at hP
  rcases hb with rfl | ⟨b, r, rfl, hbb⟩
  · rw [(nfc_nil h).1]; rfl
  · exact (nfc_cut hbb (nfd_small h hPs.1 (by omega)) (nfd_small h hPs.2 (by omega)) (nfd_small h (by rw [List.all_append, hPs.1, hPs.2]; rfl) (by simp at hP ⊢; omega))).symm

end Go.Proofs.YtfmfifmmaihodaaGreatDoor

namespace Go.Proofs.YtfmfifmmaihodaaGreatDoor
set_option linter.unusedVariables false

def nrmT (T : Tb) : Tb := ⟨[], T.cls, [], [], [], [], [], [], [], T.dec, T.exc, []⟩

theorem nrm_cmpF (T : Tb) (k : Nat) (c : Int) : cmpF (nrmT T) k c = cmpF T k c := by
  induction k generalizing c with
  | zero => rfl
  | succ k ih =>
    rw [cmpF, cmpF]
    show (match findM T.dec c with
      | [a, b] => !excT T c && (decide (clsT T c = 0) && (decide (clsT T a = 0) && (!hasM T.dec b && ((!hasM T.dec a || cmpF (nrmT T) k a) && (decide (clsT T b = 0) || decide (clsT T (lastF T.dec a) ≤ clsT T b))))))
      | _ => false) = _
    split
    · rename_i a b he
      rw [ih, he]
    · rename_i hne
      split
      · rename_i a b he
        exact absurd he (hne a b)
      · rfl
theorem nrm_comp (T : Tb) (c : Int) : compT (nrmT T) c = compT T c := nrm_cmpF T 257 c
theorem nrm_sec (T : Tb) (c : Int) : secB (nrmT T) c = secB T c := by
  unfold secB
  simp only [nrm_comp]
  rfl
theorem nrm_pair (T : Tb) (a b : Int) : pairO (nrmT T) a b = pairO T a b := by
  unfold pairO
  simp only [nrm_comp]
  rfl
theorem nrm_step (T : Tb) (s : Int) (M : List Int) (c : Int) : stepO (nrmT T) s M c = stepO T s M c := by
  unfold stepO
  by_cases h : unbl T M c
  · rw [if_pos h, if_pos (show unbl (nrmT T) M c from h), nrm_pair]
  · rw [if_neg h, if_neg (show ¬ unbl (nrmT T) M c from h)]
theorem nrm_goN (T : Tb) (s : Int) (M l : List Int) : goN (nrmT T) s M l = goN T s M l := by
  induction l generalizing s M with
  | nil => rfl
  | cons c r ih =>
    rw [goN, goN, nrm_step]
    cases stepO T s M c with
    | some p => exact ih _ _
    | none =>
      show (if clsT T c = 0 then s :: M ++ goN (nrmT T) c [] r else goN (nrmT T) s (M ++ [c]) r) = if clsT T c = 0 then s :: M ++ goN T c [] r else goN T s (M ++ [c]) r
      rw [ih, ih]
theorem nrm_go0 (T : Tb) (M l : List Int) : go0 (nrmT T) M l = go0 T M l := by
  induction l generalizing M with
  | nil => rfl
  | cons c r ih =>
    rw [go0, go0]
    show (if clsT T c = 0 then M ++ goN (nrmT T) c [] r else go0 (nrmT T) (M ++ [c]) r) = _
    rw [nrm_goN, ih]

theorem rules9 {T : Tb} (h : checkT T = 0) : r1 T = true ∧ r2 T = true ∧ r3 T = true ∧ r4 T = true ∧ r5 T = true ∧ r6 T = true ∧ r7 T = true ∧ r8 T = true ∧ r9 T = true := by
  unfold checkT at h
  split at h
  · omega
  rename_i a1
  split at h
  · omega
  rename_i a2
  split at h
  · omega
  rename_i a3
  split at h
  · omega
  rename_i a4
  split at h
  · omega
  rename_i a5
  split at h
  · omega
  rename_i a6
  split at h
  · omega
  rename_i a7
  split at h
  · omega
  rename_i a8
  split at h
  · omega
  rename_i a9
  exact ⟨by simpa using a1, by simpa using a2, by simpa using a3, by simpa using a4, by simpa using a5, by simpa using a6, by simpa using a7, by simpa using a8, by simpa using a9⟩
theorem rules9_mk {T : Tb} (h1 : r1 T = true) (h2 : r2 T = true) (h3 : r3 T = true) (h4 : r4 T = true) (h5 : r5 T = true) (h6 : r6 T = true) (h7 : r7 T = true) (h8 : r8 T = true) (h9 : r9 T = true) : checkT T = 0 := by
  unfold checkT
  simp [h1, h2, h3, h4, h5, h6, h7, h8, h9]

theorem nrm_check {T : Tb} (h : checkT T = 0) : checkT (nrmT T) = 0 := by
  obtain ⟨a1, a2, a3, a4, a5, a6, a7, a8, a9⟩ := rules9 h
  apply rules9_mk
  · unfold r1 spansT mpsT at a1 ⊢
    simp only [List.all_cons, List.all_nil, Bool.and_true, Bool.and_eq_true, fewS, fewM, decide_eq_true_eq] at a1
    simp [nrmT, fewS, fewM]
    exact ⟨by omega, by omega, decide_eq_true (p := T.exc.length ≤ 256) (by omega)⟩
  · unfold r2 spansT at a2 ⊢
    simp only [List.all_cons, List.all_nil, Bool.and_true, Bool.and_eq_true] at a2
    simp only [nrmT, List.all_cons, List.all_nil, Bool.and_true, Bool.and_eq_true]
    have e1 : spOk [] = true := rfl
    have e2 : keyOk (froms []) = true := rfl
    have e3 : keyOkP (froms []) = true := rfl
    simp only [e1, e2, e3, a2, and_true, true_and]
  · unfold r3 at a3 ⊢
    simp only [Bool.and_eq_true] at a3 ⊢
    exact ⟨rfl, a3.2.1, rfl, rfl, rfl, rfl, rfl⟩
  · unfold r4 at a4 ⊢
    simp only [Bool.and_eq_true] at a4 ⊢
    exact ⟨rfl, rfl, a4.2.2.1, rfl⟩
  · rfl
  · exact a6
  · exact a7
  · unfold r8 cmpTos at a8 ⊢
    simp only [nrm_comp]
    exact a8
  · rfl

theorem nrm_acc {T : Tb} (h : checkT T = 0) (l : List Int) : accE (nrmT T) l = accE T l := by
  unfold accE
  rw [h, nrm_check h]
theorem nrm_nfdE {T : Tb} (h : checkT T = 0) (l : List Int) : nfdE (nrmT T) l = nfdE T l := by
  unfold nfdE
  rw [nrm_acc h]
  rfl
theorem nrm_nfdL {T : Tb} (h : checkT T = 0) (l : List Int) : nfdL (nrmT T) l = nfdL T l := by
  unfold nfdL
  rw [nrm_nfdE h]
  rfl
theorem nrm_nfcL {T : Tb} (h : checkT T = 0) (l : List Int) : nfcL (nrmT T) l = nfcL T l := by
  unfold nfcL nfcS
  rw [nrm_nfdE h, nrm_nfdL h, nrm_go0]
theorem nrm_bnd {T : Tb} (h : checkT T = 0) (c : Int) : bndT (nrmT T) c = bndT T c := by
  unfold bndT
  rw [h, nrm_check h, nrm_sec]
  rfl
theorem nrm_push {T : Tb} (h : checkT T = 0) (m : Nat) (H : List Int) (c : Int) : pushT (nrmT T) m H c = pushT T m H c := by
  unfold pushT
  rw [nrm_bnd h, nrm_nfcL h]

theorem norm_small {T : Tb} (h : checkT T = 0) : T.exc.length ≤ 1000 ∧ T.cls.length ≤ 1000 ∧ ∀ m ∈ T.dec, m.2.length ≤ 1000 := by
  obtain ⟨a1, _, _, _, _, a6, _⟩ := rules9 h
  unfold r1 spansT mpsT at a1
  simp only [List.all_cons, List.all_nil, Bool.and_true, Bool.and_eq_true, fewS, fewM, decide_eq_true_eq] at a1
  refine ⟨by omega, by omega, fun m hm => ?_⟩
  unfold r6 at a6
  rw [Bool.and_eq_true] at a6
  have := List.all_eq_true.1 a6.1 m hm
  unfold short2 at this
  rw [Bool.and_eq_true, decide_eq_true_eq] at this
  omega

/-- What was accepted, call by call. -/
theorem push_cases (T : Tb) (m : Nat) (H : List Int) (c : Int) :
    (scaB c = false ∧ pushT T m H c = (H, [], 3)) ∨ (scaB c = true ∧ bndT T c = true ∧ pushT T m H c = ([c], nfcL T H, 0)) ∨
    (scaB c = true ∧ bndT T c = false ∧ m ≤ H.length ∧ pushT T m H c = (H, [], 7)) ∨ (scaB c = true ∧ bndT T c = false ∧ H.length < m ∧ pushT T m H c = (H ++ [c], [], 0)) := by
  unfold pushT
  cases h1 : scaB c
  · exact .inl ⟨rfl, by simp⟩
  · cases h2 : bndT T c
    · by_cases h3 : m ≤ H.length
      · exact .inr (.inr (.inl ⟨rfl, rfl, h3, by simp [h3]⟩))
      · exact .inr (.inr (.inr ⟨rfl, rfl, by omega, by simp [h3]⟩))
    · exact .inr (.inl ⟨rfl, rfl, by simp⟩)

end Go.Proofs.YtfmfifmmaihodaaGreatDoor

namespace Go.Proofs.YtfmfifmmaihodaaGreatDoor
open Go.RowKit
set_option linter.unusedVariables false

/-- The tables x, T lie in blocks of P: they stay where only other blocks are written. -/
def TabP (w : World) (P : Nat → Prop) (x : TV) (T : Tb) : Prop := ∀ W R, Keeps w W R → (∀ k, k < w.heap.size → R k → ¬ P k) → TabV W x T

theorem TabP.tab {w : World} {P : Nat → Prop} {x : TV} {T : Tb} (h : TabP w P x T) : TabV w x T := h w (fun _ => False) (Keeps.refl _ _) (fun _ _ e => e.elim)
theorem TabP.keeps {w w' : World} {P R : Nat → Prop} {x : TV} {T : Tb} (h : TabP w P x T) (hk : Keeps w w' R) (hr : ∀ k, k < w.heap.size → R k → ¬ P k) : TabP w' P x T := by
  intro W Q hq hQ
  refine h W (fun k => R k ∨ Q k) (hk.trans hq (fun b _ e => .inl e) (fun b _ e => .inr e)) ?_
  intro k hlt e
  rcases e with e | e
  · exact hr k hlt e
  · exact hQ k (Nat.lt_of_lt_of_le hlt hk.size) e
theorem TabP.below {w w' : World} {P : Nat → Prop} {x : TV} {T : Tb} (h : TabP w P x T) (hb : Below w.heap.size w w') : TabP w' P x T :=
  h.keeps (Keeps.of_below hb) (fun k hk e => absurd e (by omega))

abbrev rows (lo hi : Nat) (k : Nat) : Prop := lo ≤ k ∧ k < hi

/-- A stream in block s: its tables, most, what it holds (behind c). -/
structure StrV (w : World) (lo hi s : Nat) (x : TV) (T : Tb) (m c : Nat) (v : Value) (H : List Int) : Prop where
  tab : TabP w (rows lo hi) x T
  le : hi ≤ s
  sc : s < c
  box : BoxT w s x
  most : w.cell? ⟨s, 12, none⟩ = some (.int .i64 m)
  held : w.cell? ⟨s, 13, none⟩ = some v
  frz : w.frozen? ⟨s, 13, none⟩ = false
  own : Ints w c v H
  len : H.length ≤ m
  one : 1 ≤ m
  big : m ≤ 32

theorem StrV.lt {w : World} {lo hi s : Nat} {x : TV} {T : Tb} {m c : Nat} {v : Value} {H : List Int} (h : StrV w lo hi s x T m c v H) : s < w.heap.size := World.block_lt_of_cell? w _ h.most
theorem StrV.hlt {w : World} {lo hi s : Nat} {x : TV} {T : Tb} {m c : Nat} {v : Value} {H : List Int} (h : StrV w lo hi s x T m c v H) : ∀ k, v.ownBlock = some k → c ≤ k ∧ k < w.heap.size := fun k hk => World.ownsRow.lt h.own k hk

theorem StrV.keeps {w w' : World} {lo hi s : Nat} {x : TV} {T : Tb} {m c : Nat} {v : Value} {H : List Int} {R : Nat → Prop} (h : StrV w lo hi s x T m c v H) (hk : Keeps w w' R)
    (hr : ∀ k, k < w.heap.size → R k → ¬ rows lo hi k ∧ k ≠ s ∧ v.ownBlock ≠ some k) : StrV w' lo hi s x T m c v H := by
  have hs : ¬ R s := fun e => (hr s h.lt e).2.1 rfl
  obtain ⟨⟨h0, h1, h2, h3, h4, h5⟩, ⟨h6, h7, h8, h9, h10, h11⟩⟩ := h.box
  have key : ∀ i v, w.cell? ⟨s, i, none⟩ = some v → w'.cell? ⟨s, i, none⟩ = some v := fun i v hc => hk.cell hc hs
  exact ⟨h.tab.keeps hk (fun k hlt e => (hr k hlt e).1), h.le, h.sc, ⟨⟨key _ _ h0, key _ _ h1, key _ _ h2, key _ _ h3, key _ _ h4, key _ _ h5⟩, ⟨key _ _ h6, key _ _ h7, key _ _ h8, key _ _ h9, key _ _ h10, key _ _ h11⟩⟩,
    key _ _ h.most, key _ _ h.held, (World.frozen?_of_block (a := ⟨s, 13, none⟩) (hk.block s h.lt hs)).trans h.frz,
    hk.owns h.own (fun k e r => (hr k (h.hlt k e).2 r).2.2 e), h.len, h.one, h.big⟩
theorem StrV.below {w w' : World} {lo hi s : Nat} {x : TV} {T : Tb} {m c : Nat} {v : Value} {H : List Int} (h : StrV w lo hi s x T m c v H) (hb : Below w.heap.size w w') : StrV w' lo hi s x T m c v H :=
  h.keeps (Keeps.of_below hb) (fun k hk e => absurd e (by omega))

/-- What is held is written. -/
theorem StrV.set {w : World} {lo hi s : Nat} {x : TV} {T : Tb} {m c : Nat} {v u : Value} {H L : List Int} (h : StrV w lo hi s x T m c v H) (hu : Ints w c u L) (hl : L.length ≤ m) :
    StrV (w.setCell ⟨s, 13, none⟩ u) lo hi s x T m c u L := by
  obtain ⟨⟨h0, h1, h2, h3, h4, h5⟩, ⟨h6, h7, h8, h9, h10, h11⟩⟩ := h.box
  have key : ∀ i v, i ≠ 13 → w.cell? ⟨s, i, none⟩ = some v → (w.setCell ⟨s, 13, none⟩ u).cell? ⟨s, i, none⟩ = some v := fun i v hi hc => (World.cell?_setCell_other _ _ _ _ (by intro e; cases e; exact hi rfl)).trans hc
  have hle := h.le
  have hsc := h.sc
  refine ⟨h.tab.keeps (Keeps.store w s 13 u) (fun k _ e => by subst e; unfold rows; omega), h.le, h.sc,
    ⟨⟨key _ _ (by omega) h0, key _ _ (by omega) h1, key _ _ (by omega) h2, key _ _ (by omega) h3, key _ _ (by omega) h4, key _ _ (by omega) h5⟩, ⟨key _ _ (by omega) h6, key _ _ (by omega) h7, key _ _ (by omega) h8, key _ _ (by omega) h9, key _ _ (by omega) h10, key _ _ (by omega) h11⟩⟩,
    key _ _ (by omega) h.most, World.cell?_setCell_same _ _ _ h.held, (World.frozen?_setCell _ _ _ _).trans h.frz, ?_, hl, h.one, h.big⟩
  exact (Keeps.store w s 13 u).owns hu (fun k e r => by have := (World.ownsRow.lt hu k e).1; omega)

/-- What is held is appended to: the row may be written, or another takes its place. -/
theorem StrV.grown {w w' : World} {lo hi s : Nat} {x : TV} {T : Tb} {m c : Nat} {v : Value} {H : List Int} (h : StrV w lo hi s x T m c v H) (hg : w.grownBy w' v.ownBlock) :
    ∀ u L, Ints w' c u L → L.length ≤ m → StrV (w'.setCell ⟨s, 13, none⟩ u) lo hi s x T m c u L := by
  intro u L hu hl
  have hle := h.le
  have hsc := h.sc
  have hv := h.hlt
  have hn : v.ownBlock ≠ some s := fun e => by have := (hv s e).1; omega
  obtain ⟨⟨h0, h1, h2, h3, h4, h5⟩, ⟨h6, h7, h8, h9, h10, h11⟩⟩ := h.box
  have key : ∀ i v, w.cell? ⟨s, i, none⟩ = some v → w'.cell? ⟨s, i, none⟩ = some v := fun i v hc => hg.cell hc (fun e => hn e.symm)
  have hk := Keeps.of_grown hg
  have hb2 : BoxT w' s x := ⟨⟨key _ _ h0, key _ _ h1, key _ _ h2, key _ _ h3, key _ _ h4, key _ _ h5⟩, ⟨key _ _ h6, key _ _ h7, key _ _ h8, key _ _ h9, key _ _ h10, key _ _ h11⟩⟩
  have ht2 : TabP w' (rows lo hi) x T := h.tab.keeps hk (fun k hlt e => by have := (hv k e).1; unfold rows; omega)
  have key2 : ∀ i v, i ≠ 13 → w'.cell? ⟨s, i, none⟩ = some v → (w'.setCell ⟨s, 13, none⟩ u).cell? ⟨s, i, none⟩ = some v := fun i v hi hc => (World.cell?_setCell_other _ _ _ _ (by intro e; cases e; exact hi rfl)).trans hc
  obtain ⟨⟨g0, g1, g2, g3, g4, g5⟩, ⟨g6, g7, g8, g9, g10, g11⟩⟩ := hb2
  refine ⟨ht2.keeps (Keeps.store w' s 13 u) (fun k _ e => by subst e; unfold rows; omega), h.le, h.sc,
    ⟨⟨key2 _ _ (by omega) g0, key2 _ _ (by omega) g1, key2 _ _ (by omega) g2, key2 _ _ (by omega) g3, key2 _ _ (by omega) g4, key2 _ _ (by omega) g5⟩, ⟨key2 _ _ (by omega) g6, key2 _ _ (by omega) g7, key2 _ _ (by omega) g8, key2 _ _ (by omega) g9, key2 _ _ (by omega) g10, key2 _ _ (by omega) g11⟩⟩,
    key2 _ _ (by omega) (key _ _ h.most), World.cell?_setCell_same _ _ _ (key _ _ h.held),
    (World.frozen?_setCell _ _ _ _).trans ((World.frozen?_of_block (a := ⟨s, 13, none⟩) (hg.block s h.lt (fun e => hn e.symm))).trans h.frz), ?_, hl, h.one, h.big⟩
  exact (Keeps.store w' s 13 u).owns hu (fun k e r => by have := (World.ownsRow.lt hu k e).1; omega)

/-- A slice cut to nothing keeps its row. -/
theorem Ints.cut0 {w : World} {c : Nat} {p : Option Addr} {n cap : Nat} {H : List Int} (h : Ints w c (.slice p n cap) H) : Ints w c (.slice p 0 cap) [] := by
  obtain ⟨h1, h2⟩ := h
  refine ⟨rfl, ?_⟩
  rcases h2 with ⟨e, _⟩ | ⟨g, cp, cur, e, hB, hg, hn, hc, hs, ht⟩
  · injection e with e1 e2 e3
    subst e1 e3
    exact .inl ⟨rfl, rfl⟩
  · injection e with e1 e2 e3
    subst e1 e3
    exact .inr ⟨g, cap, cur, rfl, hB, hg, Nat.zero_le _, hc, hs, by simp⟩

/-- What a call of Push leaves: the new elements are O; H is held. -/
def PushPost (lo hi s : Nat) (x : TV) (T : Tb) (m c : Nat) (v : Value) (H O : List Int) (E : Int) (w : World) (e : Ending) (w' : World) : Prop :=
  ∃ u v', e = .returned (.tuple #[u, .int .i64 E]) ∧ Ints w' w.heap.size u O ∧ StrV w' lo hi s x T m c v' H ∧ Keeps w w' (fun k => k = s ∨ v.ownBlock = some k) ∧ (∀ b, b < w.heap.size → v.ownBlock ≠ some b → v'.ownBlock ≠ some b)
/-- What a call of End leaves. -/
def EndPost (lo hi s : Nat) (x : TV) (T : Tb) (m c : Nat) (v : Value) (O : List Int) (w : World) (e : Ending) (w' : World) : Prop :=
  ∃ u v', e = .returned u ∧ Ints w' w.heap.size u O ∧ StrV w' lo hi s x T m c v' [] ∧ Keeps w w' (fun k => k = s) ∧ (∀ b, v'.ownBlock = some b → v.ownBlock = some b)
/-- What a call of New leaves, if it makes a stream. -/
def NewPost (T : Tb) (m : Nat) (w : World) (e : Ending) (w' : World) : Prop :=
  ∃ s y, e = .returned (.tuple #[.pointer (some ⟨s, 0, none⟩), .int .i64 0]) ∧ StrV w' w.heap.size s s y T m (s + 1) (.slice none 0 0) [] ∧ w.heap.size ≤ s ∧ w'.heap.size = s + 1 ∧ Below w.heap.size w w'

end Go.Proofs.YtfmfifmmaihodaaGreatDoor

namespace Go.Proofs.YtfmfifmmaihodaaGreatDoor
open Go.RowKit
set_option linter.unusedVariables false

theorem bnd_bad {T : Tb} {c : Int} (h : ¬(scaB c = true ∧ checkT T = 0)) : bndT T c = false := by
  unfold bndT
  by_cases h1 : checkT T = 0
  · by_cases h2 : scaB c = true
    · exact absurd ⟨h2, h1⟩ h
    · simp [h2]
  · simp [h1]
theorem bnd_good {T : Tb} {c d : Int} {W : List Int} (h : scaB c = true ∧ checkT T = 0) (he : expT T c = d :: W) : bndT T c = (decide (clsT T d = 0) && !secB T d) := by
  unfold bndT
  rw [h.1, h.2, he]
  simp
theorem sca_bd {c : Int} (h : scaB c = true) : 0 ≤ c ∧ c ≤ 1114111 := by
  unfold scaB at h
  simp only [Bool.and_eq_true, decide_eq_true_eq] at h
  omega
theorem r2_cls {T : Tb} (h : r2 T = true) : ascB 0 T.cls = true := (r2_sp h).2.1

set_option maxRecDepth 100000 in
set_option maxHeartbeats 4000000 in
theorem boundary_at (x : TV) (T : Tb) (c : Int) (B : Bool) (w : World) (hx : TabV w x T) (hr : Rsv w) (hB : Hid (bndT T c = B)) :
    Calls Tryz.prog 15 #[x.agg, .int .i64 c] w (Gives (.bool B) w) := by
  obtain ⟨L, hL⟩ : ∃ L, Hid (oneT T c = L) := ⟨_, rfl⟩
  have HE := Lib.hid (Env.new hx)
  have HR := Lib.hid hr
  clear hx hr
  simp only [TV.agg]
  go_enter Tryz.func15, Tryz.ntmps15
  obtain ⟨⟨k0, k1, k2, k3, k4, k5⟩, ⟨k6, k7, k8, k9, k10, k11⟩⟩ := HE.out.box.load
  go_wp2_with fail
  refine (dcmOne_at x T c L _ HE.out.tab (HR.out.below HE.out.bel) hL).mono ?_
  rintro e w1 ⟨v1, rfl, ho1, hb⟩
  obtain ⟨p1, c1, rfl, hi1⟩ := ho1.inn
  clear ho1
  replace HE := Lib.hid (HE.out.step hb)
  have HI := Lib.hid hi1
  clear hi1 hb k0 k1 k2 k3 k4 k5 k6 k7 k8 k9 k10 k11
  by_cases h0 : scaB c = true ∧ checkT T = 0
  · have hLX : L = expT T c := by rw [← hL.out]; unfold oneT; rw [if_pos h0]
    obtain ⟨d, W, hdW⟩ : ∃ d W, L = d :: W := by
      have := (exp_len h0.2 c).1
      cases L with
      | nil => rw [← hLX] at this; simp at this
      | cons d W => exact ⟨d, W, rfl⟩
    have HC : Hid (checkT T = 0) := h0.2
    have hfin : Fin1 T d := exp_fin h0.2 h0.1 d (by rw [← hLX, hdW]; simp)
    have HW : Hid (wf64 d) := wf64_of (sca_bd hfin.1)
    obtain ⟨z, hz⟩ : ∃ z, Hid (clsT T d = z) := ⟨_, rfl⟩
    obtain ⟨o, ho⟩ : ∃ o, Hid (secT T d = o) := ⟨_, rfl⟩
    have HBB : Hid (B = (decide (z = 0) && !o)) := by
      unfold Hid
      rw [← hB.out, ← hz.out, ← ho.out]
      exact (bnd_good h0 (hLX.symm.trans hdW)).trans (by unfold secT; rw [decide_eq_true h0.2]; rfl)
    obtain ⟨b3, off3, e3, q0⟩ := HI.out 0 (by rw [hdW]; simp)
    rw [hdW, Nat.add_zero] at q0
    simp only [List.getD_cons_zero] at q0
    subst e3
    obtain ⟨n, hn⟩ : ∃ n, L.length = n := ⟨_, rfl⟩
    have hn1 : 1 ≤ n := by rw [← hn, hdW]; simp
    rw [hn]
    have d0 : decide ((0 : Int) < (n : Int)) = true := decide_eq_true (by omega)
    have d1 : (0 : Int) < (n : Int) := by omega
    have d2 : 0 < n := by omega
    have HK := Lib.hid q0
    have HA := Lib.hid (r2_cls (check_rules HC.out).2.1)
    clear hLX hdW hn hfin HI hL
    by_cases hz0 : z = 0
    · have dz : (z == 0) = true := by simp [hz0]
      have HV : Hid (B = !o) := by unfold Hid; rw [HBB.out, hz0]; simp
      clear hz0
      have KA := fun p => layB_cell HK.out p
      obtain ⟨⟨k0, k1, k2, k3, k4, k5⟩, ⟨k6, k7, k8, k9, k10, k11⟩⟩ := HE.out.box.load
      have K0 := fun p => layB_cell k0 p
      have K1 := fun p => layB_cell k1 p
      have K2 := fun p => layB_cell k2 p
      have K3 := fun p => layB_cell k3 p
      have K4 := fun p => layB_cell k4 p
      have K5 := fun p => layB_cell k5 p
      have K6 := fun p => layB_cell k6 p
      have K7 := fun p => layB_cell k7 p
      have K8 := fun p => layB_cell k8 p
      have K9 := fun p => layB_cell k9 p
      have K10 := fun p => layB_cell k10 p
      have K11 := fun p => layB_cell k11 p
      have cc1 := fun p => layB_call (p := p) fun W2 hW2 => class_at x T d z W2 (HE.out.tab.below hW2) HA.out hz
      have cc2 := fun p => layB_call (p := p) fun W2 hW2 => second_at x T d o W2 (HE.out.tab.below hW2) ((HR.out.below HE.out.bel).below hW2) HW.out ho
      simp only [TV.agg] at cc1 cc2
      have C1 := Lib.hid cc1
      have C2 := Lib.hid cc2
      clear cc1 cc2 k0 k1 k2 k3 k4 k5 k6 k7 k8 k9 k10 k11
      go_upto_region 2 with (fail)
      refine wp_region_layB (by kernel_rfl) (by kernel_rfl) ?_
      repeat (go_big_quiet_step (first
        | (go_at_call 39; with_reducible exact C1.out _)
        | (go_at_call 40; with_reducible exact C2.out _)))
      refine wpQuiet_nil ?_
      intro _ hw'
      obtain ⟨pq, hw''⟩ := hw'
      subst hw''
      have HEq := Lib.hid (HE.out.bel.trans ((layB_below w1 pq).mono HE.out.bel.size))
      generalize layB w1 pq = wq at HEq ⊢
      clear KA K0 K1 K2 K3 K4 K5 K6 K7 K8 K9 K10 K11
      go_wp2
      go_ret
      rw [HV.out]
      exact ⟨rfl, HEq.out⟩
    · have dz : (z == 0) = false := by simp [hz0]
      have HV : Hid (B = false) := by unfold Hid; rw [HBB.out]; simp [hz0]
      clear hz0
      have KA := fun p => layB_cell HK.out p
      obtain ⟨⟨k0, k1, k2, k3, k4, k5⟩, ⟨k6, k7, k8, k9, k10, k11⟩⟩ := HE.out.box.load
      have K0 := fun p => layB_cell k0 p
      have K1 := fun p => layB_cell k1 p
      have K2 := fun p => layB_cell k2 p
      have K3 := fun p => layB_cell k3 p
      have K4 := fun p => layB_cell k4 p
      have K5 := fun p => layB_cell k5 p
      have K6 := fun p => layB_cell k6 p
      have K7 := fun p => layB_cell k7 p
      have K8 := fun p => layB_cell k8 p
      have K9 := fun p => layB_cell k9 p
      have K10 := fun p => layB_cell k10 p
      have K11 := fun p => layB_cell k11 p
      have cc1 := fun p => layB_call (p := p) fun W2 hW2 => class_at x T d z W2 (HE.out.tab.below hW2) HA.out hz
      simp only [TV.agg] at cc1
      have C1 := Lib.hid cc1
      clear cc1 k0 k1 k2 k3 k4 k5 k6 k7 k8 k9 k10 k11
      go_upto_region 2 with (fail)
      refine wp_region_layB (by kernel_rfl) (by kernel_rfl) ?_
      repeat (go_big_quiet_step (first
        | (go_at_call 39; with_reducible exact C1.out _)))
      refine wpQuiet_nil ?_
      intro _ hw'
      obtain ⟨pq, hw''⟩ := hw'
      subst hw''
      have HEq := Lib.hid (HE.out.bel.trans ((layB_below w1 pq).mono HE.out.bel.size))
      generalize layB w1 pq = wq at HEq ⊢
      clear KA K0 K1 K2 K3 K4 K5 K6 K7 K8 K9 K10 K11
      go_wp2
      go_ret
      rw [HV.out]
      exact ⟨rfl, HEq.out⟩
  · have hL0 : L = [] := by rw [← hL.out]; unfold oneT; rw [if_neg h0]
    have HV : Hid (B = false) := by unfold Hid; rw [← hB.out]; exact bnd_bad h0
    subst hL0
    rw [List.length_nil]
    clear h0
    go_wp2
    go_quiet (fail)
    go_wp2
    go_ret
    rw [HV.out]
    exact ⟨rfl, by first | exact HE.out.bel | exact (HE.out.step (drew_ref _ _)).bel⟩

end Go.Proofs.YtfmfifmmaihodaaGreatDoor
