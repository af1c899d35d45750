/-
  puny: plain mathematics: the encoder that takes the places in sorted order, one after another.
-/
import Derived.Test.YtmnnpfohjffniaaQPunSrt
set_option linter.unusedSimpArgs false
set_option linter.unusedVariables false
namespace Go.Proofs.Ytmnnpfohjffniaa
open Go.Sort
set_option linter.unusedVariables false

/-- How many of the first a are not above what stands at a. -/
def cntLe (x : Int) : List Int → Nat
  | [] => 0
  | c :: r => (if c ≤ x then 1 else 0) + cntLe x r
def pbL (l : List Int) (a : Nat) : Nat := cntLe (l.getD a 0) (l.take a)
theorem cntLe_append (x : Int) : ∀ (s t : List Int), cntLe x (s ++ t) = cntLe x s + cntLe x t
  | [], t => by simp [cntLe]
  | c :: s, t => by rw [List.cons_append, cntLe, cntLe, cntLe_append x s t]; omega
theorem cntLe_le (x : Int) : ∀ (s : List Int), cntLe x s ≤ s.length
  | [] => by simp [cntLe]
  | c :: s => by have := cntLe_le x s; rw [cntLe]; simp; split <;> omega
theorem pbL_le (l : List Int) (a : Nat) : pbL l a ≤ a := Nat.le_trans (cntLe_le _ _) (by simp; omega)

def stepI (l : List Int) (P : Nat) (n : Int) (i a : Nat) : Int := (l.getD a 0 - n) * ((P : Int) + 1) + pbL l a - i
def encI (l : List Int) : List Nat → Nat → Int → Nat → Nat → Bool → List Int
  | [], _, _, _, _, _ => []
  | a :: r, P, n, i, b, first => (pnumS b 0 (stepI l P n i a).toNat).map pdigB ++ encI l r (P + 1) (l.getD a 0) (pbL l a + 1) (adaptN (stepI l P n i a).toNat (P + 1) first) false
/-- Every number is within bounds. -/
def GoodI (l : List Int) : List Nat → Nat → Int → Nat → Prop
  | [], _, _, _ => True
  | a :: r, P, n, i => a < l.length ∧ n ≤ l.getD a 0 ∧ pbL l a ≤ P ∧ 0 ≤ stepI l P n i a ∧ stepI l P n i a ≤ 2147483647 ∧ GoodI l r (P + 1) (l.getD a 0) (pbL l a + 1)

theorem step_split {x n : Int} {P PL V i : Nat} (h : (x - n) * ((P : Int) + 1) + PL - i = V) (hn : n ≤ x) (hP : PL ≤ P) : n + (((V + i) / (P + 1) : Nat) : Int) = x ∧ (V + i) % (P + 1) = PL := by
  obtain ⟨q, hq⟩ : ∃ q : Nat, x - n = q := ⟨(x - n).toNat, by omega⟩
  rw [hq] at h
  have h1 : V + i = q * (P + 1) + PL := by
    have h2 : (q : Int) * ((P : Int) + 1) = ((q * (P + 1) : Nat) : Int) := by rw [Int.natCast_mul]; rfl
    rw [h2] at h
    omega
  have e1 : (V + i) / (P + 1) = q := by rw [h1, Nat.mul_comm, Nat.mul_add_div (by omega), Nat.div_eq_of_lt (by omega)]; omega
  have e2 : (V + i) % (P + 1) = PL := by rw [h1, Nat.mul_comm, Nat.mul_add_mod, Nat.mod_eq_of_lt (by omega)]
  exact ⟨by rw [e1]; omega, e2⟩

theorem placed_cnt (x : Int) : ∀ (L : List Int) (G : List Bool), G.length = L.length → (∀ j, j < L.length → (G.getD j true = true ↔ L.getD j 0 ≤ x)) → (placed L G).length = cntLe x L
  | [], G, _, _ => by cases G <;> simp [placed, cntLe]
  | c :: L, [], h, _ => by simp at h
  | c :: L, b :: G, h, hh => by
    have h0 := hh 0 (by simp)
    simp at h0
    have ih := placed_cnt x L G (by simpa using h) (fun j hj => by have := hh (j + 1) (by simpa using hj); simpa using this)
    rw [placed, cntLe]
    by_cases hb : b = true
    · rw [if_pos hb, if_pos (h0.1 hb), List.length_cons, ih]; omega
    · rw [if_neg hb, if_neg (fun e => hb (h0.2 e)), ih]; omega

theorem keyS_nat (l : List Int) (a : Nat) : keyS l (a : Int) = l.getD a 0 := by unfold keyS; simp

theorem pcs_pb {l : List Int} {F : List Bool} {a : Nat} (hF : F.length = l.length) (ha : a < l.length) (hin : ∀ j, j < a → F.getD j true = true → ltT l j a = true) (hout : ∀ j, j < a → F.getD j true = false → ltT l a j = true) : pcs l F a = pbL l a := by
  unfold pcs pbL
  refine placed_cnt _ _ _ (by simp [hF]) (fun j hj => ?_)
  have hja : j < a := by simp at hj; omega
  have e1 : (F.take a).getD j true = F.getD j true := by simp [List.getD, hja]
  have e2 : (l.take a).getD j 0 = l.getD j 0 := by simp [List.getD, hja]
  rw [e1, e2]
  cases hb : F.getD j true with
  | true =>
    have := ltT_iff.1 (hin j hja hb)
    rw [keyS_nat, keyS_nat] at this
    exact ⟨fun _ => by omega, fun _ => rfl⟩
  | false =>
    have := ltT_iff.1 (hout j hja hb)
    rw [keyS_nat, keyS_nat] at this
    exact ⟨fun h => (by cases h), fun h => by omega⟩

theorem enc_idx (l : List Int) (hs : ∀ c ∈ l, scpB c = true) (hlen : l.length ≤ 256) : ∀ (I : List Nat) (F : List Bool) (n : Int) (i b : Nat) (first : Bool),
    F.length = l.length → Ahead l F n i → 0 ≤ n → i ≤ (placed l F).length →
    (∀ a, a ∈ I ↔ a < l.length ∧ F.getD a true = false) → I.Pairwise (fun x y : Nat => ltT l x y = true) →
    (∀ j, j < l.length → F.getD j true = true → ∀ a ∈ I, ltT l j a = true) →
    pencL l I.length F n i b first = encI l I (placed l F).length n i b first ∧ GoodI l I (placed l F).length n i ∧ (placed l F).length + I.length = l.length
  | [], F, n, i, b, first, hF, hA, hn, hi, hI, hp, hc => by
    refine ⟨rfl, trivial, ?_⟩
    have : placed l F = l := placed_all l F hF (fun k hk => by
      cases hb : F.getD k true with
      | true => rfl
      | false => have := (hI k).2 ⟨hk, hb⟩; cases this)
    rw [this]; simp
  | a :: r, F, n, i, b, first, hF, hA, hn, hi, hI, hp, hc => by
    obtain ⟨hp1, hp2⟩ := List.pairwise_cons.1 hp
    obtain ⟨ha, hfa⟩ := (hI a).1 (by simp)
    have hother : ∀ k, k < l.length → F.getD k true = false → k ≠ a → ltT l a k = true := fun k hk hf hne => by
      have := (hI k).2 ⟨hk, hf⟩
      rcases List.mem_cons.1 this with e | e
      · exact absurd e hne
      · exact hp1 k e
    have hL : IsLeast l F l.length a := ⟨ha, hfa, fun k hk hf => by
      by_cases e : k = a
      · subst e; exact ⟨Int.le_refl _, fun _ => Nat.le_refl _⟩
      · have := ltT_iff.1 (hother k hk hf e)
        rw [keyS_nat, keyS_nat] at this
        exact ⟨by omega, fun _ => by omega⟩⟩
    have hpc : pcs l F a = pbL l a := pcs_pb hF ha (fun j hj hb => hc j (by omega) hb a (by simp)) (fun j hj hb => hother j (by omega) hb (by omega))
    obtain ⟨hna, hA', hij⟩ := ahead_step hF hL hA
    have hj := pcs_le l F hF ha
    obtain ⟨_, hplen⟩ := putD_placed hF ha hfa
    obtain ⟨_, hv⟩ := step_back (P := placed l F) (v := stepV l F n i a) hna hj hij hi rfl
    have hvb := stepV_bd hs hlen hF hn (Nat.le_trans (placed_len l F) hlen) ha (i := i)
    have hsv : stepI l (placed l F).length n i a = (stepV l F n i a : Nat) := by
      rw [hv, hpc]
      unfold stepI
      congr 3
    have hsc2 := scp_bd (hs (l.getD a 0) (by simp [ha]))
    have ih := enc_idx l hs hlen r (F.set a true) (l.getD a 0) (pcs l F a + 1) (adaptN (stepV l F n i a) ((placed l F).length + 1) first) false (by simpa using hF) hA' hsc2.1 (by rw [hplen]; omega)
      (fun k => by
        constructor
        · intro hk
          obtain ⟨k1, k2⟩ := (hI k).1 (by simp [hk])
          have hne : a ≠ k := fun e => by
            subst e
            have := hp1 a hk
            rw [(ltT_swo l).irrefl] at this; cases this
          exact ⟨k1, by rw [getD_set_ne F a k true hne]; exact k2⟩
        · rintro ⟨k1, k2⟩
          have hne : a ≠ k := fun e => by subst e; rw [getD_set_eq F a true (by omega)] at k2; cases k2
          rw [getD_set_ne F a k true hne] at k2
          rcases List.mem_cons.1 ((hI k).2 ⟨k1, k2⟩) with e | e
          · exact absurd e.symm hne
          · exact e)
      hp2
      (fun k k1 k2 x hx => by
        by_cases e : a = k
        · subst e; exact hp1 x hx
        · rw [getD_set_ne F a k true e] at k2
          exact hc k k1 k2 x (by simp [hx]))
    rw [hplen, hpc] at ih
    refine ⟨?_, ⟨ha, hna, by rw [← hpc]; exact hj, by rw [hsv]; omega, by rw [hsv]; omega, ih.2.1⟩, by rw [List.length_cons]; omega⟩
    rw [List.length_cons, pencL, leastK_is hL]
    simp only
    rw [encI, hsv, Int.toNat_natCast, hpc, ih.1]

theorem encP_idx (l : List Int) (I : List Nat) (hs : l.all scpB = true) (hlen : l.length ≤ 256) (hI : ∀ a, a ∈ I ↔ a < l.length ∧ basB (l.getD a 0) = false) (hp : I.Pairwise (fun x y : Nat => ltT l x y = true)) :
    encP l = (frontS (basS l) ++ encI l I (basS l).length 128 0 72 true, 0) ∧ GoodI l I (basS l).length 128 0 ∧ (basS l).length + I.length = l.length := by
  have hFl : (basF l).length = l.length := by unfold basF; simp
  obtain ⟨h1, h2, h3⟩ := enc_idx l (List.all_eq_true.1 hs) hlen I (basF l) 128 0 72 true hFl (bas_ahead l) (by omega) (Nat.zero_le _)
    (fun a => by
      rw [hI]
      constructor
      · rintro ⟨k1, k2⟩; exact ⟨k1, by rw [basF_at l a k1]; exact k2⟩
      · rintro ⟨k1, k2⟩; exact ⟨k1, by rw [← basF_at l a k1]; exact k2⟩)
    hp
    (fun j hj hb a ha => by
      obtain ⟨k1, k2⟩ := (hI a).1 ha
      rw [basF_at l j hj] at hb
      unfold basB at hb k2
      rw [ltT_iff, keyS_nat, keyS_nat]
      have x1 := of_decide_eq_true hb
      have x2 := of_decide_eq_false k2
      left; omega)
  have hb : (basS l) = placed l (basF l) := rfl
  rw [← hb] at h1 h2 h3
  refine ⟨?_, h2, h3⟩
  unfold encP
  rw [if_neg (by omega), if_neg (by rw [hs]; simp), ← h1]
  congr 4
  omega

/-- The places of what is not basic among the first k. -/
def othN (l : List Int) : Nat → List Int
  | 0 => []
  | k + 1 => if basB (l.getD k 0) = true then othN l k else othN l k ++ [(k : Int)]
theorem othN_mem (l : List Int) : ∀ (k : Nat) (x : Int), x ∈ othN l k ↔ ∃ a : Nat, a < k ∧ x = a ∧ basB (l.getD a 0) = false
  | 0, x => by simp [othN]
  | k + 1, x => by
    rw [othN]
    have ih := othN_mem l k x
    by_cases hb : basB (l.getD k 0) = true
    · rw [if_pos hb, ih]
      constructor
      · rintro ⟨a, h1, h2, h3⟩; exact ⟨a, by omega, h2, h3⟩
      · rintro ⟨a, h1, h2, h3⟩
        have : a ≠ k := fun e => by rw [e, hb] at h3; cases h3
        exact ⟨a, by omega, h2, h3⟩
    · rw [if_neg hb, List.mem_append, ih, List.mem_singleton]
      constructor
      · rintro (⟨a, h1, h2, h3⟩ | e)
        · exact ⟨a, by omega, h2, h3⟩
        · exact ⟨k, by omega, e, by simpa using hb⟩
      · rintro ⟨a, h1, h2, h3⟩
        by_cases e : a = k
        · right; rw [h2, e]
        · left; exact ⟨a, by omega, h2, h3⟩
theorem othN_asc (l : List Int) : ∀ (k : Nat), (othN l k).Pairwise (· < ·)
  | 0 => List.Pairwise.nil
  | k + 1 => by
    rw [othN]
    split
    · exact othN_asc l k
    · rw [List.pairwise_append]
      refine ⟨othN_asc l k, List.pairwise_singleton _ _, fun x hx y hy => ?_⟩
      obtain ⟨a, h1, h2, _⟩ := (othN_mem l k x).1 hx
      simp at hy
      omega
theorem othN_len (l : List Int) : ∀ (k : Nat), (othN l k).length ≤ k
  | 0 => by simp [othN]
  | k + 1 => by have := othN_len l k; rw [othN]; split <;> simp <;> omega

/-- Behind the sort: the places in order. -/
theorem sorted_idx (l : List Int) {d d' : Array Int} (hd : d.toList = othN l l.length) (hp : PermIn 0 d.size d d') (hs : SortedIn (ltT l) 0 d.size d') :
    ∃ I : List Nat, d'.toList = I.map (fun a : Nat => (a : Int)) ∧ (∀ a, a ∈ I ↔ a < l.length ∧ basB (l.getD a 0) = false) ∧ I.Pairwise (fun x y : Nat => ltT l x y = true) := by
  have hperm : d'.toList.Perm (othN l l.length) := by
    have := hp.2.2
    rw [← hd]
    rw [Array.extract_eq_self_of_le (by rw [hp.1]; exact Nat.le_refl _), Array.extract_eq_self_of_le (Nat.le_refl _)] at this
    exact this
  have hnn : ∀ x ∈ d'.toList, ∃ a : Nat, a < l.length ∧ x = a ∧ basB (l.getD a 0) = false := fun x hx => (othN_mem l _ x).1 (hperm.mem_iff.1 hx)
  have hnd : d'.toList.Nodup := hperm.nodup_iff.2 ((othN_asc l l.length).imp (fun h => Int.ne_of_lt h))
  have hpw : d'.toList.Pairwise (fun x y => ltT l x y = true) := by
    rw [List.pairwise_iff_getElem]
    intro i j hi hj hij
    have hi2 : i < d'.size := by simpa using hi
    have hj2 : j < d'.size := by simpa using hj
    have h1 := hs i j (Nat.zero_le _) hij (by rw [← hp.1]; exact hj2)
    rw [getElem!_pos d' i hi2, getElem!_pos d' j hj2] at h1
    have hne : d'.toList[i] ≠ d'.toList[j] := List.pairwise_iff_getElem.1 hnd i j hi hj hij
    simp only [Array.getElem_toList] at hne ⊢
    have := ltT_no.1 h1
    rw [ltT_iff]
    have hne2 : ¬ d'[i] = d'[j] := hne
    omega
  have hmap : d'.toList = (d'.toList.map Int.toNat).map (fun a : Nat => (a : Int)) := by
    rw [List.map_map]
    conv => lhs; rw [← List.map_id d'.toList]
    apply List.map_congr_left
    intro x hx
    obtain ⟨a, _, e, _⟩ := hnn x hx
    simp [e]
  refine ⟨d'.toList.map Int.toNat, hmap, fun a => ?_, ?_⟩
  · constructor
    · intro ha
      obtain ⟨x, hx, e⟩ := List.mem_map.1 ha
      obtain ⟨k, h1, h2, h3⟩ := hnn x hx
      rw [h2] at e
      simp at e
      subst e
      exact ⟨h1, h3⟩
    · rintro ⟨h1, h2⟩
      refine List.mem_map.2 ⟨(a : Int), hperm.mem_iff.2 ((othN_mem l _ _).2 ⟨a, h1, rfl, h2⟩), by simp⟩
  · rw [hmap] at hpw
    exact List.pairwise_map.1 hpw

end Go.Proofs.Ytmnnpfohjffniaa
