/-
  Decode of an encoding, plain mathematics.
-/
import Derived.Test.YtnnhcgflmhjakaaGreatDoorQDecS
import Derived.Test.YtnnhcgflmhjakaaGreatDoorPkN
import Derived.Test.YtnnhcgflmhjakaaGreatDoorQEncA
import Derived.Test.YtnnhcgflmhjakaaGreatDoorPkG
set_option linter.unusedSimpArgs false
set_option linter.unusedVariables false
namespace Go.Proofs.YtnnhcgflmhjakaaGreatDoor
open Go Go.RowKit
set_option linter.unusedVariables false

/-- p begins x. -/
def Pre (p x : ByteArray) : Prop := ∃ r, x = p ++ r
theorem Pre.refl (x : ByteArray) : Pre x x := ⟨ByteArray.empty, (str_empty x).symm⟩
theorem Pre.app (p r : ByteArray) : Pre p (p ++ r) := ⟨r, rfl⟩
theorem Pre.trans {a b c : ByteArray} (h : Pre a b) (k : Pre b c) : Pre a c := by
  obtain ⟨r, rfl⟩ := h
  obtain ⟨q, rfl⟩ := k
  exact ⟨r ++ q, str_assoc _ _ _⟩

theorem pre_accS (b : ByteArray) (L : List (List Sp)) : Pre b (accS b L) := by
  induction L generalizing b with
  | nil => exact Pre.refl _
  | cons l r ih => exact (Pre.app b _).trans (ih _)
theorem pre_accR (b : ByteArray) (L : List Mp) : Pre b (accR b L) := by
  induction L generalizing b with
  | nil => exact Pre.refl _
  | cons l r ih => exact (Pre.app b _).trans (ih _)
theorem pre_accM (b : ByteArray) (L : List (List Mp)) : Pre b (accM b L) := by
  induction L generalizing b with
  | nil => exact Pre.refl _
  | cons l r ih => exact ((Pre.app b _).trans (pre_accR _ _)).trans (ih _)

theorem rdI_pre {b X : ByteArray} {v : Int} (h0 : -1073741824 ≤ v) (h1 : v ≤ 4294967296) (h : Pre (b ++ putB v) X) : rdI X b.size 0 = (v, ((b ++ putB v).size : Int), 0) := by
  obtain ⟨r, rfl⟩ := h
  rw [rdI, get_put b r v (by omega) (by omega)]
  simp [ByteArray.size_append]

theorem rdL_pre {b X : ByteArray} {l : List Int} (hn : l.length ≤ 4096) (hm : ∀ v ∈ l, modB v = true) (h : Pre (b ++ encLi l) X) : rdL X b.size 0 = (l, ((b ++ encLi l).size : Int), 0) := by
  obtain ⟨r, rfl⟩ := h
  have := (list_back b r l hn hm).2
  rw [str_assoc b] at this
  rw [rdL, encLi, this]
  simp

theorem rdS_pre {b X : ByteArray} {l : List Sp} (hv : validS l = true) (hm : ∀ s ∈ l, modB s.2.2 = true) (h : Pre (b ++ encSp l) X) : rdS X b.size 0 = (l, ((b ++ encSp l).size : Int), 0) := by
  obtain ⟨r, rfl⟩ := h
  have := (spans_back b r l hv hm).2
  rw [str_assoc b] at this
  rw [rdS, encSp, this]
  simp

def RowOk (m : Mp) : Prop := 0 ≤ m.1 ∧ m.1 ≤ 1114111 ∧ m.2.length ≤ 18 ∧ ∀ v ∈ m.2, modB v = true

theorem rdMF_pre (l : List Mp) {b X : ByteArray} (out : List Mp) (hl : ∀ m ∈ l, RowOk m) (h : Pre (accR b l) X) : rdMF X l.length b.size out = (out ++ l, ((accR b l).size : Int), 0) := by
  induction l generalizing b out with
  | nil => simp [rdMF, accR]
  | cons m r ih =>
    obtain ⟨h1, h2, h3, h4⟩ := hl m (by simp)
    have hp : Pre (b ++ encRow m) X := (pre_accR _ r).trans h
    have hq : Pre (b ++ putB m.1) X := by
      refine Pre.trans ?_ hp
      rw [encRow, ← str_assoc]
      exact Pre.app _ _
    have e1 := rdI_pre (by omega) (by omega) hq
    have e2 := rdL_pre (b := b ++ putB m.1) (X := X) (l := m.2) (by omega) h4 (by rw [str_assoc]; exact hp)
    rw [List.length_cons, rdMF, e1]
    simp only
    rw [e2]
    simp only [ne_eq, not_true_eq_false, if_false]
    have e3 := ih (b := b ++ encRow m) (out ++ [(m.1, m.2)]) (fun x hx => hl x (by simp [hx])) h
    rw [str_assoc]
    rw [encRow] at e3
    rw [e3]
    simp [accR, encRow]

theorem rdM_pre {l : List Mp} {b X : ByteArray} (hn : l.length ≤ 256) (hl : ∀ m ∈ l, RowOk m) (h : Pre (accR (b ++ putB l.length) l) X) : rdM X b.size 0 = (l, ((accR (b ++ putB l.length) l).size : Int), 0) := by
  have e1 := rdI_pre (b := b) (X := X) (v := l.length) (by omega) (by omega) ((pre_accR _ l).trans h)
  rw [rdM, e1]
  simp only
  rw [if_neg (by simp), if_neg (by omega), Int.toNat_natCast, rdMF_pre l [] hl h, List.nil_append]

theorem EncOk.v {T : Tb} (h : EncOk T) {l : List Sp} (hl : l ∈ spansT T) : validS l = true ∧ ∀ s ∈ l, modB s.2.2 = true := by
  obtain ⟨h1, h2, h3⟩ := h.sp l hl
  exact ⟨by unfold validS; rw [h2, decide_eq_true h1]; rfl, h3⟩
theorem EncOk.w {T : Tb} (h : EncOk T) {l : List Mp} (hl : l ∈ mpsT T) : l.length ≤ 256 ∧ ∀ m ∈ l, RowOk m := h.mp l hl

theorem rdT_enc {T : Tb} (h : EncOk T) {X : ByteArray} (hX : Pre (rowsB T) X) : rdT X 4 0 = (T, ((rowsB T).size : Int), 0) := by
  have e4 : (4 : Int) = (sigB.size : Int) := rfl
  obtain ⟨L0, L1, L2, L3, L4, L5, L6, E, M, D, Q, R⟩ := T
  have hE : Pre (accM (accS sigB (spansT ⟨L0, L1, L2, L3, L4, L5, L6, E, M, D, Q, R⟩)) (mpsT ⟨L0, L1, L2, L3, L4, L5, L6, E, M, D, Q, R⟩)) X := (Pre.app _ _).trans hX
  have hS : Pre (accS sigB (spansT ⟨L0, L1, L2, L3, L4, L5, L6, E, M, D, Q, R⟩)) X := (pre_accM _ _).trans hE
  obtain ⟨v0, m0⟩ := h.v (l := L0) (by simp [spansT])
  obtain ⟨v1, m1⟩ := h.v (l := L1) (by simp [spansT])
  obtain ⟨v2, m2⟩ := h.v (l := L2) (by simp [spansT])
  obtain ⟨v3, m3⟩ := h.v (l := L3) (by simp [spansT])
  obtain ⟨v4, m4⟩ := h.v (l := L4) (by simp [spansT])
  obtain ⟨v5, m5⟩ := h.v (l := L5) (by simp [spansT])
  obtain ⟨v6, m6⟩ := h.v (l := L6) (by simp [spansT])
  obtain ⟨n7, w7⟩ := h.w (l := E) (by simp [mpsT])
  obtain ⟨n8, w8⟩ := h.w (l := M) (by simp [mpsT])
  obtain ⟨n9, w9⟩ := h.w (l := D) (by simp [mpsT])
  obtain ⟨n11, w11⟩ := h.w (l := R) (by simp [mpsT])
  simp only [spansT, mpsT, accS, accM] at hS hE
  have r0 := rdS_pre v0 m0 (b := sigB) (X := X) ((pre_accS _ [L1, L2, L3, L4, L5, L6]).trans hS)
  have r1 := rdS_pre v1 m1 (b := sigB ++ encSp L0) (X := X) ((pre_accS _ [L2, L3, L4, L5, L6]).trans hS)
  have r2 := rdS_pre v2 m2 (b := sigB ++ encSp L0 ++ encSp L1) (X := X) ((pre_accS _ [L3, L4, L5, L6]).trans hS)
  have r3 := rdS_pre v3 m3 (b := sigB ++ encSp L0 ++ encSp L1 ++ encSp L2) (X := X) ((pre_accS _ [L4, L5, L6]).trans hS)
  have r4 := rdS_pre v4 m4 (b := sigB ++ encSp L0 ++ encSp L1 ++ encSp L2 ++ encSp L3) (X := X) ((pre_accS _ [L5, L6]).trans hS)
  have r5 := rdS_pre v5 m5 (b := sigB ++ encSp L0 ++ encSp L1 ++ encSp L2 ++ encSp L3 ++ encSp L4) (X := X) ((pre_accS _ [L6]).trans hS)
  have r6 := rdS_pre v6 m6 (b := sigB ++ encSp L0 ++ encSp L1 ++ encSp L2 ++ encSp L3 ++ encSp L4 ++ encSp L5) (X := X) hS
  obtain ⟨B, hB⟩ : ∃ B, sigB ++ encSp L0 ++ encSp L1 ++ encSp L2 ++ encSp L3 ++ encSp L4 ++ encSp L5 ++ encSp L6 = B := ⟨_, rfl⟩
  have hX' : Pre (accM B [E, M, D, R] ++ encLi Q) X := by rw [← hB]; exact hX
  have hSz : (rowsB ⟨L0, L1, L2, L3, L4, L5, L6, E, M, D, Q, R⟩) = accM B [E, M, D, R] ++ encLi Q := by rw [← hB]; rfl
  rw [hB] at r6 hE
  have r7 := rdM_pre n7 w7 (b := B) (X := X) ((pre_accM _ [M, D, R]).trans hE)
  have r8 := rdM_pre n8 w8 (b := accR (B ++ putB E.length) E) (X := X) ((pre_accM _ [D, R]).trans hE)
  have r9 := rdM_pre n9 w9 (b := accR (accR (B ++ putB E.length) E ++ putB M.length) M) (X := X) ((pre_accM _ [R]).trans hE)
  have r11 := rdM_pre n11 w11 (b := accR (accR (accR (B ++ putB E.length) E ++ putB M.length) M ++ putB D.length) D) (X := X) hE
  have r10 := rdL_pre (b := accM B [E, M, D, R]) (X := X) (l := Q) (by have := h.exc.1; simp only at this; omega) h.exc.2 hX'
  simp only [accM] at r10
  unfold rdT
  simp only [e4, r0, r1, r2, r3, r4, r5, r6, r7, r8, r9, r11, r10, hSz, accM]

theorem extract_pre {p X : ByteArray} (h : Pre p X) : X.extract 0 p.size = p := by
  obtain ⟨r, rfl⟩ := h
  apply ByteArray.ext
  simp [ByteArray.extract_append]

theorem dec_enc {T : Tb} {X : ByteArray} (hc : checkT T = 0) (hX : encT T = (X, 0)) : decT X = (T, 0) := by
  have ho := enc_ok hc
  rw [encT, if_neg (by simp [hc])] at hX
  split at hX
  · injection hX with _ h2; omega
  · rename_i hb
    injection hX with h1 _
    have hb4 := rowsB_big T
    have hP : Pre (rowsB T) X := ⟨_, h1.symm⟩
    have hs : sigB.size = 4 := rfl
    have hS : Pre sigB X := by
      refine Pre.trans ?_ hP
      exact ((pre_accS _ _).trans (pre_accM _ _)).trans (Pre.app _ _)
    have e1 := extract_pre hS
    rw [hs] at e1
    have e2 := extract_pre hP
    have hY := sumS_bd (rowsB T)
    have e3 := rdI_pre (b := rowsB T) (X := X) (v := sumS (rowsB T)) (by omega) (by omega) (by rw [h1]; exact Pre.refl _)
    have hsz : (rowsB T ++ putB (sumS (rowsB T))).size = X.size := by rw [h1]
    have hle : (rowsB T).size ≤ X.size := by rw [← hsz, ByteArray.size_append]; omega
    have hi : itemsT X = (T, 0) := by
      rw [itemsT, if_neg (by rw [← h1]; exact hb), if_neg (by omega), if_neg (by simp [e1]), rdT_enc ho hP]
      simp only [endS, e3, Int.toNat_natCast, e2, hsz]
      simp
    rw [decT, hi]
    simp [hc]

theorem accS_sz (b : ByteArray) (L : List (List Sp)) (n : Nat) (h : ∀ l ∈ L, l.length ≤ n) : (accS b L).size ≤ b.size + (10 + 30 * n) * L.length := by
  induction L generalizing b with
  | nil => simp [accS]
  | cons l r ih =>
    have h1 := ih (b ++ encSp l) (fun x hx => h x (by simp [hx]))
    have h2 := encSp_size l
    have h3 := h l (by simp)
    rw [ByteArray.size_append] at h1
    simp only [accS, List.length_cons, Nat.mul_add, Nat.mul_one]
    omega

theorem made_fits {T : Tb} (h : Made T) : ∃ X, encT T = (X, 0) ∧ X.size ≤ 32768 := by
  have hc := h.check
  have ho := enc_ok hc
  have h1 := accS_sz sigB (spansT T) 28 (by
    intro l hl
    simp only [spansT, List.mem_cons, List.not_mem_nil, or_false] at hl
    rcases hl with rfl | rfl | rfl | rfl | rfl | rfl | rfl
    · exact h.cat.len
    · exact h.cls.len
    · exact h.joi.len
    · exact h.bid.len
    · exact h.scr.len
    · exact h.map.sp.len
    · exact h.ign.len)
  rw [spansT_len] at h1
  have h0 : sigB.size = 4 := rfl
  have hx : T.ext.length ≤ 1 := by rcases h.ext with e | e <;> rw [e] <;> simp
  obtain ⟨B, hB⟩ : ∃ B, accS sigB (spansT T) = B := ⟨_, rfl⟩
  rw [hB] at h1
  have k7 := accR_size (B ++ putB T.ext.length) T.ext (fun m hm => ((ho.w (l := T.ext) (by simp [mpsT])).2 m hm).2.2.1)
  have k8 := accR_size (accR (B ++ putB T.ext.length) T.ext ++ putB T.map.length) T.map (fun m hm => ((ho.w (l := T.map) (by simp [mpsT])).2 m hm).2.2.1)
  have k9 := accR_size (accR (accR (B ++ putB T.ext.length) T.ext ++ putB T.map.length) T.map ++ putB T.dec.length) T.dec (fun m hm => ((ho.w (l := T.dec) (by simp [mpsT])).2 m hm).2.2.1)
  have k11 := accR_size (accR (accR (accR (B ++ putB T.ext.length) T.ext ++ putB T.map.length) T.map ++ putB T.dec.length) T.dec ++ putB T.pro.length) T.pro (fun m hm => ((ho.w (l := T.pro) (by simp [mpsT])).2 m hm).2.2.1)
  rw [ByteArray.size_append] at k7 k8 k9 k11
  have p7 := (putB_size (T.ext.length : Int)).2
  have p8 := (putB_size (T.map.length : Int)).2
  have p9 := (putB_size (T.dec.length : Int)).2
  have p11 := (putB_size (T.pro.length : Int)).2
  have m8 := h.map.len
  have m9 := h.dec.len
  have m11 := h.pro.len
  have m10 := h.dec.elen
  have k10 := encLi_size T.exc
  have hR : (rowsB T).size ≤ 32000 := by
    have e : rowsB T = accR (accR (accR (accR (B ++ putB T.ext.length) T.ext ++ putB T.map.length) T.map ++ putB T.dec.length) T.dec ++ putB T.pro.length) T.pro ++ encLi T.exc := by rw [← hB]; rfl
    rw [e, ByteArray.size_append]; omega
  have hp := put_size (rowsB T) (sumS (rowsB T))
  refine ⟨_, encT_ok hc rfl (by omega), by omega⟩

end Go.Proofs.YtnnhcgflmhjakaaGreatDoor
