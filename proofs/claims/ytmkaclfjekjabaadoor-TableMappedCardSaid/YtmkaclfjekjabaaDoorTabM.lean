/-
  table: searching lists of mappings and of numbers; copies.
-/
import Derived.Test.YtmkaclfjekjabaaDoorTabMem
import Derived.Test.YtmkaclfjekjabaaDoorAppend
namespace Go.Proofs.YtmkaclfjekjabaaDoor
open Go.RowKit

theorem isNaN_any (c : Int) (w : World) : Calls Tryd.prog 108 #[.int .i64 c] w fun e w' => e = .returned (.bool false) ∧ w = w' := by
  have h : (c != c) = false := by simp
  go_enter Tryd.func108, Tryd.ntmps108
  go_wp2
  go_ret
  exact ⟨rfl, rfl⟩

def cmpI (a b : Int) : Int := if a < b then -1 else if b < a then 1 else 0

theorem cmpI_any (a b : Int) (w : World) : Calls Tryd.prog 104 #[.int .i64 a, .int .i64 b] w fun e w' => e = .returned (.int .i64 (cmpI a b)) ∧ w = w' := by
  by_cases h1 : a < b
  · have HC : Hid (cmpI a b = -1) := by unfold Hid cmpI; rw [if_pos h1]
    go_enter Tryd.func104, Tryd.ntmps104
    go_wp2_with (go_at_call 108; refine (isNaN_any _ _).mono ?_; rintro e w' ⟨rfl, rfl⟩)
    go_ret
    rw [HC.out]
    exact ⟨rfl, rfl⟩
  · by_cases h2 : b < a
    · have HC : Hid (cmpI a b = 1) := by unfold Hid cmpI; rw [if_neg h1, if_pos h2]
      go_enter Tryd.func104, Tryd.ntmps104
      go_wp2_with (go_at_call 108; refine (isNaN_any _ _).mono ?_; rintro e w' ⟨rfl, rfl⟩)
      go_ret
      rw [HC.out]
      exact ⟨rfl, rfl⟩
    · have HC : Hid (cmpI a b = 0) := by unfold Hid cmpI; rw [if_neg h1, if_neg h2]
      go_enter Tryd.func104, Tryd.ntmps104
      go_wp2_with (go_at_call 108; refine (isNaN_any _ _).mono ?_; rintro e w' ⟨rfl, rfl⟩)
      go_ret
      rw [HC.out]
      exact ⟨rfl, rfl⟩

theorem cmpI_at (a b z : Int) (w : World) (hz : Hid (cmpI a b = z)) : Calls Tryd.prog 104 #[.int .i64 a, .int .i64 b] w fun e w' => e = .returned (.int .i64 z) ∧ w = w' := hz.out ▸ cmpI_any a b w

theorem cmpM_at (f : Int) (v : Value) (c z : Int) (w : World) (hz : Hid (cmpI f c = z)) :
    Calls Tryd.prog 103 #[.agg #[.int .i64 f, v], .int .i64 c] w (Gives (.int .i64 z) w) := by
  go_enter Tryd.func103, Tryd.ntmps103
  go_wp2_with (go_at_call 104; refine (cmpI_at _ _ _ _ hz).mono ?_; rintro e w' ⟨rfl, rfl⟩)
  go_ret
  exact ⟨rfl, (Below.refl _ _).alloc (Nat.le_refl _) _⟩

/-- What a search in mappings returns. -/
def FndM (l : List Mp) (c : Int) (w : World) (e : Ending) (w' : World) : Prop :=
  ∃ i : Nat, e = .returned (.tuple #[.int .i64 i, .bool (hasM l c)]) ∧ i ≤ l.length ∧ (hasM l c = true → i < l.length ∧ (l.getD i mp0).1 = c ∧ findM l c = (l.getD i mp0).2) ∧ Below w.heap.size w w'

theorem froms_getD (l : List Mp) (k : Nat) : (froms l).getD k 0 = (l.getD k mp0).1 := by
  simp only [froms, List.getD_eq_getElem?_getD, List.getElem?_map]
  cases l[k]? <;> rfl
theorem froms_length (l : List Mp) : (froms l).length = l.length := by simp [froms]
theorem froms_take (l : List Mp) (k : Nat) : froms (l.take k) = (froms l).take k := by simp [froms]
theorem froms_drop (l : List Mp) (k : Nat) : froms (l.drop k) = (froms l).drop k := by simp [froms]
theorem hasM_froms (l : List Mp) (c : Int) : hasM l c = (froms l).contains c := by
  rw [Bool.eq_iff_iff, hasM_iff, List.contains_iff_mem]
  simp [froms]
theorem drop_cons_int (l : List Int) (k : Nat) (h : k < l.length) : l.drop k = l.getD k 0 :: l.drop (k + 1) := by
  rw [List.drop_eq_getElem_cons h]; simp [h]

theorem int_take_lt {l : List Int} {lo hi c : Int} (ha : ascI lo hi l = true) (m : Nat) (hm : m < l.length) (h : l.getD m 0 < c) : ∀ s ∈ l.take (m + 1), s < c := by
  intro s hs
  rw [take_snoc_int l m hm] at hs
  rcases List.mem_append.1 hs with hs | hs
  · have := (ascI_mono ha m hm).1 s hs; omega
  · rw [List.mem_singleton] at hs; subst hs; exact h

theorem int_drop_ge {l : List Int} {lo hi c : Int} (ha : ascI lo hi l = true) (m : Nat) (hm : m < l.length) (h : c ≤ l.getD m 0) : ∀ s ∈ l.drop m, c ≤ s := by
  intro s hs
  rw [drop_cons_int l m hm] at hs
  rcases List.mem_cons.1 hs with rfl | hs
  · exact h
  · have := (ascI_mono ha m hm).2 s hs; omega

/-- Where the search ends: c is there, or nowhere. -/
theorem mem_of_first {l : List Int} {lo hi c : Int} (ha : ascI lo hi l = true) (r : Nat) (h1 : ∀ s ∈ l.take r, s < c) (h2 : ∀ s ∈ l.drop r, c ≤ s) :
    (r = l.length → l.contains c = false) ∧ (r < l.length → c < l.getD r 0 → l.contains c = false) ∧ (r < l.length → l.getD r 0 = c → l.contains c = true) := by
  have key : c ∈ l ↔ c ∈ l.drop r := by
    constructor
    · intro h
      rw [← List.take_append_drop r l] at h
      rcases List.mem_append.1 h with h | h
      · have := h1 c h; omega
      · exact h
    · exact List.mem_of_mem_drop
  refine ⟨fun h => ?_, fun h hc => ?_, fun h hc => ?_⟩
  · rw [← Bool.not_eq_true, List.contains_iff_mem, key, h, List.drop_length]; simp
  · rw [← Bool.not_eq_true, List.contains_iff_mem, key, drop_cons_int l r h, List.mem_cons]
    rintro (h3 | h3)
    · omega
    · have := (ascI_mono ha r h).2 c h3; omega
  · rw [List.contains_iff_mem, key, drop_cons_int l r h, hc]; simp

theorem findM_at {l : List Mp} {lo hi : Int} (ha : ascI lo hi (froms l) = true) (k : Nat) (h : k < l.length) : findM l (l.getD k mp0).1 = (l.getD k mp0).2 := by
  have hn := ascI_nodup ha
  clear ha
  induction l generalizing k with
  | nil => simp at h
  | cons m r ih =>
    simp only [froms, List.map_cons, List.nodup_cons] at hn
    cases k with
    | zero => simp [findM]
    | succ k =>
      have hk : k < r.length := by simpa using h
      have e : ((m :: r).getD (k + 1) mp0) = r.getD k mp0 := by simp
      rw [e, findM, if_neg]
      · exact ih k hk hn.2
      · intro he
        apply hn.1
        rw [he]
        exact List.mem_map_of_mem (mp_getD_mem r k hk)

set_option maxRecDepth 100000 in
set_option maxHeartbeats 4000000 in
theorem bsM_any (p : Option Addr) (n cp : Nat) (l : List Mp) (c : Int) (w : World) (hl : l.length = n) (hn : n ≤ 17592186043904) (hin : MpIn w p l) (ha : ascI 0 1114111 (froms l) = true) :
    Calls Tryd.prog 102 #[.slice p n cp, .int .i64 c, .func (.func 103) #[] #[]] w (FndM l c w) := by
  have HI := Lib.hid hin
  have HL := Lib.hid hl
  have HA := Lib.hid ha
  have HF : Hid ((froms l).length = n) := (froms_length l).trans hl
  clear hin hl ha
  go_enter Tryd.func102, Tryd.ntmps102
  go_wp2
  go_loopw [9, 10] (fun x y wr => ∃ a b : Nat, a ≤ b ∧ b ≤ n ∧ x = .int .i64 a ∧ y = .int .i64 b ∧ Hid (∀ s ∈ (froms l).take a, s < c) ∧ Hid (∀ s ∈ (froms l).drop b, c ≤ s) ∧ Hid (Below w.heap.size w wr)) (fun x y _ => (intOf y - intOf x).toNat)
  case atStart =>
    refine ⟨0, n, Nat.zero_le _, Nat.le_refl _, rfl, rfl, by simp [Hid], ?_, Below.refl _ _⟩
    unfold Hid; rw [List.drop_of_length_le (Nat.le_of_eq HF.out)]; simp
  case round =>
    obtain ⟨a, b, hab, hbn, rfl, rfl, h1, h2, hb⟩ := hrel
    by_cases hlt : a < b
    · obtain ⟨m, hm⟩ : ∃ m : Nat, m = (a + b) / 2 := ⟨_, rfl⟩
      have hma : a ≤ m := by omega
      have hmb : m < b := by omega
      have hmn : m < l.length := by rw [HL.out]; omega
      have hmf : m < (froms l).length := by rw [HF.out]; omega
      have hmid : ((a : Int) + (b : Int)) / 2 = (m : Int) := by omega
      obtain ⟨g, off, v, rfl, hc1, hc2, _⟩ := (HI.out.below hb.out) m hmn
      obtain ⟨f, hs⟩ : ∃ f, (l.getD m mp0).1 = f := ⟨_, rfl⟩
      rw [hs] at hc1
      have HS : Hid ((froms l).getD m 0 = f) := (froms_getD l m).trans hs
      clear hs hm
      obtain ⟨z, hz⟩ : ∃ z, Hid (cmpI f c = z) := ⟨_, rfl⟩
      by_cases htc : f < c
      · have hzn : z < 0 := by rw [← hz.out, cmpI, if_pos htc]; omega
        have H1 : Hid (∀ s ∈ (froms l).take (m + 1), s < c) := int_take_lt HA.out m hmf (by rw [HS.out]; exact htc)
        have hd : decide (z < 0) = true := decide_eq_true hzn
        go_wp2_with fail
        refine (cmpM_at f v c z _ hz).mono ?_
        rintro e w2 ⟨rfl, hb2⟩
        have HB2 := Lib.hid (hb.out.trans (hb2.mono hb.out.size))
        clear hb2
        go_wp2
        go_roundw
        case rel => exact ⟨m + 1, b, by omega, hbn, by go_num, rfl, H1, h2, HB2⟩
        case measure => simp [intOf]; omega
      · have hzn : 0 ≤ z := by rw [← hz.out, cmpI, if_neg htc]; split <;> omega
        have H2 : Hid (∀ s ∈ (froms l).drop m, c ≤ s) := int_drop_ge HA.out m hmf (by rw [HS.out]; omega)
        have hd : decide (z < 0) = false := decide_eq_false (by omega)
        go_wp2_with fail
        refine (cmpM_at f v c z _ hz).mono ?_
        rintro e w2 ⟨rfl, hb2⟩
        have HB2 := Lib.hid (hb.out.trans (hb2.mono hb.out.size))
        clear hb2
        go_wp2
        go_roundw
        case rel => exact ⟨a, m, by omega, by omega, rfl, rfl, h1, H2, HB2⟩
        case measure => simp [intOf]; omega
    · obtain rfl : a = b := by omega
      obtain ⟨f1, f2, f3⟩ := mem_of_first HA.out a h1.out h2.out
      rw [HF.out] at f1 f2 f3
      rw [← hasM_froms] at f1 f2 f3
      by_cases hlt2 : a < n
      · have hal : a < l.length := by rw [HL.out]; exact hlt2
        obtain ⟨g, off, v, rfl, hc1, hc2, _⟩ := (HI.out.below hb.out) a hal
        have hto : c ≤ (froms l).getD a 0 := h2.out _ (by rw [drop_cons_int _ a (by rw [HF.out]; exact hlt2)]; simp)
        have hfm := findM_at HA.out a hal
        rw [froms_getD] at f2 f3 hto
        obtain ⟨f, hs⟩ : ∃ f, (l.getD a mp0).1 = f := ⟨_, rfl⟩
        rw [hs] at hc1 f2 f3 hto hfm
        have HS := Lib.hid hs
        have HFM := Lib.hid hfm
        clear hs f1 hfm
        obtain ⟨z, hz⟩ : ∃ z, Hid (cmpI f c = z) := ⟨_, rfl⟩
        by_cases hcf : c < f
        · have hz1 : (z == 0) = false := by rw [← hz.out, cmpI, if_neg (by omega), if_pos hcf]; rfl
          have HV := Lib.hid (f2 hlt2 hcf)
          clear f2 f3
          go_wp2_with fail
          refine (cmpM_at f v c z _ hz).mono ?_
          rintro e w2 ⟨rfl, hb2⟩
          have HB2 := Lib.hid (hb.out.trans (hb2.mono hb.out.size))
          clear hb2
          go_wp2
          go_ret2
          exact ⟨a, by rw [HV.out]; rfl, by rw [HL.out]; omega, by rw [HV.out]; simp, HB2.out⟩
        · have hz1 : (z == 0) = true := by rw [← hz.out, cmpI, if_neg (by omega), if_neg hcf]; rfl
          have hfc : f = c := by omega
          have HV := Lib.hid (f3 hlt2 hfc)
          have HE := Lib.hid hfc
          clear f2 f3 hfc
          go_wp2_with fail
          refine (cmpM_at f v c z _ hz).mono ?_
          rintro e w2 ⟨rfl, hb2⟩
          have HB2 := Lib.hid (hb.out.trans (hb2.mono hb.out.size))
          clear hb2
          go_wp2
          go_ret2
          exact ⟨a, by rw [HV.out]; rfl, by rw [HL.out]; omega, fun _ => ⟨hal, by rw [HS.out, HE.out], by rw [← HE.out]; exact HFM.out⟩, HB2.out⟩
      · have HV := Lib.hid (f1 (by omega))
        clear f1 f2 f3
        go_wp2
        go_ret2
        exact ⟨a, by rw [HV.out]; rfl, by rw [HL.out]; omega, by rw [HV.out]; simp, hb.out⟩

/-- findMapping. -/
theorem findMp_any (v0 : Value) (l : List Mp) (c : Int) (w : World) (hv : MpV w v0 l) (ha : ascI 0 1114111 (froms l) = true) :
    Calls Tryd.prog 73 #[v0, .int .i64 c] w (FndM l c w) := by
  obtain ⟨p, cp, rfl, hin, hn⟩ := hv
  have HI := Lib.hid hin
  have HA := Lib.hid ha
  clear hin ha
  go_enter Tryd.func73, Tryd.ntmps73
  go_wp2_with fail
  refine (bsM_any p l.length cp l c _ rfl hn HI.out HA.out).mono ?_
  rintro e w1 ⟨i, rfl, hi, hf, hb⟩
  have HF := Lib.hid hf
  have HB := Lib.hid hb
  clear hf hb
  go_wp2
  go_ret2
  exact ⟨i, rfl, hi, HF.out, HB.out⟩

end Go.Proofs.YtmkaclfjekjabaaDoor
