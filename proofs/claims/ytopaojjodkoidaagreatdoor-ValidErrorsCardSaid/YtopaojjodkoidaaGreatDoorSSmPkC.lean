/- 'append(v, y...)' on ints, guarded or not; the appended slic -/
import Derived.Test.YtopaojjodkoidaaGreatDoorSSmPkA
import Derived.Test.YtopaojjodkoidaaGreatDoorSSmPkB
import Derived.Deep.RegionHeld3
import Derived.Deep.RegionWith
import Derived.Test.YtopaojjodkoidaaGreatDoorSSmPkZZQ
import Derived.Shelf.Abstract
set_option linter.unusedSimpArgs false
set_option linter.unusedVariables false
namespace Go.Proofs.YtopaojjodkoidaaGreatDoor
open Go.RowKit
theorem run_append_nil {P : Program} {w : World} (base : Nat) (t ty e : TypeId) (i : TypeInfo) (size : Nat) (ht : P.underlying t = some (.slice e)) (hi : P.info? e = some i)
 (v : Value) (n : Nat) (xs : List Value) (c : Nat) (hown : w.ownsRow base e size v n xs) :
 (Builtin.append_ #[t, t] ty #[v, .slice none 0 c]).run P w = .ok v w := by
 rcases hown.2 with ⟨rfl, rfl⟩ | ⟨g, cap, cur, rfl, _, _, hnc, _⟩
 ·simp [Builtin.append_, run_underlying ht, sizeOf, typeInfo, hi, Builtin.lenOf, Builtin.firstCells]
 ·simp [Builtin.append_, run_underlying ht, sizeOf, typeInfo, hi, Builtin.lenOf, Builtin.firstCells, hnc, storeCells]
theorem grownBy_refl (w : World) (row : Option Nat) : w.grownBy w row := ⟨rfl, rfl, rfl, Nat.le_refl _, fun _ _ _ => rfl⟩
theorem wp_append_ints {w : World} {o : Oper} {a : Act} {K : Act → World → Prop} {Q : Exit → Act → World → Prop} (s x : Operand)
 (ho : o.op = .call { callee := .builtin .append, args := #[s, x], argTypes := #[22, 22] })
 (base : Nat) (v : Value) (xs : List Int) (hs : a.eval s = v) (hown : Ints w base v xs)
 (p : Option Addr) (m c : Nat) (ys : List Int) (hm : ys.length = m) (hx : a.eval x = .slice p m c) (hin : IntsIn w p ys)
 (hlen : xs.length + ys.length ≤ 17592186043904) (hbase : base ≤ w.heap.size)
 (h : ∀ v' w', Ints w' base v' (xs ++ ys) → w.grownBy w' v.ownBlock → K (a.put o.dst v') w') : o.wp Tryz.prog a w K Q := by
 subst hm
 obtain ⟨i0, hi, hz0, hz1, hz2⟩ := info_parts Tryz.info3
 cases p with
 | none =>
  have hy : ys = [] := by
   cases ys with
   | nil => rfl
   | cons y r => obtain ⟨_, _, e, _⟩ := hin 0 (by simp); cases e
  subst hy
  have hr := run_append_nil (P := Tryz.prog) base 22 o.type 3 i0 1 Tryz.underlying22 hi v xs.length _ c hown
  unfold Oper.wp execOp
  simp only [ho, resolve, invoke, builtin, Sem.run_bind, Sem.run_pure, Result.andThen_ok, List.map_toArray, List.map_cons, List.map_nil, hs, hx, List.length_nil, hr]
  exact h v w (by simpa using hown) (grownBy_refl _ _)
 | some ad =>
  refine wp_append_own w s x 22 ho base 3 i0 (.int .i64 0) 1 8 Tryz.underlying22 hi hz0 hz1 hz2 rfl (by decide) v xs.length _ hs hown ad ys.length c (ys.map (.int .i64)) hx (by simp) ?_ ?_ (by unfold maxLen; omega) (by omega) hbase ?_
  ·intro j u hu
   rw [List.getElem?_map] at hu
   cases hj : ys[j]? with
   | none => rw [hj] at hu; cases hu
   | some y =>
    rw [hj] at hu
    simp only [Option.map_some, Option.some.injEq] at hu
    obtain ⟨hjl, hje⟩ := List.getElem?_eq_some_iff.1 hj
    obtain ⟨b, off, e, hc⟩ := hin j hjl
    simp only [Option.some.injEq] at e
    subst e
    rw [Addr.add_lit, hc, ← hu]
    simp [List.getD, hj]
  ·intro u hu
   obtain ⟨y, _, rfl⟩ := List.mem_map.1 hu
   rfl
  ·intro v' w' h1 h2 _
   exact h v' w' (by unfold Ints; simpa using h1) h2
theorem wpList_append_ints {w : World} {ops : Array Oper} {rest : List Oper} {o : Oper} {a : Act} {Q : Exit → Act → World → Prop} (s x : Operand)
 (ho : o.op = .call { callee := .builtin .append, args := #[s, x], argTypes := #[22, 22] })
 (hw : Region.wanted o (yielded ops a.tmps) = true)
 (base : Nat) (v : Value) (xs : List Int) (hs : a.eval s = v) (hown : Ints w base v xs)
 (p : Option Addr) (m c : Nat) (ys : List Int) (hm : ys.length = m) (hx : a.eval x = .slice p m c) (hin : IntsIn w p ys)
 (hlen : xs.length + ys.length ≤ 17592186043904) (hbase : base ≤ w.heap.size)
 (h : ∀ v' w', Ints w' base v' (xs ++ ys) → w.grownBy w' v.ownBlock → wpList Tryz.prog ops Q rest (a.put o.dst v') w') : wpList Tryz.prog ops Q (o :: rest) a w := by
 unfold wpList
 rw [if_pos hw]
 exact .inl (wp_append_ints s x ho base v xs hs hown p m c ys hm hx hin hlen hbase h)
theorem isNaN_any (c : Int) (w : World) : Calls Tryz.prog 188 #[.int .i64 c] w fun e w' => e = .returned (.bool false) ∧ w = w' := by
 have h : (c != c) = false := by simp
 go_enter Tryz.func188, Tryz.ntmps188
 go_wp2
 go_ret
 exact ⟨rfl, rfl⟩
def cmpI (a b : Int) : Int := if a < b then -1 else if b < a then 1 else 0
theorem cmpI_any (a b : Int) (w : World) : Calls Tryz.prog 184 #[.int .i64 a, .int .i64 b] w fun e w' => e = .returned (.int .i64 (cmpI a b)) ∧ w = w' := by
 by_cases h1 : a < b
 ·have HC : Hid (cmpI a b = -1) := by unfold Hid cmpI; rw [if_pos h1]
  go_enter Tryz.func184, Tryz.ntmps184
  go_wp2_with (go_at_call 188; refine (isNaN_any _ _).mono ?_; rintro e w' ⟨rfl, rfl⟩)
  go_ret
  rw [HC.out]
  exact ⟨rfl, rfl⟩
 ·by_cases h2 : b < a
  ·have HC : Hid (cmpI a b = 1) := by unfold Hid cmpI; rw [if_neg h1, if_pos h2]
   go_enter Tryz.func184, Tryz.ntmps184
   go_wp2_with (go_at_call 188; refine (isNaN_any _ _).mono ?_; rintro e w' ⟨rfl, rfl⟩)
   go_ret
   rw [HC.out]
   exact ⟨rfl, rfl⟩
  ·have HC : Hid (cmpI a b = 0) := by unfold Hid cmpI; rw [if_neg h1, if_neg h2]
   go_enter Tryz.func184, Tryz.ntmps184
   go_wp2_with (go_at_call 188; refine (isNaN_any _ _).mono ?_; rintro e w' ⟨rfl, rfl⟩)
   go_ret
   rw [HC.out]
   exact ⟨rfl, rfl⟩
theorem cmpI_at (a b z : Int) (w : World) (hz : Hid (cmpI a b = z)) : Calls Tryz.prog 184 #[.int .i64 a, .int .i64 b] w fun e w' => e = .returned (.int .i64 z) ∧ w = w' := hz.out ▸ cmpI_any a b w
theorem cmpM_at (f : Int) (v : Value) (c z : Int) (w : World) (hz : Hid (cmpI f c = z)) :
 Calls Tryz.prog 183 #[.agg #[.int .i64 f, v], .int .i64 c] w (Gives (.int .i64 z) w) := by
 go_enter Tryz.func183, Tryz.ntmps183
 go_wp2_with (go_at_call 184; refine (cmpI_at _ _ _ _ hz).mono ?_; rintro e w' ⟨rfl, rfl⟩)
 go_ret
 exact ⟨rfl, (Below.refl _ _).alloc (Nat.le_refl _) _⟩
def FndM (l : List Mp) (c : Int) (w : World) (e : Ending) (w' : World) : Prop :=
 ∃ i : Nat, e = .returned (.tuple #[.int .i64 i, .bool (hasM l c)]) ∧ i ≤ l.length ∧ (hasM l c = true → i < l.length ∧ (l.getD i mp0).1 = c ∧ findM l c = (l.getD i mp0).2) ∧ Below w.heap.size w w'
theorem froms_getD (l : List Mp) (k : Nat) : (froms l).getD k 0 = (l.getD k mp0).1 := by
 simp only [froms, List.getD_eq_getElem?_getD, List.getElem?_map]
 cases l[k]? <;> rfl
theorem froms_length (l : List Mp) : (froms l).length = l.length := by simp [froms]
theorem froms_take (l : List Mp) (k : Nat) : froms (l.take k) = (froms l).take k := by simp [froms]
theorem hasM_froms (l : List Mp) (c : Int) : hasM l c = (froms l).contains c := by
 rw [Bool.eq_iff_iff, hasM_iff, List.contains_iff_mem]
 simp [froms]
theorem drop_cons_int (l : List Int) (k : Nat) (h : k < l.length) : l.drop k = l.getD k 0 :: l.drop (k + 1) := by
 rw [List.drop_eq_getElem_cons h]; simp [h]
theorem int_take_lt {l : List Int} {lo hi c : Int} (ha : ascI lo hi l = true) (m : Nat) (hm : m < l.length) (h : l.getD m 0 < c) : ∀ s ∈ l.take (m + 1), s < c := by
 intro s hs
 rw [take_snoc_int l m hm] at hs
 rcases List.mem_append.1 hs with hs | hs
 ·have := (ascI_mono ha m hm).1 s hs; omega
 ·rw [List.mem_singleton] at hs; subst hs; exact h
theorem int_drop_ge {l : List Int} {lo hi c : Int} (ha : ascI lo hi l = true) (m : Nat) (hm : m < l.length) (h : c ≤ l.getD m 0) : ∀ s ∈ l.drop m, c ≤ s := by
 intro s hs
 rw [drop_cons_int l m hm] at hs
 rcases List.mem_cons.1 hs with rfl | hs
 ·exact h
 ·have := (ascI_mono ha m hm).2 s hs; omega
theorem mem_of_first {l : List Int} {lo hi c : Int} (ha : ascI lo hi l = true) (r : Nat) (h1 : ∀ s ∈ l.take r, s < c) (h2 : ∀ s ∈ l.drop r, c ≤ s) :
 (r = l.length → l.contains c = false) ∧ (r < l.length → c < l.getD r 0 → l.contains c = false) ∧ (r < l.length → l.getD r 0 = c → l.contains c = true) := by
 have key : c ∈ l ↔ c ∈ l.drop r := by
  constructor
  ·intro h
   rw [← List.take_append_drop r l] at h
   rcases List.mem_append.1 h with h | h
   ·have := h1 c h; omega
   ·exact h
  ·exact List.mem_of_mem_drop
 refine ⟨fun h => ?_, fun h hc => ?_, fun h hc => ?_⟩
 ·rw [← Bool.not_eq_true, List.contains_iff_mem, key, h, List.drop_length]; simp
 ·rw [← Bool.not_eq_true, List.contains_iff_mem, key, drop_cons_int l r h, List.mem_cons]
  rintro (h3 | h3)
  ·omega
  ·have := (ascI_mono ha r h).2 c h3; omega
 ·rw [List.contains_iff_mem, key, drop_cons_int l r h, hc]; simp
theorem findM_at {l : List Mp} {lo hi : Int} (ha : ascI lo hi (froms l) = true) (k : Nat) (h : k < l.length) : findM l (l.getD k mp0).1 = (l.getD k mp0).2 := by
 have hn := ascI_nodup ha
 clear ha
 induction l generalizing k with
 | nil => simp at h
 | cons m r ih =>
  simp only [froms, List.map_cons, List.nodup_cons] at hn
  cases k with
  | zero => simp [findM]
  | succ k =>
   have hk : k < r.length := by simpa using h
   have e : ((m :: r).getD (k + 1) mp0) = r.getD k mp0 := by simp
   rw [e, findM, if_neg]
   ·exact ih k hk hn.2
   ·intro he
    apply hn.1
    rw [he]
    exact List.mem_map_of_mem (mp_getD_mem r k hk)
set_option maxRecDepth 100000 in
set_option maxHeartbeats 4000000 in
theorem bsM_any (p : Option Addr) (n cp : Nat) (l : List Mp) (c : Int) (w : World) (hl : l.length = n) (hn : n ≤ 17592186043904) (hin : MpIn w p l) (ha : ascI 0 1114111 (froms l) = true) :
 Calls Tryz.prog 182 #[.slice p n cp, .int .i64 c, .func (.func 183) #[] #[]] w (FndM l c w) := by
 have HI := Lib.hid hin
 have HL := Lib.hid hl
 have HA := Lib.hid ha
 have HF : Hid ((froms l).length = n) := (froms_length l).trans hl
 clear hin hl ha
 go_enter Tryz.func182, Tryz.ntmps182
 go_wp2
 go_loopw [9, 10] (fun x y wr => ∃ a b : Nat, a ≤ b ∧ b ≤ n ∧ x = .int .i64 a ∧ y = .int .i64 b ∧ Hid (∀ s ∈ (froms l).take a, s < c) ∧ Hid (∀ s ∈ (froms l).drop b, c ≤ s) ∧ Hid (Below w.heap.size w wr)) (fun x y _ => (intOf y - intOf x).toNat)
 case atStart =>
  refine ⟨0, n, Nat.zero_le _, Nat.le_refl _, rfl, rfl, by simp [Hid], ?_, Below.refl _ _⟩
  unfold Hid; rw [List.drop_of_length_le (Nat.le_of_eq HF.out)]; simp
 case round =>
  obtain ⟨a, b, hab, hbn, rfl, rfl, h1, h2, hb⟩ := hrel
  by_cases hlt : a < b
  ·obtain ⟨m, hm⟩ : ∃ m : Nat, m = (a + b) / 2 := ⟨_, rfl⟩
   have hma : a ≤ m := by omega
   have hmb : m < b := by omega
   have hmn : m < l.length := by rw [HL.out]; omega
   have hmf : m < (froms l).length := by rw [HF.out]; omega
   have hmid : ((a : Int) + (b : Int)) / 2 = (m : Int) := by omega
   obtain ⟨g, off, v, rfl, hc1, hc2, _⟩ := (HI.out.below hb.out) m hmn
   obtain ⟨f, hs⟩ : ∃ f, (l.getD m mp0).1 = f := ⟨_, rfl⟩
   rw [hs] at hc1
   have HS : Hid ((froms l).getD m 0 = f) := (froms_getD l m).trans hs
   clear hs hm
   obtain ⟨z, hz⟩ : ∃ z, Hid (cmpI f c = z) := ⟨_, rfl⟩
   by_cases htc : f < c
   ·have hzn : z < 0 := by rw [← hz.out, cmpI, if_pos htc]; omega
    have H1 : Hid (∀ s ∈ (froms l).take (m + 1), s < c) := int_take_lt HA.out m hmf (by rw [HS.out]; exact htc)
    have hd : decide (z < 0) = true := decide_eq_true hzn
    go_wp2_with fail
    refine (cmpM_at f v c z _ hz).mono ?_
    rintro e w2 ⟨rfl, hb2⟩
    have HB2 := Lib.hid (hb.out.trans (hb2.mono hb.out.size))
    clear hb2
    go_wp2
    go_roundw
    case rel => exact ⟨m + 1, b, by omega, hbn, by go_num, rfl, H1, h2, HB2⟩
    case measure => simp [intOf]; omega
   ·have hzn : 0 ≤ z := by rw [← hz.out, cmpI, if_neg htc]; split <;> omega
    have H2 : Hid (∀ s ∈ (froms l).drop m, c ≤ s) := int_drop_ge HA.out m hmf (by rw [HS.out]; omega)
    have hd : decide (z < 0) = false := decide_eq_false (by omega)
    go_wp2_with fail
    refine (cmpM_at f v c z _ hz).mono ?_
    rintro e w2 ⟨rfl, hb2⟩
    have HB2 := Lib.hid (hb.out.trans (hb2.mono hb.out.size))
    clear hb2
    go_wp2
    go_roundw
    case rel => exact ⟨a, m, by omega, by omega, rfl, rfl, h1, H2, HB2⟩
    case measure => simp [intOf]; omega
  ·obtain rfl : a = b := by omega
   obtain ⟨f1, f2, f3⟩ := mem_of_first HA.out a h1.out h2.out
   rw [HF.out] at f1 f2 f3
   rw [← hasM_froms] at f1 f2 f3
   by_cases hlt2 : a < n
   ·have hal : a < l.length := by rw [HL.out]; exact hlt2
    obtain ⟨g, off, v, rfl, hc1, hc2, _⟩ := (HI.out.below hb.out) a hal
    have hto : c ≤ (froms l).getD a 0 := h2.out _ (by rw [drop_cons_int _ a (by rw [HF.out]; exact hlt2)]; simp)
    have hfm := findM_at HA.out a hal
    rw [froms_getD] at f2 f3 hto
    obtain ⟨f, hs⟩ : ∃ f, (l.getD a mp0).1 = f := ⟨_, rfl⟩
    rw [hs] at hc1 f2 f3 hto hfm
    have HS := Lib.hid hs
    have HFM := Lib.hid hfm
    clear hs f1 hfm
    obtain ⟨z, hz⟩ : ∃ z, Hid (cmpI f c = z) := ⟨_, rfl⟩
    by_cases hcf : c < f
    ·have hz1 : (z == 0) = false := by rw [← hz.out, cmpI, if_neg (by omega), if_pos hcf]; rfl
     have HV := Lib.hid (f2 hlt2 hcf)
     clear f2 f3
     go_wp2_with fail
     refine (cmpM_at f v c z _ hz).mono ?_
     rintro e w2 ⟨rfl, hb2⟩
     have HB2 := Lib.hid (hb.out.trans (hb2.mono hb.out.size))
     clear hb2
     go_wp2
     go_ret2
     exact ⟨a, by rw [HV.out]; rfl, by rw [HL.out]; omega, by rw [HV.out]; simp, HB2.out⟩
    ·have hz1 : (z == 0) = true := by rw [← hz.out, cmpI, if_neg (by omega), if_neg hcf]; rfl
     have hfc : f = c := by omega
     have HV := Lib.hid (f3 hlt2 hfc)
     have HE := Lib.hid hfc
     clear f2 f3 hfc
     go_wp2_with fail
     refine (cmpM_at f v c z _ hz).mono ?_
     rintro e w2 ⟨rfl, hb2⟩
     have HB2 := Lib.hid (hb.out.trans (hb2.mono hb.out.size))
     clear hb2
     go_wp2
     go_ret2
     exact ⟨a, by rw [HV.out]; rfl, by rw [HL.out]; omega, fun _ => ⟨hal, by rw [HS.out, HE.out], by rw [← HE.out]; exact HFM.out⟩, HB2.out⟩
   ·have HV := Lib.hid (f1 (by omega))
    clear f1 f2 f3
    go_wp2
    go_ret2
    exact ⟨a, by rw [HV.out]; rfl, by rw [HL.out]; omega, by rw [HV.out]; simp, hb.out⟩
theorem findMp_any (v0 : Value) (l : List Mp) (c : Int) (w : World) (hv : MpV w v0 l) (ha : ascI 0 1114111 (froms l) = true) :
 Calls Tryz.prog 172 #[v0, .int .i64 c] w (FndM l c w) := by
 obtain ⟨p, cp, rfl, hin, hn⟩ := hv
 have HI := Lib.hid hin
 have HA := Lib.hid ha
 clear hin ha
 go_enter Tryz.func172, Tryz.ntmps172
 go_wp2_with fail
 refine (bsM_any p l.length cp l c _ rfl hn HI.out HA.out).mono ?_
 rintro e w1 ⟨i, rfl, hi, hf, hb⟩
 have HF := Lib.hid hf
 have HB := Lib.hid hb
 clear hf hb
 go_wp2
 go_ret2
 exact ⟨i, rfl, hi, HF.out, HB.out⟩
def cmpS (f t c : Int) : Int := if t < c then -1 else if c < f then 1 else 0
theorem cmpS_any (f t v c : Int) (w : World) :
 Calls Tryz.prog 118 #[.agg #[.int .i64 f, .int .i64 t, .int .i64 v], .int .i64 c] w (Gives (.int .i64 (cmpS f t c)) w) := by
 by_cases h1 : t < c
 ·have HC : Hid (cmpS f t c = -1) := by unfold Hid cmpS; rw [if_pos h1]
  go_enter Tryz.func118, Tryz.ntmps118
  go_wp2
  go_ret
  rw [HC.out]
  exact ⟨rfl, (Below.refl _ _).alloc (Nat.le_refl _) _⟩
 ·by_cases h2 : c < f
  ·have HC : Hid (cmpS f t c = 1) := by unfold Hid cmpS; rw [if_neg h1, if_pos h2]
   go_enter Tryz.func118, Tryz.ntmps118
   go_wp2
   go_ret
   rw [HC.out]
   exact ⟨rfl, (Below.refl _ _).alloc (Nat.le_refl _) _⟩
  ·have HC : Hid (cmpS f t c = 0) := by unfold Hid cmpS; rw [if_neg h1, if_neg h2]
   go_enter Tryz.func118, Tryz.ntmps118
   go_wp2
   go_ret
   rw [HC.out]
   exact ⟨rfl, (Below.refl _ _).alloc (Nat.le_refl _) _⟩
theorem cmpS_at (f t v c z : Int) (w : World) (hz : Hid (cmpS f t c = z)) :
 Calls Tryz.prog 118 #[.agg #[.int .i64 f, .int .i64 t, .int .i64 v], .int .i64 c] w (Gives (.int .i64 z) w) := hz.out ▸ cmpS_any f t v c w
def FndS (l : List Sp) (c : Int) (w : World) (e : Ending) (w' : World) : Prop :=
 ∃ i : Nat, e = .returned (.tuple #[.int .i64 i, .bool (val l c).isSome]) ∧ i ≤ l.length ∧ ((val l c).isSome = true → i < l.length ∧ val l c = some (l.getD i sp0).2.2) ∧ Below w.heap.size w w'
theorem sp_take_lt {l : List Sp} {lo c : Int} (ha : ascB lo l = true) (m : Nat) (hm : m < l.length) (h : (l.getD m sp0).2.1 < c) : ∀ s ∈ l.take (m + 1), s.2.1 < c := by
 intro s hs
 rw [take_snoc_sp l m hm] at hs
 rcases List.mem_append.1 hs with hs | hs
 ·have := (asc_mono ha m hm).1 s hs
  have := asc_mem ha (getD_mem l m hm)
  omega
 ·rw [List.mem_singleton] at hs; subst hs; exact h
theorem sp_drop_ge {l : List Sp} {lo c : Int} (ha : ascB lo l = true) (m : Nat) (hm : m < l.length) (h : c ≤ (l.getD m sp0).2.1) : ∀ s ∈ l.drop m, c ≤ s.2.1 := by
 intro s hs
 rw [drop_cons_sp l m hm] at hs
 rcases List.mem_cons.1 hs with rfl | hs
 ·exact h
 ·have := (asc_mono ha m hm).2 s hs
  have := asc_mem ha (List.mem_of_mem_drop hs)
  omega
theorem val_of_first {l : List Sp} {c : Int} (ha : ascB 0 l = true) (r : Nat) (h1 : ∀ s ∈ l.take r, s.2.1 < c) (h2 : ∀ s ∈ l.drop r, c ≤ s.2.1) :
 (r = l.length → val l c = none) ∧ (r < l.length → c < (l.getD r sp0).1 → val l c = none) ∧ (r < l.length → (l.getD r sp0).1 ≤ c → val l c = some (l.getD r sp0).2.2) := by
 refine ⟨fun h => ?_, fun h hc => ?_, fun h hc => ?_⟩
 ·rw [val_split r h1, h, List.drop_length]; rfl
 ·rw [val_split r h1]
  have := asc_drop r ha
  rw [drop_cons_sp l r h, asc_cons] at this
  rw [drop_cons_sp l r h, val_cons, if_neg (by omega)]
  exact val_none this.2.2.2 (.inl (by omega))
 ·rw [val_split r h1, drop_cons_sp l r h, val_cons, if_pos ⟨hc, h2 _ (by rw [drop_cons_sp l r h]; simp)⟩]
set_option maxRecDepth 100000 in
set_option maxHeartbeats 4000000 in
theorem bsS_any (p : Option Addr) (n cp : Nat) (l : List Sp) (c : Int) (w : World) (hl : l.length = n) (hn : n ≤ 17592186043904) (hin : SpIn w p l) (ha : ascB 0 l = true) :
 Calls Tryz.prog 117 #[.slice p n cp, .int .i64 c, .func (.func 118) #[] #[]] w (FndS l c w) := by
 have HI := Lib.hid hin
 have HL := Lib.hid hl
 have HA := Lib.hid ha
 clear hin hl ha
 go_enter Tryz.func117, Tryz.ntmps117
 go_wp2
 go_loopw [9, 10] (fun x y wr => ∃ a b : Nat, a ≤ b ∧ b ≤ n ∧ x = .int .i64 a ∧ y = .int .i64 b ∧ Hid (∀ s ∈ l.take a, s.2.1 < c) ∧ Hid (∀ s ∈ l.drop b, c ≤ s.2.1) ∧ Hid (Below w.heap.size w wr)) (fun x y _ => (intOf y - intOf x).toNat)
 case atStart =>
  refine ⟨0, n, Nat.zero_le _, Nat.le_refl _, rfl, rfl, by simp [Hid], ?_, Below.refl _ _⟩
  unfold Hid; rw [List.drop_of_length_le (Nat.le_of_eq HL.out)]; simp
 case round =>
  obtain ⟨a, b, hab, hbn, rfl, rfl, h1, h2, hb⟩ := hrel
  by_cases hlt : a < b
  ·obtain ⟨m, hm⟩ : ∃ m : Nat, m = (a + b) / 2 := ⟨_, rfl⟩
   have hma : a ≤ m := by omega
   have hmb : m < b := by omega
   have hmn : m < l.length := by rw [HL.out]; omega
   have hmid : ((a : Int) + (b : Int)) / 2 = (m : Int) := by omega
   obtain ⟨g, off, rfl, hc1, hc2, hc3⟩ := (HI.out.below hb.out) m hmn
   obtain ⟨⟨f, t, v⟩, hs⟩ : ∃ s, l.getD m sp0 = s := ⟨_, rfl⟩
   rw [hs] at hc1 hc2 hc3
   have HS := Lib.hid hs
   clear hs hm
   obtain ⟨z, hz⟩ : ∃ z, Hid (cmpS f t c = z) := ⟨_, rfl⟩
   by_cases htc : t < c
   ·have hzn : z < 0 := by rw [← hz.out, cmpS, if_pos htc]; omega
    have H1 : Hid (∀ s ∈ l.take (m + 1), s.2.1 < c) := sp_take_lt HA.out m hmn (by rw [HS.out]; exact htc)
    have hd : decide (z < 0) = true := decide_eq_true hzn
    go_wp2_with fail
    refine (cmpS_at f t v c z _ hz).mono ?_
    rintro e w2 ⟨rfl, hb2⟩
    have HB2 := Lib.hid (hb.out.trans (hb2.mono hb.out.size))
    clear hb2
    go_wp2
    go_roundw
    case rel => exact ⟨m + 1, b, by omega, hbn, by go_num, rfl, H1, h2, HB2⟩
    case measure => simp [intOf]; omega
   ·have hzn : 0 ≤ z := by rw [← hz.out, cmpS, if_neg htc]; split <;> omega
    have H2 : Hid (∀ s ∈ l.drop m, c ≤ s.2.1) := sp_drop_ge HA.out m hmn (by rw [HS.out]; simp only; omega)
    have hd : decide (z < 0) = false := decide_eq_false (by omega)
    go_wp2_with fail
    refine (cmpS_at f t v c z _ hz).mono ?_
    rintro e w2 ⟨rfl, hb2⟩
    have HB2 := Lib.hid (hb.out.trans (hb2.mono hb.out.size))
    clear hb2
    go_wp2
    go_roundw
    case rel => exact ⟨a, m, by omega, by omega, rfl, rfl, h1, H2, HB2⟩
    case measure => simp [intOf]; omega
  ·obtain rfl : a = b := by omega
   obtain ⟨f1, f2, f3⟩ := val_of_first HA.out a h1.out h2.out
   rw [HL.out] at f1 f2 f3
   by_cases hlt2 : a < n
   ·obtain ⟨g, off, rfl, hc1, hc2, hc3⟩ := (HI.out.below hb.out) a (by rw [HL.out]; exact hlt2)
    have hto : c ≤ (l.getD a sp0).2.1 := h2.out _ (by rw [drop_cons_sp l a (by rw [HL.out]; exact hlt2)]; simp)
    obtain ⟨⟨f, t, v⟩, hs⟩ : ∃ s, l.getD a sp0 = s := ⟨_, rfl⟩
    rw [hs] at hc1 hc2 hc3 f2 f3 hto
    simp only at hc1 hc2 hc3 f2 f3 hto
    have HS := Lib.hid hs
    clear hs f1
    obtain ⟨z, hz⟩ : ∃ z, Hid (cmpS f t c = z) := ⟨_, rfl⟩
    by_cases hcf : c < f
    ·have hz1 : (z == 0) = false := by rw [← hz.out, cmpS, if_neg (by omega), if_pos hcf]; rfl
     have HV := Lib.hid (f2 hlt2 hcf)
     clear f2 f3
     go_wp2_with fail
     refine (cmpS_at f t v c z _ hz).mono ?_
     rintro e w2 ⟨rfl, hb2⟩
     have HB2 := Lib.hid (hb.out.trans (hb2.mono hb.out.size))
     clear hb2
     go_wp2
     go_ret2
     exact ⟨a, by rw [HV.out]; rfl, by rw [HL.out]; omega, by rw [HV.out]; simp, HB2.out⟩
    ·have hz1 : (z == 0) = true := by rw [← hz.out, cmpS, if_neg (by omega), if_neg hcf]; rfl
     have HV := Lib.hid (f3 hlt2 (by omega))
     clear f2 f3
     go_wp2_with fail
     refine (cmpS_at f t v c z _ hz).mono ?_
     rintro e w2 ⟨rfl, hb2⟩
     have HB2 := Lib.hid (hb.out.trans (hb2.mono hb.out.size))
     clear hb2
     go_wp2
     go_ret2
     exact ⟨a, by rw [HV.out]; rfl, by rw [HL.out]; omega, fun _ => ⟨by rw [HL.out]; exact hlt2, by rw [HV.out, HS.out]⟩, HB2.out⟩
   ·have HV := Lib.hid (f1 (by omega))
    clear f1 f2 f3
    go_wp2
    go_ret2
    exact ⟨a, by rw [HV.out]; rfl, by rw [HL.out]; omega, by rw [HV.out]; simp, hb.out⟩
theorem findSpan_any (v0 : Value) (l : List Sp) (c : Int) (w : World) (hv : SpV w v0 l) (ha : ascB 0 l = true) :
 Calls Tryz.prog 86 #[v0, .int .i64 c] w (FndS l c w) := by
 obtain ⟨p, cp, rfl, hin, hn⟩ := hv
 have HI := Lib.hid hin
 have HA := Lib.hid ha
 clear hin ha
 go_enter Tryz.func86, Tryz.ntmps86
 go_wp2_with fail
 refine (bsS_any p l.length cp l c _ rfl hn HI.out HA.out).mono ?_
 rintro e w1 ⟨i, rfl, hi, hf, hb⟩
 have HF := Lib.hid hf
 have HB := Lib.hid hb
 clear hf hb
 go_wp2
 go_ret2
 exact ⟨i, rfl, hi, HF.out, HB.out⟩
theorem valueOr_any (v0 : Value) (l : List Sp) (c d : Int) (w : World) (hv : SpV w v0 l) (ha : ascB 0 l = true) :
 Calls Tryz.prog 60 #[v0, .int .i64 c, .int .i64 d] w (Gives (.int .i64 ((val l c).getD d)) w) := by
 obtain ⟨p, cp, rfl, hin, hn⟩ := hv
 have HI := Lib.hid hin
 have HA := Lib.hid ha
 clear hin ha
 cases hval : val l c with
 | none =>
  have HV := Lib.hid hval
  clear hval
  go_enter Tryz.func60, Tryz.ntmps60
  go_wp2_with fail
  refine (findSpan_any _ l c _ ⟨p, cp, rfl, HI.out, hn⟩ HA.out).mono ?_
  rintro e w1 ⟨i, rfl, hi, hf, hb⟩
  rw [HV.out]
  have HB := Lib.hid hb
  clear hb hf
  simp only [Option.isSome_none]
  go_wp2
  go_ret
  exact ⟨rfl, HB.out⟩
 | some z =>
  have HV := Lib.hid hval
  clear hval
  go_enter Tryz.func60, Tryz.ntmps60
  go_wp2_with fail
  refine (findSpan_any _ l c _ ⟨p, cp, rfl, HI.out, hn⟩ HA.out).mono ?_
  rintro e w1 ⟨i, rfl, hi, hf, hb⟩
  rw [HV.out] at hf ⊢
  obtain ⟨hlt, hz⟩ := hf rfl
  obtain ⟨g, off, rfl, hc1, hc2, hc3⟩ := (HI.out.below hb) i hlt
  injection hz with hz
  rw [← hz] at hc3
  have HB := Lib.hid hb
  clear hb hc1 hc2 hz
  simp only [Option.isSome_some]
  go_wp2
  go_ret
  exact ⟨rfl, HB.out⟩
theorem valueOr_at (v0 : Value) (l : List Sp) (c d z : Int) (w : World) (hv : SpV w v0 l) (ha : ascB 0 l = true) (hz : Hid ((val l c).getD d = z)) :
 Calls Tryz.prog 60 #[v0, .int .i64 c, .int .i64 d] w (Gives (.int .i64 z) w) := hz.out ▸ valueOr_any v0 l c d w hv ha
theorem less_at (a b : Int) (B : Bool) (w : World) (hB : Hid (decide (a < b) = B)) : Calls Tryz.prog 186 #[.int .i64 a, .int .i64 b] w fun e w' => e = .returned (.bool B) ∧ w = w' := by
 have hb := hB.out
 go_enter Tryz.func186, Tryz.ntmps186
 go_wp2_with (go_at_call 188; refine (isNaN_any _ _).mono ?_; rintro e w' ⟨rfl, rfl⟩)
 go_ret
 exact ⟨by rw [← hb]; rfl, rfl⟩
theorem sNaN_any (c : Int) (w : World) : Calls Tryz.prog 187 #[.int .i64 c] w fun e w' => e = .returned (.bool false) ∧ w = w' := by
 have h : (c != c) = false := by simp
 go_enter Tryz.func187, Tryz.ntmps187
 go_wp2
 go_ret
 exact ⟨rfl, rfl⟩
def FndI (l : List Int) (c : Int) (w : World) (e : Ending) (w' : World) : Prop :=
 ∃ i : Nat, e = .returned (.tuple #[.int .i64 i, .bool (l.contains c)]) ∧ w = w'
set_option maxRecDepth 100000 in
set_option maxHeartbeats 4000000 in
theorem bsI_any (p : Option Addr) (n cp : Nat) (l : List Int) (c : Int) (w : World) (hl : l.length = n) (hn : n ≤ 17592186043904) (hin : IntsIn w p l) (ha : ascI 0 1114111 l = true) :
 Calls Tryz.prog 175 #[.slice p n cp, .int .i64 c] w (FndI l c w) := by
 have HI := Lib.hid hin
 have HL := Lib.hid hl
 have HA := Lib.hid ha
 clear hin hl ha
 go_enter Tryz.func175, Tryz.ntmps175
 go_wp2
 go_loop [7, 8] (fun x y => ∃ a b : Nat, a ≤ b ∧ b ≤ n ∧ x = .int .i64 a ∧ y = .int .i64 b ∧ Hid (∀ s ∈ l.take a, s < c) ∧ Hid (∀ s ∈ l.drop b, c ≤ s)) (fun x y => (intOf y - intOf x).toNat)
 case atStart =>
  refine ⟨0, n, Nat.zero_le _, Nat.le_refl _, rfl, rfl, by simp [Hid], ?_⟩
  unfold Hid; rw [List.drop_of_length_le (Nat.le_of_eq HL.out)]; simp
 case round =>
  obtain ⟨a, b, hab, hbn, rfl, rfl, h1, h2⟩ := hrel
  by_cases hlt : a < b
  ·obtain ⟨m, hm⟩ : ∃ m : Nat, m = (a + b) / 2 := ⟨_, rfl⟩
   have hma : a ≤ m := by omega
   have hmb : m < b := by omega
   have hmn : m < l.length := by rw [HL.out]; omega
   have hmid : ((a : Int) + (b : Int)) / 2 = (m : Int) := by omega
   obtain ⟨g, off, rfl, hc1⟩ := HI.out m hmn
   obtain ⟨f, hs⟩ : ∃ f, l.getD m 0 = f := ⟨_, rfl⟩
   rw [hs] at hc1
   have HS := Lib.hid hs
   clear hs hm
   by_cases htc : f < c
   ·have hz : Hid (decide (f < c) = true) := decide_eq_true htc
    have H1 : Hid (∀ s ∈ l.take (m + 1), s < c) := int_take_lt HA.out m hmn (by rw [HS.out]; exact htc)
    go_wp2_with fail
    refine (less_at f c true _ hz).mono ?_
    rintro e w2 ⟨rfl, rfl⟩
    go_wp2
    go_round
    case rel => exact ⟨m + 1, b, by omega, hbn, by go_num, rfl, H1, h2⟩
    case measure => simp [intOf]; omega
   ·have hz : Hid (decide (f < c) = false) := decide_eq_false htc
    have H2 : Hid (∀ s ∈ l.drop m, c ≤ s) := int_drop_ge HA.out m hmn (by rw [HS.out]; omega)
    go_wp2_with fail
    refine (less_at f c false _ hz).mono ?_
    rintro e w2 ⟨rfl, rfl⟩
    go_wp2
    go_round
    case rel => exact ⟨a, m, by omega, by omega, rfl, rfl, h1, H2⟩
    case measure => simp [intOf]; omega
  ·obtain rfl : a = b := by omega
   obtain ⟨f1, f2, f3⟩ := mem_of_first HA.out a h1.out h2.out
   rw [HL.out] at f1 f2 f3
   by_cases hlt2 : a < n
   ·have hal : a < l.length := by rw [HL.out]; exact hlt2
    obtain ⟨g, off, rfl, hc1⟩ := HI.out a hal
    have hto : c ≤ l.getD a 0 := h2.out _ (by rw [drop_cons_int _ a (by rw [HL.out]; exact hlt2)]; simp)
    obtain ⟨f, hs⟩ : ∃ f, l.getD a 0 = f := ⟨_, rfl⟩
    rw [hs] at hc1 f2 f3 hto
    clear hs f1
    by_cases hcf : c < f
    ·have hz1 : (f == c) = false := by simp; omega
     have HV := Lib.hid (f2 hlt2 hcf)
     clear f2 f3
     go_wp2_with (go_at_call 187; refine (sNaN_any _ _).mono ?_; rintro e w' ⟨rfl, rfl⟩)
     go_ret2
     exact ⟨a, by rw [HV.out]; rfl, rfl⟩
    ·have hfc : f = c := by omega
     have hz1 : (f == c) = true := by simp; omega
     have HV := Lib.hid (f3 hlt2 hfc)
     clear f2 f3 hfc
     go_wp2_with (go_at_call 187; refine (sNaN_any _ _).mono ?_; rintro e w' ⟨rfl, rfl⟩)
     go_ret2
     exact ⟨a, by rw [HV.out]; rfl, rfl⟩
   ·have HV := Lib.hid (f1 (by omega))
    clear f1 f2 f3
    go_wp2
    go_ret2
    exact ⟨a, by rw [HV.out]; rfl, rfl⟩
theorem class_at (x : TV) (T : Tb) (c z : Int) (w : World) (hx : TabV w x T) (ha : ascB 0 T.cls = true) (hz : Hid (clsT T c = z)) :
 Calls Tryz.prog 83 #[x.agg, .int .i64 c] w (Gives (.int .i64 z) w) := by
 obtain ⟨a0, a1, a2, a3, a4, a5, a6, a7, a8, a9, a10, a11⟩ := x
 have HX := Lib.hid hx
 have HA := Lib.hid ha
 clear hx ha
 simp only [TV.agg]
 go_enter Tryz.func83, Tryz.ntmps83
 go_wp2_with fail
 refine (valueOr_at a1 T.cls c 0 z _ ((HX.out.alloc _).cls) HA.out hz).mono ?_
 rintro e w1 ⟨rfl, hb⟩
 have HB := Lib.hid (((Below.refl w.heap.size w).alloc (Nat.le_refl _) _).trans (hb.mono (by simp)))
 clear hb
 go_wp2
 go_ret
 exact ⟨rfl, HB.out⟩
theorem hasDecomp_at (x : TV) (T : Tb) (c : Int) (B : Bool) (w : World) (hx : TabV w x T) (ha : ascI 0 1114111 (froms T.dec) = true) (hB : Hid (hasM T.dec c = B)) :
 Calls Tryz.prog 169 #[x.agg, .int .i64 c] w (Gives (.bool B) w) := by
 obtain ⟨a0, a1, a2, a3, a4, a5, a6, a7, a8, a9, a10, a11⟩ := x
 have HX := Lib.hid hx
 have HA := Lib.hid ha
 clear hx ha
 simp only [TV.agg]
 go_enter Tryz.func169, Tryz.ntmps169
 go_wp2_with fail
 refine (findMp_any a9 T.dec c _ ((HX.out.alloc _).dec) HA.out).mono ?_
 rintro e w1 ⟨i, rfl, hi, _, hb⟩
 have HB := Lib.hid (((Below.refl w.heap.size w).alloc (Nat.le_refl _) _).trans (hb.mono (by simp)))
 clear hb
 go_wp2
 go_ret
 exact ⟨by rw [← hB.out]; rfl, HB.out⟩
theorem excluded_at (x : TV) (T : Tb) (c : Int) (B : Bool) (w : World) (hx : TabV w x T) (ha : ascI 0 1114111 T.exc = true) (hB : Hid (excT T c = B)) :
 Calls Tryz.prog 142 #[x.agg, .int .i64 c] w (Gives (.bool B) w) := by
 obtain ⟨a0, a1, a2, a3, a4, a5, a6, a7, a8, a9, a10, a11⟩ := x
 obtain ⟨p, cp, he, hin, hn⟩ := hx.exc
 simp only at he
 subst he
 have HI := Lib.hid (RowIn.alloc hin (.cells #[a0, a1, a2, a3, a4, a5, a6, a7, a8, a9, .slice p T.exc.length cp, a11] 26))
 have HA := Lib.hid ha
 clear hx ha hin
 simp only [TV.agg]
 go_enter Tryz.func142, Tryz.ntmps142
 go_wp2_with fail
 refine (bsI_any p T.exc.length cp T.exc c _ rfl hn HI.out HA.out).mono ?_
 rintro e w1 ⟨i, rfl, rfl⟩
 have HC : Hid (T.exc.contains c = B) := hB
 rw [HC.out]
 go_wp2
 go_ret
 exact ⟨rfl, (Below.refl _ _).alloc (Nat.le_refl _) _⟩
def TestS (g : Nat) (cb : Array Value) (p : Sp → Bool) (w : World) : Prop :=
 ∀ (s : Sp) (W : World), Below w.heap.size w W → Calls Tryz.prog g (#[spV s] ++ cb) W (Gives (.bool (p s)) W)
def TestI (g : Nat) (cb : Array Value) (p : Int → Bool) (w : World) : Prop :=
 ∀ (c : Int) (W : World), Below w.heap.size w W → Calls Tryz.prog g (#[.int .i64 c] ++ cb) W (Gives (.bool (p c)) W)
theorem TestS.below {g : Nat} {cb : Array Value} {p : Sp → Bool} {w w' : World} (h : TestS g cb p w) (hb : Below w.heap.size w w') : TestS g cb p w' :=
 fun s W hW => h s W (hb.trans (hW.mono hb.size))
theorem TestI.below {g : Nat} {cb : Array Value} {p : Int → Bool} {w w' : World} (h : TestI g cb p w) (hb : Below w.heap.size w w') : TestI g cb p w' :=
 fun s W hW => h s W (hb.trans (hW.mono hb.size))
theorem TestS.at_ {g : Nat} {cb : Array Value} {p : Sp → Bool} {w : World} (h : TestS g cb p w) (f t v : Int) (B : Bool) (hB : Hid (p (f, t, v) = B)) (W : World) (hW : Below w.heap.size w W) :
 Calls Tryz.prog g (#[.agg #[.int .i64 f, .int .i64 t, .int .i64 v]] ++ cb) W (Gives (.bool B) W) := by
 rw [← hB.out]; exact h (f, t, v) W hW
theorem TestI.at_ {g : Nat} {cb : Array Value} {p : Int → Bool} {w : World} (h : TestI g cb p w) (c : Int) (B : Bool) (hB : Hid (p c = B)) (W : World) (hW : Below w.heap.size w W) :
 Calls Tryz.prog g (#[.int .i64 c] ++ cb) W (Gives (.bool B) W) := by
 rw [← hB.out]; exact h c W hW
def IdxPost (b : Bool) (w : World) (e : Ending) (w' : World) : Prop :=
 ∃ i : Int, e = .returned (.int .i64 i) ∧ (b = true → 0 ≤ i) ∧ (b = false → i < 0) ∧ Below w.heap.size w w'
set_option maxHeartbeats 2000000 in
theorem idxS_any (p : Option Addr) (n cp : Nat) (l : List Sp) (g : Nat) (cb : Array Value) (q : Sp → Bool) (w : World) (hl : l.length = n) (hn : n ≤ 17592186043904) (hin : SpIn w p l) (hq : TestS g cb q w)
 (eg : ∀ args w, (callFunc g args).run Tryz.prog w = .ok (.enter g args) w) :
 Calls Tryz.prog 178 #[.slice p n cp, .func (.func g) #[] cb] w (IdxPost (l.any q) w) := by
 have HI := Lib.hid hin
 have HL := Lib.hid hl
 have HQ := Lib.hid hq
 clear hin hl hq
 go_enter Tryz.func178, Tryz.ntmps178
 go_wp2
 go_loopw [8] (fun i wr => ∃ k : Nat, k ≤ n ∧ i = .int .i64 k ∧ Hid ((l.take k).any q = false) ∧ Hid (Below w.heap.size w wr)) (fun i _ => n - (intOf i).toNat)
 case atStart => exact ⟨0, Nat.zero_le _, rfl, by simp [Hid], Below.refl _ _⟩
 case round =>
  obtain ⟨k, hk, rfl, hno, hb⟩ := hrel
  by_cases hlt : k < n
  ·have hkl : k < l.length := by rw [HL.out]; exact hlt
   obtain ⟨b, off, rfl, hc1, hc2, hc3⟩ := (HI.out.below hb.out) k hkl
   have hsn := any_take_snoc q l k sp0 hkl
   rw [hno.out, Bool.false_or] at hsn
   obtain ⟨⟨f, t, v⟩, hs⟩ : ∃ s, l.getD k sp0 = s := ⟨_, rfl⟩
   rw [hs] at hc1 hc2 hc3 hsn
   have HSN := Lib.hid hsn
   clear hs hsn
   obtain ⟨B, hB⟩ : ∃ B, Hid (q (f, t, v) = B) := ⟨_, rfl⟩
   cases B with
   | true =>
    have HA : Hid (l.any q = true) := any_of_take q l (k + 1) (by rw [HSN.out, hB.out])
    go_wp2_with (go_at_fn g; refine (HQ.out.at_ f t v true hB _ hb.out).mono ?_; rintro e w2 ⟨rfl, hb2⟩; have HB2 := Lib.hid (hb.out.trans (hb2.mono hb.out.size)); clear hb2)
    go_ret
    exact ⟨k, rfl, fun _ => by omega, by rw [HA.out]; simp, HB2.out⟩
   | false =>
    have HN : Hid ((l.take (k + 1)).any q = false) := by unfold Hid; rw [HSN.out, hB.out]
    go_wp2_with (go_at_fn g; refine (HQ.out.at_ f t v false hB _ hb.out).mono ?_; rintro e w2 ⟨rfl, hb2⟩; have HB2 := Lib.hid (hb.out.trans (hb2.mono hb.out.size)); clear hb2)
    go_roundw
    case rel => exact ⟨k + 1, by omega, by go_num, HN, HB2⟩
    case measure => simp [intOf]; omega
  ·obtain rfl : k = n := by omega
   have HA : Hid (l.any q = false) := by
    have := hno.out
    rwa [List.take_of_length_le (Nat.le_of_eq HL.out)] at this
   go_wp2
   go_ret
   exact ⟨-1, rfl, by rw [HA.out]; simp, fun _ => by omega, hb.out⟩
set_option maxHeartbeats 2000000 in
theorem idxI_any (p : Option Addr) (n cp : Nat) (l : List Int) (g : Nat) (cb : Array Value) (q : Int → Bool) (w : World) (hl : l.length = n) (hn : n ≤ 17592186043904) (hin : IntsIn w p l) (hq : TestI g cb q w)
 (eg : ∀ args w, (callFunc g args).run Tryz.prog w = .ok (.enter g args) w) :
 Calls Tryz.prog 62 #[.slice p n cp, .func (.func g) #[] cb] w (IdxPost (l.any q) w) := by
 have HI := Lib.hid hin
 have HL := Lib.hid hl
 have HQ := Lib.hid hq
 clear hin hl hq
 go_enter Tryz.func62, Tryz.ntmps62
 go_wp2
 go_loopw [8] (fun i wr => ∃ k : Nat, k ≤ n ∧ i = .int .i64 k ∧ Hid ((l.take k).any q = false) ∧ Hid (Below w.heap.size w wr)) (fun i _ => n - (intOf i).toNat)
 case atStart => exact ⟨0, Nat.zero_le _, rfl, by simp [Hid], Below.refl _ _⟩
 case round =>
  obtain ⟨k, hk, rfl, hno, hb⟩ := hrel
  by_cases hlt : k < n
  ·have hkl : k < l.length := by rw [HL.out]; exact hlt
   obtain ⟨b, off, rfl, hc1⟩ := (HI.out.below hb.out) k hkl
   have hsn := any_take_snoc q l k 0 hkl
   rw [hno.out, Bool.false_or] at hsn
   obtain ⟨f, hs⟩ : ∃ s, l.getD k 0 = s := ⟨_, rfl⟩
   rw [hs] at hc1 hsn
   have HSN := Lib.hid hsn
   clear hs hsn
   obtain ⟨B, hB⟩ : ∃ B, Hid (q f = B) := ⟨_, rfl⟩
   cases B with
   | true =>
    have HA : Hid (l.any q = true) := any_of_take q l (k + 1) (by rw [HSN.out, hB.out])
    go_wp2_with (go_at_fn g; refine (HQ.out.at_ f true hB _ hb.out).mono ?_; rintro e w2 ⟨rfl, hb2⟩; have HB2 := Lib.hid (hb.out.trans (hb2.mono hb.out.size)); clear hb2)
    go_ret
    exact ⟨k, rfl, fun _ => by omega, by rw [HA.out]; simp, HB2.out⟩
   | false =>
    have HN : Hid ((l.take (k + 1)).any q = false) := by unfold Hid; rw [HSN.out, hB.out]
    go_wp2_with (go_at_fn g; refine (HQ.out.at_ f false hB _ hb.out).mono ?_; rintro e w2 ⟨rfl, hb2⟩; have HB2 := Lib.hid (hb.out.trans (hb2.mono hb.out.size)); clear hb2)
    go_roundw
    case rel => exact ⟨k + 1, by omega, by go_num, HN, HB2⟩
    case measure => simp [intOf]; omega
  ·obtain rfl : k = n := by omega
   have HA : Hid (l.any q = false) := by
    have := hno.out
    rwa [List.take_of_length_le (Nat.le_of_eq HL.out)] at this
   go_wp2
   go_ret
   exact ⟨-1, rfl, by rw [HA.out]; simp, fun _ => by omega, hb.out⟩
theorem conS_any (v0 : Value) (l : List Sp) (g : Nat) (cb : Array Value) (q : Sp → Bool) (B : Bool) (w : World) (hv : SpV w v0 l) (hq : TestS g cb q w) (eg : ∀ args w, (callFunc g args).run Tryz.prog w = .ok (.enter g args) w) (hB : Hid (l.any q = B)) :
 Calls Tryz.prog 153 #[v0, .func (.func g) #[] cb] w (Gives (.bool B) w) := by
 obtain ⟨p, cp, rfl, hin, hn⟩ := hv
 have HI := Lib.hid hin
 have HQ := Lib.hid hq
 have EG := Lib.hid eg
 clear hin hq eg
 go_enter Tryz.func153, Tryz.ntmps153
 go_wp2_with fail
 refine (idxS_any p l.length cp l g cb q _ rfl hn HI.out HQ.out EG.out).mono ?_
 rw [hB.out]
 rintro e w1 ⟨i, rfl, h1, h2, hb⟩
 have HB := Lib.hid hb
 clear hb
 cases B with
 | true =>
  have hd : decide (0 ≤ i) = true := decide_eq_true (h1 rfl)
  clear h1 h2
  go_wp2
  go_ret
  exact ⟨by rw [← hd]; rfl, HB.out⟩
 | false =>
  have hd : decide (0 ≤ i) = false := decide_eq_false (by have := h2 rfl; omega)
  clear h1 h2
  go_wp2
  go_ret
  exact ⟨by rw [← hd]; rfl, HB.out⟩
theorem conI_any (v0 : Value) (l : List Int) (g : Nat) (cb : Array Value) (q : Int → Bool) (B : Bool) (w : World) (hv : InV w v0 l) (hq : TestI g cb q w) (eg : ∀ args w, (callFunc g args).run Tryz.prog w = .ok (.enter g args) w) (hB : Hid (l.any q = B)) :
 Calls Tryz.prog 37 #[v0, .func (.func g) #[] cb] w (Gives (.bool B) w) := by
 obtain ⟨p, cp, rfl, hin, hn⟩ := hv
 have HI := Lib.hid hin
 have HQ := Lib.hid hq
 have EG := Lib.hid eg
 clear hin hq eg
 go_enter Tryz.func37, Tryz.ntmps37
 go_wp2_with fail
 refine (idxI_any p l.length cp l g cb q _ rfl hn HI.out HQ.out EG.out).mono ?_
 rw [hB.out]
 rintro e w1 ⟨i, rfl, h1, h2, hb⟩
 have HB := Lib.hid hb
 clear hb
 cases B with
 | true =>
  have hd : decide (0 ≤ i) = true := decide_eq_true (h1 rfl)
  clear h1 h2
  go_wp2
  go_ret
  exact ⟨by rw [← hd]; rfl, HB.out⟩
 | false =>
  have hd : decide (0 ≤ i) = false := decide_eq_false (by have := h2 rfl; omega)
  clear h1 h2
  go_wp2
  go_ret
  exact ⟨by rw [← hd]; rfl, HB.out⟩
theorem one_int (w : World) (z : Int) (ty : TypeId) : IntsIn (w.alloc (.cells #[.int .i64 z] ty)) (some ⟨w.heap.size, 0, none⟩) [z] := by
 intro k hk
 obtain rfl : k = 0 := by simp at hk; omega
 refine ⟨_, _, rfl, ?_⟩
 simp [World.cell?_alloc_new]
theorem wpList_append_int {W : World} {ops : Array Oper} {rest : List Oper} {o : Oper} {a : Act} {Q : Exit → Act → World → Prop} (s x : Operand)
 (ho : o.op = .call { callee := .builtin .append, args := #[s, x], argTypes := #[22, 22] })
 (hw : Region.wanted o (yielded ops a.tmps) = true)
 (base : Nat) (v : Value) (xs : List Int) (hs : a.eval s = v) (hown : Ints W base v xs)
 (z : Int) (c g : Nat) (hx : a.eval x = .slice (some ⟨g, 0, none⟩) 1 c) (hg : g = W.heap.size)
 (hlen : xs.length ≤ 1099511627775) (hbase : base ≤ W.heap.size)
 (h : ∀ v' w', Ints w' base v' (xs ++ [z]) → W.grownBy w' v.ownBlock → wpList Tryz.prog ops Q rest (a.put o.dst v') w') : wpList Tryz.prog ops Q (o :: rest) a (W.alloc (.cells #[.int .i64 z] 3)) := by
 subst hg
 refine wpList_append_ints s x ho hw base v xs hs (World.ownsRow.alloc hown _) _ 1 c [z] rfl hx (one_int W z _) (by simp; omega) (by simp; omega) ?_
 intro v' w' h1 h2
 refine h v' w' h1 ?_
 have hA := World.grownBy_alloc W (.cells #[.int .i64 z] 3) v.ownBlock
 exact ⟨h2.os.trans hA.os, h2.tape.trans hA.tape, h2.output.trans hA.output, Nat.le_trans hA.size h2.size, fun i hi hne => (h2.block i (Nat.lt_of_lt_of_le hi hA.size) hne).trans (hA.block i hi hne)⟩
theorem Ints.base {w : World} {B : Nat} {v : Value} {l : List Int} (h : Ints w B v l) : ∀ k, v.ownBlock = some k → B ≤ k := fun k hk => (World.ownsRow.lt h k hk).1
theorem Ints.alloc {w : World} {B : Nat} {v : Value} {l : List Int} (h : Ints w B v l) (o : Obj) : Ints (w.alloc o) B v l := World.ownsRow.alloc h o
theorem Ints.mono {w : World} {B B' : Nat} {v : Value} {l : List Int} (h : Ints w B v l) (hB : B' ≤ B) : Ints w B' v l := ownsRow_mono h hB
theorem below_appI {B : Nat} {a W w1 : World} {v : Value} {l : List Int} (h : Below B a W) (ho : Ints W B v l) (hB : B ≤ a.heap.size) (hg : W.grownBy w1 v.ownBlock) : Below B a w1 :=
 h.grown hg (Nat.le_trans hB h.size) ho.base
theorem endI_take (lo : Int) (l : List Int) (j : Nat) (h : j < l.length) : endI lo (l.take (j + 1)) = l.getD j 0 + 1 := by
 rw [take_snoc_int l j h, endI_snoc]
set_option maxRecDepth 100000 in
set_option maxHeartbeats 2000000 in
theorem asc_any (p : Option Addr) (n cp : Nat) (l : List Int) (lo hi : Int) (w : World) (hl : l.length = n) (hn : n ≤ 17592186043904) (hin : IntsIn w p l) :
 Calls Tryz.prog 163 #[.slice p n cp, .int .i64 lo, .int .i64 hi] w fun e w' => e = .returned (.bool (ascI lo hi l)) ∧ w = w' := by
 have HI := Lib.hid hin
 have HL := Lib.hid hl
 clear hin hl
 go_enter Tryz.func163, Tryz.ntmps163
 go_wp2
 go_loop [11] (fun i => ∃ k : Nat, k ≤ n ∧ i = .int .i64 k ∧ Hid (ascI lo hi (l.take k) = true)) (fun i => n - (intOf i).toNat)
 case atStart => exact ⟨0, Nat.zero_le _, rfl, rfl⟩
 case round =>
  obtain ⟨k, hk, rfl, ha⟩ := hrel
  by_cases hlt : k < n
  ·have hkl : k < l.length := by rw [HL.out]; exact hlt
   obtain ⟨b, off, rfl, hc⟩ := HI.out k hkl
   obtain ⟨v, hv⟩ : ∃ v, l.getD k 0 = v := ⟨_, rfl⟩
   rw [hv] at hc
   have hsn : ascI lo hi (l.take (k + 1)) = true ↔ endI lo (l.take k) ≤ v ∧ v ≤ hi := by
    rw [take_snoc_int l k hkl, ascI_snoc, hv]
    exact ⟨fun h => h.2, fun h => ⟨ha.out, h⟩⟩
   have hno : ¬ (endI lo (l.take k) ≤ v ∧ v ≤ hi) → ascI lo hi l = false := fun h => ascI_prefix (k + 1) (by rw [← Bool.not_eq_true, hsn]; exact h)
   have hge := endI_ge ha.out
   have HSN := Lib.hid hsn
   have HNO := Lib.hid hno
   have HGE := Lib.hid hge
   clear hv hsn hno hge
   by_cases h1 : v < lo
   ·have HF : Hid (ascI lo hi l = false) := HNO.out (by have := HGE.out; omega)
    go_wp2
    go_ret
    rw [HF.out]
    exact ⟨rfl, rfl⟩
   ·have d1 : decide (v < lo) = false := decide_eq_false h1
    by_cases h2 : hi < v
    ·have HF : Hid (ascI lo hi l = false) := HNO.out (by omega)
     clear h1
     go_wp2
     go_ret
     rw [HF.out]
     exact ⟨rfl, rfl⟩
    ·have d2 : decide (hi < v) = false := decide_eq_false h2
     cases k with
     | zero =>
      have HT : Hid (ascI lo hi (l.take (0 + 1)) = true) := HSN.out.2 ⟨by simp [endI]; omega, by omega⟩
      clear h1 h2
      simp only [Nat.add_zero] at hc
      go_wp2
      go_round
      case rel => exact ⟨0 + 1, by omega, by go_num, HT⟩
      case measure => simp [intOf]; omega
     | succ j =>
      have hj : j < l.length := by omega
      obtain ⟨b', off', e', hq⟩ := HI.out j hj
      injection e' with e'
      injection e' with e1 e2
      subst e1; subst e2
      have HE := Lib.hid (endI_take lo l j hj)
      obtain ⟨pv, hp⟩ : ∃ s, l.getD j 0 = s := ⟨_, rfl⟩
      rw [hp] at hq HE
      have hk0 : (0 : Int) < (j : Int) + 1 := by omega
      have hj0 : (0 : Int) ≤ (j : Int) := by omega
      have hj1 : (j : Int) < (n : Int) := by omega
      have hx1 : IntKind.i64.wrap ((j : Int) + 1 - 1) = j := by rw [IntWalk.i64_in _ (by omega)]; omega
      have hx2 : IntKind.i64.wrap (j : Int) = j := IntWalk.i64_in _ (by omega)
      clear hp
      by_cases h3 : v ≤ pv
      ·have HF : Hid (ascI lo hi l = false) := HNO.out (by rw [HE.out]; omega)
       clear h1 h2
       go_wp2
       go_ret
       rw [HF.out]
       exact ⟨rfl, rfl⟩
      ·have d3 : decide (v ≤ pv) = false := decide_eq_false h3
       have HT : Hid (ascI lo hi (l.take (j + 1 + 1)) = true) := HSN.out.2 ⟨by rw [HE.out]; omega, by omega⟩
       clear h1 h2 h3
       go_wp2
       go_round
       case rel => exact ⟨j + 1 + 1, by omega, by go_num, HT⟩
       case measure => simp [intOf]; omega
  ·obtain rfl : k = n := by omega
   have HF : Hid (ascI lo hi l = true) := by
    have := ha.out
    rwa [List.take_of_length_le (Nat.le_of_eq HL.out)] at this
   go_wp2
   go_ret
   rw [HF.out]
   exact ⟨rfl, rfl⟩
theorem asc_at (v0 : Value) (l : List Int) (lo hi : Int) (B : Bool) (w : World) (hv : InV w v0 l) (hB : Hid (ascI lo hi l = B)) :
 Calls Tryz.prog 163 #[v0, .int .i64 lo, .int .i64 hi] w fun e w' => e = .returned (.bool B) ∧ w = w' := by
 obtain ⟨p, cp, rfl, hin, hn⟩ := hv
 rw [← hB.out]
 exact asc_any p l.length cp l lo hi w rfl hn hin
theorem not_any {l : List Int} {q : Int → Bool} {B : Bool} (h : l.any q = B) : (l.all fun c => !q c) = !B := by
 rw [← h, Bool.eq_iff_iff]; simp
theorem areKeys_any (v0 : Value) (l : List Int) (g : Nat) (q : Int → Bool) (w : World) (hv : InV w v0 l) (hq : TestI g #[] q w) (eg : ∀ args w, (callFunc g args).run Tryz.prog w = .ok (.enter g args) w) :
 Calls Tryz.prog 156 #[v0, .func (.func g) #[] #[]] w (Gives (.bool (ascI 0 1114111 l && l.all fun c => !q c)) w) := by
 have HV := Lib.hid hv
 have HQ := Lib.hid hq
 have EG := Lib.hid eg
 clear hv hq eg
 cases ha : ascI 0 1114111 l with
 | false =>
  have HA := Lib.hid ha
  clear ha
  go_enter Tryz.func156, Tryz.ntmps156
  go_wp2_with fail
  refine (asc_at v0 l 0 1114111 false _ HV.out HA).mono ?_
  rintro e w1 ⟨rfl, rfl⟩
  go_wp2
  go_ret
  exact ⟨rfl, Below.refl _ _⟩
 | true =>
  have HA := Lib.hid ha
  clear ha
  obtain ⟨B, hB⟩ : ∃ B, Hid (l.any q = B) := ⟨_, rfl⟩
  have HN := Lib.hid (not_any hB.out)
  rw [Bool.true_and]
  go_enter Tryz.func156, Tryz.ntmps156
  go_wp2_with fail
  refine (asc_at v0 l 0 1114111 true _ HV.out HA).mono ?_
  rintro e w1 ⟨rfl, rfl⟩
  go_wp2_with fail
  refine (conI_any v0 l g #[] q B _ HV.out HQ.out EG.out hB).mono ?_
  rintro e w1 ⟨rfl, hb⟩
  have HB := Lib.hid hb
  clear hb
  go_wp2
  go_ret
  exact ⟨by rw [HN.out]; rfl, HB.out⟩
theorem areKeys_at (v0 : Value) (l : List Int) (g : Nat) (q : Int → Bool) (B : Bool) (w : World) (hv : InV w v0 l) (hq : TestI g #[] q w) (eg : ∀ args w, (callFunc g args).run Tryz.prog w = .ok (.enter g args) w) (hB : Hid ((ascI 0 1114111 l && l.all fun c => !q c) = B)) :
 Calls Tryz.prog 156 #[v0, .func (.func g) #[] #[]] w (Gives (.bool B) w) := hB.out ▸ areKeys_any v0 l g q w hv hq eg
def NewI (l : List Int) (w : World) (e : Ending) (w' : World) : Prop := ∃ v, e = .returned v ∧ Ints w' w.heap.size v l ∧ Below w.heap.size w w'
theorem Ints.inV {w : World} {B : Nat} {v : Value} {l : List Int} (h : Ints w B v l) (hl : l.length ≤ 17592186043904) : InV w v l := by
 obtain ⟨p, c, rfl, hi⟩ := h.inn
 exact ⟨p, c, rfl, hi, hl⟩
def madeI (c : Nat) : Obj := .cells (madeCells (Value.cells (.int .i64 0)) (c * 1)) 3
theorem run_make_ints0 (c : Nat) (hc : c ≤ 4194304) (w : World) :
 (Instr.makeSlice 22 (.int .i64 0) (.int .i64 (c : Int))).run Tryz.prog w = .ok (.slice (some ⟨w.heap.size, 0, none⟩) 0 c) (w.alloc (madeI c)) := by
 obtain ⟨i0, hi, hz0, hz1, hz2⟩ := info_parts Tryz.info3
 have h := run_make_rowN (P := Tryz.prog) 22 3 i0 _ Tryz.underlying22 hi hz0 .i64 .i64 0 c (Nat.zero_le _) (by rw [hz2]; omega) (by omega) w
 rw [hz1] at h
 exact h
theorem Ints.made (w : World) (B c : Nat) (hB : B ≤ w.heap.size) (hc : c ≤ 4194304) : Ints (w.alloc (madeI c)) B (.slice (some ⟨w.heap.size, 0, none⟩) 0 c) [] := by
 unfold Ints madeI
 exact World.ownsRow_made w _ c hB (by unfold maxLen; omega) (size_madeCells _ _)
set_option maxHeartbeats 2000000 in
theorem froms_any (v0 : Value) (l : List Mp) (w : World) (hv : MpV w v0 l) (hs : l.length ≤ 256) :
 Calls Tryz.prog 157 #[v0] w (NewI (froms l) w) := by
 obtain ⟨p, cp, rfl, hin, hn⟩ := hv
 obtain ⟨n, hl⟩ : ∃ n, l.length = n := ⟨_, rfl⟩
 rw [hl] at hs hn ⊢
 have hmk := run_make_ints0 n (by omega)
 have HI := Lib.hid hin
 have HL := Lib.hid hl
 clear hin hl
 go_enter Tryz.func157, Tryz.ntmps157
 go_wp2
 go_loopw [3, 11] (fun v i wr => ∃ k : Nat, k ≤ n ∧ i = .int .i64 k ∧ Hid (Ints wr w.heap.size v (froms (l.take k))) ∧ Hid (Below w.heap.size w wr)) (fun _ i _ => n - (intOf i).toNat)
 case atStart => exact ⟨0, Nat.zero_le _, rfl, Ints.made w _ n (Nat.le_refl _) (by omega), (Below.refl _ _).alloc (Nat.le_refl _) _⟩
 case round =>
  obtain ⟨k, hk, rfl, ho, hb⟩ := hrel
  by_cases hlt : k < n
  ·have hkl : k < l.length := by rw [HL.out]; exact hlt
   obtain ⟨b, off, v, rfl, hc1, hc2, q, cq, rfl, _, _⟩ := (HI.out.below hb.out) k hkl
   obtain ⟨m, hm⟩ : ∃ m, (l.getD k mp0).2.length = m := ⟨_, rfl⟩
   rw [hm] at hc2
   clear hm
   have hsn : froms (l.take (k + 1)) = froms (l.take k) ++ [(l.getD k mp0).1] := by rw [take_snoc_mp l k hkl]; simp [froms]
   obtain ⟨f, hf⟩ : ∃ f, (l.getD k mp0).1 = f := ⟨_, rfl⟩
   rw [hf] at hc1 hsn
   have HSN := Lib.hid hsn
   have HLK : Hid ((froms (l.take k)).length ≤ 256) := by unfold Hid; rw [froms_length]; exact Nat.le_trans (List.length_take_le _ _) (by omega)
   clear hsn hf
   have hob := Ints.alloc ho.out (.cells #[.int .i64 f, .slice q m cq] 47)
   have hbb := hb.out.alloc hb.out.size (.cells #[.int .i64 f, .slice q m cq] 47)
   have hbz : w.heap.size ≤ (wr.alloc (.cells #[.int .i64 f, .slice q m cq] 47)).heap.size := hbb.size
   have HOB := Lib.hid hob
   have HBB := Lib.hid hbb
   clear hob hbb
   go_wp2_with (at_builtin; (refine wpList_append_int (.tmp 15) (.tmp 18) rfl rfl w.heap.size u3 (froms (l.take k)) rfl HOB.out f 1 _ rfl (by simp) (by have := HLK.out; omega) hbz ?_); intro v1 w1 ho1 hg1)
   have HO1 := Lib.hid ho1
   have HB1 := Lib.hid (below_appI HBB.out HOB.out (Nat.le_refl _) hg1)
   clear ho1 hg1
   go_wp2
   go_roundw
   case rel => exact ⟨k + 1, by omega, by go_num, by rw [HSN.out]; exact HO1, HB1⟩
   case measure => simp [intOf]; omega
  ·obtain rfl : k = n := by omega
   have HJ : Hid (l.take k = l) := by unfold Hid; rw [List.take_of_length_le (Nat.le_of_eq HL.out)]
   go_wp2
   go_ret
   exact ⟨_, rfl, by rw [HJ.out] at ho; exact ho.out, hb.out⟩
end Go.Proofs.YtopaojjodkoidaaGreatDoor
