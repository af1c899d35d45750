/- decompose: plain mathematics: what a code point and a list a -/
import Derived.Test.YtopaojjodkoidaaGreatDoorSSmPkE
import Derived.Test.YtopaojjodkoidaaGreatDoorSSmPkY
import Derived.Test.YtopaojjodkoidaaGreatDoorSSmPkR
import Derived.Test.YtopaojjodkoidaaGreatDoorSSmPkZZS
import Derived.Test.YtopaojjodkoidaaGreatDoorSSmPkT
set_option linter.unusedSimpArgs false
set_option linter.unusedVariables false
namespace Go.Proofs.YtopaojjodkoidaaGreatDoor
def expT (T : Tb) (c : Int) : List Int := if decS c = [] then ful T.dec c else decS c
def flatT (T : Tb) (l : List Int) : List Int := l.flatMap (expT T)
def Fin1 (T : Tb) (x : Int) : Prop := scaB x = true ∧ findM T.dec x = [] ∧ decS x = []
theorem check_rules {T : Tb} (h : checkT T = 0) : r1 T = true ∧ r2 T = true ∧ r3 T = true ∧ r4 T = true ∧ r6 T = true := by
 unfold checkT at h
 split at h
 ·omega
 split at h
 ·omega
 split at h
 ·omega
 split at h
 ·omega
 split at h
 ·omega
 split at h
 ·omega
 rename_i h1 h2 h3 h4 h5 h6
 exact ⟨by simpa using h1, by simpa using h2, by simpa using h3, by simpa using h4, by simpa using h6⟩
theorem decS_nil {c : Int} : decS c = [] ↔ ¬ (44032 ≤ c ∧ c ≤ 55203) := by
 unfold decS
 constructor
 ·intro h hc
  rw [if_pos hc] at h
  split at h <;> cases h
 ·intro hc; rw [if_neg hc]
theorem decS_mem {c x : Int} (h : x ∈ decS c) : (4352 ≤ x ∧ x ≤ 4370) ∨ (4449 ≤ x ∧ x ≤ 4469) ∨ (4520 ≤ x ∧ x ≤ 4546) := by
 unfold decS at h
 split at h
 ·rename_i hc
  split at h
  ·simp only [List.mem_cons, List.not_mem_nil, or_false] at h
   rcases h with rfl | rfl <;> omega
  ·simp only [List.mem_cons, List.not_mem_nil, or_false] at h
   rcases h with rfl | rfl | rfl <;> omega
 ·cases h
theorem decS_length (c : Int) : (decS c).length ≤ 3 := by
 unfold decS
 split
 ·split <;> simp
 ·simp
theorem dec_res {T : Tb} (h : checkT T = 0) {x : Int} (hx : resB x = true) : findM T.dec x = [] := by
 obtain ⟨_, h2, _⟩ := check_rules h
 apply Classical.byContradiction
 intro hne
 have hm := has_of_find hne
 unfold r2 keyOk at h2
 simp only [Bool.and_eq_true, List.all_eq_true] at h2
 have := h2.2.2.2.1.2 x hm
 rw [hx] at this
 cases this
theorem findM_mem {l : List Mp} {c : Int} (h : findM l c ≠ []) : (c, findM l c) ∈ l := by
 cases hb : hasM l c with
 | false => exact absurd (findM_nil hb) h
 | true => exact findM_has hb
theorem dec_short {T : Tb} (h : checkT T = 0) : ∀ m ∈ T.dec, m.2.length ≤ 18 := by
 intro m hm
 have h4 := (check_rules h).2.2.2.1
 unfold r4 at h4
 simp only [Bool.and_eq_true, List.all_eq_true] at h4
 have := h4.2.2.1 m hm
 unfold seqS at this
 simp only [Bool.and_eq_true, decide_eq_true_eq] at this
 exact this.1.2
theorem dec_length {T : Tb} (h : checkT T = 0) (c : Int) : (findM T.dec c).length ≤ 18 := by
 by_cases hf : findM T.dec c = []
 ·rw [hf]; simp
 ·exact dec_short h _ (findM_mem hf)
theorem dec_part {T : Tb} (h : checkT T = 0) {c x : Int} (hx : x ∈ findM T.dec c) : scaB x = true ∧ decS x = [] := by
 obtain ⟨_, _, _, h4, h6⟩ := check_rules h
 have hm := findM_mem (ne_nil_of_mem' hx)
 have a := r4_sca h4 _ hm
 rw [List.all_eq_true] at a
 refine ⟨a x hx, ?_⟩
 unfold r6 at h6
 simp only [Bool.and_eq_true, List.all_eq_true] at h6
 have b := h6.1 _ hm
 unfold short2 at b
 simp only [Bool.and_eq_true, List.all_eq_true] at b
 have b2 := b.2 x hx
 rw [decS_nil]
 intro hc
 have : sylB x = true := sylB_iff.2 hc
 unfold forb at b2
 rw [this] at b2
 simp at b2
theorem fin_jamo {T : Tb} (h : checkT T = 0) {c x : Int} (hx : x ∈ decS c) : Fin1 T x := by
 have hj := decS_mem hx
 refine ⟨?_, dec_res h (resB_iff.2 (by omega)), decS_nil.2 (by omega)⟩
 unfold scaB
 simp
 omega
theorem ful_fin {T : Tb} (h : checkT T = 0) (k : Nat) (c : Int) (hd : Dp T.dec k c) (hs : scaB c = true) (hn : decS c = []) : ∀ x ∈ fulF T.dec k c, Fin1 T x := by
 induction k generalizing c with
 | zero =>
  intro x hx
  have : x = c := by simpa [fulF] using hx
  subst this
  exact ⟨hs, hd, hn⟩
 | succ k ih =>
  intro x hx
  by_cases hf : findM T.dec c = []
  ·rw [fulF_nil _ hf] at hx
   have : x = c := by simpa using hx
   subst this
   exact ⟨hs, hf, hn⟩
  ·rw [fulF, if_neg hf, List.mem_flatMap] at hx
   obtain ⟨y, hy, hx⟩ := hx
   have hp := dec_part h hy
   exact ih y (hd y hy) hp.1 hp.2 x hx
theorem ful_len {l : List Mp} (k : Nat) (c : Int) (h : sz l k c ≤ 18) (hd : Dp l k c) : (fulF l k c).length = sz l k c := by
 induction k generalizing c with
 | zero => rw [sz_zero _ hd]; rfl
 | succ k ih =>
  by_cases hf : findM l c = []
  ·rw [fulF_nil _ hf, sz_zero _ hf]; rfl
  ·rw [sz_succ _ hf] at h ⊢
   rw [fulF, if_neg hf, List.length_flatMap]
   have e : (findM l c).map (fun x => (fulF l k x).length) = (findM l c).map (sz l k) := by
    refine List.map_congr_left fun x hx => ih x ?_ (hd x hx)
    have := sum_mem (sz l k) _ x hx
    omega
   rw [e]; omega
theorem dec_few {T : Tb} (h : checkT T = 0) : T.dec.length ≤ 256 := by
 obtain ⟨h1, _⟩ := check_rules h
 unfold r1 mpsT fewM at h1
 simp only [List.all_cons, List.all_nil, Bool.and_eq_true, decide_eq_true_eq, and_true] at h1
 exact h1.2.1.2.2.1
theorem dec_dp {T : Tb} (h : checkT T = 0) (c : Int) : Dp T.dec 256 c := siz_dp (dec_few h) (r6_fin (check_rules h).2.2.2.2 c)
theorem exp_fin {T : Tb} (h : checkT T = 0) {c : Int} (hc : scaB c = true) : ∀ x ∈ expT T c, Fin1 T x := by
 intro x hx
 unfold expT at hx
 split at hx
 ·rename_i hn
  exact ful_fin h 256 c (dec_dp h c) hc hn x hx
 ·exact fin_jamo h hx
theorem exp_len {T : Tb} (h : checkT T = 0) (c : Int) : 1 ≤ (expT T c).length ∧ (expT T c).length ≤ 18 := by
 unfold expT
 split
 ·have h2 := r6_fin (check_rules h).2.2.2.2 c
  have h3 := siz_bd T.dec c
  have h4 : (ful T.dec c).length = siz T.dec c := ful_len 256 c h2 (dec_dp h c)
  omega
 ·rename_i hn
  have := decS_length c
  have := List.length_pos_iff.2 hn
  omega
theorem Fin1.exp {T : Tb} {x : Int} (h : Fin1 T x) : expT T x = [x] := by
 unfold expT
 rw [if_pos h.2.2, ful_nil h.2.1]
theorem exp_rec {T : Tb} (h : checkT T = 0) {c : Int} (hn : decS c = []) (hf : findM T.dec c ≠ []) : expT T c = flatT T (findM T.dec c) := by
 unfold flatT
 rw [show expT T c = ful T.dec c by unfold expT; rw [if_pos hn], ful_eq (dec_dp h c) hf, List.flatMap_def, List.flatMap_def]
 congr 1
 refine List.map_congr_left fun x hx => ?_
 unfold expT
 rw [if_pos (dec_part h hx).2]
theorem exp_one {T : Tb} {c : Int} (hn : decS c = []) (hf : findM T.dec c = []) : expT T c = [c] := by
 unfold expT
 rw [if_pos hn, ful_nil hf]
theorem all_append (T : Tb) (a b : List Int) : flatT T (a ++ b) = flatT T a ++ flatT T b := by simp [flatT]
theorem all_cons (T : Tb) (c : Int) (b : List Int) : flatT T (c :: b) = expT T c ++ flatT T b := by simp [flatT]
theorem all_take (T : Tb) (l : List Int) (k : Nat) (hk : k < l.length) : flatT T (l.take (k + 1)) = flatT T (l.take k) ++ expT T (l.getD k 0) := by
 rw [take_snoc_int l k hk, all_append]; simp [flatT]
theorem all_fin {T : Tb} (h : checkT T = 0) {l : List Int} (hl : l.all scaB = true) : ∀ x ∈ flatT T l, Fin1 T x := by
 intro x hx
 rw [flatT, List.mem_flatMap] at hx
 obtain ⟨c, hc, hx⟩ := hx
 rw [List.all_eq_true] at hl
 exact exp_fin h (hl c hc) x hx
theorem all_id {T : Tb} {l : List Int} (hl : ∀ x ∈ l, Fin1 T x) : flatT T l = l := by
 induction l with
 | nil => rfl
 | cons x r ih =>
  rw [all_cons, (hl x (by simp)).exp, ih fun y hy => hl y (by simp [hy])]; rfl
theorem fin_sca {T : Tb} {l : List Int} (hl : ∀ x ∈ l, Fin1 T x) : l.all scaB = true := by
 rw [List.all_eq_true]; exact fun x hx => (hl x hx).1
theorem all_len {T : Tb} (h : checkT T = 0) (l : List Int) : l.length ≤ (flatT T l).length ∧ (flatT T l).length ≤ 18 * l.length := by
 induction l with
 | nil => simp [flatT]
 | cons x r ih =>
  have := exp_len h x
  rw [all_cons, List.length_append, List.length_cons]
  omega
theorem all_pre (T : Tb) (l : List Int) (k : Nat) : (flatT T (l.take k)).length ≤ (flatT T l).length := by
 conv => rhs; rw [← List.take_append_drop k l]
 rw [all_append, List.length_append]; omega
theorem ordS_left (k : Int → Int) (a b : List Int) : ordS k (ordS k a ++ b) = ordS k (a ++ b) := by
 have e : ordR k [] (ordS k a) = ordR k [] a := by
  rw [ordR_id k (ordS k a) [] (by simpa using ordS_inOrd k a), List.append_nil]
  unfold ordS
  rw [List.reverse_reverse]
 unfold ordS at e ⊢
 rw [ordR_append, ordR_append, e]
theorem ordS_right (k : Int → Int) (a b : List Int) : ordS k (a ++ ordS k b) = ordS k (a ++ b) := by
 obtain ⟨n, hn⟩ : ∃ n, invs k b ≤ n := ⟨_, Nat.le_refl _⟩
 induction n generalizing b with
 | zero =>
  rw [(ordS_id_iff k b).2]
  rw [inOrd_iff]
  intro i hi hc
  have := (swp_ord k b i hi hc.1 hc.2).2
  omega
 | succ n ih =>
  by_cases hin : inOrd k b
  ·rw [ordS_id k b hin]
  ·rw [inOrd_iff] at hin
   obtain ⟨i, hi⟩ := Classical.not_forall.1 hin
   obtain ⟨hi, hc⟩ := Classical.not_imp.1 hi
   have hc := Classical.not_not.1 hc
   obtain ⟨e1, e2⟩ := swp_ord k b i hi hc.1 hc.2
   obtain ⟨p, q, _, f1, f2⟩ := swp_form b i hi
   have e3 : ordS k (a ++ swp b i) = ordS k (a ++ b) := by
    have := ordS_swap k (a ++ p) q hc.1 hc.2
    rw [f2]
    conv => rhs; rw [f1]
    simpa using this.symm
   rw [← e1, ih (swp b i) (by omega), e3]
theorem ordS_parts (k : Int → Int) (a b : List Int) : ordS k (ordS k a ++ ordS k b) = ordS k (a ++ b) := by rw [ordS_left, ordS_right]
theorem ord_fin {T : Tb} {l : List Int} (hl : ∀ x ∈ l, Fin1 T x) : ∀ x ∈ ordS (clsT T) l, Fin1 T x := fun x hx => hl x ((ordS_perm _ l).mem_iff.1 hx)
def nfdE (T : Tb) (l : List Int) : Int := if accE T l ≠ 0 then accE T l else if 4096 < (flatT T l).length then 7 else 0
def nfdL (T : Tb) (l : List Int) : List Int := if nfdE T l = 0 then ordS (clsT T) (flatT T l) else []
theorem nfdE_acc {T : Tb} {l : List Int} (h : accE T l ≠ 0) : nfdE T l = accE T l := if_pos h
theorem nfdE_full {T : Tb} {l : List Int} (h : accE T l = 0) (hb : 4096 < (flatT T l).length) : nfdE T l = 7 := by
 unfold nfdE; rw [if_neg (by omega), if_pos hb]
theorem nfdE_ok {T : Tb} {l : List Int} (h : accE T l = 0) (hb : (flatT T l).length ≤ 4096) : nfdE T l = 0 := by
 unfold nfdE; rw [if_neg (by omega), if_neg (by omega)]
theorem nfdE_zero {T : Tb} {l : List Int} (h : nfdE T l = 0) : accE T l = 0 ∧ (flatT T l).length ≤ 4096 := by
 unfold nfdE at h
 split at h
 ·omega
 ·split at h
  ·omega
  ·omega
theorem nfdL_ok {T : Tb} {l : List Int} (h : nfdE T l = 0) : nfdL T l = ordS (clsT T) (flatT T l) := if_pos h
theorem nfdL_err {T : Tb} {l : List Int} (h : nfdE T l ≠ 0) : nfdL T l = [] := if_neg h
theorem nfdL_len (T : Tb) (l : List Int) : (nfdL T l).length ≤ 4096 := by
 unfold nfdL
 split
 ·rename_i h
  rw [ordS_length]; exact (nfdE_zero h).2
 ·simp
theorem nfd_check {T : Tb} {l : List Int} (h : nfdE T l = 0) : checkT T = 0 := (accE_ok (nfdE_zero h).1).1
theorem nfd_sca {T : Tb} {l : List Int} (h : nfdE T l = 0) : l.all scaB = true := (accE_ok (nfdE_zero h).1).2.2
theorem nfd_acc {T : Tb} {l : List Int} (h : accE T l = 0) (hb : (flatT T l).length ≤ 4096) : accE T (flatT T l) = 0 ∧ ordL T (flatT T l) = nfdL T l := by
 obtain ⟨h1, _, h3⟩ := accE_ok h
 have e := accE_zero h1 hb (fin_sca (all_fin h1 h3))
 refine ⟨e, ?_⟩
 unfold ordL
 rw [if_pos e, nfdL_ok (nfdE_ok h hb)]
theorem nfd_fin {T : Tb} {l : List Int} (h : nfdE T l = 0) : ∀ x ∈ nfdL T l, Fin1 T x := by
 rw [nfdL_ok h]
 exact ord_fin (all_fin (nfd_check h) (nfd_sca h))
open Go.RowKit
theorem wp_append_ints_at {w : World} {o : Oper} {a : Act} {K : Act → World → Prop} {Q : Exit → Act → World → Prop} (s x : Operand)
 (ho : o.op = .call { callee := .builtin .append, args := #[s, x], argTypes := #[22, 22] })
 (base : Nat) (v : Value) (xs : List Int) (hs : a.eval s = v) (hown : Ints w base v xs)
 (p : Option Addr) (m c : Nat) (ys : List Int) (hm : ys.length = m) (hx : a.eval x = .slice p m c) (hin : IntsIn w p ys)
 (hlen : xs.length + ys.length ≤ 17592186043904) (hbase : base ≤ w.heap.size)
 (h : ∀ v' w', Ints w' base v' (xs ++ ys) → w.grownBy w' v.ownBlock → (v'.ownBlock = v.ownBlock ∨ v'.ownBlock = some w.heap.size) → K (a.put o.dst v') w') : o.wp Tryz.prog a w K Q := by
 subst hm
 obtain ⟨i0, hi, hz0, hz1, hz2⟩ := info_parts Tryz.info3
 cases p with
 | none =>
  have hy : ys = [] := by
   cases ys with
   | nil => rfl
   | cons y r => obtain ⟨_, _, e, _⟩ := hin 0 (by simp); cases e
  subst hy
  have hr := run_append_nil (P := Tryz.prog) base 22 o.type 3 i0 1 Tryz.underlying22 hi v xs.length _ c hown
  unfold Oper.wp execOp
  simp only [ho, resolve, invoke, builtin, Sem.run_bind, Sem.run_pure, Result.andThen_ok, List.map_toArray, List.map_cons, List.map_nil, hs, hx, List.length_nil, hr]
  exact h v w (by simpa using hown) (grownBy_refl _ _) (.inl rfl)
 | some ad =>
  have hcells : ∀ j u, (ys.map (Value.int .i64))[j]? = some u → w.cell? (ad.add j) = some u := by
   intro j u hu
   rw [List.getElem?_map] at hu
   cases hj : ys[j]? with
   | none => rw [hj] at hu; cases hu
   | some y =>
    rw [hj] at hu
    simp only [Option.map_some, Option.some.injEq] at hu
    obtain ⟨hjl, hje⟩ := List.getElem?_eq_some_iff.1 hj
    obtain ⟨b, off, e, hc⟩ := hin j hjl
    simp only [Option.some.injEq] at e
    subst e
    rw [Addr.add_lit, hc, ← hu]
    simp [List.getD, hj]
  have hone : ∀ u ∈ ys.map (Value.int .i64), u.oneCell' = true := by
   intro u hu
   obtain ⟨y, _, rfl⟩ := List.mem_map.1 hu
   rfl
  obtain ⟨v', w', hrun, h2, h3, _, h5⟩ := run_append_own_at (P := Tryz.prog) w base 22 o.type 3 i0 _ 1 8 Tryz.underlying22 hi hz0 hz1 hz2 rfl (by decide) v xs.length _ hown
   ad ys.length c (ys.map (Value.int .i64)) (by simp) hcells hone (by unfold maxLen; omega) (by omega) hbase
  unfold Oper.wp execOp
  simp only [ho, resolve, invoke, builtin, Sem.run_bind, Sem.run_pure, Result.andThen_ok, List.map_toArray, List.map_cons, List.map_nil, hs, hx, hrun]
  exact h v' w' (by unfold Ints; simpa using h2) h3 h5
theorem wpList_append_ints_at {w : World} {ops : Array Oper} {rest : List Oper} {o : Oper} {a : Act} {Q : Exit → Act → World → Prop} (s x : Operand)
 (ho : o.op = .call { callee := .builtin .append, args := #[s, x], argTypes := #[22, 22] })
 (hw : Region.wanted o (yielded ops a.tmps) = true)
 (base : Nat) (v : Value) (xs : List Int) (hs : a.eval s = v) (hown : Ints w base v xs)
 (p : Option Addr) (m c : Nat) (ys : List Int) (hm : ys.length = m) (hx : a.eval x = .slice p m c) (hin : IntsIn w p ys)
 (hlen : xs.length + ys.length ≤ 17592186043904) (hbase : base ≤ w.heap.size)
 (h : ∀ v' w', Ints w' base v' (xs ++ ys) → w.grownBy w' v.ownBlock → (v'.ownBlock = v.ownBlock ∨ v'.ownBlock = some w.heap.size) → wpList Tryz.prog ops Q rest (a.put o.dst v') w') : wpList Tryz.prog ops Q (o :: rest) a w := by
 unfold wpList
 rw [if_pos hw]
 exact .inl (wp_append_ints_at s x ho base v xs hs hown p m c ys hm hx hin hlen hbase h)
def AppPost (B : Nat) (v : Value) (ys : List Int) (w : World) (e : Ending) (w' : World) : Prop :=
 ∃ v', e = .returned v' ∧ Ints w' B v' ys ∧ w.grownBy w' v.ownBlock ∧ ∀ b, b < w.heap.size → v.ownBlock ≠ some b → v'.ownBlock ≠ some b
structure Chn (B : Nat) (w1 : World) (v u : Value) (ys : List Int) (wr : World) : Prop where
 row : Ints wr B u ys
 grown : w1.grownBy wr v.ownBlock
 off : ∀ b, b < w1.heap.size → v.ownBlock ≠ some b → u.ownBlock ≠ some b
theorem Chn.start {B : Nat} {w1 : World} {v : Value} {xs : List Int} (h : Ints w1 B v xs) : Chn B w1 v v xs w1 := ⟨h, grownBy_refl _ _, fun _ _ h => h⟩
theorem Chn.step {B : Nat} {w1 wr w' : World} {v u : Value} {ys : List Int} (h : Chn B w1 v u ys wr) (hb : Below wr.heap.size wr w') : Chn B w1 v u ys w' :=
 ⟨h.row.below hb, grownBy_of_below h.grown hb, h.off⟩
theorem Chn.write {B : Nat} {w1 wr w' : World} {v u u' : Value} {ys zs : List Int} (h : Chn B w1 v u ys wr) (hr : Ints w' B u' zs) (hg : wr.grownBy w' u.ownBlock) (ho : ∀ b, b < wr.heap.size → u.ownBlock ≠ some b → u'.ownBlock ≠ some b) : Chn B w1 v u' zs w' := by
 refine ⟨hr, ⟨hg.os.trans h.grown.os, hg.tape.trans h.grown.tape, hg.output.trans h.grown.output, Nat.le_trans h.grown.size hg.size, fun i hi hne => ?_⟩, fun b hb hne => ho b (Nat.lt_of_lt_of_le hb h.grown.size) (h.off b hb hne)⟩
 exact (hg.block i (Nat.lt_of_lt_of_le hi h.grown.size) (fun e => h.off i hi (fun e2 => hne e2.symm) e.symm)).trans (h.grown.block i hi hne)
theorem off_new {v u : Value} {w : World} (h : u.ownBlock = v.ownBlock ∨ u.ownBlock = some w.heap.size) : ∀ b, b < w.heap.size → v.ownBlock ≠ some b → u.ownBlock ≠ some b := by
 intro b hb hne
 rcases h with e | e
 ·rw [e]; exact hne
 ·rw [e]; simp; omega
theorem BoxT.off {w w' : World} {g : Nat} {x : TV} {row : Option Nat} (h : BoxT w g x) (hg : w.grownBy w' row) (hr : row ≠ some g) : BoxT w' g x := by
 obtain ⟨⟨h0, h1, h2, h3, h4, h5⟩, ⟨h6, h7, h8, h9, h10, h11⟩⟩ := h
 have key : ∀ i v, w.cell? ⟨g, i, none⟩ = some v → w'.cell? ⟨g, i, none⟩ = some v := fun i v hc => hg.cell hc (fun e => hr e.symm)
 exact ⟨⟨key _ _ h0, key _ _ h1, key _ _ h2, key _ _ h3, key _ _ h4, key _ _ h5⟩, ⟨key _ _ h6, key _ _ h7, key _ _ h8, key _ _ h9, key _ _ h10, key _ _ h11⟩⟩
theorem Chn.box {B g : Nat} {w1 wr : World} {v u : Value} {ys : List Int} {x : TV} (h : Chn B w1 v u ys wr) (hx : BoxT w1 g x) (hne : v.ownBlock ≠ some g) : BoxT wr g x := hx.off h.grown hne
theorem Chn.bel {w0 w1 wr : World} {v u : Value} {xs ys : List Int} (h : Chn w0.heap.size w1 v u ys wr) (hv : Ints w1 w0.heap.size v xs) (hb : Below w0.heap.size w0 w1) : Below w0.heap.size w0 wr := hb.grown h.grown hb.size hv.base
theorem Chn.kept {B C : Nat} {w1 wr : World} {v u q : Value} {ys fl : List Int} (h : Chn B w1 v u ys wr) (hq : Ints w1 C q fl) (hne : ∀ b, q.ownBlock = some b → v.ownBlock ≠ some b) : Ints wr C q fl := by
 refine World.ownsRow.kept hq h.grown ?_
 cases hb : q.ownBlock with
 | none => exact .inl rfl
 | some b => exact .inr fun e => hne b hb e.symm
theorem Chn.post {B : Nat} {w w1 wr : World} {v u : Value} {ys : List Int} (h : Chn B w1 v u ys wr) (hb : Below w.heap.size w w1) : w.grownBy wr v.ownBlock ∧ ∀ b, b < w.heap.size → v.ownBlock ≠ some b → u.ownBlock ≠ some b :=
 ⟨grownBy_trans (below_grownBy hb _) h.grown, fun b hlt => h.off b (Nat.lt_of_lt_of_le hlt hb.size)⟩
set_option maxRecDepth 100000 in
set_option maxHeartbeats 1000000 in
theorem clone_own (v : Value) (xs : List Int) (w : World) (hv : InV w v xs) :
 Calls Tryz.prog 185 #[v] w (NRet xs w) := by
 obtain ⟨p, c, rfl, hin, hl⟩ := hv
 have HI := Lib.hid hin
 cases p with
 | none =>
  have hx : xs = [] := by
   cases xs with
   | nil => rfl
   | cons y r => obtain ⟨_, _, e, _⟩ := hin 0 (by simp); cases e
  subst hx
  clear hin
  have hcmp : ∀ W, (binOp .eql 22 (.slice none 0 c) (.slice none 0 0)).run Tryz.prog W = .ok (.bool true) W := fun W => Lib.run_eql_slice_nil (P := Tryz.prog) W 22 3 none 0 c 0 0 Tryz.underlying22
  go_enter Tryz.func185, Tryz.ntmps185
  go_wp2
  go_ret
  exact ⟨_, rfl, Ints.nil _ _, Below.refl _ _⟩
 | some a =>
  have HE := Lib.hid (World.ownsRow_lit (base := w.heap.size) (e := 3) (size := 1) w #[] 0 (Nat.le_refl _) (by unfold maxLen; omega) rfl)
  have HB0 := Lib.hid ((Below.refl w.heap.size w).alloc (Nat.le_refl _) (.cells #[] 3))
  have HIa := Lib.hid (HI.out.below HB0.out)
  clear hin
  have hcmp : ∀ W, (binOp .eql 22 (.slice (some a) xs.length c) (.slice none 0 0)).run Tryz.prog W = .ok (.bool false) W := fun W => Lib.run_eql_slice_nil (P := Tryz.prog) W 22 3 (some a) xs.length c 0 0 Tryz.underlying22
  go_enter Tryz.func185, Tryz.ntmps185
  go_wp2_with (at_builtin; refine wpList_append_ints _ _ rfl rfl w.heap.size (.slice (some ⟨w.heap.size, 0, none⟩) 0 0) [] (by rfl) (by exact HE.out) (some a) xs.length c xs rfl (by rfl) (by exact HIa.out) (by simp; omega) (by simp) ?_; intro v1 w1 ho1 hg1)
  have hb1 := HB0.out.grown hg1 (by simp) (fun k e => by have e2 : some w.heap.size = some k := e; injection e2 with e2; omega)
  have ho2 : Ints w1 w.heap.size v1 xs := ho1
  obtain ⟨p1, c1, hv1, hin1⟩ := ho2.inn
  have HO := Lib.hid ho2
  have HB1 := Lib.hid hb1
  obtain ⟨n, hn⟩ : ∃ n, xs.length = n := ⟨_, rfl⟩
  rw [hn] at hv1
  subst hv1
  clear ho1 ho2 hg1 hin1 hb1 hn hl
  go_wp2
  go_ret
  exact ⟨_, rfl, HO.out, HB1.out⟩
theorem NRet.step {L : List Int} {w w1 w2 : World} {e : Ending} (hb : Below w.heap.size w w1) (h : NRet L w1 e w2) : NRet L w e w2 := by
 obtain ⟨v, e1, ho, hb2⟩ := h
 exact ⟨v, e1, ho.mono hb.size, hb.trans (hb2.mono hb.size)⟩
set_option maxHeartbeats 1000000 in
theorem seqOf_own (v : Value) (l : List Mp) (c : Int) (w : World) (hv : MpV w v l) (ha : ascI 0 1114111 (froms l) = true) :
 Calls Tryz.prog 174 #[v, .int .i64 c] w (NRet (findM l c) w) := by
 obtain ⟨p, cp, rfl, hin, hn⟩ := hv
 have HI := Lib.hid hin
 have HA := Lib.hid ha
 clear hin ha
 cases hh : hasM l c with
 | false =>
  have HF : Hid (findM l c = []) := findM_nil hh
  have HH := Lib.hid hh
  clear hh
  go_enter Tryz.func174, Tryz.ntmps174
  go_wp2_with fail
  refine (findMp_any _ l c _ ⟨p, cp, rfl, HI.out, hn⟩ HA.out).mono ?_
  rintro e w1 ⟨i, rfl, hi, hf, hb⟩
  rw [HH.out]
  have HB := Lib.hid hb
  clear hb hf
  go_wp2
  go_ret
  rw [HF.out]
  exact ⟨_, rfl, Ints.nil _ _, HB.out⟩
 | true =>
  have HH := Lib.hid hh
  clear hh
  go_enter Tryz.func174, Tryz.ntmps174
  go_wp2_with fail
  refine (findMp_any _ l c _ ⟨p, cp, rfl, HI.out, hn⟩ HA.out).mono ?_
  rintro e w1 ⟨i, rfl, hi, hf, hb⟩
  obtain ⟨hlt, hfr, hto⟩ := hf HH.out
  rw [HH.out]
  obtain ⟨g, off, u, rfl, hc1, hc2, hu⟩ := (HI.out.below hb) i hlt
  have HU := Lib.hid hu
  have HB := Lib.hid hb
  have HT := Lib.hid hto
  clear hb hc1 hfr hu hto
  go_wp2_with fail
  refine (clone_own u _ _ HU.out).mono ?_
  rintro e w2 ⟨v2, rfl, ho2, hb2⟩
  have HR : Hid (Ints w2 w.heap.size v2 (findM l c)) := by unfold Hid; rw [HT.out]; exact ho2.mono HB.out.size
  have HB2 := Lib.hid (HB.out.trans (hb2.mono HB.out.size))
  clear ho2 hb2 hc2
  go_wp2
  go_ret
  exact ⟨_, rfl, HR.out, HB2.out⟩
set_option maxHeartbeats 2000000 in
theorem tdecomp_own (x : TV) (T : Tb) (c : Int) (xs : List Int) (w : World) (hx : TabV w x T) (ha : ascI 0 1114111 (froms T.dec) = true) (hxs : Hid (findM T.dec c = xs)) :
 Calls Tryz.prog 139 #[x.agg, .int .i64 c] w (NRet xs w) := by
 have HE := Lib.hid (Env.new hx)
 have k := HE.out.at9
 have HA := Lib.hid ha
 clear ha
 have hcall := fun W h => seqOf_own x.a9 T.dec c W h HA.out
 rw [hxs.out] at hcall
 have HC := Lib.hid hcall
 clear hcall
 clear hx
 simp only [TV.agg]
 go_enter Tryz.func139, Tryz.ntmps139
 go_wp2_with fail
 refine (HC.out _ HE.out.tab.dec).mono ?_
 rintro e w1 ⟨v1, rfl, ho1, hb⟩
 have HB := Lib.hid (HE.out.step hb)
 have HO := Lib.hid (ho1.mono HE.out.bel.size)
 clear hb k ho1
 go_wp2
 go_ret
 exact ⟨_, rfl, HO.out, HB.out.bel⟩
theorem Ints.cells_in {w : World} {B n c : Nat} {p : Option Addr} {xs : List Int} (h : Ints w B (.slice p n c) xs) : IntsIn w p xs := by
 obtain ⟨p', c', e, hi⟩ := h.inn
 injection e with e1 _ _
 subst e1
 exact hi
def AppOk (T : Tb) (c : Int) : Prop := ∀ (w0 : World) (x : TV) (v : Value) (xs : List Int) (w : World), TabV w0 x T → Below w0.heap.size w0 w → Ints w w0.heap.size v xs → xs.length + (expT T c).length ≤ 1000000 →
 Calls Tryz.prog 113 #[v, x.agg, .int .i64 c] w (AppPost w0.heap.size v (xs ++ expT T c) w)
set_option maxRecDepth 100000 in
set_option maxHeartbeats 4000000 in
theorem appOk_step (T : Tb) (c : Int) (hc : checkT T = 0) (hrec : ∀ y ∈ findM T.dec c, AppOk T y) : AppOk T c := by
 intro w0 x v xs w hx hbw hv hlen
 obtain ⟨J, hJ⟩ : ∃ J, Hid (decS c = J) := ⟨_, rfl⟩
 obtain ⟨F, hF⟩ : ∃ F, Hid (findM T.dec c = F) := ⟨_, rfl⟩
 obtain ⟨X, hX⟩ : ∃ X, Hid (expT T c = X) := ⟨_, rfl⟩
 obtain ⟨n, hn⟩ : ∃ n, J.length = n := ⟨_, rfl⟩
 obtain ⟨m, hm⟩ : ∃ m, F.length = m := ⟨_, rfl⟩
 have hm18 : m ≤ 18 := by rw [← hm, ← hF.out]; exact dec_length hc c
 rw [hX.out] at hlen ⊢
 have HX1 : Hid (J ≠ [] → X = J) := fun h => by rw [← hX.out]; unfold expT; rw [hJ.out, if_neg h]
 have HX2 : Hid (J = [] → F = [] → X = [c]) := fun h1 h2 => by rw [← hX.out]; exact exp_one (by rw [hJ.out]; exact h1) (by rw [hF.out]; exact h2)
 have HX3 : Hid (J = [] → F ≠ [] → X = flatT T F) := fun h1 h2 => by rw [← hX.out, exp_rec hc (by rw [hJ.out]; exact h1) (by rw [hF.out]; exact h2), hF.out]
 have HREC : Hid (∀ y ∈ F, AppOk T y) := by rw [← hF.out]; exact hrec
 have HA : Hid (ascI 0 1114111 (froms T.dec) = true) := (r2_key (check_rules hc).2.1).2.2.1
 have HE := Lib.hid (Env.new (hx.below hbw))
 have HX := Lib.hid hx
 have HBW := Lib.hid hbw
 have HV := Lib.hid hv
 have HLEN := Lib.hid hlen
 have HN := Lib.hid hn
 have HM := Lib.hid hm
 have HSZ : Hid (w0.heap.size ≤ w.heap.size) := hbw.size
 have HNB : Hid (∀ b, w.heap.size ≤ b → v.ownBlock ≠ some b) := fun b hb e => by have := (World.ownsRow.lt hv b e).2; omega
 clear hx hbw hv hlen hn hm hrec hc hX
 simp only [TV.agg]
 go_enter Tryz.func113, Tryz.ntmps113
 go_wp2_with fail
 refine (hdec_at c J _ hJ).mono ?_
 rintro e w1 ⟨pj, cj, rfl, hij, hb1⟩
 rw [HN.out]
 replace HE := Lib.hid (HE.out.step hb1)
 have HV1 := Lib.hid (HV.out.below HE.out.bel)
 have HS1 : Hid (w.heap.size ≤ w1.heap.size) := HE.out.bel.size
 have HIJ := Lib.hid hij
 clear hij hb1
 by_cases h0 : 0 < n
 ·have d0 : decide ((0 : Int) < (n : Int)) = true := decide_eq_true (by omega)
  have HXJ : Hid (X = J) := HX1.out (fun e => by have := HN.out; rw [e] at this; simp at this; omega)
  have HLJ : Hid (xs.length + J.length ≤ 17592186043904) := by have := HLEN.out; rw [HXJ.out] at this; unfold Hid; omega
  go_wp2_with (at_builtin; (refine wpList_append_ints_at (.tmp 16) (.tmp 17) rfl rfl w0.heap.size v xs rfl HV1.out pj n cj J HN.out rfl HIJ.out HLJ.out (Nat.le_trans HSZ.out HS1.out) ?_); intro v1 w2 ho1 hg1 hof1)
  have HO1 : Hid (Ints w2 w0.heap.size v1 (xs ++ X)) := by unfold Hid; rw [HXJ.out]; exact ho1
  have HG1 := Lib.hid (grownBy_trans (below_grownBy HE.out.bel v.ownBlock) hg1)
  have HF1 : Hid (∀ b, b < w.heap.size → v.ownBlock ≠ some b → v1.ownBlock ≠ some b) := fun b hb => off_new hof1 b (Nat.lt_of_lt_of_le hb HS1.out)
  clear ho1 hg1 hof1
  go_wp2
  go_ret
  exact ⟨_, rfl, HO1.out, HG1.out, HF1.out⟩
 ·obtain rfl : n = 0 := by omega
  have HJ0 : Hid (J = []) := List.eq_nil_of_length_eq_zero HN.out
  clear h0
  obtain ⟨⟨k0, k1, k2, k3, k4, k5⟩, ⟨k6, k7, k8, k9, k10, k11⟩⟩ := HE.out.box.load
  go_wp2_with fail
  refine (tdecomp_own x T c F _ HE.out.tab HA.out hF).mono ?_
  rintro e w2 ⟨vF, rfl, hoF, hb2⟩
  obtain ⟨pF, cF, hvF, hiF⟩ := hoF.inn
  rw [HM.out] at hvF
  subst hvF
  replace HE := Lib.hid (HE.out.step hb2)
  have HV2 := Lib.hid (HV1.out.below hb2)
  have HS2 : Hid (w.heap.size ≤ w2.heap.size) := HE.out.bel.size
  have HOF := Lib.hid hoF
  clear hoF hb2 hiF k0 k1 k2 k3 k4 k5 k6 k7 k8 k9 k10 k11
  by_cases hm0 : m = 0
  ·subst hm0
   have HF0 : Hid (F = []) := List.eq_nil_of_length_eq_zero HM.out
   have HXC : Hid (X = [c]) := HX2.out HJ0.out HF0.out
   have HLC : Hid (xs.length + ([c] : List Int).length ≤ 17592186043904) := by have := HLEN.out; rw [HXC.out] at this; unfold Hid; omega
   have HV3 : Hid (Ints (w2.alloc (.cells #[.int .i64 c] 3)) w0.heap.size v xs) := HV2.out.alloc _
   have HI3 : Hid (IntsIn (w2.alloc (.cells #[.int .i64 c] 3)) (some ⟨w2.heap.size, 0, none⟩) [c]) := one_int w2 c 3
   have HBS : Hid (Below w.heap.size w (w2.alloc (.cells #[.int .i64 c] 3))) := HE.out.bel.alloc HE.out.bel.size _
   have HZ3 : Hid (w0.heap.size ≤ (w2.alloc (.cells #[.int .i64 c] 3)).heap.size) := Nat.le_trans HSZ.out HBS.out.size
   go_wp2_with (at_builtin; (refine wpList_append_ints_at (.tmp 25) (.tmp 27) rfl rfl w0.heap.size v xs rfl HV3.out (some ⟨w2.heap.size, 0, none⟩) 1 1 [c] rfl rfl HI3.out HLC.out HZ3.out ?_); intro v1 w3 ho1 hg1 hof1)
   have HO1 : Hid (Ints w3 w0.heap.size v1 (xs ++ X)) := by unfold Hid; rw [HXC.out]; exact ho1
   have HG1 := Lib.hid (grownBy_trans (below_grownBy HBS.out v.ownBlock) hg1)
   have HF1 : Hid (∀ b, b < w.heap.size → v.ownBlock ≠ some b → v1.ownBlock ≠ some b) := fun b hb => off_new hof1 b (Nat.lt_of_lt_of_le hb HBS.out.size)
   clear ho1 hg1 hof1
   go_wp2
   go_ret
   exact ⟨_, rfl, HO1.out, HG1.out, HF1.out⟩
  ·have dm : ((m : Int) == 0) = false := by simp; omega
   have HXF : Hid (X = flatT T F) := HX3.out HJ0.out (fun e => by have := HM.out; rw [e] at this; simp at this; omega)
   have HQ : Hid (∀ b, (Value.slice pF m cF).ownBlock = some b → v.ownBlock ≠ some b) := fun b hb => HNB.out b (Nat.le_trans HS1.out (World.ownsRow.lt HOF.out b hb).1)
   clear hm0
   go_wp2
   go_loopw [0, 10, 31] (fun u _ i wr => ∃ k : Nat, k ≤ m ∧ i = .int .i64 k ∧ Hid (Chn w0.heap.size w2 v u (xs ++ flatT T (F.take k)) wr)) (fun _ _ i _ => m - (intOf i).toNat)
   case atStart => exact ⟨0, Nat.zero_le _, rfl, by simpa [Hid, flatT] using Chn.start HV2.out⟩
   case round =>
    obtain ⟨k, hk, rfl, hch⟩ := hrel
    by_cases hlt : k < m
    ·have hkl : k < F.length := by rw [HM.out]; exact hlt
     obtain ⟨b, off, rfl, hck⟩ := (hch.out.kept HOF.out HQ.out).cells_in k hkl
     obtain ⟨y, hy⟩ : ∃ y, F.getD k 0 = y := ⟨_, rfl⟩
     have hmem : y ∈ F := by rw [← hy]; simp [hkl]
     have hpre := all_pre T F (k + 1)
     have htk := all_take T F k hkl
     rw [hy] at hck htk
     rw [htk] at hpre
     have hcall := HREC.out y hmem w0 x u0 (xs ++ flatT T (F.take k)) wr HX.out (hch.out.bel HV2.out (HBW.out.trans (HE.out.bel.mono HSZ.out))) hch.out.row (by have := HLEN.out; rw [HXF.out] at this; simp only [List.length_append] at hpre ⊢; omega)
     rw [List.append_assoc, ← htk] at hcall
     have HCALL := Lib.hid hcall
     have hbx := hch.out.box HE.out.box (HNB.out _ (Nat.le_refl _))
     obtain ⟨⟨k0, k1, k2, k3, k4, k5⟩, ⟨k6, k7, k8, k9, k10, k11⟩⟩ := hbx.load
     clear hbx hcall hpre htk hy hmem
     go_wp2_with fail
     refine HCALL.out.mono ?_
     rintro e w3 ⟨v3, rfl, ho3, hg3, hof3⟩
     have HCH := Lib.hid (hch.out.write ho3 hg3 hof3)
     clear ho3 hg3 hof3 k0 k1 k2 k3 k4 k5 k6 k7 k8 k9 k10 k11 hck HCALL
     go_wp2
     go_roundw
     case rel => exact ⟨k + 1, by omega, by go_num, HCH⟩
     case measure => simp [intOf]; omega
    ·obtain rfl : k = m := by omega
     have hfin := hch.out
     rw [List.take_of_length_le (Nat.le_of_eq HM.out), ← HXF.out] at hfin
     have HP := Lib.hid (hfin.post HE.out.bel)
     have HO1 := Lib.hid hfin.row
     clear hfin
     go_wp2
     go_ret
     exact ⟨_, rfl, HO1.out, HP.out.1, HP.out.2⟩
theorem appOk_dp {T : Tb} (hc : checkT T = 0) (k : Nat) : ∀ c, Dp T.dec k c → AppOk T c := by
 induction k with
 | zero =>
  intro c hd
  refine appOk_step T c hc ?_
  intro y hy
  have hd0 : findM T.dec c = [] := hd
  rw [hd0] at hy
  cases hy
 | succ k ih =>
  intro c hd
  exact appOk_step T c hc fun y hy => ih y (hd y hy)
theorem appendFull_any {T : Tb} (hc : checkT T = 0) (c : Int) : AppOk T c := appOk_dp hc 256 c (dec_dp hc c)
set_option maxHeartbeats 1000000 in
theorem equal_at (v u : Value) (xs ys : List Int) (B : Bool) (w : World) (hv : InV w v xs) (hu : InV w u ys) (hB : Hid ((xs == ys) = B)) :
 Calls Tryz.prog 59 #[v, u] w (Gives (.bool B) w) := by
 obtain ⟨p, c, rfl, hx, hxl⟩ := hv
 obtain ⟨q, d, rfl, hy, hyl⟩ := hu
 by_cases hl : xs.length = ys.length
 ·have hne : ((xs.length : Int) != (ys.length : Int)) = false := by simp [hl]
  have HX := Lib.hid hx
  have HY := Lib.hid hy
  have HL := Lib.hid hl
  clear hl hx hy
  go_enter Tryz.func59, Tryz.ntmps59
  go_wp2
  go_loopw [5, 13] (fun _ i wr => ∃ k : Nat, k ≤ xs.length ∧ i = .int .i64 k ∧ Hid (xs.take k = ys.take k) ∧ Below w.heap.size w wr) (fun _ i _ => xs.length - (intOf i).toNat)
  case atStart => exact ⟨0, Nat.zero_le _, rfl, rfl, Below.refl _ _⟩
  case round =>
   obtain ⟨k, hk, rfl, ht, hbel⟩ := hrel
   by_cases hlt : k < xs.length
   ·obtain ⟨b1, o1, rfl, hc1⟩ := (HX.out.below hbel) k hlt
    obtain ⟨b2, o2, rfl, hc2⟩ := (HY.out.below hbel) k (by rw [← HL.out]; exact hlt)
    have hlt2 : k < ys.length := by rw [← HL.out]; exact hlt
    obtain ⟨x, hxx⟩ : ∃ x, xs.getD k 0 = x := ⟨_, rfl⟩
    obtain ⟨y, hyy⟩ : ∃ y, ys.getD k 0 = y := ⟨_, rfl⟩
    rw [hxx] at hc1
    rw [hyy] at hc2
    by_cases hxy : x = y
    ·have hb : (x != y) = false := by simp [hxy]
     have HS : Hid (xs.take (k + 1) = ys.take (k + 1)) := beq_take_snoc xs ys k hlt hlt2 ht.out (by rw [hxx, hyy, hxy])
     clear hxx hyy hxy
     go_wp2
     go_quiet (fail)
     go_wp2
     go_roundw
     case rel => exact ⟨k + 1, by omega, by go_num, HS, below_drewN hbel _⟩
     case measure => simp [intOf]; omega
    ·have hb : (x != y) = true := by simp [hxy]
     have HS : Hid (B = false) := by unfold Hid; rw [← hB.out]; exact ne_of_getD xs ys k (by rw [hxx, hyy]; exact hxy)
     clear hxx hyy hxy
     go_wp2
     go_quiet (fail)
     go_wp2
     go_ret
     rw [HS.out]
     exact ⟨rfl, below_drewN hbel _⟩
   ·obtain rfl : k = xs.length := by omega
    have HS : Hid (B = true) := by
     have := ht.out
     rw [List.take_length, HL.out, List.take_length] at this
     unfold Hid; rw [← hB.out]; simp [this]
    go_wp2
    go_ret
    rw [HS.out]
    exact ⟨rfl, hbel⟩
 ·have hne : ((xs.length : Int) != (ys.length : Int)) = true := by simp; omega
  have HS : Hid (B = false) := by
   unfold Hid; rw [← hB.out]
   simp only [beq_eq_false_iff_ne, ne_eq]
   rintro rfl
   exact hl rfl
  clear hl hx hy
  go_enter Tryz.func59, Tryz.ntmps59
  go_wp2
  go_ret
  rw [HS.out]
  exact ⟨rfl, Below.refl _ _⟩
set_option maxRecDepth 100000 in
set_option maxHeartbeats 4000000 in
theorem nfd_at (x : TV) (T : Tb) (p : Option Addr) (cap : Nat) (zs : List Int) (E : Int) (L : List Int) (w : World) (hx : TabV w x T) (hr : Rsv w) (hin : IntsIn w p zs) (hl : zs.length ≤ 17592186043904)
 (hE : Hid (nfdE T zs = E)) (hL : Hid (nfdL T zs = L)) :
 Calls Tryz.prog 81 #[x.agg, .slice p zs.length cap] w (LRet L E w) := by
 obtain ⟨A, hA⟩ : ∃ A, Hid (accE T zs = A) := ⟨_, rfl⟩
 obtain ⟨R, hR⟩ : ∃ R, Hid (runsL T zs = R) := ⟨_, rfl⟩
 have HE := Lib.hid (Env.new hx)
 have HX := Lib.hid hx
 have HI := Lib.hid hin
 have HR := Lib.hid hr
 obtain ⟨n, hn⟩ : ∃ n, zs.length = n := ⟨_, rfl⟩
 have hrun := fun W (h1 : TabV W x T) h2 h3 => runs_at x T p cap zs A R W h1 h2 h3 hl hA hR
 rw [hn] at hl hrun ⊢
 have HN := Lib.hid hn
 have HRUN := Lib.hid hrun
 clear hx hr hin hn hrun
 simp only [TV.agg]
 go_enter Tryz.func81, Tryz.ntmps81
 obtain ⟨⟨k0, k1, k2, k3, k4, k5⟩, ⟨k6, k7, k8, k9, k10, k11⟩⟩ := HE.out.box.load
 go_wp2_with fail
 refine (HRUN.out _ HE.out.tab (HR.out.below HE.out.bel) (HI.out.below HE.out.bel)).mono ?_
 rintro e w1 ⟨v1, rfl, ho1, hb1⟩
 have hwb : ∃ wb : World, Env w x T wb ∧ wb.heap.size = w.heap.size + 1 ∧ Below wb.heap.size wb w1 := ⟨_, HE.out, by simp, hb1⟩
 clear HE ho1 hb1 k0 k1 k2 k3 k4 k5 k6 k7 k8 k9 k10 k11
 obtain ⟨wb, he0, hsz, hb1⟩ := hwb
 have HE0 := Lib.hid he0
 have HSZ := Lib.hid hsz
 have HB1 := Lib.hid hb1
 clear he0 hsz hb1
 by_cases h0 : A = 0
 ·subst h0
  have hn4 : n ≤ 4096 := by rw [← HN.out]; exact (accE_ok hA.out).2.1
  have HV : Hid (checkT T = 0) := (accE_ok hA.out).1
  have hmk := run_make_ints0 n (by omega)
  go_wp2
  go_loopw [8, 10, 25] (fun u _ i wr => ∃ k : Nat, k ≤ n ∧ i = .int .i64 k ∧ Hid ((flatT T (zs.take k)).length ≤ 4096) ∧ Hid (Ints wr wb.heap.size u (flatT T (zs.take k))) ∧ Hid (Below wb.heap.size wb wr)) (fun _ _ i _ => n - (intOf i).toNat)
  case atStart => exact ⟨0, Nat.zero_le _, rfl, by simp [Hid, flatT], by simpa [Hid, flatT] using Ints.made w1 wb.heap.size n HB1.out.size (by omega), HB1.out.alloc HB1.out.size _⟩
  case round =>
   obtain ⟨k, hk, rfl, hlen, hown, hbel⟩ := hrel
   have he := Lib.hid (HE0.out.step hbel.out)
   by_cases hlt : k < n
   ·have hkl : k < zs.length := by rw [HN.out]; exact hlt
    obtain ⟨b, off, rfl, hck⟩ := (HI.out.below he.out.bel) k hkl
    obtain ⟨c, hc⟩ : ∃ c, zs.getD k 0 = c := ⟨_, rfl⟩
    have htk := all_take T zs k hkl
    have hpre := all_pre T zs (k + 1)
    rw [hc] at hck htk
    have hcall := appendFull_any HV.out c wb x u8 (flatT T (zs.take k)) wr HE0.out.tab hbel.out hown.out (by have := (exp_len HV.out c).2; have := hlen.out; omega)
    rw [← htk] at hcall
    have HCALL := Lib.hid hcall
    have HPRE := Lib.hid hpre
    clear hc hcall htk hpre
    obtain ⟨⟨k0, k1, k2, k3, k4, k5⟩, ⟨k6, k7, k8, k9, k10, k11⟩⟩ := he.out.box.load
    go_wp2_with fail
    refine HCALL.out.mono ?_
    rintro e w3 ⟨v3, rfl, ho3, hg3, hof3⟩
    have HB3 := Lib.hid (hbel.out.grown hg3 hbel.out.size hown.out.base)
    obtain ⟨p3, c3, hv3, hi3⟩ := ho3.inn
    have HO3 := Lib.hid ho3
    obtain ⟨nn, hnn⟩ : ∃ nn, (flatT T (zs.take (k + 1))).length = nn := ⟨_, rfl⟩
    rw [hnn] at hv3
    subst hv3
    have HNN := Lib.hid hnn
    clear ho3 hg3 hof3 hi3 hnn k0 k1 k2 k3 k4 k5 k6 k7 k8 k9 k10 k11 hck HCALL
    by_cases hbig : 4096 < nn
    ·have d1 : decide ((4096 : Int) < (nn : Int)) = true := decide_eq_true (by omega)
     have hEE : nfdE T zs = 7 := nfdE_full hA.out (by have := HPRE.out; have := HNN.out; omega)
     have HEE : Hid (E = 7) := by unfold Hid; rw [← hE.out]; exact hEE
     have HLL : Hid (L = []) := by unfold Hid; rw [← hL.out]; exact nfdL_err (by rw [hEE]; decide)
     have HBB := Lib.hid (HE0.out.step HB3.out).bel
     clear hbig hEE
     go_wp2
     go_ret2
     rw [HEE.out, HLL.out]
     exact ⟨_, rfl, Ints.nil _ _, HBB.out⟩
    ·have d1 : decide ((4096 : Int) < (nn : Int)) = false := decide_eq_false (by omega)
     have d2 : ¬ (4096 < nn) := hbig
     have HLE : Hid ((flatT T (zs.take (k + 1))).length ≤ 4096) := by unfold Hid; rw [HNN.out]; omega
     clear hbig
     go_wp2
     go_roundw
     case rel => exact ⟨k + 1, by omega, by go_num, HLE, HO3, HB3⟩
     case measure => simp [intOf]; omega
   ·obtain rfl : k = n := by omega
    have hlen2 := hlen.out
    have hown2 := hown.out
    rw [List.take_of_length_le (Nat.le_of_eq HN.out)] at hlen2 hown2
    have hacc := nfd_acc hA.out hlen2
    have HEE : Hid (E = 0) := by unfold Hid; rw [← hE.out]; exact nfdE_ok hA.out hlen2
    have HAC := Lib.hid hacc.1
    have HOL : Hid (ordL T (flatT T zs) = L) := hacc.2.trans hL.out
    obtain ⟨pu, cu, hu, hiu⟩ := hown2.inn
    have HIU := Lib.hid hiu
    obtain ⟨nn, hnn⟩ : ∃ nn, (flatT T zs).length = nn := ⟨_, rfl⟩
    have hord := fun W (h1 : TabV W x T) h2 h3 => order_at x T pu cu (flatT T zs) 0 L W h1 h2 h3 (by omega) HAC HOL
    rw [hnn] at hu hord
    subst hu
    have HORD := Lib.hid hord
    have HOW : Hid (Below w.heap.size w wr) := he.out.bel
    clear hlen2 hown2 hacc hiu hnn hord
    obtain ⟨⟨k0, k1, k2, k3, k4, k5⟩, ⟨k6, k7, k8, k9, k10, k11⟩⟩ := he.out.box.load
    go_wp2_with fail
    refine (HORD.out _ he.out.tab (HR.out.below he.out.bel) HIU.out).mono ?_
    rintro e w3 ⟨v3, rfl, ho3, hb3⟩
    have HO3 := Lib.hid (ho3.mono HOW.out.size)
    have HB3 := Lib.hid (HOW.out.trans (hb3.mono HOW.out.size))
    clear ho3 hb3 k0 k1 k2 k3 k4 k5 k6 k7 k8 k9 k10 k11
    go_wp2
    go_ret2
    rw [HEE.out]
    exact ⟨_, rfl, HO3.out, HB3.out⟩
 ·have d0 : (A != 0) = true := by simp [h0]
  have HEE : Hid (E = A) := by unfold Hid; rw [← hE.out, ← hA.out]; exact nfdE_acc (by rw [hA.out]; exact h0)
  have HLL : Hid (L = []) := by unfold Hid; rw [← hL.out]; exact nfdL_err (by rw [nfdE_acc (by rw [hA.out]; exact h0), hA.out]; exact h0)
  have HBB := Lib.hid (HE0.out.step HB1.out).bel
  clear h0
  go_wp2
  go_ret2
  rw [HEE.out, HLL.out]
  exact ⟨_, rfl, Ints.nil _ _, HBB.out⟩
end Go.Proofs.YtopaojjodkoidaaGreatDoor
