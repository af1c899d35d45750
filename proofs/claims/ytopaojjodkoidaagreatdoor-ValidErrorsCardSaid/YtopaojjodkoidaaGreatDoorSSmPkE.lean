/- What the rules give, plain mathematics. table: rule 8: a set -/
import Derived.Test.YtopaojjodkoidaaGreatDoorSSmTabR
import Derived.Maps.Own
import Derived.Maps.OwnOps
import Derived.Maps.Views
import Derived.WideKeyPair
import Derived.DeepKeys4
import Derived.ChangeOld
set_option linter.unusedSimpArgs false
set_option linter.unusedVariables false
namespace Go.Proofs.YtopaojjodkoidaaGreatDoor
theorem r2_sp {T : Tb} (h : r2 T = true) : ascB 0 T.cat = true ∧ ascB 0 T.cls = true ∧ ascB 0 T.joi = true ∧ ascB 0 T.bid = true ∧ ascB 0 T.scr = true ∧ ascB 0 T.sta = true ∧ ascB 0 T.ign = true := by
 simp only [r2, spansT, spOk, Bool.and_eq_true, List.all_cons, List.all_nil] at h
 exact ⟨h.1.1.1, h.1.2.1.1, h.1.2.2.1.1, h.1.2.2.2.1.1, h.1.2.2.2.2.1.1, h.1.2.2.2.2.2.1.1, h.1.2.2.2.2.2.2.1.1⟩
theorem r2_key {T : Tb} (h : r2 T = true) : ascI 0 1114111 (froms T.ext) = true ∧ ascI 0 1114111 (froms T.map) = true ∧ ascI 0 1114111 (froms T.dec) = true ∧ ascI 0 1114111 (froms T.pro) = true ∧ ascI 0 1114111 T.exc = true := by
 simp only [r2, keyOk, keyOkP, Bool.and_eq_true] at h
 exact ⟨h.2.1.1, h.2.2.1.1, h.2.2.2.1.1, h.2.2.2.2.1.1, h.2.2.2.2.2.1⟩
theorem val_mem {l : List Sp} {c v : Int} (h : val l c = some v) : ∃ s ∈ l, s.1 ≤ c ∧ c ≤ s.2.1 ∧ s.2.2 = v := by
 induction l with
 | nil => cases h
 | cons s r ih =>
  rw [val_cons] at h
  by_cases hc : s.1 ≤ c ∧ c ≤ s.2.1
  ·rw [if_pos hc] at h
   injection h with h
   exact ⟨s, by simp, hc.1, hc.2, h⟩
  ·rw [if_neg hc] at h
   obtain ⟨t, ht, h2⟩ := ih h
   exact ⟨t, by simp [ht], h2⟩
theorem r3_cls {T : Tb} (h : r3 T = true) (c : Int) : 0 ≤ clsT T c := by
 simp only [r3, Bool.and_eq_true, valOk, List.all_eq_true, decide_eq_true_eq] at h
 unfold clsT
 cases hv : val T.cls c with
 | none => simp
 | some v =>
  obtain ⟨s, hs, _, _, rfl⟩ := val_mem hv
  have := (h.2.1 s hs).1
  simp; omega
theorem r4_ne {T : Tb} (h : r4 T = true) : ∀ m ∈ T.dec, m.2 ≠ [] := by
 simp only [r4, Bool.and_eq_true, List.all_eq_true, seqS, decide_eq_true_eq] at h
 intro m hm he
 have := (h.2.2.1 m hm).1.1
 rw [he] at this; simp at this
theorem r4_sca {T : Tb} (h : r4 T = true) : ∀ m ∈ T.dec, m.2.all scaB = true := by
 simp only [r4, Bool.and_eq_true, List.all_eq_true, seqS, decide_eq_true_eq] at h
 intro m hm
 rw [List.all_eq_true]
 exact (h.2.2.1 m hm).2
theorem r6_fin {T : Tb} (h : r6 T = true) (c : Int) : siz T.dec c ≤ 18 := by
 simp only [r6, Bool.and_eq_true, List.all_eq_true, decide_eq_true_eq] at h
 cases hc : hasM T.dec c with
 | false => rw [siz_nil (findM_nil hc)]; omega
 | true => exact h.2 _ (findM_has hc)
theorem cmpH_of {T : Tb} (h1 : r1 T = true) (h2 : r2 T = true) (h3 : r3 T = true) (h4 : r4 T = true) (h6 : r6 T = true) : CmpH T :=
 ⟨(r2_key h2).2.2.1, (r2_sp h2).2.1, (r2_key h2).2.2.2.2, (few_mp h1).2.2.1, r6_fin h6, r3_cls h3, r4_ne h4⟩
theorem check_1 {T : Tb} (h : r1 T = false) : checkT T = 1 := by simp [checkT, h]
theorem check_2 {T : Tb} (h1 : r1 T = true) (h : r2 T = false) : checkT T = 2 := by simp [checkT, h1, h]
theorem check_3 {T : Tb} (h1 : r1 T = true) (h2 : r2 T = true) (h : r3 T = false) : checkT T = 3 := by simp [checkT, h1, h2, h]
theorem check_4 {T : Tb} (h1 : r1 T = true) (h2 : r2 T = true) (h3 : r3 T = true) (h : r4 T = false) : checkT T = 4 := by simp [checkT, h1, h2, h3, h]
theorem check_5 {T : Tb} (h1 : r1 T = true) (h2 : r2 T = true) (h3 : r3 T = true) (h4 : r4 T = true) (h : r5 T = false) : checkT T = 5 := by simp [checkT, h1, h2, h3, h4, h]
theorem check_6 {T : Tb} (h1 : r1 T = true) (h2 : r2 T = true) (h3 : r3 T = true) (h4 : r4 T = true) (h5 : r5 T = true) (h : r6 T = false) : checkT T = 6 := by simp [checkT, h1, h2, h3, h4, h5, h]
theorem check_7 {T : Tb} (h1 : r1 T = true) (h2 : r2 T = true) (h3 : r3 T = true) (h4 : r4 T = true) (h5 : r5 T = true) (h6 : r6 T = true) : checkT T = if r7 T = false then 7 else if r8 T = false then 8 else if r9 T = false then 9 else 0 := by simp [checkT, h1, h2, h3, h4, h5, h6]
open Go.RowKit Go.Maps
open Go.WideMaps (ArrKey keyOf_pair)
theorem pairKey : ArrKey Tryz.prog 110 3 2 := ⟨Tryz.underlying110, by kernel_rfl, by kernel_rfl, by kernel_rfl⟩
theorem pairSize : ∃ m, Tryz.prog.types.size = m + 1 := ⟨Tryz.prog.types.size - 1, by
 have : 0 < Tryz.prog.types.size := of_decide_eq_true (by kernel_rfl)
 omega⟩
theorem pairLaid : laidOutB Tryz.prog = true := by kernel_rfl
theorem pairWide : (match Tryz.prog.underlying 110 with | some (.array _ _) | some (.struct _) => true | _ => false) = true := by kernel_rfl
theorem pairRow : (110 : TypeId) < Tryz.prog.types.size := of_decide_eq_true (by kernel_rfl)
theorem pairDeep : Tryz.prog.keyTypeAt 2 110 = true := by kernel_rfl
set_option maxRecDepth 100000 in
theorem pairLaw : Keyed Tryz.prog 110 := Keyed.of_law (deep_law_laid pairLaid (m := 2) (by omega) pairRow pairDeep pairWide)
def pairLit (a b : Int) : Lit := .string (keyBytes [.int .i64 a, .int .i64 b])
def wfI (a : Int) : Prop := 0 ≤ a ∧ a ≤ 1114111
theorem wfI_wf {a : Int} (h : wfI a) : (Lit.int .i64 a).wf = true := WalkArith.wf_i64 (by unfold wfI at h; omega)
theorem pair_key {a b : Int} (ha : wfI a) (hb : wfI b) : keyOf Tryz.prog 110 (.agg #[.int .i64 a, .int .i64 b]) = some (pairLit a b) := keyOf_pair pairKey Tryz.underlying3 pairSize (wfI_wf ha) (wfI_wf hb)
theorem pairLit_inj {a b c d : Int} (ha : wfI a) (hb : wfI b) (hc : wfI c) (hd : wfI d) (h : pairLit a b = pairLit c d) : a = c ∧ b = d := by
 have h1 := pair_key ha hb
 have h2 := pair_key hc hd
 rw [h] at h1
 have := pairLaw.inj h1 h2
 injection this with this
 injection this with this
 injection this with e1 e2
 injection e1 with _ e1
 injection e2 with e2 _
 injection e2 with _ e2
 exact ⟨e1, e2⟩
def litOf (y : List Int) : Lit := pairLit (y.getD 0 0) (y.getD 1 0)
def setP (l : List (List Int)) : DataW Unit := setOf (.lit (.bool true)) (l.map litOf)
theorem litOf_key (y : List Int) : WideAt.IsKeyLit (litOf y) := trivial
theorem atKey_fold (k : Lit) : ∀ (acc : List Lit) (m : DataW Unit), IsMap m → (∀ x ∈ acc, WideAt.IsKeyLit x) →
 (k ∈ acc → (acc.foldl (fun m x => m.put x (.lit (.bool true))) m).atKey k (.lit (.bool false)) = .lit (.bool true)) ∧
 (k ∉ acc → (acc.foldl (fun m x => m.put x (.lit (.bool true))) m).atKey k (.lit (.bool false)) = m.atKey k (.lit (.bool false)))
 | [], m, _, _ => ⟨fun h => (List.not_mem_nil h).elim, fun _ => rfl⟩
 | x :: r, m, hm, h => by
  rw [List.foldl_cons]
  have ih := atKey_fold k r _ (hm.put x (.lit (.bool true))) (fun y hy => h y (by simp [hy]))
  by_cases e : k = x
  ·subst e
   have hp := atKey_put_same hm (h k (by simp)) (.lit (.bool true)) (.lit (.bool false))
   refine ⟨fun _ => ?_, fun hn => absurd (by simp) hn⟩
   by_cases hr : k ∈ r
   ·exact ih.1 hr
   ·rw [ih.2 hr, hp]
  ·have hp : (m.put x (.lit (.bool true))).atKey k (.lit (.bool false)) = m.atKey k (.lit (.bool false)) := atKey_put_other e _ _
   refine ⟨fun hk => ih.1 ?_, fun hn => ?_⟩
   ·rcases List.mem_cons.1 hk with hk | hk
    ·exact absurd hk e
    ·exact hk
   ·rw [ih.2 (fun hk => hn (List.mem_cons_of_mem _ hk)), hp]
theorem setP_at (l : List (List Int)) (k : Lit) : (k ∈ l.map litOf → (setP l).atKey k (.lit (.bool false)) = .lit (.bool true)) ∧ (k ∉ l.map litOf → (setP l).atKey k (.lit (.bool false)) = .lit (.bool false)) := by
 have := atKey_fold k (l.map litOf) (.map []) isMap_empty (fun x hx => by
  obtain ⟨y, _, rfl⟩ := List.mem_map.1 hx; exact litOf_key y)
 exact ⟨this.1, this.2⟩
theorem setP_snoc (l : List (List Int)) (y : List Int) : setP (l ++ [y]) = (setP l).put (litOf y) (.lit (.bool true)) := by
 rw [setP, List.map_append, List.map_cons, List.map_nil, setOf_snoc]; rfl
theorem lit_mem {l : List (List Int)} {a b : Int} (hl : ∀ y ∈ l, ∃ c d, y = [c, d] ∧ wfI c ∧ wfI d) (ha : wfI a) (hb : wfI b) : pairLit a b ∈ l.map litOf ↔ [a, b] ∈ l := by
 constructor
 ·intro h
  obtain ⟨y, hy, e⟩ := List.mem_map.1 h
  obtain ⟨c, d, rfl, hc, hd⟩ := hl y hy
  obtain ⟨e1, e2⟩ := pairLit_inj hc hd ha hb e
  rw [← e1, ← e2]; exact hy
 ·intro h
  exact List.mem_map.2 ⟨[a, b], h, rfl⟩
theorem zeroB (w : World) : (zeroValue 4).run Tryz.prog w = .ok (.bool false) w := by kernel_rfl
theorem plainElem_bool_inv {P : Program} {e : TypeId} (he : P.underlying e = some .bool) {v : Value} {z : DataW Unit × List MemPlace} (h : plainElem P e v = some z) : ∃ a, v = .bool a ∧ z = (.lit (.bool a), []) := by
 unfold plainElem at h
 rw [he] at h
 cases v <;> simp at h
 exact ⟨_, rfl, h.symm⟩
theorem lookup_bool {P : Program} {k : TypeId} {w : World} {b n : Nat} {D : DataW Unit} {t e : TypeId} (h : w.ownsMap P k (plainElem P e) b n D) (K : Keyed P k) (ht : P.underlying t = some (.map k e)) (he : P.underlying e = some .bool) (hz : (zeroValue e).run P w = .ok (.bool false) w)
 {key : Value} {kl : Lit} (hkey : keyOf P k key = some kl) : ∃ c, (Instr.lookup t (.map (some b)) key false).run P w = .ok (.bool c) w ∧ D.atKey kl (.lit (.bool false)) = .lit (.bool c) := by
 obtain ⟨v, ps, hrun, hv⟩ := h.lookup K ht hz (plainElem_bool he false) hkey
 obtain ⟨c, rfl, hc⟩ := plainElem_bool_inv he hv
 simp only [Prod.mk.injEq] at hc
 exact ⟨c, hrun, hc.1⟩
set_option maxRecDepth 100000 in
theorem lookup_pair {w : World} {B n : Nat} {l : List (List Int)} {a b : Int} (h : w.ownsMap Tryz.prog 110 (plainElem Tryz.prog 4) B n (setP l)) (hl : ∀ y ∈ l, ∃ c d, y = [c, d] ∧ wfI c ∧ wfI d) (ha : wfI a) (hb : wfI b) :
 (Instr.lookup 135 (.map (some B)) (.agg #[.int .i64 a, .int .i64 b]) false).run Tryz.prog w = .ok (.bool (decide ([a, b] ∈ l))) w := by
 obtain ⟨c, hrun, hc⟩ := lookup_bool h pairLaw Tryz.underlying135 Tryz.underlying4 (zeroB w) (pair_key ha hb)
 have hs := setP_at l (pairLit a b)
 have hm := lit_mem hl ha hb
 rw [hrun]
 by_cases h2 : [a, b] ∈ l
 ·rw [hs.1 (hm.2 h2)] at hc
  injection hc with hc
  injection hc with hc
  rw [← hc, decide_eq_true h2]
 ·rw [hs.2 (fun h3 => h2 (hm.1 h3))] at hc
  injection hc with hc
  injection hc with hc
  rw [← hc, decide_eq_false h2]
theorem cmpTos_snoc (T : Tb) (l : List Mp) (m : Mp) : cmpTos T (l ++ [m]) = cmpTos T l ++ if compT T m.1 = true then [m.2] else [] := by
 simp only [cmpTos, List.filter_append, List.map_append, List.filter_cons, List.filter_nil]
 split <;> simp
theorem nodup_of_take {T : Tb} {l : List Mp} (k : Nat) (h : ¬ (cmpTos T (l.take k)).Nodup) : ¬ (cmpTos T l).Nodup := by
 intro hn
 apply h
 have e := List.take_append_drop k l
 rw [← e] at hn
 simp only [cmpTos, List.filter_append, List.map_append] at hn
 exact (List.nodup_append.1 hn).1
theorem nodup_snoc {l : List (List Int)} {y : List Int} (h : l.Nodup) (hy : y ∉ l) : (l ++ [y]).Nodup := by
 rw [List.nodup_append]
 exact ⟨h, by simp, fun a ha b hb => by rw [List.mem_singleton] at hb; subst hb; exact fun e => hy (e ▸ ha)⟩
theorem not_nodup_snoc {l : List (List Int)} {y : List Int} (hy : y ∈ l) : ¬ (l ++ [y]).Nodup := by
 rw [List.nodup_append]
 intro h
 exact h.2.2 y hy y (by simp) rfl
theorem comp_mem {T : Tb} (hf : ∀ m ∈ T.dec, findM T.dec m.1 = m.2) (hs : ∀ m ∈ T.dec, m.2.all scaB = true) {l : List Mp} (hl : ∀ m ∈ l, m ∈ T.dec) : ∀ y ∈ cmpTos T l, ∃ c d, y = [c, d] ∧ wfI c ∧ wfI d := by
 intro y hy
 simp only [cmpTos, List.mem_map, List.mem_filter] at hy
 obtain ⟨m, ⟨hm, hc⟩, rfl⟩ := hy
 have hlen : m.2.length = 2 := by
  apply Classical.byContradiction
  intro h
  have := compT_not (T := T) (c := m.1) (by rw [hf m (hl m hm)]; exact h)
  rw [hc] at this; cases this
 have hsc := hs m (hl m hm)
 obtain ⟨f, y⟩ := m
 match y, hlen, hsc with
 | [c, d], _, hsc =>
  simp only [List.all_cons, List.all_nil, Bool.and_eq_true, scaB_iff] at hsc
  exact ⟨c, d, rfl, ⟨hsc.1.1, hsc.1.2.1⟩, ⟨hsc.2.1.1, hsc.2.1.2.1⟩⟩
theorem ownsMap_below {w w' : World} {B n : Nat} {D : DataW Unit} (h : w.ownsMap Tryz.prog 110 (plainElem Tryz.prog 4) B n D) (hb : Below w.heap.size w w') : w'.ownsMap Tryz.prog 110 (plainElem Tryz.prog 4) B n D := h.kept (below_grownBy hb none) (by simp)
set_option maxRecDepth 100000 in
set_option maxHeartbeats 8000000 in
theorem unique_any (x : TV) (T : Tb) (w : World) (hx : TabV w x T) (H : CmpH T) (hs : ∀ m ∈ T.dec, m.2.all scaB = true) :
 Calls Tryz.prog 136 #[x.agg] w (Gives (.bool (r8 T)) w) := by
 obtain ⟨a0, a1, a2, a3, a4, a5, a6, a7, a8, a9, a10, a11⟩ := x
 obtain ⟨pm, cm, hm, hmin, hml⟩ := hx.dec
 obtain ⟨n, hn⟩ : ∃ n, T.dec.length = n := ⟨_, rfl⟩
 rw [hn] at hm hml
 simp only at hm
 subst hm
 have hfm : ∀ m ∈ T.dec, findM T.dec m.1 = m.2 := fun m hm => by
  obtain ⟨k, hk, rfl⟩ := List.getElem_of_mem hm
  have := findM_at H.dec k hk
  rw [List.getD_eq_getElem?_getD, List.getElem?_eq_getElem hk] at this
  exact this
 have HWF := Lib.hid (fun l hl => comp_mem hfm hs (l := l) hl)
 have HE0 := Lib.hid (Env.new hx)
 have HE := Lib.hid (HE0.out.step ((Below.refl _ _).alloc (Nat.le_refl _) (.map #[] 0)))
 have HO0 := Lib.hid (World.ownsMap_made (w.alloc (.cells (tabCells ⟨a0, a1, a2, a3, a4, a5, a6, a7, a8, .slice pm n cm, a10, a11⟩) 26)) Tryz.prog 110 (plainElem (H := Unit) Tryz.prog 4))
 have hsz : (w.alloc (.cells (tabCells ⟨a0, a1, a2, a3, a4, a5, a6, a7, a8, .slice pm n cm, a10, a11⟩) 26)).heap.size = w.heap.size + 1 := by simp
 rw [hsz] at HO0
 have hnle : n ≤ 256 := by rw [← hn]; exact H.len
 have HX := Lib.hid hx
 have HH := Lib.hid H
 have HN := Lib.hid hn
 have HMI := Lib.hid hmin
 have HFM := Lib.hid hfm
 have hmm := @run_makeMap Tryz.prog
 clear hx hn hmin hs hfm H hsz
 simp only [TV.agg]
 go_enter Tryz.func136, Tryz.ntmps136
 go_wp2
 clear hmm
 go_loopw [11] (fun i wr => ∃ k : Nat, k ≤ n ∧ i = .int .i64 k ∧ Hid ((cmpTos T (T.dec.take k)).Nodup) ∧ Hid (Env w ⟨a0, a1, a2, a3, a4, a5, a6, a7, a8, .slice pm n cm, a10, a11⟩ T wr) ∧ Hid (wr.ownsMap Tryz.prog 110 (plainElem Tryz.prog 4) (w.heap.size + 1) k (setP (cmpTos T (T.dec.take k))))) (fun i _ => n - (intOf i).toNat)
 case atStart => exact ⟨0, Nat.zero_le _, rfl, by simp [Hid, cmpTos], HE, HO0⟩
 case round =>
  obtain ⟨k, hk, rfl, hnd, he, ho⟩ := hrel
  by_cases hlt : k < n
  ·have hkl : k < T.dec.length := by rw [HN.out]; exact hlt
   obtain ⟨b, off, v, rfl, hc1, hc2, qa, cq, rfl, hi2, hm2⟩ := (HMI.out.below he.out.bel) k hkl
   have hsn : cmpTos T (T.dec.take (k + 1)) = cmpTos T (T.dec.take k) ++ if compT T (T.dec.getD k mp0).1 = true then [(T.dec.getD k mp0).2] else [] := by
    rw [take_snoc_mp T.dec k hkl, cmpTos_snoc]
   have hf := findM_at HH.out.dec k hkl
   have hwf0 := HWF.out (T.dec.take k) fun m hm => List.mem_of_mem_take hm
   have hwf1 := HWF.out (T.dec.take (k + 1)) fun m hm => List.mem_of_mem_take hm
   obtain ⟨⟨f, y⟩, hs⟩ : ∃ s, T.dec.getD k mp0 = s := ⟨_, rfl⟩
   rw [hs] at hc1 hc2 hsn hf hi2 hm2
   simp only at hc1 hc2 hsn hf hi2 hm2
   obtain ⟨acc, hacc⟩ : ∃ acc, cmpTos T (T.dec.take k) = acc := ⟨_, rfl⟩
   rw [hacc] at hsn hnd ho hwf0
   obtain ⟨m, hm3⟩ : ∃ m, y.length = m := ⟨_, rfl⟩
   obtain ⟨C, hC⟩ : ∃ C, Hid (compT T f = C) := ⟨_, rfl⟩
   rw [hC.out] at hsn
   have hb0 : Below wr.heap.size wr (wr.alloc (.cells #[.int .i64 f, .slice qa m cq] 47)) := (Below.refl _ _).alloc (Nat.le_refl _) _
   have HEb := Lib.hid (he.out.step hb0)
   have HOb := Lib.hid (ownsMap_below ho.out hb0)
   have HBM := Lib.hid (BoxM.new wr f (.slice qa m cq) 47)
   have HY1 := Lib.hid (RowIn.alloc hi2 (.cells #[.int .i64 f, .slice qa m cq] 47))
   have hv : InV (wr.alloc (.cells #[.int .i64 f, .slice qa m cq] 47)) (.slice qa m cq) y := ⟨qa, cq, by rw [hm3], HY1.out, hm2⟩
   rw [hm3] at hc2 hm2
   have hcall := composable_any T HH.out 256 _ f _ y _ (HH.out.dp f) hf HEb.out.tab hv
   rw [hC.out] at hcall
   have HC := Lib.hid hcall
   have HSN := Lib.hid hsn
   have HFF := Lib.hid hf
   have HM3 := Lib.hid hm3
   have HACC := Lib.hid hacc
   have HW0 := Lib.hid hwf0
   have HW1 := Lib.hid hwf1
   have hbx := HEb.out.box
   simp only [BoxT] at hbx
   obtain ⟨⟨k0, k1, k2, k3, k4, k5⟩, ⟨k6, k7, k8, k9, k10, k11⟩⟩ := hbx
   clear hs hsn hf hb0 hv hcall hi2 hm3 hacc hwf0 hwf1
   go_wp2_with fail
   refine HC.out.mono ?_
   rintro e w2 ⟨rfl, hb2⟩
   have HE2 := Lib.hid (HEb.out.step hb2)
   have HO2 := Lib.hid (ownsMap_below HOb.out hb2)
   have HBM2 := Lib.hid (HBM.out.below hb2)
   have HY2 := Lib.hid (HY1.out.below hb2)
   clear hb2 k0 k1 k2 k3 k4 k5 k6 k7 k8 k9 k10 k11 hc1 hc2 HC
   cases C with
   | false =>
    have HT : Hid (cmpTos T (T.dec.take (k + 1)) = acc) := by unfold Hid; rw [HSN.out]; simp
    go_wp2
    go_roundw
    case rel => exact ⟨k + 1, by omega, by go_num, by rw [HT.out]; exact hnd, HE2, by rw [HT.out]; exact HO2.out.mono (Nat.le_succ _)⟩
    case measure => simp [intOf]; omega
   | true =>
    have HT : Hid (cmpTos T (T.dec.take (k + 1)) = acc ++ [y]) := by unfold Hid; rw [HSN.out]; simp
    obtain ⟨a, b', rfl, hwa, hwb⟩ := HW1.out y (by rw [HT.out]; simp)
    obtain rfl : m = 2 := HM3.out.symm
    obtain ⟨be, offe, rfl, s0⟩ := HY2.out 0 (by simp)
    obtain ⟨be', offe', ee, s1⟩ := HY2.out 1 (by simp)
    injection ee with ee
    injection ee with ee1 ee2
    subst ee1; subst ee2
    simp only [List.getD_cons_zero, List.getD_cons_succ, Nat.add_zero] at s0 s1
    obtain ⟨m0, m1⟩ := HBM2.out
    have HWA := Lib.hid hwa
    have HWB := Lib.hid hwb
    clear hwa hwb
    go_upto_region 6 with (fail)
    go_cut [6] (fun v wx => ∃ g, v = .pointer (some ⟨g, 0, none⟩) ∧ Hid (wx.cell? ⟨g, 0, none⟩ = some (.int .i64 a)) ∧ Hid (wx.cell? ⟨g, 1, none⟩ = some (.int .i64 b')) ∧ Hid (Below w2.heap.size w2 wx))
    case first =>
     go_region_held3 (fun w' => w'.cell? ⟨wr.heap.size, 1, none⟩ = some (.slice (some ⟨be, offe, none⟩) 2 cq) ∧ w'.cell? ⟨be, offe, none⟩ = some (.int .i64 a) ∧ w'.cell? ⟨be, offe + 1, none⟩ = some (.int .i64 b')) (go_keep) (first | fail)
     all_goals
      go_wp2_with fail
      go_meet
      refine ⟨w2.heap.size, rfl, ?_, ?_, ((Below.refl _ _).alloc (Nat.le_refl _) _).trans (by exact (drew_one (w2.alloc (.cells #[.int .i64 a, .int .i64 b'] 110))).mono (by simp))⟩
      ·unfold Hid; simp [World.cell?_alloc_new]
      ·unfold Hid; simp [World.cell?_alloc_new]
    case rest =>
     obtain ⟨g, rfl, hg0, hg1, hbx⟩ := hcut
     have HE3 := Lib.hid (HE2.out.step hbx.out)
     have HO3 := Lib.hid (ownsMap_below HO2.out hbx.out)
     have hlk := lookup_pair HO3.out HW0.out HWA.out HWB.out
     have g0 := hg0.out
     have g1 := hg1.out
     clear m0 m1 s0 s1
     by_cases hin : [a, b'] ∈ acc
     ·have HF : Hid (r8 T = false) := by
       unfold Hid r8
       refine decide_eq_false (nodup_of_take (k + 1) ?_)
       rw [HT.out]
       exact not_nodup_snoc hin
      rw [decide_eq_true hin] at hlk
      clear hin
      go_wp2
      go_ret
      rw [HF.out]
      exact ⟨rfl, HE3.out.bel⟩
     ·have HND : Hid ((cmpTos T (T.dec.take (k + 1))).Nodup) := by
       unfold Hid; rw [HT.out]; exact nodup_snoc hnd.out hin
      rw [decide_eq_false hin] at hlk
      clear hin
      go_wp2_with (at_mapUpdate; refine wpList_mapUpdate_own _ rfl _ _ _ 135 rfl 110 4 pairLaw Tryz.underlying135 (plainElem Tryz.prog 4) (w.heap.size + 1) k (setP acc) rfl HO3.out (by unfold maxLen; omega) _ _ (pairLit a b') rfl rfl (pair_key HWA.out HWB.out) (.lit (.bool true)) [] (plainElem_bool Tryz.underlying4 true) ?_; intro w4 hown4 hg4)
      have HE4 := Lib.hid (HE3.out.grown HX.out hg4 (Nat.lt_succ_self _))
      have HO4 : Hid (w4.ownsMap Tryz.prog 110 (plainElem Tryz.prog 4) (w.heap.size + 1) (k + 1) (setP (cmpTos T (T.dec.take (k + 1))))) := by
       unfold Hid; rw [HT.out, setP_snoc]; exact hown4
      clear hown4 hg4 hlk g0 g1
      go_wp2
      go_roundw
      case rel => exact ⟨k + 1, by omega, by go_num, HND, HE4, HO4⟩
      case measure => simp [intOf]; omega
  ·obtain rfl : k = n := by omega
   have HT : Hid (r8 T = true) := by
    have := hnd.out
    rw [List.take_of_length_le (Nat.le_of_eq HN.out)] at this
    exact decide_eq_true this
   go_wp2
   go_ret
   rw [HT.out]
   exact ⟨rfl, he.out.bel⟩
open Go.RowKit
theorem rowsFew_at (x : TV) (T : Tb) (B : Bool) (w : World) (hx : TabV w x T) (hB : Hid (r1 T = B)) : Calls Tryz.prog 129 #[x.agg] w (Gives (.bool B) w) := hB.out ▸ rowsFew_any x T w hx
theorem inOrder_at (x : TV) (T : Tb) (B : Bool) (w : World) (hx : TabV w x T) (hr : Rsv w) (h1 : r1 T = true) (hB : Hid (r2 T = B)) : Calls Tryz.prog 130 #[x.agg] w (Gives (.bool B) w) := hB.out ▸ inOrder_any x T w hx hr h1
theorem values_at (x : TV) (T : Tb) (B : Bool) (w : World) (hx : TabV w x T) (hB : Hid (r3 T = B)) : Calls Tryz.prog 131 #[x.agg] w (Gives (.bool B) w) := hB.out ▸ values_any x T w hx
theorem seqsIn_at (x : TV) (T : Tb) (B : Bool) (w : World) (hx : TabV w x T) (hB : Hid (r4 T = B)) : Calls Tryz.prog 132 #[x.agg] w (Gives (.bool B) w) := hB.out ▸ seqsIn_any x T w hx
theorem mapsOf_at (x : TV) (T : Tb) (B : Bool) (w : World) (hx : TabV w x T) (ha : ascB 0 T.sta = true) (hB : Hid (r5 T = B)) : Calls Tryz.prog 133 #[x.agg] w (Gives (.bool B) w) := hB.out ▸ mapsOfStatus_any x T w hx ha
theorem finite_at (x : TV) (T : Tb) (B : Bool) (w : World) (hx : TabV w x T) (h1 : r1 T = true) (h2 : r2 T = true) (h4 : r4 T = true) (hB : Hid (r6 T = B)) : Calls Tryz.prog 134 #[x.agg] w (Gives (.bool B) w) :=
 hB.out ▸ finite_any x T w hx (few_mp h1).2.2.1 (r2_key h2).2.2.1 (r4_ne h4)
theorem excl_at (x : TV) (T : Tb) (B : Bool) (w : World) (hx : TabV w x T) (h2 : r2 T = true) (hB : Hid (r7 T = B)) : Calls Tryz.prog 135 #[x.agg] w (Gives (.bool B) w) := hB.out ▸ exclDecomps_any x T w hx (r2_key h2).2.2.1
theorem unique_at (x : TV) (T : Tb) (B : Bool) (w : World) (hx : TabV w x T) (H : CmpH T) (h4 : r4 T = true) (hB : Hid (r8 T = B)) : Calls Tryz.prog 136 #[x.agg] w (Gives (.bool B) w) := hB.out ▸ unique_any x T w hx H (r4_sca h4)
theorem protos_at (x : TV) (T : Tb) (B : Bool) (w : World) (hx : TabV w x T) (h2 : r2 T = true) (hB : Hid (r9 T = B)) : Calls Tryz.prog 137 #[x.agg] w (Gives (.bool B) w) := hB.out ▸ protos_any x T w hx (r2_key h2).2.2.1 (r2_key h2).2.2.2.1 (r2_sp h2).2.2.2.2.2.2
set_option maxHeartbeats 8000000 in
theorem check_tab (x : TV) (T : Tb) (w : World) (hx : TabV w x T) (hr : Rsv w) :
 Calls Tryz.prog 111 #[x.agg] w (Gives (.int .i64 (checkT T)) w) := by
 have HE := Lib.hid (Env.new hx)
 have HR := Lib.hid (hr.below (Env.new hx).bel)
 obtain ⟨V, hV⟩ : ∃ V, Hid (checkT T = V) := ⟨_, rfl⟩
 rw [hV.out]
 obtain ⟨B1, hB1⟩ : ∃ B, Hid (r1 T = B) := ⟨_, rfl⟩
 obtain ⟨B2, hB2⟩ : ∃ B, Hid (r2 T = B) := ⟨_, rfl⟩
 obtain ⟨B3, hB3⟩ : ∃ B, Hid (r3 T = B) := ⟨_, rfl⟩
 obtain ⟨B4, hB4⟩ : ∃ B, Hid (r4 T = B) := ⟨_, rfl⟩
 obtain ⟨B5, hB5⟩ : ∃ B, Hid (r5 T = B) := ⟨_, rfl⟩
 obtain ⟨B6, hB6⟩ : ∃ B, Hid (r6 T = B) := ⟨_, rfl⟩
 obtain ⟨B7, hB7⟩ : ∃ B, Hid (r7 T = B) := ⟨_, rfl⟩
 obtain ⟨B8, hB8⟩ : ∃ B, Hid (r8 T = B) := ⟨_, rfl⟩
 obtain ⟨B9, hB9⟩ : ∃ B, Hid (r9 T = B) := ⟨_, rfl⟩
 clear hx hr
 simp only [TV.agg]
 go_enter Tryz.func111, Tryz.ntmps111
 go_wp2_with fail
 refine (rowsFew_at x T B1 _ HE.out.tab hB1).mono ?_
 rintro e w1 ⟨rfl, hb⟩
 replace HR := Lib.hid (HR.out.below hb)
 replace HE := Lib.hid (HE.out.step hb)
 clear hb
 cases B1 with
 | false => go_wp2; go_ret; exact ⟨by rw [← hV.out, check_1 hB1.out]; rfl, HE.out.bel⟩
 | true =>
  obtain ⟨⟨k0, k1, k2, k3, k4, k5⟩, ⟨k6, k7, k8, k9, k10, k11⟩⟩ := HE.out.box
  go_wp2_with fail
  refine (inOrder_at x T B2 _ HE.out.tab HR.out hB1.out hB2).mono ?_
  rintro e w2 ⟨rfl, hb⟩
  replace HE := Lib.hid (HE.out.step hb)
  clear hb HR k0 k1 k2 k3 k4 k5 k6 k7 k8 k9 k10 k11
  cases B2 with
  | false => go_wp2; go_ret; exact ⟨by rw [← hV.out, check_2 hB1.out hB2.out]; rfl, HE.out.bel⟩
  | true =>
   obtain ⟨⟨k0, k1, k2, k3, k4, k5⟩, ⟨k6, k7, k8, k9, k10, k11⟩⟩ := HE.out.box
   go_wp2_with fail
   refine (values_at x T B3 _ HE.out.tab hB3).mono ?_
   rintro e w3 ⟨rfl, hb⟩
   replace HE := Lib.hid (HE.out.step hb)
   clear hb k0 k1 k2 k3 k4 k5 k6 k7 k8 k9 k10 k11
   cases B3 with
   | false => go_wp2; go_ret; exact ⟨by rw [← hV.out, check_3 hB1.out hB2.out hB3.out]; rfl, HE.out.bel⟩
   | true =>
    obtain ⟨⟨k0, k1, k2, k3, k4, k5⟩, ⟨k6, k7, k8, k9, k10, k11⟩⟩ := HE.out.box
    go_wp2_with fail
    refine (seqsIn_at x T B4 _ HE.out.tab hB4).mono ?_
    rintro e w4 ⟨rfl, hb⟩
    replace HE := Lib.hid (HE.out.step hb)
    clear hb k0 k1 k2 k3 k4 k5 k6 k7 k8 k9 k10 k11
    cases B4 with
    | false => go_wp2; go_ret; exact ⟨by rw [← hV.out, check_4 hB1.out hB2.out hB3.out hB4.out]; rfl, HE.out.bel⟩
    | true =>
     obtain ⟨⟨k0, k1, k2, k3, k4, k5⟩, ⟨k6, k7, k8, k9, k10, k11⟩⟩ := HE.out.box
     go_wp2_with fail
     refine (mapsOf_at x T B5 _ HE.out.tab (r2_sp hB2.out).2.2.2.2.2.1 hB5).mono ?_
     rintro e w5 ⟨rfl, hb⟩
     replace HE := Lib.hid (HE.out.step hb)
     clear hb k0 k1 k2 k3 k4 k5 k6 k7 k8 k9 k10 k11
     cases B5 with
     | false => go_wp2; go_ret; exact ⟨by rw [← hV.out, check_5 hB1.out hB2.out hB3.out hB4.out hB5.out]; rfl, HE.out.bel⟩
     | true =>
      obtain ⟨⟨k0, k1, k2, k3, k4, k5⟩, ⟨k6, k7, k8, k9, k10, k11⟩⟩ := HE.out.box
      go_wp2_with fail
      refine (finite_at x T B6 _ HE.out.tab hB1.out hB2.out hB4.out hB6).mono ?_
      rintro e w6 ⟨rfl, hb⟩
      replace HE := Lib.hid (HE.out.step hb)
      clear hb k0 k1 k2 k3 k4 k5 k6 k7 k8 k9 k10 k11
      cases B6 with
      | false => go_wp2; go_ret; exact ⟨by rw [← hV.out, check_6 hB1.out hB2.out hB3.out hB4.out hB5.out hB6.out]; rfl, HE.out.bel⟩
      | true =>
       have HC := Lib.hid (cmpH_of hB1.out hB2.out hB3.out hB4.out hB6.out)
       have HV : Hid (V = if B7 = false then 7 else if B8 = false then 8 else if B9 = false then 9 else 0) := by
        unfold Hid; rw [← hV.out, check_7 hB1.out hB2.out hB3.out hB4.out hB5.out hB6.out, hB7.out, hB8.out, hB9.out]
       obtain ⟨⟨k0, k1, k2, k3, k4, k5⟩, ⟨k6, k7, k8, k9, k10, k11⟩⟩ := HE.out.box
       go_wp2_with fail
       refine (excl_at x T B7 _ HE.out.tab hB2.out hB7).mono ?_
       rintro e w7 ⟨rfl, hb⟩
       replace HE := Lib.hid (HE.out.step hb)
       clear hb k0 k1 k2 k3 k4 k5 k6 k7 k8 k9 k10 k11
       cases B7 with
       | false => go_wp2; go_ret; exact ⟨by rw [HV.out]; rfl, HE.out.bel⟩
       | true =>
        obtain ⟨⟨k0, k1, k2, k3, k4, k5⟩, ⟨k6, k7, k8, k9, k10, k11⟩⟩ := HE.out.box
        go_wp2_with fail
        refine (unique_at x T B8 _ HE.out.tab HC.out hB4.out hB8).mono ?_
        rintro e w8 ⟨rfl, hb⟩
        replace HE := Lib.hid (HE.out.step hb)
        clear hb k0 k1 k2 k3 k4 k5 k6 k7 k8 k9 k10 k11
        cases B8 with
        | false => go_wp2; go_ret; exact ⟨by rw [HV.out]; rfl, HE.out.bel⟩
        | true =>
         obtain ⟨⟨k0, k1, k2, k3, k4, k5⟩, ⟨k6, k7, k8, k9, k10, k11⟩⟩ := HE.out.box
         go_wp2_with fail
         refine (protos_at x T B9 _ HE.out.tab hB2.out hB9).mono ?_
         rintro e w9 ⟨rfl, hb⟩
         replace HE := Lib.hid (HE.out.step hb)
         clear hb k0 k1 k2 k3 k4 k5 k6 k7 k8 k9 k10 k11
         cases B9 with
         | false => go_wp2; go_ret; exact ⟨by rw [HV.out]; rfl, HE.out.bel⟩
         | true => go_wp2; go_ret; exact ⟨by rw [HV.out]; rfl, HE.out.bel⟩
theorem check_tab_at (x : TV) (T : Tb) (V : Int) (w : World) (hx : TabV w x T) (hr : Rsv w) (hV : Hid (checkT T = V)) :
 Calls Tryz.prog 111 #[x.agg] w (Gives (.int .i64 V) w) := hV.out ▸ check_tab x T w hx hr
end Go.Proofs.YtopaojjodkoidaaGreatDoor
