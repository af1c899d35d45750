/- keep.Other: copies of rows of mappings; what one changed lis -/
import Derived.Test.YtopaojjodkoidaaGreatDoorSSmTblJ
import Derived.Test.YtopaojjodkoidaaGreatDoorSSmPkA
import Derived.StillTail
import Derived.RegionTactic
set_option linter.unusedSimpArgs false
set_option linter.unusedVariables false
namespace Go.Proofs.YtopaojjodkoidaaGreatDoor
open Go.RowKit
structure Few (n : Nat) (T : Tb) : Prop where
 cat : T.cat.length ≤ n
 cls : T.cls.length ≤ n
 joi : T.joi.length ≤ n
 bid : T.bid.length ≤ n
 scr : T.scr.length ≤ n
 sta : T.sta.length ≤ n
 ign : T.ign.length ≤ n
 ext : T.ext.length ≤ n
 map : T.map.length ≤ n
 dec : T.dec.length ≤ n
 exc : T.exc.length ≤ n
 pro : T.pro.length ≤ n
theorem Few.weak {n m : Nat} {T : Tb} (h : Few n T) (hm : n ≤ m) : Few m T :=
 ⟨Nat.le_trans h.1 hm, Nat.le_trans h.2 hm, Nat.le_trans h.3 hm, Nat.le_trans h.4 hm, Nat.le_trans h.5 hm, Nat.le_trans h.6 hm, Nat.le_trans h.7 hm, Nat.le_trans h.8 hm, Nat.le_trans h.9 hm, Nat.le_trans h.10 hm, Nat.le_trans h.11 hm, Nat.le_trans h.12 hm⟩
theorem few_of_r1 {T : Tb} (h : r1 T = true) : Few 256 T := by
 simp only [r1, spansT, mpsT, List.all_cons, List.all_nil, Bool.and_true, fewS, fewM, Bool.and_eq_true, decide_eq_true_eq] at h
 obtain ⟨⟨h1, h2, h3, h4, h5, h6, h7⟩, ⟨h8, h9, h10, h11⟩, h12⟩ := h
 exact ⟨h1, h2, h3, h4, h5, h6, h7, h8, h9, h10, h12, h11⟩
def MqIn (w : World) (p : Option Addr) (Q : List Mq) : Prop :=
 ∀ k, k < Q.length → ∃ b off q, p = some ⟨b, off, none⟩ ∧ Q[k]? = some q ∧ w.cell? ⟨b, off + k * 2, none⟩ = some (.int .i64 q.1.1) ∧ w.cell? ⟨b, off + k * 2 + 1, none⟩ = some q.2 ∧ q.2.oneCell' = true
theorem choose_list {A : Type} (n : Nat) (P : Nat → A → Prop) (h : ∀ k, k < n → ∃ v, P k v) : ∃ vs : List A, vs.length = n ∧ ∀ k, k < n → ∃ v, vs[k]? = some v ∧ P k v := by
 induction n with
 | zero => exact ⟨[], rfl, fun k hk => absurd hk (Nat.not_lt_zero _)⟩
 | succ n ih =>
  obtain ⟨vs, hl, hv⟩ := ih fun k hk => h k (by omega)
  obtain ⟨v, hp⟩ := h n (by omega)
  refine ⟨vs ++ [v], by simp [hl], fun k hk => ?_⟩
  rcases Nat.lt_or_ge k n with hk' | hk'
  ·obtain ⟨u, hu, hq⟩ := hv k hk'
   exact ⟨u, by rw [List.getElem?_append_left (by omega)]; exact hu, hq⟩
  ·obtain rfl : k = n := by omega
   exact ⟨v, by simp [hl], hp⟩
theorem mq_of {w : World} {p : Option Addr} {l : List Mp} (h : MpIn w p l) : ∃ Q : List Mq, Q.map (·.1) = l ∧ MqIn w p Q ∧ ∀ q ∈ Q, InV w q.2 q.1.2 := by
 obtain ⟨vs, hl, hv⟩ := choose_list (A := Mq) l.length (fun k q => q.1 = l.getD k mp0 ∧ ∃ b off, p = some ⟨b, off, none⟩ ∧ w.cell? ⟨b, off + k * 2, none⟩ = some (.int .i64 (l.getD k mp0).1) ∧ w.cell? ⟨b, off + k * 2 + 1, none⟩ = some q.2 ∧ InV w q.2 (l.getD k mp0).2)
  (fun k hk => by obtain ⟨b, off, v, e, c1, c2, c3⟩ := h k hk; exact ⟨(l.getD k mp0, v), rfl, b, off, e, c1, c2, c3⟩)
 refine ⟨vs, ?_, ?_, ?_⟩
 ·apply List.ext_getElem?
  intro k
  rw [List.getElem?_map]
  rcases Nat.lt_or_ge k l.length with hk | hk
  ·obtain ⟨q, hq, h1, _⟩ := hv k hk
   rw [hq, Option.map_some, h1, List.getD_eq_getElem?_getD, List.getElem?_eq_getElem hk]; rfl
  ·rw [List.getElem?_eq_none (by omega), List.getElem?_eq_none (by omega)]; rfl
 ·intro k hk
  obtain ⟨q, hq, h1, b, off, e, c1, c2, c3⟩ := hv k (by omega)
  exact ⟨b, off, q, e, hq, by rw [h1]; exact c1, c2, by obtain ⟨_, _, e, _⟩ := c3; rw [e]; rfl⟩
 ·intro q hq
  obtain ⟨k, hk⟩ := List.mem_iff_getElem?.1 hq
  have hk' : k < l.length := by
   have := (List.getElem?_eq_some_iff.1 hk).1
   omega
  obtain ⟨q', hq', h1, b, off, e, c1, c2, c3⟩ := hv k hk'
  rw [hk] at hq'
  cases hq'
  rw [h1]
  exact c3
theorem MqIn.cells {w : World} {ad : Addr} {Q : List Mq} (h : MqIn w (some ad) Q) : ∀ j u, (cellsQ Q)[j]? = some u → w.cell? (ad.add j) = some u := by
 intro j u hu
 have hj : j < Q.length * 2 := by
  have := (List.getElem?_eq_some_iff.1 hu).1
  rwa [cellsQ_length] at this
 have hk : j / 2 < Q.length := by omega
 obtain ⟨b, off, q, e, hq, h1, h2, _⟩ := h (j / 2) hk
 obtain ⟨c1, c2⟩ := cellsQ_at Q (j / 2) q hq
 simp only [Option.some.injEq] at e
 subst e
 rw [Addr.add_lit]
 have hm : j % 2 = 0 ∨ j % 2 = 1 := by omega
 rcases hm with hm | hm
 ·have e : j / 2 * 2 = j := by omega
  rw [e] at h1 c1
  rw [h1, ← hu, c1]
 ·have e : j / 2 * 2 + 1 = j := by omega
  rw [Nat.add_assoc, e] at h2; rw [e] at c2
  rw [h2, ← hu, c2]
theorem cellsQ_one (Q : List Mq) (h : ∀ q ∈ Q, q.2.oneCell' = true) : ∀ u ∈ cellsQ Q, u.oneCell' = true := by
 induction Q with
 | nil => intro u hu; cases hu
 | cons s r ih =>
  intro u hu
  simp only [cellsQ, List.mem_cons] at hu
  rcases hu with rfl | rfl | hu
  ·rfl
  ·exact h s (by simp)
  ·exact ih (fun q hq => h q (by simp [hq])) u hu
theorem MqIn.one {w : World} {p : Option Addr} {Q : List Mq} (h : MqIn w p Q) : ∀ q ∈ Q, q.2.oneCell' = true := by
 intro q hq
 obtain ⟨k, hk⟩ := List.mem_iff_getElem?.1 hq
 obtain ⟨b, off, q', e, hq', h1, h2, h3⟩ := h k ((List.getElem?_eq_some_iff.1 hk).1)
 rw [hk] at hq'
 cases hq'
 exact h3
abbrev RowQ (w : World) (B : Nat) (v : Value) (Q : List Mq) : Prop := w.ownsRow B 47 2 v Q.length (cellsQ Q)
theorem wp_append_maps {w : World} {o : Oper} {a : Act} {K : Act → World → Prop} {Z : Exit → Act → World → Prop} (s x : Operand)
 (ho : o.op = .call { callee := .builtin .append, args := #[s, x], argTypes := #[24, 24] })
 (base : Nat) (v : Value) (Q : List Mq) (hs : a.eval s = v) (hown : RowQ w base v Q)
 (p : Option Addr) (m c : Nat) (Y : List Mq) (hm : Y.length = m) (hx : a.eval x = .slice p m c) (hin : MqIn w p Y)
 (hlen : Q.length + Y.length ≤ 1099511627776) (hbase : base ≤ w.heap.size)
 (h : ∀ v' w', RowQ w' base v' (Q ++ Y) → w.grownBy w' v.ownBlock → K (a.put o.dst v') w') : o.wp Tryz.prog a w K Z := by
 subst hm
 obtain ⟨i0, hi, hz0, hz1, hz2⟩ := info_parts Tryz.infoMap
 cases p with
 | none =>
  have hy : Y = [] := by
   cases Y with
   | nil => rfl
   | cons y r => obtain ⟨_, _, _, e, _⟩ := hin 0 (by simp); cases e
  subst hy
  have hr := run_append_nil_sp (P := Tryz.prog) base 24 o.type 47 i0 2 Tryz.underlying24 hi v Q.length _ c hown
  unfold Oper.wp execOp
  simp only [ho, resolve, invoke, builtin, Sem.run_bind, Sem.run_pure, Result.andThen_ok, List.map_toArray, List.map_cons, List.map_nil, hs, hx, List.length_nil, hr]
  exact h v w (by simpa using hown) (sp_grownBy_refl _ _)
 | some ad =>
  refine wp_append_own w s x 24 ho base 47 i0 _ 2 32 Tryz.underlying24 hi hz0 hz1 hz2 rfl (by decide) v Q.length _ hs hown ad Y.length c (cellsQ Y) hx (cellsQ_length _) hin.cells (cellsQ_one Y hin.one) (by unfold maxLen; omega) (by omega) hbase ?_
  intro v' w' h1 h2 _
  exact h v' w' (by unfold RowQ; rw [List.length_append, cellsQ_append]; exact h1) h2
theorem wpList_append_maps {w : World} {ops : Array Oper} {rest : List Oper} {o : Oper} {a : Act} {Z : Exit → Act → World → Prop} (s x : Operand)
 (ho : o.op = .call { callee := .builtin .append, args := #[s, x], argTypes := #[24, 24] })
 (hw : Region.wanted o (yielded ops a.tmps) = true)
 (base : Nat) (v : Value) (Q : List Mq) (hs : a.eval s = v) (hown : RowQ w base v Q)
 (p : Option Addr) (m c : Nat) (Y : List Mq) (hm : Y.length = m) (hx : a.eval x = .slice p m c) (hin : MqIn w p Y)
 (hlen : Q.length + Y.length ≤ 1099511627776) (hbase : base ≤ w.heap.size)
 (h : ∀ v' w', RowQ w' base v' (Q ++ Y) → w.grownBy w' v.ownBlock → wpList Tryz.prog ops Z rest (a.put o.dst v') w') : wpList Tryz.prog ops Z (o :: rest) a w := by
 unfold wpList
 rw [if_pos hw]
 exact .inl (wp_append_maps s x ho base v Q hs hown p m c Y hm hx hin hlen hbase h)
theorem step_append_maps {w : World} {ops : Array Oper} {o : Oper} {a : Act} {K : Act → World → Prop} {Z : Exit → Act → World → Prop} {E : Prop} (hgd : o.guard = none) (s x : Operand)
 (ho : o.op = .call { callee := .builtin .append, args := #[s, x], argTypes := #[24, 24] })
 (base : Nat) (v : Value) (Q : List Mq) (hs : a.eval s = v) (hown : RowQ w base v Q)
 (p : Option Addr) (m c : Nat) (Y : List Mq) (hm : Y.length = m) (hx : a.eval x = .slice p m c) (hin : MqIn w p Y)
 (hlen : Q.length + Y.length ≤ 1099511627776) (hbase : base ≤ w.heap.size)
 (h : ∀ v' w', RowQ w' base v' (Q ++ Y) → w.grownBy w' v.ownBlock → K (a.put o.dst v') w') :
 if Region.wanted o (yielded ops a.tmps) = true then Oper.wp Tryz.prog o a w K Z else E := by
 have hw : Region.wanted o (yielded ops a.tmps) = true := by simp [Region.wanted, hgd]
 rw [if_pos hw]
 exact wp_append_maps s x ho base v Q hs hown p m c Y hm hx hin hlen hbase h
theorem RowQ.nil (w : World) (B : Nat) : RowQ w B (.slice none 0 0) [] := World.ownsRow_nil _ _ _ _
theorem RowQ.slice {w : World} {B : Nat} {v : Value} {Q : List Mq} (h : RowQ w B v Q) : ∃ p c, v = .slice p Q.length c := by
 rcases h.2 with ⟨rfl, h3⟩ | ⟨g, cap, cur, rfl, _⟩
 ·exact ⟨none, 0, by rw [h3]⟩
 ·exact ⟨_, cap, rfl⟩
theorem RowQ.mpv {w : World} {B : Nat} {v : Value} {Q : List Mq} (h : RowQ w B v Q) (ht : ∀ q ∈ Q, InV w q.2 q.1.2) (hl : Q.length ≤ 17592186043904) : MpV w v (Q.map (·.1)) := by
 obtain ⟨p, c, hv⟩ := h.slice
 refine ⟨p, c, by rw [hv]; simp, fun k hk => ?_, by simpa using hl⟩
 have hk' : k < Q.length := by simpa using hk
 rcases h.2 with ⟨rfl, h3⟩ | ⟨g, cap, cur, e, hB, hg, hn, hc, hs, hct⟩
 ·omega
 ·obtain ⟨q, hq⟩ : ∃ q, Q[k]? = some q := ⟨_, List.getElem?_eq_getElem hk'⟩
  obtain ⟨c1, c2⟩ := cellsQ_at Q k q hq
  have key : ∀ j u, j < Q.length * 2 → (cellsQ Q)[j]? = some u → w.cell? ⟨g, j, none⟩ = some u := by
   intro j u hj hu
   rw [cell_of_row w g j cur _ (0, 0) hg]
   rw [← hct, List.getElem?_take, if_pos hj] at hu
   simpa using hu
  have hd : (Q.map (·.1)).getD k mp0 = q.1 := by rw [List.getD_eq_getElem?_getD, List.getElem?_map, hq]; rfl
  rw [hd]
  rw [hv] at e
  injection e with e _ _
  exact ⟨g, 0, q.2, e, by simpa using key _ _ (by omega) c1, by simpa using key _ _ (by omega) c2, ht q (List.mem_of_getElem? hq)⟩
theorem IntsIn.keeps {w w' : World} {R : Nat → Prop} {p : Option Addr} {l : List Int} (h : IntsIn w p l) (hk : Keeps w w' R) (hr : ∀ b off, p = some ⟨b, off, none⟩ → ¬ R b) : IntsIn w' p l := by
 intro k hkl
 obtain ⟨b, off, e, hc⟩ := h k hkl
 exact ⟨b, off, e, hk.cell hc (hr b off e)⟩
def fOf (x : TV) : Nat → Value
 | 0 => x.a0
 | 1 => x.a1
 | 2 => x.a2
 | 3 => x.a3
 | 4 => x.a4
 | 5 => x.a5
 | 6 => x.a6
 | 7 => x.a7
 | 8 => x.a8
 | 9 => x.a9
 | 10 => x.a10
 | _ => x.a11
theorem BoxF.of (w : World) (x : TV) (t : TypeId) : BoxF (w.alloc (.cells (tabCells x) t)) w.heap.size (fOf x) := by
 intro i hi
 have : i = 0 ∨ i = 1 ∨ i = 2 ∨ i = 3 ∨ i = 4 ∨ i = 5 ∨ i = 6 ∨ i = 7 ∨ i = 8 ∨ i = 9 ∨ i = 10 ∨ i = 11 := by omega
 rcases this with rfl | rfl | rfl | rfl | rfl | rfl | rfl | rfl | rfl | rfl | rfl | rfl <;> simp [World.cell?_alloc_new, fOf]
structure OEnd (w : World) (g rb n : Nat) (x : TV) (wx : World) (x' : TV) (T' : Tb) : Prop where
 box : BoxT wx g x'
 res : BoxF wx rb (fun _ => .slice none 0 0)
 tab : ∀ wz, Keeps wx wz (fun b => b = rb) → TabV wz x' T'
 bel : Below w.heap.size w wx
 few : Few (n + 2) T'
 cap : (∀ p n c, x.a9 = .slice p n c → n ≤ c) → ∀ p n c, x'.a9 = .slice p n c → n ≤ c
structure OCase (w W : World) (tb g rb : Nat) (x : TV) : Prop where
 old : BoxF W tb (fOf x)
 boxF : BoxF W g (fOf x)
 res : BoxF W rb (fun _ => .slice none 0 0)
 bel : Below w.heap.size w W
 gw : w.heap.size ≤ g
 rw : w.heap.size ≤ rb
 ne : g ≠ rb
 nt : tb ≠ rb ∧ tb ≠ g
theorem OCase.new (w : World) (x : TV) (t : TypeId) : OCase w (((w.alloc (.cells (tabCells x) t)).alloc (.cells nilC t)).alloc (.cells (tabCells x) t)) w.heap.size (w.heap.size + 1 + 1) (w.heap.size + 1) x := by
 have b1 := (Below.refl w.heap.size w).alloc (Nat.le_refl _) (.cells (tabCells x) t)
 have s1 : (w.alloc (.cells (tabCells x) t)).heap.size = w.heap.size + 1 := by simp
 have s2 : ((w.alloc (.cells (tabCells x) t)).alloc (.cells nilC t)).heap.size = w.heap.size + 1 + 1 := by simp
 have c2 := (Below.refl (w.alloc (.cells (tabCells x) t)).heap.size (w.alloc (.cells (tabCells x) t))).alloc (Nat.le_refl _) (.cells nilC t)
 have c3 := (Below.refl ((w.alloc (.cells (tabCells x) t)).alloc (.cells nilC t)).heap.size ((w.alloc (.cells (tabCells x) t)).alloc (.cells nilC t))).alloc (Nat.le_refl _) (.cells (tabCells x) t)
 refine ⟨((BoxF.of w x t).below c2).below c3, ?_, ?_, ?_, by omega, by omega, by omega, by omega⟩
 ·have h := BoxF.of ((w.alloc (.cells (tabCells x) t)).alloc (.cells nilC t)) x t
  rw [s2] at h
  exact h
 ·have h := (BoxF.new (w.alloc (.cells (tabCells x) t)) t).below c3
  rw [s1] at h
  exact h
 ·exact (b1.trans (c2.mono (by rw [s1]; omega))).trans (c3.mono (by rw [s2]; omega))
section
variable {w W w3 : World} {tb g rb i n : Nat} {x : TV} {T T' : Tb} {v : Value}
theorem OCase.cellT (c : OCase w W tb g rb x) (hi : i < 12) : W.cell? ⟨tb, i, none⟩ = some (fOf x i) := (c.old i hi).1
theorem OCase.cellG (c : OCase w W tb g rb x) (hk : Keeps W w3 (fun _ => False)) (hi : i < 12) : w3.cell? ⟨g, i, none⟩ = some (fOf x i) ∧ w3.frozen? ⟨g, i, none⟩ = false :=
 (c.boxF.keeps hk (fun e => e)) i hi
theorem OCase.oldT (c : OCase w W tb g rb x) (hx : TabV w x T) (hk : Keeps W w3 (fun _ => False)) : ∀ wz, Keeps w3 wz (fun b => b = g ∨ b = rb) → TabV wz x T := by
 intro wz hz
 have h3 : Below w.heap.size w w3 := c.bel.trans (hk.below c.bel.size (fun _ _ e => e.elim))
 have hb := h3.trans (hz.below h3.size (fun b _ e => by have := c.gw; have := c.rw; omega))
 exact hx.below hb
theorem OCase.oldI (c : OCase w W tb g rb x) (hk : Keeps W w3 (fun _ => False)) {u : Value} {l : List Int} (h : InV w u l) : ∀ wz, Keeps w3 wz (fun b => b = g ∨ b = rb) → InV wz u l := by
 intro wz hz
 have h3 : Below w.heap.size w w3 := c.bel.trans (hk.below c.bel.size (fun _ _ e => e.elim))
 have hb := h3.trans (hz.below h3.size (fun b _ e => by have := c.gw; have := c.rw; omega))
 exact h.below hb
theorem OCase.fin (c : OCase w W tb g rb x) (hi : i < 12) (hk : Keeps W w3 (fun _ => False))
 (htab : ∀ wz, Keeps w3 wz (fun b => b = g ∨ b = rb) → TabV wz (xOf (upd (fOf x) i v)) T') (hf : Few (n + 2) T')
 (hcap : (∀ p n c, x.a9 = .slice p n c → n ≤ c) → ∀ p n c, (xOf (upd (fOf x) i v)).a9 = .slice p n c → n ≤ c) :
 OEnd w g rb n x (w3.setCell ⟨g, i, none⟩ v) (xOf (upd (fOf x) i v)) T' := by
 have hb3 := c.boxF.keeps hk (fun e => e)
 have hs := Sets.store w3 g i v _ (hb3 i hi).1
 refine ⟨(hb3.sets hs).box, (c.res.keeps hk (fun e => e)).keeps hs.keep (fun e => c.ne e.symm), fun wz hz => htab wz ?_, ?_, hf, hcap⟩
 ·exact hs.keep.trans hz (fun b _ e => .inl e) (fun b _ e => .inr e)
 ·have h3 : Below w.heap.size w w3 := c.bel.trans (hk.below c.bel.size (fun _ _ e => e.elim))
  exact h3.trans (hs.keep.below h3.size (fun b _ e => by have := c.gw; omega))
theorem OCase.lt (c : OCase w W tb g rb x) : g < W.heap.size ∧ rb < W.heap.size := ⟨c.boxF.lt, c.res.lt⟩
theorem OCase.spans (c : OCase w W tb g rb x) {B : Nat} {L : List Sp} (ho : Spans w3 B v L) (hB : W.heap.size ≤ B) (hl : L.length ≤ 17592186043904) : ∀ wz, Keeps w3 wz (fun b => b = g ∨ b = rb) → SpV wz v L := by
 intro wz hz
 have hlt := c.lt
 have ho2 : Spans wz B v L := hz.owns ho (fun k hk e => by have := World.ownsRow.lt ho k hk; omega)
 obtain ⟨p, cap, rfl, hin⟩ := ho2.inn
 exact ⟨p, cap, rfl, hin, hl⟩
theorem OCase.ints (c : OCase w W tb g rb x) {B : Nat} {L : List Int} (ho : Ints w3 B v L) (hB : W.heap.size ≤ B) (hl : L.length ≤ 17592186043904) : ∀ wz, Keeps w3 wz (fun b => b = g ∨ b = rb) → InV wz v L := by
 intro wz hz
 have hlt := c.lt
 have ho2 : Ints wz B v L := hz.owns ho (fun k hk e => by have := World.ownsRow.lt ho k hk; omega)
 obtain ⟨p, cap, rfl, hin⟩ := ho2.inn
 exact ⟨p, cap, rfl, hin, hl⟩
def NewTo (W w3 : World) (q : Mq) : Prop := ∃ b off n c, q.2 = .slice (some ⟨b, off, none⟩) n c ∧ W.heap.size ≤ b ∧ InV w3 q.2 q.1.2
theorem OCase.maps (c : OCase w W tb g rb x) {B : Nat} {Q Y : List Mq} (hk : Keeps W w3 (fun _ => False)) (ho : RowQ w3 B v (Q ++ Y)) (hB : W.heap.size ≤ B) (hQ : ∀ q ∈ Q, InV w q.2 q.1.2) (hY : ∀ q ∈ Y, NewTo W w3 q) (hl : (Q ++ Y).length ≤ 17592186043904) :
 ∀ wz, Keeps w3 wz (fun b => b = g ∨ b = rb) → MpV wz v (Q.map (·.1) ++ Y.map (·.1)) := by
 intro wz hz
 have hlt := c.lt
 have ho2 : RowQ wz B v (Q ++ Y) := hz.owns ho (fun k hk e => by have := World.ownsRow.lt ho k hk; omega)
 rw [← List.map_append]
 refine ho2.mpv (fun q hq => ?_) hl
 rcases List.mem_append.1 hq with hq | hq
 ·exact c.oldI hk (hQ q hq) wz hz
 ·obtain ⟨b, off, n, cc, e, hb, p, c2, e2, hin, hl2⟩ := hY q hq
  rw [e] at e2
  cases e2
  exact ⟨_, cc, e, hin.keeps hz (fun b' off' e' => by cases e'; omega), hl2⟩
end
theorem new_to {W w2 w3 : World} {row : Option Nat} {b off c : Nat} {f : Int} {L : List Int} (h : IntsIn w2 (some ⟨b, off, none⟩) L) (hl : L.length ≤ 1000) (hg : w2.grownBy w3 row) (hr : ∀ k, row = some k → k < b) (hb : W.heap.size ≤ b) {n : Nat} (hn : n = L.length) :
 NewTo W w3 ((f, L), .slice (some ⟨b, off, none⟩) n c) := by
 subst hn
 refine ⟨b, off, _, c, rfl, hb, _, c, rfl, ?_, by simp only; omega⟩
 intro k hk
 obtain ⟨b', off', e, hc⟩ := h k hk
 cases e
 exact ⟨b, off, rfl, hg.cell hc (fun e => by have := hr b e.symm; omega)⟩
theorem mq_new (W : World) (f : Int) (L : List Int) (u : Value) (ty : TypeId) (hu : u.oneCell' = true) {g : Nat} (hg : g = W.heap.size) : MqIn (W.alloc (.cells #[.int .i64 f, u] ty)) (some ⟨g, 0, none⟩) [((f, L), u)] := by
 subst hg
 intro k hk
 obtain rfl : k = 0 := by simp at hk; omega
 refine ⟨_, _, _, rfl, rfl, ?_, ?_, hu⟩ <;> simp [World.cell?_alloc_new]
theorem mq_new2 (W : World) (f f' : Int) (L L' : List Int) (u u' : Value) (ty : TypeId) (hu : u.oneCell' = true) (hu' : u'.oneCell' = true) {g : Nat} (hg : g = W.heap.size) : MqIn (W.alloc (.cells #[.int .i64 f, u, .int .i64 f', u'] ty)) (some ⟨g, 0, none⟩) [((f, L), u), ((f', L'), u')] := by
 subst hg
 intro k hk
 have hk2 : k = 0 ∨ k = 1 := by simp at hk; omega
 rcases hk2 with rfl | rfl
 ·refine ⟨_, _, _, rfl, rfl, ?_, ?_, hu⟩ <;> simp [World.cell?_alloc_new]
 ·refine ⟨_, _, _, rfl, rfl, ?_, ?_, hu'⟩ <;> simp [World.cell?_alloc_new]
theorem wpList_append_map1 {W : World} {ops : Array Oper} {rest : List Oper} {o : Oper} {a : Act} {Z : Exit → Act → World → Prop} (s x : Operand)
 (ho : o.op = .call { callee := .builtin .append, args := #[s, x], argTypes := #[24, 24] })
 (hw : Region.wanted o (yielded ops a.tmps) = true)
 (base : Nat) (v : Value) (Q : List Mq) (hs : a.eval s = v) (hown : RowQ W base v Q)
 (f : Int) (L : List Int) (u : Value) (c g : Nat) (hx : a.eval x = .slice (some ⟨g, 0, none⟩) 1 c) (hg : g = W.heap.size) (hu : u.oneCell' = true)
 (hlen : Q.length ≤ 1000000) (hbase : base ≤ W.heap.size)
 (h : ∀ v' w', RowQ w' base v' (Q ++ [((f, L), u)]) → (W.alloc (.cells #[.int .i64 f, u] 47)).grownBy w' v.ownBlock → wpList Tryz.prog ops Z rest (a.put o.dst v') w') : wpList Tryz.prog ops Z (o :: rest) a (W.alloc (.cells #[.int .i64 f, u] 47)) :=
 wpList_append_maps s x ho hw base v Q hs (World.ownsRow.alloc hown _) _ 1 c [((f, L), u)] rfl hx (mq_new W f L u _ hu hg) (by simp; omega) (by simp; omega) h
theorem wpList_append_map2 {W : World} {ops : Array Oper} {rest : List Oper} {o : Oper} {a : Act} {Z : Exit → Act → World → Prop} (s x : Operand)
 (ho : o.op = .call { callee := .builtin .append, args := #[s, x], argTypes := #[24, 24] })
 (hw : Region.wanted o (yielded ops a.tmps) = true)
 (base : Nat) (v : Value) (Q : List Mq) (hs : a.eval s = v) (hown : RowQ W base v Q)
 (f : Int) (L : List Int) (u : Value) (f' : Int) (L' : List Int) (u' : Value) (c g : Nat) (hx : a.eval x = .slice (some ⟨g, 0, none⟩) 2 c) (hg : g = W.heap.size) (hu : u.oneCell' = true) (hu' : u'.oneCell' = true)
 (hlen : Q.length ≤ 1000000) (hbase : base ≤ W.heap.size)
 (h : ∀ v' w', RowQ w' base v' (Q ++ [((f, L), u), ((f', L'), u')]) → (W.alloc (.cells #[.int .i64 f, u, .int .i64 f', u'] 47)).grownBy w' v.ownBlock → wpList Tryz.prog ops Z rest (a.put o.dst v') w') : wpList Tryz.prog ops Z (o :: rest) a (W.alloc (.cells #[.int .i64 f, u, .int .i64 f', u'] 47)) :=
 wpList_append_maps s x ho hw base v Q hs (World.ownsRow.alloc hown _) _ 2 c [((f, L), u), ((f', L'), u')] rfl hx (mq_new2 W f f' L L' u u' _ hu hu' hg) (by simp; omega) (by simp; omega) h
theorem MqIn.below {w w' : World} {p : Option Addr} {Q : List Mq} (h : MqIn w p Q) (hb : Below w.heap.size w w') : MqIn w' p Q := by
 intro k hk
 obtain ⟨b, off, q, e, hq, c1, c2, c3⟩ := h k hk
 have hlt := World.block_lt_of_cell? w _ c1
 exact ⟨b, off, q, e, hq, (hb.cell (p := ⟨b, off + k * 2, none⟩) hlt).trans c1, (hb.cell (p := ⟨b, off + k * 2 + 1, none⟩) hlt).trans c2, c3⟩
theorem ints_cells (w : World) (C : Array Value) (t : TypeId) (off : Nat) (L : List Int) {g : Nat} (hg : g = w.heap.size) (h : ∀ k, k < L.length → C[off + k]? = some (.int .i64 (L.getD k 0))) : IntsIn (w.alloc (.cells C t)) (some ⟨g, off, none⟩) L := by
 subst hg
 intro k hk
 refine ⟨_, _, rfl, ?_⟩
 rw [World.cell?_alloc_new]
 exact h k hk
theorem ka0 (w : World) : Keeps w w (fun _ => False) := Keeps.refl _ _
theorem ka1 (w : World) (a : Obj) : Keeps w (w.alloc a) (fun _ => False) := Keeps.alloc _ _
theorem ka2 (w : World) (a b : Obj) : Keeps w ((w.alloc a).alloc b) (fun _ => False) := (Keeps.alloc w a).trans (Keeps.alloc _ b) (fun _ _ e => e) (fun _ _ e => e)
theorem ka3 (w : World) (a b c : Obj) : Keeps w (((w.alloc a).alloc b).alloc c) (fun _ => False) := (ka2 w a b).trans (Keeps.alloc _ c) (fun _ _ e => e) (fun _ _ e => e)
theorem keeps_two {W w1 w2 w3 : World} {e : TypeId} {z n : Nat} {v : Value} {xs : List Value} (hk1 : Keeps W w1 (fun _ => False)) (ho : w1.ownsRow W.heap.size e z v n xs) (h12 : Keeps w1 w2 (fun _ => False)) (hg : w2.grownBy w3 v.ownBlock) : Keeps W w3 (fun _ => False) :=
 (hk1.trans h12 (fun _ _ e => e) (fun _ _ e => e)).trans (Keeps.of_grown hg) (fun _ _ e => e) (fun b hb e => by have := World.ownsRow.lt ho b e; omega)
theorem keeps_lit {W w3 : World} {o : Obj} {n c off : Nat} (hg : (W.alloc o).drew.grownBy w3 (Value.ownBlock (.slice (some ⟨W.heap.size, off, none⟩) n c))) : Keeps W w3 (fun _ => False) := by
 have h := Keeps.of_grown hg
 refine ⟨h.os, h.tape, h.output, Nat.le_trans (by simp) h.size, fun k hk _ => ?_⟩
 have h2 := h.block k (by show k < (W.alloc o).heap.size; simp; omega) (by intro e; simp [Value.ownBlock] at e; omega)
 rw [h2]
 exact Below.heap_alloc _ _ _ hk
theorem OCase.fin_at {w W wx : World} {tb g rb i n : Nat} {x : TV} {T' : Tb} {v : Value} (c : OCase w W tb g rb x) (hbx : BoxF wx g (upd (fOf x) i v)) (hk : Keeps W wx (fun b => b = g))
 (htab : ∀ wz, Keeps wx wz (fun b => b = rb) → TabV wz (xOf (upd (fOf x) i v)) T') (hf : Few (n + 2) T')
 (hcap : (∀ p n c, x.a9 = .slice p n c → n ≤ c) → ∀ p n c, (xOf (upd (fOf x) i v)).a9 = .slice p n c → n ≤ c) : OEnd w g rb n x wx (xOf (upd (fOf x) i v)) T' :=
 ⟨hbx.box, c.res.keeps hk (fun e => c.ne e.symm), htab, c.bel.trans (hk.below c.bel.size (fun b _ e => by have := c.gw; omega)), hf, hcap⟩
theorem OCase.oldX {w W wx : World} {tb g rb : Nat} {x : TV} {T : Tb} (c : OCase w W tb g rb x) (hx : TabV w x T) (hk : Keeps W wx (fun b => b = g)) : ∀ wz, Keeps wx wz (fun b => b = rb) → TabV wz x T := by
 intro wz hz
 have h3 : Below w.heap.size w wx := c.bel.trans (hk.below c.bel.size (fun b _ e => by have := c.gw; omega))
 have hb := h3.trans (hz.below h3.size (fun b _ e => by have := c.rw; omega))
 exact hx.below hb
theorem OCase.spansX {w W wx : World} {tb g rb : Nat} {x : TV} {v : Value} (c : OCase w W tb g rb x) {B : Nat} {L : List Sp} (ho : Spans wx B v L) (hB : W.heap.size ≤ B) (hl : L.length ≤ 17592186043904) : ∀ wz, Keeps wx wz (fun b => b = rb) → SpV wz v L := by
 intro wz hz
 have hlt := c.lt
 have ho2 : Spans wz B v L := hz.owns ho (fun k hk e => by have := World.ownsRow.lt ho k hk; omega)
 obtain ⟨p, cap, rfl, hin⟩ := ho2.inn
 exact ⟨p, cap, rfl, hin, hl⟩
def setV (L : List Sp) (z : Nat) (y : Int) : List Sp := L.set z ((L.getD z sp0).1, (L.getD z sp0).2.1, y)
theorem cellsS_setV (L : List Sp) (z : Nat) (hz : z < L.length) (y : Int) : (cellsS L).set (z * 3 + 2) (.int .i64 y) = cellsS (setV L z y) := by
 induction L generalizing z with
 | nil => simp at hz
 | cons s r ih =>
  cases z with
  | zero => simp [setV, cellsS]
  | succ z =>
   have h := ih z (by simpa using hz)
   rw [show (z + 1) * 3 + 2 = z * 3 + 2 + 1 + 1 + 1 by omega]
   simp only [setV, cellsS, List.set_cons_succ, List.getD_cons_succ] at h ⊢
   rw [h]
theorem Spans.setV {w : World} {B g n cap : Nat} {L : List Sp} (h : Spans w B (.slice (some ⟨g, 0, none⟩) n cap) L) (hn : n = L.length) (z : Nat) (hz : z < L.length) (y : Int) :
 Spans (w.setCell ⟨g, z * 3 + 2, none⟩ (.int .i64 y)) B (.slice (some ⟨g, 0, none⟩) n cap) (setV L z y) := by
 subst hn
 unfold Spans at h ⊢
 rw [← cellsS_setV L z hz y]
 have hl : (Proofs.YtopaojjodkoidaaGreatDoor.setV L z y).length = L.length := by simp [Proofs.YtopaojjodkoidaaGreatDoor.setV]
 rw [hl]
 exact (World.ownsRow.stored h _ _).1
theorem Spans.cellV {w : World} {B n cap : Nat} {p : Option Addr} {L : List Sp} (h : Spans w B (.slice p n cap) L) (z : Nat) (hz : z < L.length) :
 ∃ g, p = some ⟨g, 0, none⟩ ∧ B ≤ g ∧ w.cell? ⟨g, z * 3 + 2, none⟩ = some (.int .i64 (L.getD z sp0).2.2) ∧ w.frozen? ⟨g, z * 3 + 2, none⟩ = false := by
 have hb := h.lt
 obtain ⟨q, cap', e, hin⟩ := h.inn
 cases e
 obtain ⟨b, off, rfl, h1, h2, h3⟩ := hin z hz
 have hf : off = 0 := by
  rcases h.2 with ⟨h', _⟩ | ⟨g', _, _, h', _⟩
  ·cases h'
  ·injection h' with h'; injection h' with h'; injection h'
 subst hf
 have := hb b rfl
 simp only [Nat.zero_add] at h3
 have hz2 := World.ownsRow.frozenAt (g := b) (cap := cap) (n := L.length) h
 exact ⟨b, rfl, this.1, h3, hz2 _⟩
theorem pick_at (v n q : Int) (w : World) (h0 : 1 ≤ n) (h1 : n ≤ 1125899906842624) (hq : Hid (pickS v n = q)) :
 Calls Tryz.prog 22 #[.int .i64 v, .int .i64 n] w fun e w' => e = .returned (.int .i64 q) ∧ w = w' := hq.out ▸ pickL_any v n w h0 h1
theorem pick_nm (v n : Int) (h : 1 ≤ n) : ∃ z, Hid (pickS v n = z) ∧ 0 ≤ z ∧ z < n := ⟨_, rfl, pickS_bd v n h⟩
def OtherPost (x : TV) (n : Nat) (w : World) (e : Ending) (w' : World) : Prop :=
 ∃ (x' : TV) (T' : Tb), e = .returned x'.agg ∧ TabV w' x' T' ∧ Few (n + 2) T' ∧ ((∀ p n c, x.a9 = .slice p n c → n ≤ c) → ∀ p n c, x'.a9 = .slice p n c → n ≤ c) ∧ Below w.heap.size w w'
open Go Go.RowKit
section
variable {P : Program} {md : Region.Mode} {ops : Array Oper} {Q : Exit → Act → World → Prop}
def setB (d : Nat → Bool) (i : Nat) : Nat → Bool := fun j => if j = i then true else d j
theorem setB_same (d : Nat → Bool) (i : Nat) : setB d i i = true := by simp [setB]
theorem setB_other (d : Nat → Bool) {i j : Nat} (h : j ≠ i) : setB d i j = d j := by simp [setB, h]
def headB (md : Region.Mode) (ops : Array Oper) (m : Nat) : Bool :=
 (List.range m).all fun j => match ops[j]? with
  | some o => o.after.all fun e => !Region.binds md e || decide (e.on < j)
  | none => true
def restB (md : Region.Mode) (ops : Array Oper) (m : Nat) (L : Array Bool) : Bool :=
 (List.range ops.size).all fun t => decide (t ≤ m) || L.getD t true || (List.range ops.size).any fun k => decide (m ≤ k) && !(L.getD k true) && Region.waitsFor md ops t k
structure StInv (md : Region.Mode) (ops : Array Oper) (m : Nat) (L listed : Array Bool) : Prop where
 size : listed.size = ops.size
 closed : ∀ j oj, j < m → ops[j]? = some oj → listed.getD j false = true → ∀ e ∈ oj.after, Region.binds md e = true → listed.getD e.on false = true
 tail : ∀ t, m ≤ t → listed.getD t true = L.getD t true
theorem StInv.set {m i : Nat} {L listed : Array Bool} (inv : StInv md ops m L listed) (hi : i ∈ Region.ready md ops listed) (hin : i < m) : StInv md ops m L (listed.setIfInBounds i true) := by
 obtain ⟨_, oi, hoi, hall⟩ := mem_ready.1 hi
 refine ⟨by simp [inv.size], fun j oj hjm hj hl e he hb => ?_, fun t ht => by rw [getD_set_ne true (by omega)]; exact inv.tail t ht⟩
 by_cases hij : i = j
 ·subst hij
  have : oj = oi := Option.some.inj (hj.symm.trans hoi)
  subst this
  exact getD_set_true (hall e he hb)
 ·rw [getD_set_ne false hij] at hl
  exact getD_set_true (inv.closed j oj hjm hj hl e he hb)
theorem StInv.waits {m : Nat} {L listed : Array Bool} (hs : Region.sinkB md ops m = true) (hc : restB md ops m L = true) (inv : StInv md ops m L listed) :
 ∀ (d i : Nat), m - i = d → i < m → listed.getD i true = false → ∀ t, m ≤ t → t ∉ Region.ready md ops listed := by
 intro d
 induction d using Nat.strongRecOn with
 | _ d ih =>
  intro i hd hi hun t ht hr
  obtain ⟨hnt, ot, hot, hall⟩ := mem_ready.1 hr
  have htlt : t < ops.size := (Array.getElem?_eq_some_iff.1 hot).1
  by_cases htm : t = m
  ·subst htm
   have h1 := List.all_eq_true.1 hs i (List.mem_range.2 hi)
   obtain ⟨j, hj, hj2⟩ := List.any_eq_true.1 h1
   simp only [Bool.and_eq_true, decide_eq_true_eq] at hj2
   obtain ⟨oj, hoj, e, he, hb, hon⟩ := Region.waitsFor_spec hj2.2
   have hjle : j ≤ t := by have := List.mem_range.1 hj; omega
   by_cases hjt : j = t
   ·subst hjt
    have : oj = ot := Option.some.inj (hoj.symm.trans hot)
    subst this
    have h2 := hall e he hb
    rw [hon, getD_both hun] at h2
    cases h2
   ·cases hl : listed.getD j false with
    | true =>
     have h2 := inv.closed j oj (by omega) hoj hl e he hb
     rw [hon, getD_both hun] at h2
     cases h2
    | false =>
     have hjs : j < listed.size := by rw [inv.size]; omega
     exact ih (t - j) (by omega) j rfl (by omega) (getD_in hjs hl) t (Nat.le_refl _) hr
  ·have h1 := List.all_eq_true.1 hc t (List.mem_range.2 htlt)
   simp only [Bool.or_eq_true, decide_eq_true_eq] at h1
   rcases h1 with (h1 | h1) | h1
   ·omega
   ·rw [inv.tail t ht, h1] at hnt; cases hnt
   ·obtain ⟨k, _, hk⟩ := List.any_eq_true.1 h1
    simp only [Bool.and_eq_true, decide_eq_true_eq, Bool.not_eq_true'] at hk
    obtain ⟨o', ho', e, he, hb, hon⟩ := Region.waitsFor_spec hk.2
    have : o' = ot := Option.some.inj (ho'.symm.trans hot)
    subst this
    have h2 := hall e he hb
    have h3 : listed.getD k true = false := by rw [inv.tail k hk.1.1]; exact hk.1.2
    rw [hon, getD_both h3] at h2
    cases h2
def unB (d : Nat → Bool) (m : Nat) : Nat := ((List.range m).filter fun j => !d j).length
theorem unB_succ (d : Nat → Bool) (m : Nat) : unB d (m + 1) = unB d m + (if d m then 0 else 1) := by
 unfold unB
 rw [List.range_succ, List.filter_append, List.length_append]
 cases h : d m <;> simp [h]
theorem unB_set (d : Nat → Bool) (i : Nat) (hd : d i = false) : ∀ m, i < m → unB d m = unB (setB d i) m + 1 := by
 intro m
 induction m with
 | zero => intro h; omega
 | succ m ih =>
  intro h
  rw [unB_succ, unB_succ]
  by_cases hm : m = i
  ·subst hm
   rw [setB_same, hd]
   have key : ∀ k, k ≤ m → unB d k = unB (setB d m) k := by
    intro k
    induction k with
    | zero => intro _; rfl
    | succ k ihk =>
     intro hk
     rw [unB_succ, unB_succ, ihk (by omega), setB_other d (by omega)]
   rw [key m (Nat.le_refl _)]
   rfl
  ·rw [ih (by omega), setB_other d hm]
   omega
theorem unB_zero (d : Nat → Bool) : ∀ m, unB d m = 0 → ∀ j, j < m → d j = true := by
 intro m
 induction m with
 | zero => intro _ j hj; omega
 | succ m ih =>
  intro h j hj
  rw [unB_succ] at h
  by_cases hm : j = m
  ·subst hm
   cases hd : d j with
   | true => rfl
   | false => rw [hd] at h; simp at h
  ·exact ih (by omega) j (by omega)
theorem unB_pos (d : Nat → Bool) (m : Nat) (h : unB d m ≠ 0) : ∃ j, j < m ∧ d j = false ∧ ∀ k, k < j → d k = true := by
 induction m with
 | zero => exact absurd rfl h
 | succ m ih =>
  by_cases h0 : unB d m = 0
  ·refine ⟨m, by omega, ?_, fun k hk => unB_zero d m h0 k hk⟩
   rw [unB_succ, h0] at h
   cases hd : d m with
   | true => rw [hd] at h; exact absurd rfl h
   | false => rfl
  ·obtain ⟨j, h1, h2, h3⟩ := ih h0
   exact ⟨j, by omega, h2, h3⟩
theorem wpAny_stage (m : Nat) (L L1 : Array Bool) (J : (Nat → Bool) → Act → World → Prop) (F : Nat)
 (hm : m < ops.size) (hh : headB md ops m = true) (hs : Region.sinkB md ops m = true) (hc : restB md ops m L = true)
 (s1 : L1.size = ops.size) (s2 : ∀ j, j < m → L1.getD j true = true) (s3 : ∀ t, m ≤ t → L1.getD t true = L.getD t true)
 (step : ∀ (d : Nat → Bool) (a : Act) (w : World) (j : Nat) (o : Oper), j < m → ops[j]? = some o → d j = false → (∀ e ∈ o.after, Region.binds md e = true → d e.on = true) → J d a w → wpOp P ops Q j (J (setB d j)) a w)
 (final : ∀ (d : Nat → Bool) (a : Act) (w : World), (∀ j, j < m → d j = true) → J d a w → wpAny P md ops Q F L1 a w) :
 ∀ (c : Nat) (listed : Array Bool) (a : Act) (w : World), StInv md ops m L listed → unB (fun j => listed.getD j false) m = c → J (fun j => listed.getD j false) a w → wpAny P md ops Q (c + F) listed a w := by
 intro c
 induction c with
 | zero =>
  intro listed a w inv hc0 hJ
  have hall := unB_zero _ m hc0
  have hl : listed = L1 := by
   apply Array.ext_getElem?
   intro k
   have e1 : ∀ (A : Array Bool), A.size = ops.size → A[k]? = if k < ops.size then some (A.getD k true) else none := by
    intro A hA
    by_cases hk : k < ops.size
    ·rw [if_pos hk]; simp [hA, hk]
    ·rw [if_neg hk]; exact Array.getElem?_eq_none (by omega)
   rw [e1 _ inv.size, e1 _ s1]
   by_cases hk : k < ops.size
   ·rw [if_pos hk, if_pos hk]
    congr 1
    by_cases hkm : k < m
    ·rw [s2 k hkm]
     have h2 := hall k hkm
     have hks : k < listed.size := by rw [inv.size]; exact hk
     simp [hks] at h2 ⊢; exact h2
    ·rw [inv.tail k (by omega), s3 k (by omega)]
   ·rw [if_neg hk, if_neg hk]
  subst hl
  rw [Nat.zero_add]
  exact final _ a w hall hJ
 | succ c ih =>
  intro listed a w inv hc1 hJ
  obtain ⟨j0, j1, j2, j3⟩ := unB_pos _ m (by rw [hc1]; omega)
  have hj0s : j0 < listed.size := by rw [inv.size]; omega
  have hun := getD_in hj0s j2
  have hr0 : j0 ∈ Region.ready md ops listed := by
   obtain ⟨o0, ho0⟩ : ∃ o, ops[j0]? = some o := ⟨_, Array.getElem?_eq_getElem (by omega)⟩
   refine mem_ready.2 ⟨hun, o0, ho0, fun e he hb => ?_⟩
   have h1 := List.all_eq_true.1 hh j0 (List.mem_range.2 j1)
   rw [ho0] at h1
   have h2 := Array.all_eq_true'.1 h1 e he
   simp only [hb, Bool.not_true, Bool.false_or, decide_eq_true_eq] at h2
   exact j3 e.on h2
  rw [show c + 1 + F = (c + F) + 1 by omega]
  refine ⟨fun h0 => (by rw [h0] at hr0; cases hr0), fun i hi => ?_⟩
  have him : i < m := by
   rcases Nat.lt_or_ge i m with h | h
   ·exact h
   ·exact absurd hi (inv.waits hs hc (m - j0) j0 rfl j1 hun i h)
  obtain ⟨hni, o, ho, hall⟩ := mem_ready.1 hi
  have his : i < listed.size := by rw [inv.size]; omega
  have hdi : (fun j => listed.getD j false) i = false := getD_both hni
  have hset : (fun k => (listed.setIfInBounds i true).getD k false) = setB (fun k => listed.getD k false) i := by
   funext k
   by_cases hk : k = i
   ·subst hk; rw [setB_same]; simp [his]
   ·rw [setB_other _ hk]; exact getD_set_ne false (fun e => hk e.symm)
  refine wpOp_mono (fun a' w' h' => ih _ a' w' (inv.set hi him) ?_ ?_) (step _ a w i o him ho hdi hall hJ)
  ·rw [hset]
   have := unB_set (fun k => listed.getD k false) i hdi m him
   omega
  ·rw [hset]; exact h'
def putsA (a : Act) (s : Nat) : List Value → Act
 | [] => a
 | x :: r => putsA (a.put (some s) x) (s + 1) r
theorem put_put_ne (a : Act) {s t : Nat} (h : s ≠ t) (u v : Value) : (a.put (some s) u).put (some t) v = (a.put (some t) v).put (some s) u := by
 unfold Act.put
 simp only [Act.mk.injEq, and_true]
 apply Array.ext_getElem?
 intro k
 simp only [Array.getElem?_setIfInBounds, Array.size_setIfInBounds]
 by_cases h1 : t = k
 ·subst h1
  by_cases h2 : s = t
  ·exact absurd h2 h
  ·simp [h2]
 ·by_cases h2 : s = k
  ·subst h2; simp [h1]
  ·simp [h1, h2]
theorem put_put_eq (a : Act) (s : Nat) (u v : Value) : (a.put (some s) u).put (some s) v = a.put (some s) v := by
 unfold Act.put
 simp
theorem putsA_put (a : Act) (s t : Nat) (xs : List Value) (v : Value) (h : t < s) : (putsA a s xs).put (some t) v = putsA (a.put (some t) v) s xs := by
 induction xs generalizing a s with
 | nil => rfl
 | cons x r ih =>
  simp only [putsA]
  rw [ih _ _ (by omega), put_put_ne a (by omega)]
theorem putsA_set (a : Act) (s : Nat) (xs : List Value) (j : Nat) (v : Value) (h : j < xs.length) : (putsA a s xs).put (some (s + j)) v = putsA a s (xs.set j v) := by
 induction xs generalizing a s j with
 | nil => simp at h
 | cons x r ih =>
  cases j with
  | zero =>
   simp only [putsA, List.set_cons_zero, Nat.add_zero]
   rw [putsA_put _ _ _ _ _ (by omega), put_put_eq]
  | succ j =>
   simp only [putsA, List.set_cons_succ]
   rw [show s + (j + 1) = s + 1 + j by omega]
   exact ih _ _ j (by simpa using h)
theorem putsA_low (a : Act) (s k : Nat) (xs : List Value) (h : k < s) : (putsA a s xs).tmps.getD k undef = a.tmps.getD k undef := by
 induction xs generalizing a s with
 | nil => rfl
 | cons x r ih =>
  simp only [putsA]
  rw [ih _ _ (by omega)]
  simp only [Act.put]
  simp only [Array.getD_eq_getD_getElem?, Array.getElem?_setIfInBounds_ne (show s ≠ k by omega)]
theorem putsA_at (a : Act) (s : Nat) (xs : List Value) (j : Nat) (h : j < xs.length) (hs : s + xs.length ≤ a.tmps.size) : (putsA a s xs).tmps.getD (s + j) undef = xs.getD j undef := by
 induction xs generalizing a s j with
 | nil => simp at h
 | cons x r ih =>
  cases j with
  | zero =>
   simp only [putsA, Nat.add_zero, List.getD_cons_zero]
   rw [putsA_low _ _ _ _ (by omega)]
   simp only [Act.put]
   simp only [List.length_cons] at hs
   simp [show s < a.tmps.size by omega]
  | succ j =>
   simp only [putsA, List.getD_cons_succ]
   rw [show s + (j + 1) = s + 1 + j by omega]
   exact ih _ _ j (by simpa using h) (by simp only [Act.put, Array.size_setIfInBounds]; simp only [List.length_cons] at hs; omega)
end
open Go Go.RowKit
def Blk (w : World) (b : Nat) (C : Array Value) : Prop := w.heap[b]? = some (.cells C 3)
theorem Blk.lt {w : World} {b : Nat} {C : Array Value} (h : Blk w b C) : b < w.heap.size := by
 rcases Nat.lt_or_ge b w.heap.size with hlt | hge
 ·exact hlt
 ·unfold Blk at h; rw [Array.getElem?_eq_none hge] at h; cases h
theorem Blk.new (w : World) (C : Array Value) : Blk (w.alloc (.cells C 3)) w.heap.size C := by unfold Blk; show (w.heap.push _)[w.heap.size]? = _; simp
theorem Blk.keeps {w w' : World} {R : Nat → Prop} {b : Nat} {C : Array Value} (h : Blk w b C) (hk : Keeps w w' R) (hr : ¬ R b) : Blk w' b C := (hk.block b h.lt hr).trans h
theorem Blk.ints {w : World} {b : Nat} {C : Array Value} (h : Blk w b C) (L : List Int) (hL : ∀ k, k < L.length → C[k]? = some (.int .i64 (L.getD k 0))) : IntsIn w (some ⟨b, 0, none⟩) L := by
 intro k hk
 refine ⟨b, 0, rfl, ?_⟩
 rw [cell_of_row w b (0 + k) C _ (0, 0) h, Nat.zero_add]
 exact hL k hk
theorem Blk.ne {w : World} {B b k : Nat} {v : Value} {Q : List Mq} {C : Array Value} (h : Blk w b C) (hr : RowQ w B v Q) (hk : v.ownBlock = some k) : k ≠ b := by
 rintro rfl
 rcases hr.2 with ⟨rfl, _⟩ | ⟨g, cap, cur, rfl, _, hg, _⟩
 ·simp [Value.ownBlock] at hk
 ·simp only [Value.ownBlock, Option.some.injEq] at hk
  subst hk
  unfold Blk at h
  rw [h] at hg
  simp at hg
theorem new_to' {W w3 : World} {b off c : Nat} {f : Int} {L : List Int} (h : IntsIn w3 (some ⟨b, off, none⟩) L) (hl : L.length ≤ 1000) (hb : W.heap.size ≤ b) {n : Nat} (hn : n = L.length) :
 NewTo W w3 ((f, L), .slice (some ⟨b, off, none⟩) n c) := by
 subst hn
 exact ⟨b, off, _, c, rfl, hb, _, c, rfl, h, by simp only; omega⟩
section
variable {o : Oper} {a : Act} {w : World} {K : Act → World → Prop} {Q : Exit → Act → World → Prop}
theorem want {P : Program} {y : Nat → Option Bool} {E : Prop} (hg : o.guard = none) (h : o.wp P a w K Q) : if Region.wanted o y = true then o.wp P a w K Q else E := by
 rw [if_pos (by simp [Region.wanted, hg])]; exact h
theorem ol_move (x : Operand) (ho : o.op = .move x) (v : Value) (hx : a.eval x = v) (h : K (a.put o.dst v) w) : o.wp Tryz.prog a w K Q := by
 unfold Oper.wp execOp
 simp only [ho, hx]
 exact h
theorem ol_field (x : Operand) (ho : o.op = .fieldAddr 26 x 9) (b : Nat) (hx : a.eval x = .pointer (some ⟨b, 0, none⟩)) (h : K (a.put o.dst (.pointer (some ⟨b, 9, none⟩))) w) : o.wp Tryz.prog a w K Q := by
 unfold Oper.wp execOp
 simp only [ho, hx]
 go_simp
 exact h
theorem ol_loadM (x : Operand) (ho : o.op = .load 24 x) (b off : Nat) (v : Value) (hx : a.eval x = .pointer (some ⟨b, off, none⟩)) (hc : w.cell? ⟨b, off, none⟩ = some v) (h : K (a.put o.dst v) w) : o.wp Tryz.prog a w K Q := by
 unfold Oper.wp execOp
 simp only [ho, hx]
 go_simp
 exact h
theorem ol_loadI (x : Operand) (ho : o.op = .load 3 x) (b off : Nat) (v : Value) (hx : a.eval x = .pointer (some ⟨b, off, none⟩)) (hc : w.cell? ⟨b, off, none⟩ = some v) (h : K (a.put o.dst v) w) : o.wp Tryz.prog a w K Q := by
 unfold Oper.wp execOp
 simp only [ho, hx]
 go_simp
 exact h
theorem ol_index (x y : Operand) (ho : o.op = .indexAddr 22 x y) (b n c z : Nat) (hx : a.eval x = .slice (some ⟨b, 0, none⟩) n c) (hy : a.eval y = .int .i64 z) (hz : z < n) (hz2 : (z : Int) < (n : Int)) (h : K (a.put o.dst (.pointer (some ⟨b, z, none⟩))) w) : o.wp Tryz.prog a w K Q := by
 unfold Oper.wp execOp
 simp only [ho, hx, hy]
 go_simp
 exact h
theorem ol_lit3 (x y z : Int) (ho : o.op = .buildSlice 22 3 #[(0, .const (.int .i64 x)), (1, .const (.int .i64 y)), (2, .const (.int .i64 z))]) (h : K (a.put o.dst (.slice (some ⟨w.heap.size, 0, none⟩) 3 3)) (w.alloc (.cells #[.int .i64 x, .int .i64 y, .int .i64 z] 3))) : o.wp Tryz.prog a w K Q := by
 unfold Oper.wp execOp
 simp only [ho]
 go_simp
 exact h
theorem ol_lit2 (x : Int) (s : Nat) (z : Int) (ho : o.op = .buildSlice 22 2 #[(0, .const (.int .i64 x)), (1, .tmp s)]) (hy : a.eval (.tmp s) = .int .i64 z) (h : K (a.put o.dst (.slice (some ⟨w.heap.size, 0, none⟩) 2 2)) (w.alloc (.cells #[.int .i64 x, .int .i64 z] 3))) : o.wp Tryz.prog a w K Q := by
 have hy' : a.tmps[s]?.getD undef = .int .i64 z := by simpa [Act.eval] using hy
 clear hy
 unfold Oper.wp execOp
 simp only [ho]
 go_simp
 exact h
theorem ol_build (x : Int) (s : Nat) (p : Option Addr) (n c : Nat) (ho : o.op = .build 47 #[(0, .const (.int .i64 x)), (1, .tmp s)]) (hy : a.eval (.tmp s) = .slice p n c) (h : K (a.put o.dst (.agg #[.int .i64 x, .slice p n c])) w) : o.wp Tryz.prog a w K Q := by
 have hy' : a.tmps[s]?.getD undef = .slice p n c := by simpa [Act.eval] using hy
 clear hy
 unfold Oper.wp execOp
 simp only [ho]
 go_simp
 exact h
theorem ol_two (s t : Nat) (f f' : Int) (p p' : Option Addr) (n c n' c' : Nat) (ho : o.op = .buildSlice 24 2 #[(0, .tmp s), (1, .tmp t)]) (hx : a.eval (.tmp s) = .agg #[.int .i64 f, .slice p n c]) (hy : a.eval (.tmp t) = .agg #[.int .i64 f', .slice p' n' c']) (h : K (a.put o.dst (.slice (some ⟨w.heap.size, 0, none⟩) 2 2)) (w.alloc (.cells #[.int .i64 f, .slice p n c, .int .i64 f', .slice p' n' c'] 47))) : o.wp Tryz.prog a w K Q := by
 have hx' : a.tmps[s]?.getD undef = .agg #[.int .i64 f, .slice p n c] := by simpa [Act.eval] using hx
 have hy' : a.tmps[t]?.getD undef = .agg #[.int .i64 f', .slice p' n' c'] := by simpa [Act.eval] using hy
 clear hx hy
 unfold Oper.wp execOp
 simp only [ho]
 go_simp
 exact h
theorem ol_pick (s : Nat) (n v q : Int) (ho : o.op = .call { callee := .value (.func 22), args := #[.tmp s, .const (.int .i64 n)], argTypes := #[3, 3] }) (hs : a.eval (.tmp s) = .int .i64 v) (h0 : 1 ≤ n) (h1 : n ≤ 1125899906842624) (hq : Hid (pickS v n = q)) (h : K (a.put o.dst (.int .i64 q)) w) : o.wp Tryz.prog a w K Q := by
 have hs' : a.tmps[s]?.getD undef = .int .i64 v := by simpa [Act.eval] using hs
 clear hs
 unfold Oper.wp execOp
 simp only [ho]
 go_simp
 refine (pick_at v n q w h0 h1 hq).mono ?_
 rintro e w' ⟨rfl, rfl⟩
 exact h
end
end Go.Proofs.YtopaojjodkoidaaGreatDoor
