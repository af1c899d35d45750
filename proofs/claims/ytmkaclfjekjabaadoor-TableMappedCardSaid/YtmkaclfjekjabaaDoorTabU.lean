/-
  table: rule 8: a set of pairs.
-/
import Derived.Test.YtmkaclfjekjabaaDoorTabR
import Derived.Maps.Own
import Derived.Maps.OwnOps
import Derived.Maps.Views
import Derived.WideKeyPair
import Derived.DeepKeys4
import Derived.ChangeOld
namespace Go.Proofs.YtmkaclfjekjabaaDoor
open Go.RowKit Go.Maps
open Go.WideMaps (ArrKey keyOf_pair)

theorem pairKey : ArrKey Tryd.prog 80 3 2 := ⟨Tryd.underlying80, by kernel_rfl, by kernel_rfl, by kernel_rfl⟩
theorem pairSize : ∃ m, Tryd.prog.types.size = m + 1 := ⟨Tryd.prog.types.size - 1, by
  have : 0 < Tryd.prog.types.size := of_decide_eq_true (by kernel_rfl)
  omega⟩
theorem pairLaid : laidOutB Tryd.prog = true := by kernel_rfl
theorem pairWide : (match Tryd.prog.underlying 80 with | some (.array _ _) | some (.struct _) => true | _ => false) = true := by kernel_rfl
theorem pairRow : (80 : TypeId) < Tryd.prog.types.size := of_decide_eq_true (by kernel_rfl)
theorem pairDeep : Tryd.prog.keyTypeAt 2 80 = true := by kernel_rfl
set_option maxRecDepth 100000 in
theorem pairLaw : Keyed Tryd.prog 80 := Keyed.of_law (deep_law_laid pairLaid (m := 2) (by omega) pairRow pairDeep pairWide)

/-- What a pair reads as. -/
def pairLit (a b : Int) : Lit := .string (keyBytes [.int .i64 a, .int .i64 b])
def wfI (a : Int) : Prop := 0 ≤ a ∧ a ≤ 1114111
theorem wfI_wf {a : Int} (h : wfI a) : (Lit.int .i64 a).wf = true := WalkArith.wf_i64 (by unfold wfI at h; omega)
theorem pair_key {a b : Int} (ha : wfI a) (hb : wfI b) : keyOf Tryd.prog 80 (.agg #[.int .i64 a, .int .i64 b]) = some (pairLit a b) := keyOf_pair pairKey Tryd.underlying3 pairSize (wfI_wf ha) (wfI_wf hb)
theorem pairLit_inj {a b c d : Int} (ha : wfI a) (hb : wfI b) (hc : wfI c) (hd : wfI d) (h : pairLit a b = pairLit c d) : a = c ∧ b = d := by
  have h1 := pair_key ha hb
  have h2 := pair_key hc hd
  rw [h] at h1
  have := pairLaw.inj h1 h2
  injection this with this
  injection this with this
  injection this with e1 e2
  injection e1 with _ e1
  injection e2 with e2 _
  injection e2 with _ e2
  exact ⟨e1, e2⟩

/-- The set of the pairs of l. -/
def litOf (y : List Int) : Lit := pairLit (y.getD 0 0) (y.getD 1 0)
def setP (l : List (List Int)) : DataW Unit := setOf (.lit (.bool true)) (l.map litOf)
theorem litOf_key (y : List Int) : WideAt.IsKeyLit (litOf y) := trivial

theorem atKey_fold (k : Lit) : ∀ (acc : List Lit) (m : DataW Unit), IsMap m → (∀ x ∈ acc, WideAt.IsKeyLit x) →
    (k ∈ acc → (acc.foldl (fun m x => m.put x (.lit (.bool true))) m).atKey k (.lit (.bool false)) = .lit (.bool true)) ∧
    (k ∉ acc → (acc.foldl (fun m x => m.put x (.lit (.bool true))) m).atKey k (.lit (.bool false)) = m.atKey k (.lit (.bool false)))
  | [], m, _, _ => ⟨fun h => (List.not_mem_nil h).elim, fun _ => rfl⟩
  | x :: r, m, hm, h => by
    rw [List.foldl_cons]
    have ih := atKey_fold k r _ (hm.put x (.lit (.bool true))) (fun y hy => h y (by simp [hy]))
    by_cases e : k = x
    · subst e
      have hp := atKey_put_same hm (h k (by simp)) (.lit (.bool true)) (.lit (.bool false))
      refine ⟨fun _ => ?_, fun hn => absurd (by simp) hn⟩
      by_cases hr : k ∈ r
      · exact ih.1 hr
      · rw [ih.2 hr, hp]
    · have hp : (m.put x (.lit (.bool true))).atKey k (.lit (.bool false)) = m.atKey k (.lit (.bool false)) := atKey_put_other e _ _
      refine ⟨fun hk => ih.1 ?_, fun hn => ?_⟩
      · rcases List.mem_cons.1 hk with hk | hk
        · exact absurd hk e
        · exact hk
      · rw [ih.2 (fun hk => hn (List.mem_cons_of_mem _ hk)), hp]

theorem setP_at (l : List (List Int)) (k : Lit) : (k ∈ l.map litOf → (setP l).atKey k (.lit (.bool false)) = .lit (.bool true)) ∧ (k ∉ l.map litOf → (setP l).atKey k (.lit (.bool false)) = .lit (.bool false)) := by
  have := atKey_fold k (l.map litOf) (.map []) isMap_empty (fun x hx => by
    obtain ⟨y, _, rfl⟩ := List.mem_map.1 hx; exact litOf_key y)
  exact ⟨this.1, this.2⟩

theorem setP_snoc (l : List (List Int)) (y : List Int) : setP (l ++ [y]) = (setP l).put (litOf y) (.lit (.bool true)) := by
  rw [setP, List.map_append, List.map_cons, List.map_nil, setOf_snoc]; rfl

/-- A pair is on the list just if its key is. -/
theorem lit_mem {l : List (List Int)} {a b : Int} (hl : ∀ y ∈ l, ∃ c d, y = [c, d] ∧ wfI c ∧ wfI d) (ha : wfI a) (hb : wfI b) : pairLit a b ∈ l.map litOf ↔ [a, b] ∈ l := by
  constructor
  · intro h
    obtain ⟨y, hy, e⟩ := List.mem_map.1 h
    obtain ⟨c, d, rfl, hc, hd⟩ := hl y hy
    obtain ⟨e1, e2⟩ := pairLit_inj hc hd ha hb e
    rw [← e1, ← e2]; exact hy
  · intro h
    exact List.mem_map.2 ⟨[a, b], h, rfl⟩

theorem zeroB (w : World) : (zeroValue 4).run Tryd.prog w = .ok (.bool false) w := by kernel_rfl

theorem plainElem_bool_inv {P : Program} {e : TypeId} (he : P.underlying e = some .bool) {v : Value} {z : DataW Unit × List MemPlace} (h : plainElem P e v = some z) : ∃ a, v = .bool a ∧ z = (.lit (.bool a), []) := by
  unfold plainElem at h
  rw [he] at h
  cases v <;> simp at h
  exact ⟨_, rfl, h.symm⟩

theorem lookup_bool {P : Program} {k : TypeId} {w : World} {b n : Nat} {D : DataW Unit} {t e : TypeId} (h : w.ownsMap P k (plainElem P e) b n D) (K : Keyed P k) (ht : P.underlying t = some (.map k e)) (he : P.underlying e = some .bool) (hz : (zeroValue e).run P w = .ok (.bool false) w)
    {key : Value} {kl : Lit} (hkey : keyOf P k key = some kl) : ∃ c, (Instr.lookup t (.map (some b)) key false).run P w = .ok (.bool c) w ∧ D.atKey kl (.lit (.bool false)) = .lit (.bool c) := by
  obtain ⟨v, ps, hrun, hv⟩ := h.lookup K ht hz (plainElem_bool he false) hkey
  obtain ⟨c, rfl, hc⟩ := plainElem_bool_inv he hv
  simp only [Prod.mk.injEq] at hc
  exact ⟨c, hrun, hc.1⟩

set_option maxRecDepth 100000 in
theorem lookup_pair {w : World} {B n : Nat} {l : List (List Int)} {a b : Int} (h : w.ownsMap Tryd.prog 80 (plainElem Tryd.prog 4) B n (setP l)) (hl : ∀ y ∈ l, ∃ c d, y = [c, d] ∧ wfI c ∧ wfI d) (ha : wfI a) (hb : wfI b) :
    (Instr.lookup 78 (.map (some B)) (.agg #[.int .i64 a, .int .i64 b]) false).run Tryd.prog w = .ok (.bool (decide ([a, b] ∈ l))) w := by
  obtain ⟨c, hrun, hc⟩ := lookup_bool h pairLaw Tryd.underlying78 Tryd.underlying4 (zeroB w) (pair_key ha hb)
  have hs := setP_at l (pairLit a b)
  have hm := lit_mem hl ha hb
  rw [hrun]
  by_cases h2 : [a, b] ∈ l
  · rw [hs.1 (hm.2 h2)] at hc
    injection hc with hc
    injection hc with hc
    rw [← hc, decide_eq_true h2]
  · rw [hs.2 (fun h3 => h2 (hm.1 h3))] at hc
    injection hc with hc
    injection hc with hc
    rw [← hc, decide_eq_false h2]

theorem cmpTos_snoc (T : Tb) (l : List Mp) (m : Mp) : cmpTos T (l ++ [m]) = cmpTos T l ++ if compT T m.1 = true then [m.2] else [] := by
  simp only [cmpTos, List.filter_append, List.map_append, List.filter_cons, List.filter_nil]
  split <;> simp

theorem nodup_of_take {T : Tb} {l : List Mp} (k : Nat) (h : ¬ (cmpTos T (l.take k)).Nodup) : ¬ (cmpTos T l).Nodup := by
  intro hn
  apply h
  have e := List.take_append_drop k l
  rw [← e] at hn
  simp only [cmpTos, List.filter_append, List.map_append] at hn
  exact (List.nodup_append.1 hn).1

theorem nodup_snoc {l : List (List Int)} {y : List Int} (h : l.Nodup) (hy : y ∉ l) : (l ++ [y]).Nodup := by
  rw [List.nodup_append]
  exact ⟨h, by simp, fun a ha b hb => by rw [List.mem_singleton] at hb; subst hb; exact fun e => hy (e ▸ ha)⟩
theorem not_nodup_snoc {l : List (List Int)} {y : List Int} (hy : y ∈ l) : ¬ (l ++ [y]).Nodup := by
  rw [List.nodup_append]
  intro h
  exact h.2.2 y hy y (by simp) rfl

end Go.Proofs.YtmkaclfjekjabaaDoor
