/- A slice of spans that comes in: what the row's reading of it -/
import Derived.Test.YtopaojjodkoidaaGreatDoorSSmPkA
import Derived.Deep.Slices
import Derived.Deep.Fields
import Derived.ChangeSame
import Derived.Test.YtopaojjodkoidaaGreatDoorSSmPkB
import Derived.OpenShut
import Derived.SizedLaws
set_option linter.unusedSimpArgs false
set_option linter.unusedVariables false
namespace Go.Proofs.YtopaojjodkoidaaGreatDoor
open Go.RowKit Go.ChangeShapes Go.WideShapes Go.Deep
section
variable {H : Type} {enc : TypeId × Value → H} {P : Program} {w : World} {base : Nat} {spare : Nat → Bool} {held : Bool}
theorem open_fields_slice {t e : TypeId} {fs : Array Field} {fuel : Nat} {cs : List Value} {x : DataW H × List MemPlace} (ht : P.underlying t = some (.slice e)) (he : P.underlying e = some (.struct fs))
 (hone : oneCellFields P fs = true) (hC : P.cellsOf e = fs.size) (h : DataW.trod enc P w base spare held fuel t cs = some x) :
 cs = [.slice none 0 0] ∨
 ∃ (a : Addr) (len cap : Nat), cs = [.slice (some a) len cap] ∧ len ≤ cap ∧ cap ≤ maxLen ∧
  ∀ i, i < len → ∀ (j : Nat) (f : Field), fs[j]? = some f → ∃ (v : Value) (y : DataW H × List MemPlace) (n : Nat), w.cell? (a.add (i * fs.size + j)) = some v ∧ DataW.trod enc P w base spare held n f.type [v] = some y := by
 rcases open_slice ht h with h0 | ⟨a, len, cap, m, n, D, Pl, hcs, hb, hl, hm, hmm, hx, hi⟩
 ·exact .inl h0.1
 ·have hlm : len ≤ m := by rw [hmm]; split <;> omega
  refine .inr ⟨a, len, cap, hcs, hl, hm, fun i hil j f hj => ?_⟩
  obtain ⟨cs', hc, ht'⟩ := hi i (by omega)
  rw [hC] at hc
  obtain ⟨ys, n', hn', hy, hlen, hyl, hf⟩ := DataW.trod_struct he ht'
  obtain ⟨_, hcl, hat⟩ := World.cells?_some hc
  obtain ⟨ho, hk⟩ := hone_of hone j f hj
  have hjl : j < fs.size := (Array.getElem?_eq_some_iff.1 hj).1
  have hcell := hat j hjl
  have hv : cs'[j]? = some (cs'[j]'(by omega)) := List.getElem?_eq_getElem (by omega)
  have h1 := hf j f hj
  rw [ho, hk] at h1
  have hone' : (cs'.drop j).take 1 = [cs'[j]'(by omega)] := by
   rw [List.drop_eq_getElem_cons (by omega)]
   rfl
  rw [hone'] at h1
  have hys : ys[j]? = some (ys[j]'(by omega)) := List.getElem?_eq_getElem (by omega)
  refine ⟨_, _, n', ?_, h1.trans hys⟩
  rw [← add_add, hcell, hv]
end
def IsSpans (w : World) (a : Option Addr) (len cap : Nat) (l : List Sp) : Prop := l.length = len ∧ len ≤ maxLen ∧ len ≤ cap ∧ (a = none → cap = 0) ∧ SpIn w a l
theorem cell_spot {w : World} {a : Addr} {v : Value} (h : w.cell? a = some v) : a.spot = none := by
 unfold World.cell? at h
 split at h
 ·split at h
  ·cases h
  ·rename_i hh; simpa using hh
 ·cases h
theorem isSpans_arg {H : Type} {enc : TypeId × Value → H} {w : World} {base : Nat} {spare : Nat → Bool} {held : Bool} {fuel : Nat} {a : Option Addr} {len cap : Nat} {x : DataW H × List MemPlace}
 (h : DataW.trod enc Tryz.prog w base spare held fuel 23 [.slice a len cap] = some x) : ∃ l, IsSpans w a len cap l := by
 rcases open_fields_slice Tryz.underlying23 Tryz.underlying45 (by kernel_rfl) (by kernel_rfl) h with h0 | ⟨ad, l, c, h0, hl, hm, hc⟩
 ·simp at h0
  obtain ⟨rfl, rfl, rfl⟩ := h0
  exact ⟨[], rfl, by unfold maxLen; omega, Nat.le_refl _, fun _ => rfl, fun k hk => by simp at hk⟩
 ·simp at h0
  obtain ⟨rfl, rfl, rfl⟩ := h0
  have key : ∀ i, i < len → ∀ j, j < 3 → ∃ z : Int, w.cell? (ad.add (i * 3 + j)) = some (.int .i64 z) := by
   intro i hi j hj
   have hj' : j = 0 ∨ j = 1 ∨ j = 2 := by omega
   rcases hj' with rfl | rfl | rfl
   ·obtain ⟨v, y, n, h1, h2⟩ := hc i hi 0 _ rfl
    obtain ⟨z, h3, _⟩ := DataW.trod_int Tryz.underlying3 h2
    injection h3 with h3
    exact ⟨z, by rw [← h3]; exact h1⟩
   ·obtain ⟨v, y, n, h1, h2⟩ := hc i hi 1 _ rfl
    obtain ⟨z, h3, _⟩ := DataW.trod_int Tryz.underlying3 h2
    injection h3 with h3
    exact ⟨z, by rw [← h3]; exact h1⟩
   ·obtain ⟨v, y, n, h1, h2⟩ := hc i hi 2 _ rfl
    obtain ⟨z, h3, _⟩ := DataW.trod_int Tryz.underlying3 h2
    injection h3 with h3
    exact ⟨z, by rw [← h3]; exact h1⟩
  obtain ⟨F, hF⟩ := choose_lt (α := Sp) (n := len) (p := fun i s => w.cell? (ad.add (i * 3)) = some (.int .i64 s.1) ∧ w.cell? (ad.add (i * 3 + 1)) = some (.int .i64 s.2.1) ∧ w.cell? (ad.add (i * 3 + 2)) = some (.int .i64 s.2.2)) (fun i hi => by
   obtain ⟨z0, h0⟩ := key i hi 0 (by omega)
   obtain ⟨z1, h1⟩ := key i hi 1 (by omega)
   obtain ⟨z2, h2⟩ := key i hi 2 (by omega)
   exact ⟨(z0, z1, z2), h0, h1, h2⟩)
  refine ⟨(List.range len).map F, by simp, by omega, hl, fun e => (by cases e), fun k hk => ?_⟩
  have hk' : k < len := by simpa using hk
  obtain ⟨f0, f1, f2⟩ := hF k hk'
  have hd : ((List.range len).map F).getD k sp0 = F k := by simp [List.getD, hk']
  have hs : ad.spot = none := by
   have f00 := (hF 0 (by omega)).1
   rw [Nat.zero_mul, Addr.add_zero'] at f00
   exact cell_spot f00
  obtain ⟨b, off, sp⟩ := ad
  simp only at hs
  subst hs
  rw [Addr.add_lit] at f0 f1 f2
  rw [hd]
  exact ⟨b, off, rfl, f0, f1, f2⟩
section
variable {H : Type} {enc : TypeId × Value → H} {w : World} {base : Nat} {spare : Nat → Bool} {held : Bool}
theorem wAll_mem {P : Program} {e : TypeId} {d : DataW H} {l : List (DataW H)} (hx : d ∈ l) {n : Nat} (h : n ∈ d.weights P e) : n ∈ DataW.weightsAll P e l := by
 induction l with
 | nil => cases hx
 | cons a r ih =>
  rcases List.mem_cons.1 hx with rfl | hx
  ·simp only [DataW.weightsAll, List.mem_append]; exact .inl h
  ·simp only [DataW.weightsAll, List.mem_append]; exact .inr (ih hx)
def Wt (P : Program) (t : TypeId) (d : DataW H) : Prop := ∀ n ∈ d.weights P t, n ≤ reachBytes
theorem open_fields_w {P : Program} {t e : TypeId} {fs : Array Field} {fuel : Nat} {cs : List Value} {x : DataW H × List MemPlace} (ht : P.underlying t = some (.slice e)) (he : P.underlying e = some (.struct fs))
 (hone : oneCellFields P fs = true) (hC : P.cellsOf e = fs.size) (h : DataW.trod enc P w base spare held fuel t cs = some x) (hw : Wt P t x.1) :
 cs = [.slice none 0 0] ∨
 ∃ (a : Addr) (len cap : Nat), cs = [.slice (some a) len cap] ∧ len ≤ cap ∧ len * P.bytesOf e ≤ reachBytes ∧
  ∀ i, i < len → ∀ (j : Nat) (f : Field), fs[j]? = some f → ∃ (v : Value) (y : DataW H × List MemPlace) (n : Nat), w.cell? (a.add (i * fs.size + j)) = some v ∧ DataW.trod enc P w base spare held n f.type [v] = some y ∧ Wt P f.type y.1 := by
 rcases open_slice ht h with h0 | ⟨a, len, cap, m, n, D, Pl, hcs, hb, hl, hm, hmm, hx, hi⟩
 ·exact .inl h0.1
 ·have hlm : len ≤ m := by rw [hmm]; split <;> omega
  have hwt : (len + (m - len)) * P.bytesOf e ≤ reachBytes := hw _ (by rw [hx]; simp [DataW.weights, ht])
  refine .inr ⟨a, len, cap, hcs, hl, ?_, fun i hil j f hj => ?_⟩
  ·exact Nat.le_trans (Nat.mul_le_mul_right _ (by omega)) hwt
  obtain ⟨cs', hc, ht'⟩ := hi i (by omega)
  have hwi : Wt P e (D i) := fun k hk => hw k (by
   rw [hx]
   simp only [DataW.weights, ht, List.mem_cons, List.mem_append]
   exact .inr (.inl (wAll_mem (List.mem_map.2 ⟨i, List.mem_range.2 hil, rfl⟩) hk)))
  rw [hC] at hc
  obtain ⟨ys, n', hn', hy, hlen, hyl, hf⟩ := DataW.trod_struct he ht'
  obtain ⟨_, hcl, hat⟩ := World.cells?_some hc
  simp only [Prod.mk.injEq] at hy
  obtain ⟨ho, hk⟩ := hone_of hone j f hj
  have hjl : j < fs.size := (Array.getElem?_eq_some_iff.1 hj).1
  have hcell := hat j hjl
  have hv : cs'[j]? = some (cs'[j]'(by omega)) := List.getElem?_eq_getElem (by omega)
  have h1 := hf j f hj
  rw [ho, hk] at h1
  have hone' : (cs'.drop j).take 1 = [cs'[j]'(by omega)] := by
   rw [List.drop_eq_getElem_cons (by omega)]
   rfl
  rw [hone'] at h1
  have hys : ys[j]? = some (ys[j]'(by omega)) := List.getElem?_eq_getElem (by omega)
  refine ⟨_, _, n', ?_, h1.trans hys, fun k hk => hwi k ?_⟩
  ·rw [← add_add, hcell, hv]
  ·rw [hy.1]
   simp only [DataW.weights, he]
   refine DataW.weights_mem_each (j := j) (t := f.type) (d := (ys[j]'(by omega)).1) ?_ ?_ k hk
   ·simp [hj]
   ·simp [hys]
theorem spV_arg {fuel : Nat} {v : Value} {x : DataW H × List MemPlace} (h : DataW.trod enc Tryz.prog w base spare held fuel 23 [v] = some x) (hw : Wt Tryz.prog 23 x.1) : ∃ l, SpV w v l := by
 have hs : ∃ p n c, v = .slice p n c ∧ n * 24 ≤ reachBytes := by
  rcases open_fields_w Tryz.underlying23 Tryz.underlying45 (by kernel_rfl) (by kernel_rfl) h hw with h0 | ⟨a, len, cap, h0, _, h2, _⟩
  ·simp at h0; exact ⟨_, _, _, h0, by simp⟩
  ·simp at h0
   rw [show Tryz.prog.bytesOf 45 = 24 by kernel_rfl] at h2
   exact ⟨_, _, _, h0, h2⟩
 obtain ⟨p, n, c, rfl, hr⟩ := hs
 obtain ⟨l, h1, h2, _, _, h5⟩ := isSpans_arg h
 exact ⟨l, p, c, by rw [h1], h5, by rw [h1]; simp only [reachBytes] at hr; omega⟩
theorem inV_arg {fuel : Nat} {v : Value} {x : DataW H × List MemPlace} (h : DataW.trod enc Tryz.prog w base spare held fuel 22 [v] = some x) (hw : Wt Tryz.prog 22 x.1) : ∃ l, InV w v l := by
 rcases open_slice1 Tryz.underlying22 (by kernel_rfl) h with ⟨h0, _⟩ | ⟨a, len, cap, m, n, V, D, Pl, h0, _, hl, hm, hmm, hx, hc⟩
 ·simp at h0
  exact ⟨[], none, 0, h0, fun k hk => absurd hk (Nat.not_lt_zero _), by simp⟩
 ·simp at h0
  have hlm : len ≤ m := by rw [hmm]; split <;> omega
  have hwt : (len + (m - len)) * Tryz.prog.bytesOf 3 ≤ reachBytes := hw _ (by rw [hx]; simp [DataW.weights, Tryz.underlying22])
  rw [show Tryz.prog.bytesOf 3 = 8 by kernel_rfl] at hwt
  simp only [reachBytes] at hwt
  obtain ⟨F, hF⟩ := choose_lt (α := Int) (n := len) (p := fun i z => w.cell? (a.add i) = some (.int .i64 z)) (fun i hi => by
   obtain ⟨h1, h2⟩ := hc i (by omega)
   obtain ⟨z, h3, _⟩ := DataW.trod_int Tryz.underlying3 h2
   injection h3 with h3
   exact ⟨z, by rw [← h3]; exact h1⟩)
  refine ⟨(List.range len).map F, some a, cap, by simp [h0], fun k hk => ?_, by simp; omega⟩
  have hk' : k < len := by simpa using hk
  have f0 := hF k hk'
  have hd : ((List.range len).map F).getD k 0 = F k := by simp [List.getD, hk']
  have hs : a.spot = none := by
   have f00 := hF 0 (by omega)
   rw [Addr.add_zero'] at f00
   exact cell_spot f00
  obtain ⟨b, off, sp⟩ := a
  simp only at hs
  subst hs
  rw [Addr.add_lit] at f0
  rw [hd]
  exact ⟨b, off, rfl, f0⟩
theorem mpV_arg {fuel : Nat} {v : Value} {x : DataW H × List MemPlace} (h : DataW.trod enc Tryz.prog w base spare held fuel 24 [v] = some x) (hw : Wt Tryz.prog 24 x.1) :
 (∃ l, MpV w v l) ∧ ∀ p n c, v = .slice p n c → n ≤ c := by
 rcases open_fields_w Tryz.underlying24 Tryz.underlying47 (by kernel_rfl) (by kernel_rfl) h hw with h0 | ⟨a, len, cap, h0, hl, hm, hc⟩
 ·simp at h0
  subst h0
  exact ⟨⟨[], none, 0, rfl, fun k hk => absurd hk (Nat.not_lt_zero _), by simp⟩, fun p n c e => by injection e with _ e1 e2; omega⟩
 ·simp at h0
  subst h0
  rw [show Tryz.prog.bytesOf 47 = 32 by kernel_rfl] at hm
  simp only [reachBytes] at hm
  refine ⟨?_, fun p n c e => by injection e with _ e1 e2; omega⟩
  obtain ⟨F, hF⟩ := choose_lt (α := Mp) (n := len) (p := fun i s => w.cell? (a.add (i * 2)) = some (.int .i64 s.1) ∧ ∃ u, w.cell? (a.add (i * 2 + 1)) = some u ∧ InV w u s.2) (fun i hi => by
   obtain ⟨v0, y0, n0, h1, h2, _⟩ := hc i hi 0 _ rfl
   obtain ⟨z, h3, _⟩ := DataW.trod_int Tryz.underlying3 h2
   injection h3 with h3
   obtain ⟨v1, y1, n1, h4, h5, h5w⟩ := hc i hi 1 _ rfl
   obtain ⟨l, h6⟩ := inV_arg h5 h5w
   exact ⟨(z, l), by rw [← h3]; exact h1, v1, h4, h6⟩)
  refine ⟨(List.range len).map F, some a, cap, by simp, fun k hk => ?_, by simp; omega⟩
  have hk' : k < len := by simpa using hk
  obtain ⟨f0, u, f1, f2⟩ := hF k hk'
  have hd : ((List.range len).map F).getD k mp0 = F k := by simp [List.getD, hk']
  have hs : a.spot = none := by
   have f00 := (hF 0 (by omega)).1
   rw [Nat.zero_mul, Addr.add_zero'] at f00
   exact cell_spot f00
  obtain ⟨b, off, sp⟩ := a
  simp only at hs
  subst hs
  rw [Addr.add_lit] at f0 f1
  rw [hd]
  exact ⟨b, off, u, rfl, f0, f1, f2⟩
theorem open_agg_w {P : Program} {r : Reach} {b0 : Nat} {t : TypeId} {fs : Array Field} {v : Value} {d : DataW H} {p : List MemPlace} (hs : P.underlying t = some (.struct fs)) (hone : oneCellFields P fs = true) (hC : P.cellsOf t = fs.size)
 (hv : Value.okWide P w r b0 t v) (h : DataW.Trod enc P w base spare held t v d p) (hw : Wt P t d) :
 ∃ cs : Array Value, v = .agg cs ∧ cs.size = fs.size ∧ ∀ (j : Nat) (f : Field), fs[j]? = some f → ∃ (n : Nat) (u : Value) (y : DataW H × List MemPlace), cs[j]? = some u ∧ DataW.trod enc P w base spare held n f.type [u] = some y ∧ Wt P f.type y.1 := by
 obtain ⟨cs, rfl, hsz⟩ := okWide_struct hs hv
 obtain ⟨l⟩ := cs
 rw [hC] at hsz
 refine ⟨⟨l⟩, rfl, hsz, fun j f hj => ?_⟩
 obtain ⟨fuel, h⟩ := h
 obtain ⟨ys, n', hn', hy, hlen, hyl, hf⟩ := DataW.trod_struct hs h
 simp only [Prod.mk.injEq] at hy
 obtain ⟨ho, hk⟩ := hone_of hone j f hj
 have hjl : j < fs.size := (Array.getElem?_eq_some_iff.1 hj).1
 have hcl : l.length = fs.size := by simpa using hsz
 simp only [Value.cells] at hf
 have h1 := hf j f hj
 rw [ho, hk] at h1
 have hone' : (l.drop j).take 1 = [l[j]'(by omega)] := by
  rw [List.drop_eq_getElem_cons (by omega)]
  rfl
 rw [hone'] at h1
 have hys : ys[j]? = some (ys[j]'(by omega)) := List.getElem?_eq_getElem (by omega)
 refine ⟨n', l[j]'(by omega), _, by simp [show j < l.length by omega], h1.trans hys, fun k hk => hw k ?_⟩
 rw [hy.1]
 simp only [DataW.weights, hs]
 refine DataW.weights_mem_each (j := j) (t := f.type) (d := (ys[j]'(by omega)).1) ?_ ?_ k hk
 ·simp [hj]
 ·simp [hys]
set_option maxRecDepth 20000 in
theorem tables_arg {r : Reach} {b0 : Nat} {v : Value} {d : DataW H} {p : List MemPlace} (hv : Value.okWide Tryz.prog w r b0 26 v) (h : DataW.Trod enc Tryz.prog w base spare held 26 v d p)
 (hw : Wt Tryz.prog 26 d) :
 ∃ (x : TV) (T : Tb), v = x.agg ∧ TabV w x T ∧ ∀ p n c, x.a9 = .slice p n c → n ≤ c := by
 obtain ⟨cs, rfl, hsz, hf⟩ := open_agg_w Tryz.underlying26 (by kernel_rfl) (by kernel_rfl) hv h hw
 obtain ⟨n0, u0, y0, c0, t0, w0⟩ := hf 0 _ rfl
 obtain ⟨n1, u1, y1, c1, t1, w1⟩ := hf 1 _ rfl
 obtain ⟨n2, u2, y2, c2, t2, w2⟩ := hf 2 _ rfl
 obtain ⟨n3, u3, y3, c3, t3, w3⟩ := hf 3 _ rfl
 obtain ⟨n4, u4, y4, c4, t4, w4⟩ := hf 4 _ rfl
 obtain ⟨n5, u5, y5, c5, t5, w5⟩ := hf 5 _ rfl
 obtain ⟨n6, u6, y6, c6, t6, w6⟩ := hf 6 _ rfl
 obtain ⟨n7, u7, y7, c7, t7, w7⟩ := hf 7 _ rfl
 obtain ⟨n8, u8, y8, c8, t8, w8⟩ := hf 8 _ rfl
 obtain ⟨n9, u9, y9, c9, t9, w9⟩ := hf 9 _ rfl
 obtain ⟨n10, u10, y10, c10, t10, w10⟩ := hf 10 _ rfl
 obtain ⟨n11, u11, y11, c11, t11, w11⟩ := hf 11 _ rfl
 have hcs : cs = #[u0, u1, u2, u3, u4, u5, u6, u7, u8, u9, u10, u11] := by
  apply Array.ext
  ·exact hsz
  ·intro i h1 h2
   have hi : i < 12 := h2
   have : i = 0 ∨ i = 1 ∨ i = 2 ∨ i = 3 ∨ i = 4 ∨ i = 5 ∨ i = 6 ∨ i = 7 ∨ i = 8 ∨ i = 9 ∨ i = 10 ∨ i = 11 := by omega
   have key : ∀ u, cs[i]? = some u → cs[i]'h1 = u := fun u hu => by
    rw [Array.getElem?_eq_getElem h1] at hu; injection hu
   rcases this with rfl | rfl | rfl | rfl | rfl | rfl | rfl | rfl | rfl | rfl | rfl | rfl
   ·exact key _ c0
   ·exact key _ c1
   ·exact key _ c2
   ·exact key _ c3
   ·exact key _ c4
   ·exact key _ c5
   ·exact key _ c6
   ·exact key _ c7
   ·exact key _ c8
   ·exact key _ c9
   ·exact key _ c10
   ·exact key _ c11
 obtain ⟨l0, s0⟩ := spV_arg t0 w0
 obtain ⟨l1, s1⟩ := spV_arg t1 w1
 obtain ⟨l2, s2⟩ := spV_arg t2 w2
 obtain ⟨l3, s3⟩ := spV_arg t3 w3
 obtain ⟨l4, s4⟩ := spV_arg t4 w4
 obtain ⟨l5, s5⟩ := spV_arg t5 w5
 obtain ⟨l6, s6⟩ := spV_arg t6 w6
 obtain ⟨⟨l7, s7⟩, _⟩ := mpV_arg t7 w7
 obtain ⟨⟨l8, s8⟩, _⟩ := mpV_arg t8 w8
 obtain ⟨⟨l9, s9⟩, hcap⟩ := mpV_arg t9 w9
 obtain ⟨l10, s10⟩ := inV_arg t10 w10
 obtain ⟨⟨l11, s11⟩, _⟩ := mpV_arg t11 w11
 exact ⟨⟨u0, u1, u2, u3, u4, u5, u6, u7, u8, u9, u10, u11⟩, ⟨l0, l1, l2, l3, l4, l5, l6, l7, l8, l9, l10, l11⟩, by rw [hcs]; first | done | rfl, ⟨s0, s1, s2, s3, s4, s5, s6, s7, s8, s9, s10, s11⟩, hcap⟩
end
end Go.Proofs.YtopaojjodkoidaaGreatDoor
