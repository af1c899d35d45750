/-
  slices.Clone of spans; stream.normalizationTables.
  stream.Stream: End, Held, Push.
  The reference's Stream: End, Held, Push.
  stream.New, and the reference's NewStream.
-/
import Derived.Test.YtfmfifmmaihodaaGreatDoorSxPkZV
import Derived.Test.YtfmfifmmaihodaaGreatDoorSxTblD
import Derived.Test.YtfmfifmmaihodaaGreatDoorSxTblJ
import Derived.Test.YtfmfifmmaihodaaGreatDoorSxPkZT
import Derived.Deep.RegionHeld3
import Derived.Deep.RegionLaw
import Derived.Test.YtfmfifmmaihodaaGreatDoorSxPkS
import Derived.BigQuiet
import Derived.Test.YtfmfifmmaihodaaGreatDoorSxPkZU
set_option linter.unusedSimpArgs false
set_option linter.unusedVariables false
namespace Go.Proofs.YtfmfifmmaihodaaGreatDoor
open Go.RowKit
set_option linter.unusedVariables false

/-- A call that returns a new slice of spans. -/
def SRet (l : List Sp) (w : World) (e : Ending) (w' : World) : Prop := ∃ v, e = .returned v ∧ Spans w' w.heap.size v l ∧ Below w.heap.size w w'

set_option maxRecDepth 100000 in
set_option maxHeartbeats 1000000 in
theorem clones_own (v : Value) (xs : List Sp) (w : World) (hv : SpV w v xs) (hlx : xs.length ≤ 1000) :
    Calls Tryz.prog 61 #[v] w (SRet xs w) := by
  obtain ⟨p, c, rfl, hin, hl⟩ := hv
  have HI := Lib.hid hin
  cases p with
  | none =>
    have hx : xs = [] := by
      cases xs with
      | nil => rfl
      | cons y r => obtain ⟨_, _, e, _⟩ := hin 0 (by simp); cases e
    subst hx
    clear hin
    have hcmp : ∀ W, (binOp .eql 23 (.slice none 0 c) (.slice none 0 0)).run Tryz.prog W = .ok (.bool true) W := fun W => Lib.run_eql_slice_nil (P := Tryz.prog) W 23 50 none 0 c 0 0 Tryz.underlying23
    go_enter Tryz.func61, Tryz.ntmps61
    go_wp2
    go_ret
    exact ⟨_, rfl, Spans.nil _ _, Below.refl _ _⟩
  | some a =>
    have HE := Lib.hid (World.ownsRow_lit (base := w.heap.size) (e := 50) (size := 3) w #[] 0 (Nat.le_refl _) (by unfold maxLen; omega) rfl)
    have HB0 := Lib.hid ((Below.refl w.heap.size w).alloc (Nat.le_refl _) (.cells #[] 50))
    have HIa := Lib.hid (HI.out.below HB0.out)
    clear hin
    have hcmp : ∀ W, (binOp .eql 23 (.slice (some a) xs.length c) (.slice none 0 0)).run Tryz.prog W = .ok (.bool false) W := fun W => Lib.run_eql_slice_nil (P := Tryz.prog) W 23 50 (some a) xs.length c 0 0 Tryz.underlying23
    go_enter Tryz.func61, Tryz.ntmps61
    go_wp2_with (at_builtin; refine wpList_append_spans _ _ rfl rfl w.heap.size (.slice (some ⟨w.heap.size, 0, none⟩) 0 0) [] (by rfl) (by exact HE.out) (some a) xs.length c xs rfl (by rfl) (by exact HIa.out) (by simp; omega) (by simp) ?_; intro v1 w1 ho1 hg1)
    have hb1 := HB0.out.grown hg1 (by simp) (fun k e => by have e2 : some w.heap.size = some k := e; injection e2 with e2; omega)
    have ho2 : Spans w1 w.heap.size v1 xs := ho1
    obtain ⟨p1, c1, hv1, hin1⟩ := ho2.inn
    have HO := Lib.hid ho2
    have HB1 := Lib.hid hb1
    obtain ⟨n, hn⟩ : ∃ n, xs.length = n := ⟨_, rfl⟩
    rw [hn] at hv1
    subst hv1
    clear ho1 ho2 hg1 hin1 hb1 hn hl
    go_wp2
    go_ret
    exact ⟨_, rfl, HO.out, HB1.out⟩

/-- The block that make lays for c mappings. -/
def madeMp (c : Nat) : Obj := .cells (madeCells (Value.cells (.agg #[.int .i64 0, .slice none 0 0])) (c * 2)) 64
theorem run_make_maps (c : Nat) (hc : c ≤ 4194304) (w : World) :
    (Instr.makeSlice 24 (.int .i64 0) (.int .i64 (c : Int))).run Tryz.prog w = .ok (.slice (some ⟨w.heap.size, 0, none⟩) 0 c) (w.alloc (madeMp c)) := by
  obtain ⟨i0, hi, hz0, hz1, hz2⟩ := info_parts Tryz.infoMap
  have h := run_make_rowN (P := Tryz.prog) 24 64 i0 _ Tryz.underlying24 hi hz0 .i64 .i64 0 c (Nat.zero_le _) (by rw [hz2]; omega) (by omega) w
  rw [hz1] at h
  exact h

theorem BoxM.grownX {w w' : World} {g : Nat} {f : Int} {v : Value} {row : Option Nat} (h : BoxM w g f v) (hg : w.grownBy w' row) (hr : row ≠ some g) : BoxM w' g f v :=
  ⟨hg.cell h.1 (fun e => hr e.symm), hg.cell h.2 (fun e => hr e.symm)⟩
theorem own_map (p : Option Addr) (n c : Nat) : (Value.slice p n c).ownBlock = p.map (·.block) := by cases p <;> rfl

/-- What holds between the rounds: the first k mappings are copied. -/
structure NSt (W1 : World) (T : Tb) (k : Nat) (Q : List Mq) (v : Value) (wr : World) : Prop where
  hot : Hot wr W1.heap.size (fun b => W1.heap.size ≤ b ∧ v.ownBlock ≠ some b) v Q
  bel : Below W1.heap.size W1 wr
  map : Q.map (·.1) = T.dec.take k

theorem NSt.start (W1 : World) (T : Tb) (n : Nat) (hn : n ≤ 4194304) : NSt W1 T 0 [] (.slice (some ⟨W1.heap.size, 0, none⟩) 0 n) (W1.alloc (madeMp n)) :=
  ⟨⟨World.ownsRow_made W1 _ n (Nat.le_refl _) (by unfold maxLen; omega) (size_madeCells _ _), by simp⟩, (Below.refl _ _).alloc (Nat.le_refl _) _, rfl⟩

theorem NSt.below {W1 wr w' : World} {T : Tb} {k : Nat} {Q : List Mq} {v : Value} (h : NSt W1 T k Q v wr) (hb : Below wr.heap.size wr w') : NSt W1 T k Q v w' :=
  ⟨h.hot.keeps (Keeps.of_below hb) (fun b e hr => by have := World.ownsRow.lt h.hot.own b e; omega) (fun b hlt hr => absurd hr (by omega)), h.bel.trans (hb.mono h.bel.size), h.map⟩

theorem NSt.add {W1 wr w1 w2 w3 : World} {T : Tb} {k : Nat} {Q : List Mq} {v v' u : Value} {f : Int} {y : List Int} (h : NSt W1 T k Q v wr)
    (hb1 : Below wr.heap.size wr w1) (hu : Ints w1 wr.heap.size u y) (hl : y.length ≤ 1000) (hb2 : Below w1.heap.size w1 w2)
    (ho : w3.ownsRow W1.heap.size 64 2 v' (Q ++ [((f, y), u)]).length (cellsQ (Q ++ [((f, y), u)]))) (hg : w2.grownBy w3 v.ownBlock) (hv : v'.ownBlock = v.ownBlock ∨ v'.ownBlock = some w2.heap.size)
    (hk : T.dec.take (k + 1) = T.dec.take k ++ [(f, y)]) : NSt W1 T (k + 1) (Q ++ [((f, y), u)]) v' w3 := by
  have hz1 := hb1.size
  have hz2 := hb2.size
  have hz0 := h.bel.size
  have h9 := fun b hb => World.ownsRow.lt h.hot.own b hb
  have hb12 := hb1.trans (hb2.mono hz1)
  have hk1 : Keeps wr w3 (fun b => v.ownBlock = some b) := (Keeps.of_below hb12).trans (Keeps.of_grown hg) (fun b hb e => by omega) (fun _ _ e => e)
  have hk2 : Keeps w1 w3 (fun b => v.ownBlock = some b) := (Keeps.of_below hb2).trans (Keeps.of_grown hg) (fun b hb e => by omega) (fun _ _ e => e)
  have hnew : ∀ b, b < w2.heap.size → v.ownBlock ≠ some b → v'.ownBlock ≠ some b := by
    intro b hb hn e
    rcases hv with hv | hv
    · exact hn (by rw [← hv, e])
    · rw [hv] at e; injection e with e; omega
  refine ⟨⟨ho, ?_⟩, h.bel.trans (hk1.below h.bel.size (fun b hb e => (h9 b e).1)), by rw [List.map_append, h.map, hk]; rfl⟩
  intro q hq
  rcases List.mem_append.1 hq with hq | hq
  · have g1 := (h.hot.tos q hq).weak (Q := fun b => (W1.heap.size ≤ b ∧ v.ownBlock ≠ some b) ∧ b < wr.heap.size) (fun b hb e => ⟨e, hb⟩)
    have g2 := g1.keeps hk1 (fun b hb e hh => hh.1.2 e)
    exact g2.weak (fun b hb e => ⟨e.1.1, hnew b (by omega) e.1.2⟩)
  · rw [List.mem_singleton] at hq
    subst hq
    have g1 := (hu.inO hl).weak (Q := fun b => wr.heap.size ≤ b ∧ b < w1.heap.size) (fun b hb e => ⟨e, hb⟩)
    have g2 := g1.keeps hk2 (fun b hb e hh => by have := h9 b e; omega)
    exact g2.weak (fun b hb e => ⟨by omega, hnew b (by omega) (fun e2 => by have := h9 b e2; omega)⟩)

theorem TabP.norm {w : World} {P : Nat → Prop} {v1 v9 v10 : Value} {T : Tb} (h1 : SpO w P v1 T.cls) (h9 : MpO w P v9 T.dec) (h10 : InO w P v10 T.exc) :
    TabP w P ⟨.slice none 0 0, v1, .slice none 0 0, .slice none 0 0, .slice none 0 0, .slice none 0 0, .slice none 0 0, .slice none 0 0, .slice none 0 0, v9, v10, .slice none 0 0⟩ (nrmT T) := by
  intro W R hk hr
  exact ⟨noS W, (h1.keeps hk hr).1, noS W, noS W, noS W, noS W, noS W, noM W, noM W, (h9.keeps hk hr).mpv, (h10.keeps hk hr).1, noM W⟩

/-- What the three lists are behind the two calls. -/
structure NTwo (B : Nat) (w : World) (T : Tb) (v1 v9 v10 : Value) : Prop where
  one : SpO w (fun b => B ≤ b) v1 T.cls
  nine : MpO w (fun b => B ≤ b) v9 T.dec
  ten : InO w (fun b => B ≤ b) v10 T.exc
theorem NTwo.keeps {B : Nat} {w w' : World} {T : Tb} {v1 v9 v10 : Value} {R : Nat → Prop} (h : NTwo B w T v1 v9 v10) (hk : Keeps w w' R) (hr : ∀ k, k < w.heap.size → R k → ¬ B ≤ k) : NTwo B w' T v1 v9 v10 := ⟨h.one.keeps hk hr, h.nine.keeps hk hr, h.ten.keeps hk hr⟩
theorem NTwo.weak {B B' : Nat} {w : World} {T : Tb} {v1 v9 v10 : Value} (h : NTwo B w T v1 v9 v10) (hB : B' ≤ B) : NTwo B' w T v1 v9 v10 := ⟨h.one.weak (fun b _ hb => Nat.le_trans hB hb), h.nine.weak (fun b _ hb => Nat.le_trans hB hb), h.ten.weak (fun b _ hb => Nat.le_trans hB hb)⟩
theorem norm_two {B : Nat} {wr w4 w5 : World} {T : Tb} {n4 n5 : Nat} {v9 u4 u5 : Value} (hd : MpO wr (fun b => B ≤ b) v9 T.dec) (hs : B ≤ wr.drew.heap.size) (h4 : T.cls.length = n4) (h5 : T.exc.length = n5) (l4 : n4 ≤ 1000) (l5 : n5 ≤ 1000)
    (b4 : Below wr.drew.heap.size wr.drew w4) (hu4 : Spans w4 wr.drew.heap.size u4 T.cls) (b5 : Below w4.heap.size w4 w5) (hz : w4.heap.size ≤ w4.heap.size) (hu5 : Ints w5 w4.heap.size u5 T.exc) : NTwo B w5 T u4 v9 u5 := by
  have hs4 := b4.size
  refine ⟨((hu4.spO (by omega)).weak (Q := fun b => B ≤ b) (fun b _ hb => Nat.le_trans hs hb)).keeps (Keeps.of_below b5) (fun b hb e => absurd e (by omega)), ?_, (hu5.inO (by omega)).weak (fun b _ hb => by omega)⟩
  have h1 : MpO w4 (fun b => B ≤ b) v9 T.dec := (hd.keeps (Keeps.of_below (drew_one wr)) (fun b hb e => absurd e (by omega))).keeps (Keeps.of_below b4) (fun b hb e => absurd e (by omega))
  exact h1.keeps (Keeps.of_below b5) (fun b hb e => absurd e (by omega))
theorem norm_two' {B : Nat} {wr w4 w5 : World} {T : Tb} {n4 n5 : Nat} {v9 u4 u5 : Value} (hd : MpO wr (fun b => B ≤ b) v9 T.dec) (hs : B ≤ wr.drew.heap.size) (h4 : T.cls.length = n4) (h5 : T.exc.length = n5) (l4 : n4 ≤ 1000) (l5 : n5 ≤ 1000)
    (b4 : Below wr.drew.heap.size wr.drew w4) (hu5 : Ints w4 wr.drew.heap.size u5 T.exc) (b5 : Below w4.heap.size w4 w5) (hz : w4.heap.size ≤ w4.heap.size) (hu4 : Spans w5 w4.heap.size u4 T.cls) : NTwo B w5 T u4 v9 u5 := by
  have hs4 := b4.size
  refine ⟨(hu4.spO (by omega)).weak (fun b _ hb => by omega), ?_, ((hu5.inO (by omega)).weak (Q := fun b => B ≤ b) (fun b _ hb => Nat.le_trans hs hb)).keeps (Keeps.of_below b5) (fun b hb e => absurd e (by omega))⟩
  have h1 : MpO w4 (fun b => B ≤ b) v9 T.dec := (hd.keeps (Keeps.of_below (drew_one wr)) (fun b hb e => absurd e (by omega))).keeps (Keeps.of_below b4) (fun b hb e => absurd e (by omega))
  exact h1.keeps (Keeps.of_below b5) (fun b hb e => absurd e (by omega))

/-- What normalizationTables leaves: tables of its own. -/
def NormPost (T : Tb) (w : World) (e : Ending) (w' : World) : Prop :=
  ∃ p1 n1 c1 p9 n9 c9 p10 n10 c10, e = .returned (.agg #[.slice none 0 0, .slice p1 n1 c1, .slice none 0 0, .slice none 0 0, .slice none 0 0, .slice none 0 0, .slice none 0 0, .slice none 0 0, .slice none 0 0, .slice p9 n9 c9, .slice p10 n10 c10, .slice none 0 0]) ∧
    TabP w' (fun b => w.heap.size ≤ b) ⟨.slice none 0 0, .slice p1 n1 c1, .slice none 0 0, .slice none 0 0, .slice none 0 0, .slice none 0 0, .slice none 0 0, .slice none 0 0, .slice none 0 0, .slice p9 n9 c9, .slice p10 n10 c10, .slice none 0 0⟩ (nrmT T) ∧ Below w.heap.size w w'

set_option maxRecDepth 100000 in
set_option maxHeartbeats 8000000 in
theorem normTab_at (x : TV) (T : Tb) (w : World) (hx : TabV w x T) (h : checkT T = 0) :
    Calls Tryz.prog 36 #[x.agg] w (NormPost T w) := by
  obtain ⟨a0, a1, a2, a3, a4, a5, a6, a7, a8, a9, a10, a11⟩ := x
  obtain ⟨pm, cm, hm, hmin, hml⟩ := hx.dec
  obtain ⟨n, hn⟩ : ∃ n, T.dec.length = n := ⟨_, rfl⟩
  rw [hn] at hm hml
  simp only at hm
  subst hm
  have hr := rules9 h
  have hnle : n ≤ 256 := by rw [← hn]; exact (cmpH0 h).len
  have hne : T.exc.length ≤ 1000 ∧ T.cls.length ≤ 1000 ∧ ∀ m ∈ T.dec, m.2.length ≤ 1000 := norm_small h
  obtain ⟨W0, hW0⟩ : ∃ W0, w.alloc (.cells (tabCells ⟨a0, a1, a2, a3, a4, a5, a6, a7, a8, .slice pm n cm, a10, a11⟩) 26) = W0 := ⟨_, rfl⟩
  obtain ⟨W1, hW1⟩ : ∃ W1, W0.alloc (.cells nilC 26) = W1 := ⟨_, rfl⟩
  have e0 : Env w ⟨a0, a1, a2, a3, a4, a5, a6, a7, a8, .slice pm n cm, a10, a11⟩ T W0 := by rw [← hW0]; exact Env.new hx
  have s0 : W0.heap.size = w.heap.size + 1 := by rw [← hW0]; simp
  have s1 : W1.heap.size = w.heap.size + 2 := by rw [← hW1]; simp [s0]
  have r1 : BoxF W1 W0.heap.size (fun _ => .slice none 0 0) := by rw [← hW1]; exact BoxF.new W0 _
  have e1 : Env w ⟨a0, a1, a2, a3, a4, a5, a6, a7, a8, .slice pm n cm, a10, a11⟩ T W1 := e0.step (by rw [← hW1]; exact (Below.refl _ _).alloc (Nat.le_refl _) _)
  have HE := Lib.hid e1
  have HRB := Lib.hid r1
  have HS1 := Lib.hid s1
  have HS0 := Lib.hid s0
  have HMI := Lib.hid hmin
  have HN := Lib.hid hn
  have HNE := Lib.hid hne
  have HV := Lib.hid h
  have hst := NSt.start W1 T n (by omega)
  have HST := Lib.hid hst
  have hmk := run_make_maps n (by omega)
  simp only [TV.agg]
  simp only [tabCells] at hW0
  clear hx hmin hml hn hr hne e0 s0 s1 r1 e1 h hst
  go_enter Tryz.func36, Tryz.ntmps36
  go_upto_region 1 with (fail)
  clear hW0 hW1
  obtain ⟨⟨k0, k1, k2, k3, k4, k5⟩, ⟨k6, k7, k8, k9, k10, k11⟩⟩ := HE.out.box.load
  have k9b : (W1.alloc (madeMp n)).cell? ⟨w.heap.size, 9, none⟩ = some (.slice pm n cm) := (HE.out.step ((Below.refl _ _).alloc (Nat.le_refl _) (madeMp n))).at9
  go_wp2
  clear hmk k9b k0 k1 k2 k3 k4 k5 k6 k7 k8 k9 k10 k11
  go_loopw [3, 13] (fun v i wr => ∃ (k : Nat) (Q : List Mq), k ≤ n ∧ i = .int .i64 k ∧ Hid (NSt W1 T k Q v wr)) (fun _ i _ => n - (intOf i).toNat)
  case atStart => exact ⟨0, [], Nat.zero_le _, rfl, HST⟩
  case round =>
    obtain ⟨k, Q, hk, rfl, hns⟩ := hrel
    have HEk := Lib.hid (HE.out.step hns.out.bel)
    obtain ⟨pv, cv, hvs⟩ := hns.out.hot.slice
    have hql : Q.length = k := by
      have := congrArg List.length hns.out.map
      rw [List.length_map, List.length_take, HN.out] at this
      omega
    rw [hql] at hvs
    subst hvs
    have HQL := Lib.hid hql
    clear hql
    by_cases hlt : k < n
    · have hkl : k < T.dec.length := by rw [HN.out]; exact hlt
      obtain ⟨b, off, u0, rfl, hc1, hc2, qa, cq, rfl, hi2, hm2⟩ := (HMI.out.below HEk.out.bel) k hkl
      have hsn := take_snoc_mp T.dec k hkl
      have hmem := mp_getD_mem T.dec k hkl
      obtain ⟨⟨f, y⟩, hfy⟩ : ∃ s, T.dec.getD k mp0 = s := ⟨_, rfl⟩
      rw [hfy] at hc1 hc2 hi2 hm2 hsn hmem
      simp only at hc1 hc2 hi2 hm2
      have hyb := HNE.out.2.2 _ hmem
      simp only at hyb
      obtain ⟨m, hm3⟩ : ∃ m, y.length = m := ⟨_, rfl⟩
      have hb0 : Below wr.heap.size wr (wr.alloc (.cells #[.int .i64 f, .slice qa m cq] 64)) := (Below.refl _ _).alloc (Nat.le_refl _) _
      have HNb := Lib.hid ((hns.out.below hb0).below (drew_one _))
      have HBM := Lib.hid ((BoxM.new wr f (.slice qa m cq) 64).below (drew_one _))
      have HY1 := Lib.hid ((RowIn.alloc hi2 (.cells #[.int .i64 f, .slice qa m cq] 64)).below (drew_one _))
      have HG : Hid (pv.map (·.block) ≠ some wr.heap.size ∧ W1.heap.size ≤ wr.heap.size) := by
        have h9 := fun b hb => World.ownsRow.lt hns.out.hot.own b hb
        refine ⟨fun e => ?_, hns.out.bel.size⟩
        cases pv with
        | none => cases e
        | some a =>
          simp only [Option.map_some, Option.some.injEq] at e
          have := (h9 a.block rfl).2
          omega
      rw [hm3] at hc2 hm2 hyb
      have HM3 := Lib.hid hm3
      have HSN := Lib.hid hsn
      clear hfy hsn hmem hb0 hi2 hm3 hns
      go_upto_region 5 with (fail)
      clear hc1 hc2
      obtain ⟨W2, hW2⟩ : ∃ W2, (wr.alloc (.cells #[.int .i64 f, .slice qa m cq] 64)) = W2 := ⟨_, rfl⟩
      rw [hW2] at HNb HBM HY1 ⊢
      have hsz : wr.heap.size < W2.heap.size := by rw [← hW2]; simp
      clear hW2
      generalize wr.heap.size = gb at HBM HG hsz ⊢
      obtain ⟨m0, m1⟩ := HBM.out
      have HCL := Lib.hid (fun W (hi : IntsIn W qa y) => clone_own (.slice qa m cq) y W ⟨qa, cq, by rw [HM3.out], hi, by rw [HM3.out]; omega⟩)
      go_region_held3 (fun W => W.cell? ⟨gb, 0, none⟩ = some (.int .i64 f) ∧ W.cell? ⟨gb, 1, none⟩ = some (.slice qa m cq))
        (first
          | exact ⟨m0, m1⟩
          | exact ⟨(hb4.cell (p := ⟨gb, 0, none⟩) (World.block_lt_of_cell? _ _ m0)).trans m0, (hb4.cell (p := ⟨gb, 1, none⟩) (World.block_lt_of_cell? _ _ m1)).trans m1⟩
          | exact ⟨HZ5.out.1, HZ5.out.2⟩
          | exact ⟨(HZ4.out.below ((Below.refl _ _).alloc (Nat.le_refl _) _)).1, (HZ4.out.below ((Below.refl _ _).alloc (Nat.le_refl _) _)).2⟩)
        (first
          | (go_at_call 60; (with_reducible refine (HCL.out _ HY1.out).mono ?_); rintro e w4 ⟨u4, rfl, hu4, hb4⟩; have hus := hu4.inn; obtain ⟨p4, c4, eu4, hi4⟩ := hus; rw [HM3.out] at eu4; subst eu4; have HNu := Lib.hid (HNb.out.below hb4); have HZ4 := Lib.hid (HBM.out.below hb4))
          | (refine step_append_map (by rfl) (.tmp 17) (.tmp 24) (by rfl) W1.heap.size (.slice pv k cv) Q (by rfl) (World.ownsRow.alloc HNu.out.hot.own _) w4.heap.size 1 ((f, y), .slice p4 m c4) (by rfl) (by simp [World.cell?_alloc_new]) (by simp [World.cell?_alloc_new]) rfl (by rw [HQL.out]; omega) (by have := HNu.out.bel.size; simp; omega) ?_; intro v5 w5 ho5 hg5 hv5; have hn5 := HNb.out.add hb4 hu4 (by rw [HM3.out]; omega) ((Below.refl _ _).alloc (Nat.le_refl _) _) ho5 hg5 hv5 HSN.out; have HZ5 := Lib.hid ((HZ4.out.below ((Below.refl _ _).alloc (Nat.le_refl _) _)).grownX hg5 (by rw [own_map]; exact HG.out.1)))
          | fail)
      all_goals
        have HNN := Lib.hid hn5
        clear hn5 ho5 hg5 hv5
        go_wp2
        go_roundw
        case rel => exact ⟨k + 1, _, by omega, by go_num, HNN⟩
        case measure => simp [intOf]; omega
    · obtain rfl : k = n := by omega
      have hdec : Hid (MpO wr (fun b => W1.heap.size ≤ b) (.slice pv k cv) T.dec) := by
        have := hns.out.hot.mpO (Z := fun b => W1.heap.size ≤ b) (by rw [HQL.out]; omega) (fun b _ hb => hb.1) (fun b hb _ => hb)
        rwa [hns.out.map, List.take_of_length_le (Nat.le_of_eq HN.out)] at this
      have HDEC := Lib.hid hdec.out
      have HRw := Lib.hid ((HRB.out.below hns.out.bel).below (drew_one wr))
      have HED := Lib.hid (HEk.out.step (drew_one wr))
      have HBL := Lib.hid hns.out.bel
      obtain ⟨n4, hn4⟩ : ∃ n, T.cls.length = n := ⟨_, rfl⟩
      obtain ⟨n5, hn5⟩ : ∃ n, T.exc.length = n := ⟨_, rfl⟩
      have HN4 := Lib.hid hn4
      have HN5 := Lib.hid hn5
      have hl4 := HNE.out.2.1
      have hl5 := HNE.out.1
      rw [hn4] at hl4
      rw [hn5] at hl5
      have HL4 : Hid (T.cls.length ≤ 1000) := HNE.out.2.1
      clear hns hdec hn4 hn5
      have k1 := HEk.out.at1
      have k10 := HEk.out.at10
      go_wp2_with fail
      go_region_held3 (fun W => W.cell? ⟨w.heap.size, 1, none⟩ = some a1 ∧ W.cell? ⟨w.heap.size, 10, none⟩ = some a10)
        (first
          | with_reducible exact HSK.out
          | with_reducible exact ⟨HED.out.at1, HED.out.at10⟩
          | with_reducible exact ⟨HE4.out.at1, HE4.out.at10⟩
          | with_reducible exact ⟨HE5.out.at1, HE5.out.at10⟩)
        (first
          | (go_at_call 61; (with_reducible refine (clones_own a1 T.cls _ HED.out.tab.cls HL4.out).mono ?_); rintro e w4 ⟨u4, rfl, hu4, hb4⟩; obtain ⟨p4, c4, eu4, hi4⟩ := hu4.inn; rw [HN4.out] at eu4; subst eu4; have HE4 := Lib.hid (HED.out.step hb4))
          | (go_at_call 60; (with_reducible refine (clone_own a10 T.exc _ HE4.out.tab.exc).mono ?_); rintro e w5 ⟨u5, rfl, hu5, hb5⟩; obtain ⟨p5, c5, eu5, hi5⟩ := hu5.inn; rw [HN5.out] at eu5; subst eu5; have HE5 := Lib.hid (HE4.out.step hb5); have HBF := Lib.hid ((HRw.out.below hb4).below hb5); obtain ⟨s0, t0⟩ := HBF.out 0 (by omega); obtain ⟨s1, t1⟩ := HBF.out 1 (by omega); obtain ⟨s2, t2⟩ := HBF.out 2 (by omega); obtain ⟨s3, t3⟩ := HBF.out 3 (by omega); obtain ⟨s4, t4⟩ := HBF.out 4 (by omega); obtain ⟨s5, t5⟩ := HBF.out 5 (by omega); obtain ⟨s6, t6⟩ := HBF.out 6 (by omega); obtain ⟨s7, t7⟩ := HBF.out 7 (by omega); obtain ⟨s8, t8⟩ := HBF.out 8 (by omega); obtain ⟨s9, t9⟩ := HBF.out 9 (by omega); obtain ⟨s10, t10⟩ := HBF.out 10 (by omega); obtain ⟨s11, t11⟩ := HBF.out 11 (by omega); have HST5 := Lib.hid (store12 w5 W0.heap.size (.slice none 0 0) (.slice p4 n4 c4) (.slice none 0 0) (.slice none 0 0) (.slice none 0 0) (.slice none 0 0) (.slice none 0 0) (.slice none 0 0) (.slice none 0 0) (.slice pv k cv) (.slice p5 n5 c5) (.slice none 0 0) HBF.out); have HSK : Hid ((World.setCell (World.setCell (World.setCell (World.setCell (World.setCell (World.setCell (World.setCell (World.setCell (World.setCell (World.setCell (World.setCell (World.setCell w5 ⟨W0.heap.size, 0, none⟩ (.slice none 0 0)) ⟨W0.heap.size, 1, none⟩ (.slice p4 n4 c4)) ⟨W0.heap.size, 2, none⟩ (.slice none 0 0)) ⟨W0.heap.size, 3, none⟩ (.slice none 0 0)) ⟨W0.heap.size, 4, none⟩ (.slice none 0 0)) ⟨W0.heap.size, 5, none⟩ (.slice none 0 0)) ⟨W0.heap.size, 6, none⟩ (.slice none 0 0)) ⟨W0.heap.size, 7, none⟩ (.slice none 0 0)) ⟨W0.heap.size, 8, none⟩ (.slice none 0 0)) ⟨W0.heap.size, 9, none⟩ (.slice pv k cv)) ⟨W0.heap.size, 10, none⟩ (.slice p5 n5 c5)) ⟨W0.heap.size, 11, none⟩ (.slice none 0 0)).cell? ⟨w.heap.size, 1, none⟩ = some a1 ∧ (World.setCell (World.setCell (World.setCell (World.setCell (World.setCell (World.setCell (World.setCell (World.setCell (World.setCell (World.setCell (World.setCell (World.setCell w5 ⟨W0.heap.size, 0, none⟩ (.slice none 0 0)) ⟨W0.heap.size, 1, none⟩ (.slice p4 n4 c4)) ⟨W0.heap.size, 2, none⟩ (.slice none 0 0)) ⟨W0.heap.size, 3, none⟩ (.slice none 0 0)) ⟨W0.heap.size, 4, none⟩ (.slice none 0 0)) ⟨W0.heap.size, 5, none⟩ (.slice none 0 0)) ⟨W0.heap.size, 6, none⟩ (.slice none 0 0)) ⟨W0.heap.size, 7, none⟩ (.slice none 0 0)) ⟨W0.heap.size, 8, none⟩ (.slice none 0 0)) ⟨W0.heap.size, 9, none⟩ (.slice pv k cv)) ⟨W0.heap.size, 10, none⟩ (.slice p5 n5 c5)) ⟨W0.heap.size, 11, none⟩ (.slice none 0 0)).cell? ⟨w.heap.size, 10, none⟩ = some a10) := ⟨HST5.out.2.cell HE5.out.at1 (by have := HS0.out; simp; omega), HST5.out.2.cell HE5.out.at10 (by have := HS0.out; simp; omega)⟩; have HOO := Lib.hid (norm_two HDEC.out HBL.out.size HN4.out HN5.out hl4 hl5 hb4 hu4 hb5 (Nat.le_refl _) hu5))
          | (go_at_call 60; (with_reducible refine (clone_own a10 T.exc _ HED.out.tab.exc).mono ?_); rintro e w5 ⟨u5, rfl, hu5, hb5⟩; obtain ⟨p5, c5, eu5, hi5⟩ := hu5.inn; rw [HN5.out] at eu5; subst eu5; have HE5 := Lib.hid (HED.out.step hb5))
          | (go_at_call 61; (with_reducible refine (clones_own a1 T.cls _ HE5.out.tab.cls HL4.out).mono ?_); rintro e w4 ⟨u4, rfl, hu4, hb4⟩; obtain ⟨p4, c4, eu4, hi4⟩ := hu4.inn; rw [HN4.out] at eu4; subst eu4; have HE4 := Lib.hid (HE5.out.step hb4); have HBF := Lib.hid ((HRw.out.below hb5).below hb4); obtain ⟨s0, t0⟩ := HBF.out 0 (by omega); obtain ⟨s1, t1⟩ := HBF.out 1 (by omega); obtain ⟨s2, t2⟩ := HBF.out 2 (by omega); obtain ⟨s3, t3⟩ := HBF.out 3 (by omega); obtain ⟨s4, t4⟩ := HBF.out 4 (by omega); obtain ⟨s5, t5⟩ := HBF.out 5 (by omega); obtain ⟨s6, t6⟩ := HBF.out 6 (by omega); obtain ⟨s7, t7⟩ := HBF.out 7 (by omega); obtain ⟨s8, t8⟩ := HBF.out 8 (by omega); obtain ⟨s9, t9⟩ := HBF.out 9 (by omega); obtain ⟨s10, t10⟩ := HBF.out 10 (by omega); obtain ⟨s11, t11⟩ := HBF.out 11 (by omega); have HST5 := Lib.hid (store12 w4 W0.heap.size (.slice none 0 0) (.slice p4 n4 c4) (.slice none 0 0) (.slice none 0 0) (.slice none 0 0) (.slice none 0 0) (.slice none 0 0) (.slice none 0 0) (.slice none 0 0) (.slice pv k cv) (.slice p5 n5 c5) (.slice none 0 0) HBF.out); have HSK : Hid ((World.setCell (World.setCell (World.setCell (World.setCell (World.setCell (World.setCell (World.setCell (World.setCell (World.setCell (World.setCell (World.setCell (World.setCell w4 ⟨W0.heap.size, 0, none⟩ (.slice none 0 0)) ⟨W0.heap.size, 1, none⟩ (.slice p4 n4 c4)) ⟨W0.heap.size, 2, none⟩ (.slice none 0 0)) ⟨W0.heap.size, 3, none⟩ (.slice none 0 0)) ⟨W0.heap.size, 4, none⟩ (.slice none 0 0)) ⟨W0.heap.size, 5, none⟩ (.slice none 0 0)) ⟨W0.heap.size, 6, none⟩ (.slice none 0 0)) ⟨W0.heap.size, 7, none⟩ (.slice none 0 0)) ⟨W0.heap.size, 8, none⟩ (.slice none 0 0)) ⟨W0.heap.size, 9, none⟩ (.slice pv k cv)) ⟨W0.heap.size, 10, none⟩ (.slice p5 n5 c5)) ⟨W0.heap.size, 11, none⟩ (.slice none 0 0)).cell? ⟨w.heap.size, 1, none⟩ = some a1 ∧ (World.setCell (World.setCell (World.setCell (World.setCell (World.setCell (World.setCell (World.setCell (World.setCell (World.setCell (World.setCell (World.setCell (World.setCell w4 ⟨W0.heap.size, 0, none⟩ (.slice none 0 0)) ⟨W0.heap.size, 1, none⟩ (.slice p4 n4 c4)) ⟨W0.heap.size, 2, none⟩ (.slice none 0 0)) ⟨W0.heap.size, 3, none⟩ (.slice none 0 0)) ⟨W0.heap.size, 4, none⟩ (.slice none 0 0)) ⟨W0.heap.size, 5, none⟩ (.slice none 0 0)) ⟨W0.heap.size, 6, none⟩ (.slice none 0 0)) ⟨W0.heap.size, 7, none⟩ (.slice none 0 0)) ⟨W0.heap.size, 8, none⟩ (.slice none 0 0)) ⟨W0.heap.size, 9, none⟩ (.slice pv k cv)) ⟨W0.heap.size, 10, none⟩ (.slice p5 n5 c5)) ⟨W0.heap.size, 11, none⟩ (.slice none 0 0)).cell? ⟨w.heap.size, 10, none⟩ = some a10) := ⟨HST5.out.2.cell HE4.out.at1 (by have := HS0.out; simp; omega), HST5.out.2.cell HE4.out.at10 (by have := HS0.out; simp; omega)⟩; have HOO := Lib.hid (norm_two' HDEC.out HBL.out.size HN4.out HN5.out hl4 hl5 hb5 hu5 hb4 (Nat.le_refl _) hu4))
          | fail)
      all_goals
        obtain ⟨hbF, hkF⟩ := HST5.out
        have hoF := (HOO.out.keeps hkF (fun b hb e => by have := HS0.out; have := HS1.out; omega)).weak (B' := w.heap.size) (by have := HS1.out; omega)
        have hbel := HE5.out.bel.trans (hkF.below HE5.out.bel.size (fun b _ e => by have := HS0.out; omega))
        clear HSK HST5 HBF s0 t0 s1 t1 s2 t2 s3 t3 s4 t4 s5 t5 s6 t6 s7 t7 s8 t8 s9 t9 s10 t10 s11 t11
        generalize (World.setCell (World.setCell (World.setCell (World.setCell (World.setCell (World.setCell (World.setCell (World.setCell (World.setCell (World.setCell (World.setCell (World.setCell w5 ⟨W0.heap.size, 0, none⟩ (.slice none 0 0)) ⟨W0.heap.size, 1, none⟩ (.slice p4 n4 c4)) ⟨W0.heap.size, 2, none⟩ (.slice none 0 0)) ⟨W0.heap.size, 3, none⟩ (.slice none 0 0)) ⟨W0.heap.size, 4, none⟩ (.slice none 0 0)) ⟨W0.heap.size, 5, none⟩ (.slice none 0 0)) ⟨W0.heap.size, 6, none⟩ (.slice none 0 0)) ⟨W0.heap.size, 7, none⟩ (.slice none 0 0)) ⟨W0.heap.size, 8, none⟩ (.slice none 0 0)) ⟨W0.heap.size, 9, none⟩ (.slice pv k cv)) ⟨W0.heap.size, 10, none⟩ (.slice p5 n5 c5)) ⟨W0.heap.size, 11, none⟩ (.slice none 0 0)) = WF at hbF hkF hoF hbel ⊢
        obtain ⟨⟨Q0, Q1, Q2, Q3, Q4, Q5⟩, ⟨Q6, Q7, Q8, Q9, Q10, Q11⟩⟩ := hbF.load
        simp only at Q0 Q1 Q2 Q3 Q4 Q5 Q6 Q7 Q8 Q9 Q10 Q11
        go_wp2
        refine bodyPost_ret (v := .agg #[.slice none 0 0, .slice p4 n4 c4, .slice none 0 0, .slice none 0 0, .slice none 0 0, .slice none 0 0, .slice none 0 0, .slice none 0 0, .slice none 0 0, .slice pv k cv, .slice p5 n5 c5, .slice none 0 0]) (by simp [results, Tryz.results36, go_sem, Q0, Q1, Q2, Q3, Q4, Q5, Q6, Q7, Q8, Q9, Q10, Q11]) rfl ?_
        exact ⟨_, _, _, _, _, _, _, _, _, rfl, TabP.norm hoF.one hoF.nine hoF.ten, hbel⟩

end Go.Proofs.YtfmfifmmaihodaaGreatDoor

namespace Go.Proofs.YtfmfifmmaihodaaGreatDoor
open Go.RowKit
set_option linter.unusedVariables false

theorem own_cut (p : Option Addr) (n m cap : Nat) : (Value.slice p m cap).ownBlock = (Value.slice p n cap).ownBlock := by cases p <;> rfl

theorem StrV.kept13 {w w' : World} {lo hi s : Nat} {x : TV} {T : Tb} {m c : Nat} {v : Value} {H : List Int} (h : StrV w lo hi s x T m c v H) (hg : w.grownBy w' v.ownBlock) :
    w'.cell? ⟨s, 13, none⟩ = some v ∧ w'.frozen? ⟨s, 13, none⟩ = false := by
  have hsc := h.sc
  have hn : v.ownBlock ≠ some s := fun e => by have := (h.hlt s e).1; omega
  exact ⟨hg.cell h.held (fun e => hn e.symm), (World.frozen?_of_block (a := ⟨s, 13, none⟩) (hg.block s h.lt (fun e => hn e.symm))).trans h.frz⟩

/-- What Push leaves behind the append. -/
theorem StrV.pushed {w0 w w' : World} {lo hi s : Nat} {x : TV} {T : Tb} {m c : Nat} {v0 v u : Value} {H L : List Int} {R : Nat → Prop} (h : StrV w lo hi s x T m c v H) (z : Int)
    (ho : Ints w' c u L) (hl : L.length ≤ m) (hg : (w.alloc (.cells #[.int .i64 z] 3)).grownBy w' v.ownBlock) (hv : u.ownBlock = v.ownBlock ∨ u.ownBlock = some (w.alloc (.cells #[.int .i64 z] 3)).heap.size)
    (hk : Keeps w0 w (fun k => k = s)) (hw : w0.heap.size ≤ w.heap.size) (hvv : ∀ b, v.ownBlock = some b → v0.ownBlock = some b) :
    StrV (w'.setCell ⟨s, 13, none⟩ u) lo hi s x T m c u L ∧ Keeps w0 (w'.setCell ⟨s, 13, none⟩ u) (fun k => k = s ∨ v0.ownBlock = some k) ∧ (∀ b, b < w0.heap.size → v0.ownBlock ≠ some b → u.ownBlock ≠ some b) ∧
      (∀ q l B, Ints w B q l → (∀ b, q.ownBlock = some b → b ≠ s ∧ v.ownBlock ≠ some b) → Ints (w'.setCell ⟨s, 13, none⟩ u) B q l) := by
  have ha : Below w.heap.size w (w.alloc (.cells #[.int .i64 z] 3)) := (Below.refl _ _).alloc (Nat.le_refl _) _
  have h1 := h.below ha
  have hk1 : Keeps w w' (fun k => v.ownBlock = some k) := (Keeps.of_below ha).trans (Keeps.of_grown hg) (fun b hb e => absurd e (by omega)) (fun _ _ e => e)
  have hk2 : Keeps w (w'.setCell ⟨s, 13, none⟩ u) (fun k => k = s ∨ v.ownBlock = some k) := hk1.trans (Keeps.store w' s 13 u) (fun _ _ e => .inr e) (fun _ _ e => .inl e)
  refine ⟨h1.grown hg u L ho hl, hk.trans hk2 (fun _ _ e => .inl e) (fun b _ e => e.elim .inl (fun e => .inr (hvv b e))), fun b hb hn e => ?_, fun q l B hq hd => hk2.owns hq (fun b e r => r.elim (hd b e).1 (hd b e).2)⟩
  rcases hv with hv | hv
  · exact hn (hvv b (by rw [← hv, e]))
  · rw [hv] at e
    injection e with e
    simp at e
    omega

set_option maxRecDepth 100000 in
set_option maxHeartbeats 4000000 in
theorem end_at (lo hi s : Nat) (x : TV) (T : Tb) (m c : Nat) (v : Value) (H O : List Int) (w : World) (h : StrV w lo hi s x T m c v H) (hr : Rsv w) (hO : Hid (nfcL T H = O)) :
    Calls Tryz.prog 23 #[.pointer (some ⟨s, 0, none⟩)] w (EndPost lo hi s x T m c v O w) := by
  obtain ⟨E, hE⟩ : ∃ E, Hid (nfdE T H = E) := ⟨_, rfl⟩
  have hlen := h.len
  have hbig := h.big
  obtain ⟨p, cap, rfl, hin⟩ := h.own.inn
  obtain ⟨n, hn⟩ : ∃ n, H.length = n := ⟨_, rfl⟩
  have hnf := fun W (h1 : TabV W x T) h2 h3 => (show Calls Tryz.prog 47 #[x.agg, .slice p H.length cap] W (LRet O E W) from nfc_at x T p cap H E O W h1 h2 h3 (by omega) hE hO)
  rw [hn] at h hnf ⊢
  have hd0 : Hid (Below w.heap.size w w.drew) := drew_one w
  have HS := Lib.hid h
  have HS0 := Lib.hid (h.below hd0.out)
  have HI0 := Lib.hid (hin.below hd0.out)
  have HNF := Lib.hid hnf
  have HR := Lib.hid hr
  have hcn := row_cap h.own rfl
  clear h hin hnf hn hlen hbig hE hO
  obtain ⟨⟨k0, k1, k2, k3, k4, k5⟩, ⟨k6, k7, k8, k9, k10, k11⟩⟩ := HS.out.box.load
  have k13 := HS.out.held
  go_enter Tryz.func23, Tryz.ntmps23
  go_upto_region 1 with (fail)
  go_region_held3 (fun W => boxF s x W ∧ W.cell? ⟨s, 13, none⟩ = some (.slice p n cap))
    (first
      | exact ⟨HS0.out.box.flat, HS0.out.held⟩
      | exact ⟨(HS0.out.below hb3).box.flat, (HS0.out.below hb3).held⟩)
    (first
      | (go_at_call 47; (with_reducible refine (HNF.out _ HS0.out.tab.tab (HR.out.below hd0.out) HI0.out).mono ?_); rintro e w3 ⟨v3, rfl, ho3, hb3⟩)
      | fail)
  all_goals
    have HS3 := Lib.hid (HS0.out.below hb3)
    have HO3 := Lib.hid ho3
    have HB3 := Lib.hid (hd0.out.trans hb3)
    have q13 := HS3.out.held
    have qf := HS3.out.frz
    clear ho3 hb3 k0 k1 k2 k3 k4 k5 k6 k7 k8 k9 k10 k11 k13
    go_wp2
    go_ret
    have hslt := HS.out.lt
    refine ⟨v3, .slice p 0 cap, rfl, (Keeps.store w3 s 13 (.slice p 0 cap)).owns HO3.out (fun b e r => ?_), HS3.out.set HS3.out.own.cut0 (Nat.zero_le _), (Keeps.of_below HB3.out).trans (Keeps.store w3 s 13 (.slice p 0 cap)) (fun b hb e => absurd e (by omega)) (fun _ _ e => e), fun b e => ?_⟩
    · have := (World.ownsRow.lt HO3.out b e).1
      have e2 : w.drew.heap.size = w.heap.size := rfl
      omega
    · rw [← own_cut p n 0 cap]; exact e

theorem held_at (lo hi s : Nat) (x : TV) (T : Tb) (m c : Nat) (v : Value) (H : List Int) (n : Nat) (w : World) (h : StrV w lo hi s x T m c v H) (hn : Hid (H.length = n)) :
    Calls Tryz.prog 21 #[.pointer (some ⟨s, 0, none⟩)] w (Gives (.int .i64 n) w) := by
  obtain ⟨p, cap, rfl, hin⟩ := h.own.inn
  rw [hn.out] at h
  have HS := Lib.hid h
  have k13 := HS.out.held
  clear h hin
  go_enter Tryz.func21, Tryz.ntmps21
  go_wp2
  go_ret
  exact ⟨rfl, Below.refl _ _⟩

set_option maxRecDepth 100000 in
set_option maxHeartbeats 4000000 in
theorem push_at (lo hi s : Nat) (x : TV) (T : Tb) (m c : Nat) (v : Value) (H : List Int) (z : Int) (H' O : List Int) (E : Int) (w : World) (h : StrV w lo hi s x T m c v H) (hr : Rsv w) (hc : c ≤ w.heap.size) (hp : Hid (pushT T m H z = (H', O, E))) :
    Calls Tryz.prog 18 #[.pointer (some ⟨s, 0, none⟩), .int .i64 z] w (PushPost lo hi s x T m c v H' O E w) := by
  have hlen := h.len
  have hbig := h.big
  have hone := h.one
  obtain ⟨p, cap, rfl, hin⟩ := h.own.inn
  obtain ⟨n, hn⟩ : ∃ n, H.length = n := ⟨_, rfl⟩
  rw [hn] at h hlen ⊢
  have HS := Lib.hid h
  have HN := Lib.hid hn
  have HR := Lib.hid hr
  clear h hin hn
  rcases push_cases T m H z with ⟨h1, h2⟩ | ⟨h1, hB, h2⟩ | ⟨h1, hB, h3, h2⟩ | ⟨h1, hB, h3, h2⟩
  · have hpp := hp.out
    rw [h2] at hpp
    simp only [Prod.mk.injEq] at hpp
    obtain ⟨rfl, rfl, rfl⟩ := hpp
    clear h2 hp
    have H1 : Hid (scaB z = false) := h1
    clear h1
    go_enter Tryz.func18, Tryz.ntmps18
    go_wp2_with fail
    refine (len_any z _).mono ?_
    rintro e w1 ⟨q, rfl, hq, rfl⟩
    have dq : (q == 0) = true := by simp [hq.2 H1.out]
    clear hq
    go_wp2
    go_ret2
    exact ⟨_, _, rfl, Ints.nil _ _, HS.out, Keeps.refl _ _, fun _ _ h => h⟩
  · have hpp := hp.out
    rw [h2] at hpp
    simp only [Prod.mk.injEq] at hpp
    obtain ⟨rfl, hO, rfl⟩ := hpp
    have HO : Hid (nfcL T H = O) := hO
    have HB : Hid (bndT T z = true) := hB
    have H1 : Hid (scaB z = true) := h1
    clear h1 h2 hp hO hB
    obtain ⟨⟨k0, k1, k2, k3, k4, k5⟩, ⟨k6, k7, k8, k9, k10, k11⟩⟩ := HS.out.box.load
    go_enter Tryz.func18, Tryz.ntmps18
    go_wp2_with fail
    refine (len_any z _).mono ?_
    rintro e w1 ⟨q, rfl, hq, rfl⟩
    have dq : (q == 0) = false := by
      have : q ≠ 0 := fun e => by have h1 := hq.1 e; rw [H1.out] at h1; cases h1
      simp [this]
    clear hq
    go_wp2_with fail
    refine (boundary_at x T z true _ HS.out.tab.tab HR.out HB).mono ?_
    rintro e w2 ⟨rfl, hb2⟩
    have HS2 := Lib.hid (HS.out.below hb2)
    have HR2 := Lib.hid (HR.out.below hb2)
    have HB2 := Lib.hid hb2
    clear hb2 k0 k1 k2 k3 k4 k5 k6 k7 k8 k9 k10 k11
    go_wp2_with fail
    refine (end_at lo hi s x T m c _ H O _ HS2.out HR2.out HO).mono ?_
    rintro e w3 ⟨u3, v3, rfl, hu3, hs3, hk3, hv3⟩
    have HS3 := Lib.hid hs3
    have HU3 := Lib.hid hu3
    have HK3 := Lib.hid hk3
    have HV3 := Lib.hid hv3
    clear hu3 hs3 hk3 hv3
    have q13 := HS3.out.held
    have HA3 : Hid (Ints (w3.alloc (.cells #[.int .i64 z] 3)) c v3 []) := Ints.alloc HS3.out.own _
    have hsz : c ≤ (w3.alloc (.cells #[.int .i64 z] 3)).heap.size := by have h1 := HB2.out.size; have h2 := HK3.out.size; simp; omega
    go_wp2_with (at_builtin; refine wpList_append_one _ _ rfl rfl c v3 [] (by rfl) (by exact HA3.out) _ 1 z (by rfl) (by simp [World.cell?_alloc_new]) (by simp) hsz ?_
                 intro v5 w5 ho5 hg5 hv5
                 obtain ⟨p5, n5, c5, rfl⟩ := row_slice ho5
                 have hkp := (HS3.out.below ((Below.refl _ _).alloc (Nat.le_refl _) (.cells #[.int .i64 z] 3))).kept13 hg5
                 obtain ⟨q5, f5⟩ := hkp
                 have HPU := Lib.hid (HS3.out.pushed (w0 := w) (v0 := .slice p n cap) (R := fun _ => True) z ho5 (by simp; omega) hg5 hv5 ((Keeps.of_below HB2.out).trans HK3.out (fun b hb e => absurd e (by omega)) (fun _ _ e => e)) (Nat.le_trans HB2.out.size HK3.out.size) HV3.out))
    clear ho5 hg5 hv5
    go_wp2
    go_ret2
    have hst := HS2.out.lt
    refine ⟨_, _, rfl, HPU.out.2.2.2 _ _ _ (Ints.mono HU3.out HB2.out.size) (fun b e => ?_), HPU.out.1, HPU.out.2.1, HPU.out.2.2.1⟩
    have e1 := (World.ownsRow.lt HU3.out b e).1
    exact ⟨by omega, fun e2 => by have := (HS2.out.hlt b (HV3.out b e2)).2; omega⟩
  · have hpp := hp.out
    rw [h2] at hpp
    simp only [Prod.mk.injEq] at hpp
    obtain ⟨rfl, rfl, rfl⟩ := hpp
    have HB : Hid (bndT T z = false) := hB
    have H1 : Hid (scaB z = true) := h1
    rw [HN.out] at h3
    clear h1 h2 hp hB
    obtain ⟨⟨k0, k1, k2, k3, k4, k5⟩, ⟨k6, k7, k8, k9, k10, k11⟩⟩ := HS.out.box.load
    go_enter Tryz.func18, Tryz.ntmps18
    go_wp2_with fail
    refine (len_any z _).mono ?_
    rintro e w1 ⟨q, rfl, hq, rfl⟩
    have dq : (q == 0) = false := by
      have : q ≠ 0 := fun e => by have h1 := hq.1 e; rw [H1.out] at h1; cases h1
      simp [this]
    clear hq
    go_wp2_with fail
    refine (boundary_at x T z false _ HS.out.tab.tab HR.out HB).mono ?_
    rintro e w2 ⟨rfl, hb2⟩
    have HS2 := Lib.hid (HS.out.below hb2)
    have HB2 := Lib.hid hb2
    clear hb2 k0 k1 k2 k3 k4 k5 k6 k7 k8 k9 k10 k11
    have q12 := HS2.out.most
    have q13 := HS2.out.held
    have d1 : decide ((m : Int) ≤ (n : Int)) = true := decide_eq_true (by omega)
    have d2 : (m : Int) ≤ (n : Int) := by omega
    go_wp2_with fail
    go_quiet (fail)
    go_wp2
    go_ret2
    exact ⟨_, _, rfl, Ints.nil _ _, HS2.out.below (drew_ref _ _), (Keeps.of_below HB2.out).trans (Keeps.of_below (drew_ref _ _)) (fun b hb e => absurd e (by omega)) (fun b hb e => absurd e (by have := HB2.out.size; omega)), fun _ _ h => h⟩
  · have hpp := hp.out
    rw [h2] at hpp
    simp only [Prod.mk.injEq] at hpp
    obtain ⟨rfl, rfl, rfl⟩ := hpp
    have HB : Hid (bndT T z = false) := hB
    have H1 : Hid (scaB z = true) := h1
    rw [HN.out] at h3
    clear h1 h2 hp hB
    obtain ⟨⟨k0, k1, k2, k3, k4, k5⟩, ⟨k6, k7, k8, k9, k10, k11⟩⟩ := HS.out.box.load
    go_enter Tryz.func18, Tryz.ntmps18
    go_wp2_with fail
    refine (len_any z _).mono ?_
    rintro e w1 ⟨q, rfl, hq, rfl⟩
    have dq : (q == 0) = false := by
      have : q ≠ 0 := fun e => by have h1 := hq.1 e; rw [H1.out] at h1; cases h1
      simp [this]
    clear hq
    go_wp2_with fail
    refine (boundary_at x T z false _ HS.out.tab.tab HR.out HB).mono ?_
    rintro e w2 ⟨rfl, hb2⟩
    have HS2 := Lib.hid (HS.out.below hb2)
    have HB2 := Lib.hid hb2
    clear hb2 k0 k1 k2 k3 k4 k5 k6 k7 k8 k9 k10 k11
    have q12 := HS2.out.most
    have q13 := HS2.out.held
    have d1 : decide ((m : Int) ≤ (n : Int)) = false := decide_eq_false (by omega)
    have d2 : ¬ (m : Int) ≤ (n : Int) := by omega
    go_wp2_with fail
    go_quiet (fail)
    generalize hwq : World.drewN w2 _ = W
    have hq : Below w2.heap.size w2 W := by rw [← hwq]; exact drew_ref _ _
    have HS3 := Lib.hid (HS2.out.below hq)
    have HB3 := Lib.hid (HB2.out.trans (hq.mono HB2.out.size))
    clear hwq hq q12 q13 HS2 HB2 d1 d2
    have r13 := HS3.out.held
    have HA3 : Hid (Ints (W.alloc (.cells #[.int .i64 z] 3)) c (.slice p n cap) H) := Ints.alloc HS3.out.own _
    have hsz : c ≤ (W.alloc (.cells #[.int .i64 z] 3)).heap.size := by have := HB3.out.size; simp; omega
    go_wp2_with (at_builtin; refine wpList_append_one _ _ rfl rfl c (.slice p n cap) H (by rfl) (by exact HA3.out) _ 1 z (by rfl) (by simp [World.cell?_alloc_new]) (by rw [HN.out]; omega) hsz ?_
                 intro v5 w5 ho5 hg5 hv5
                 obtain ⟨p5, n5, c5, rfl⟩ := row_slice ho5
                 have hkp := (HS3.out.below ((Below.refl _ _).alloc (Nat.le_refl _) (.cells #[.int .i64 z] 3))).kept13 hg5
                 obtain ⟨q5, f5⟩ := hkp
                 have HPU := Lib.hid (HS3.out.pushed (w0 := w) (v0 := .slice p n cap) (R := fun _ => True) z ho5 (by simp; rw [HN.out]; omega) hg5 hv5 ((Keeps.of_below HB3.out).weak (fun b hb e => absurd e (by omega))) HB3.out.size (fun _ e => e)))
    clear ho5 hg5 hv5
    go_wp2
    go_ret2
    exact ⟨_, _, rfl, Ints.nil _ _, HPU.out.1, HPU.out.2.1, HPU.out.2.2.1⟩

end Go.Proofs.YtfmfifmmaihodaaGreatDoor

namespace Go.Proofs.YtfmfifmmaihodaaGreatDoor
open Go.RowKit
set_option linter.unusedVariables false

end Go.Proofs.YtfmfifmmaihodaaGreatDoor

namespace Go.Proofs.YtfmfifmmaihodaaGreatDoor
open Go.RowKit
set_option linter.unusedVariables false

def newE (T : Tb) (z : Int) : Int := if checkT T ≠ 0 then 2 else if z < 1 ∨ 32 < z then 3 else 0
theorem newE_ok {T : Tb} {z : Int} (h : newE T z = 0) : checkT T = 0 ∧ 1 ≤ z ∧ z ≤ 32 := by
  unfold newE at h
  split at h
  · omega
  · rename_i h1
    split at h
    · omega
    · exact ⟨by omega, by omega, by omega⟩

theorem TabP.weak {w : World} {P Q : Nat → Prop} {x : TV} {T : Tb} (h : TabP w P x T) (hq : ∀ k, k < w.heap.size → P k → Q k) : TabP w Q x T :=
  fun W R hk hr => h W R hk (fun k hlt e hp => hr k hlt e (hq k hlt hp))

theorem StrV.fresh {w : World} {lo hi s : Nat} {x : TV} {T : Tb} {m c c' : Nat} (h : StrV w lo hi s x T m c (.slice none 0 0) []) (hc : s < c') : StrV w lo hi s x T m c' (.slice none 0 0) [] :=
  ⟨h.tab, h.le, hc, h.box, h.most, h.held, h.frz, Ints.nil _ _, h.len, h.one, h.big⟩

/-- A stream just made. -/
theorem StrV.new {w : World} {lo hi : Nat} {x : TV} {T : Tb} {m : Nat} {t : TypeId} (h : TabP w (rows lo hi) x T) (hh : hi ≤ w.heap.size) (h1 : 1 ≤ m) (h2 : m ≤ 32) :
    StrV (w.alloc (.cells #[x.a0, x.a1, x.a2, x.a3, x.a4, x.a5, x.a6, x.a7, x.a8, x.a9, x.a10, x.a11, .int .i64 m, .slice none 0 0] t)) lo hi w.heap.size x T m (w.heap.size + 1) (.slice none 0 0) [] := by
  refine ⟨h.below ((Below.refl _ _).alloc (Nat.le_refl _) _), hh, by omega, ⟨⟨?_, ?_, ?_, ?_, ?_, ?_⟩, ⟨?_, ?_, ?_, ?_, ?_, ?_⟩⟩, ?_, ?_, ?_, Ints.nil _ _, Nat.zero_le _, h1, h2⟩ <;> simp [World.cell?_alloc_new]

set_option maxRecDepth 100000 in
set_option maxHeartbeats 4000000 in
theorem new_at (x : TV) (T : Tb) (m : Nat) (w : World) (hx : TabV w x T) (hr : Rsv w) (hE : Hid (newE T m = 0)) :
    Calls Tryz.prog 11 #[x.agg, .int .i64 m] w (NewPost (nrmT T) m w) := by
  obtain ⟨hc, hm1, hm2⟩ := newE_ok hE.out
  have hV : Hid (checkT T = 0) := hc
  have HE := Lib.hid (Env.new hx)
  have HR := Lib.hid hr
  have d1 : decide ((m : Int) < 1) = false := decide_eq_false (by omega)
  have d2 : decide ((32 : Int) < (m : Int)) = false := decide_eq_false (by omega)
  have d3 : ¬ (m : Int) < 1 := by omega
  have d4 : ¬ (32 : Int) < (m : Int) := by omega
  have d5 : ¬ m < 1 := by omega
  have d6 : ¬ 32 < m := by omega
  clear hx hr hc
  simp only [TV.agg]
  go_enter Tryz.func11, Tryz.ntmps11
  obtain ⟨⟨k0, k1, k2, k3, k4, k5⟩, ⟨k6, k7, k8, k9, k10, k11⟩⟩ := HE.out.box.load
  go_wp2_with fail
  refine (check_tab_at x T 0 _ HE.out.tab (HR.out.below HE.out.bel) hV).mono ?_
  rintro e w1 ⟨rfl, hb⟩
  replace HE := Lib.hid (HE.out.step hb)
  clear hb k0 k1 k2 k3 k4 k5 k6 k7 k8 k9 k10 k11
  obtain ⟨⟨k0, k1, k2, k3, k4, k5⟩, ⟨k6, k7, k8, k9, k10, k11⟩⟩ := HE.out.box.load
  go_wp2_with fail
  refine (normTab_at x T _ HE.out.tab hV.out).mono ?_
  rintro e w2 ⟨p1, n1, c1, p9, n9, c9, p10, n10, c10, rfl, htab, hb⟩
  have HZ := Lib.hid hb.size
  have HB2 := Lib.hid (HE.out.step hb).bel
  have HSZ := Lib.hid HE.out.bel.size
  have HN := Lib.hid (StrV.new (t := 68) (htab.weak (Q := rows w.heap.size w2.heap.size) (fun k hk hp => ⟨Nat.le_trans HSZ.out hp, hk⟩)) (Nat.le_refl _) (m := m) (by omega) (by omega))
  clear htab hb k0 k1 k2 k3 k4 k5 k6 k7 k8 k9 k10 k11
  go_wp2
  go_ret2
  exact ⟨_, _, rfl, HN.out, HB2.out.size, by simp, HB2.out.alloc HB2.out.size _⟩

end Go.Proofs.YtfmfifmmaihodaaGreatDoor
