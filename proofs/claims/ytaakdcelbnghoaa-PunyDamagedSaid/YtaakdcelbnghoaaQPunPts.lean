/-
  puny's statements: the list that 'points' makes, as a function of its argument.
-/
import Derived.Test.YtaakdcelbnghoaaQPoints
import Derived.Test.YtaakdcelbnghoaaPkZZC
import Derived.Deep.RegionLaw
import Derived.Deep.CutBlock
set_option linter.unusedSimpArgs false
set_option linter.unusedVariables false
namespace Go.Proofs.Ytaakdcelbnghoaa
open Go.RowKit
set_option linter.unusedVariables false

def poolP : List Int := [19968, 44032, 55295, 57344, 65535]
/-- One code point, and what is left of the source. -/
def ptA (r : List Int) : Int × List Int :=
  if nextV r 4 = 0 then (nextV r.tail 128, r.tail.tail)
  else if nextV r 4 = 1 then (128 + nextV r.tail 600, r.tail.tail)
  else if nextV r 4 = 2 then (poolP.getD (nextV r.tail 5).toNat 0 + nextV r.tail.tail 2, r.tail.tail.tail)
  else (65536 + nextV r.tail 1048576, r.tail.tail)
def fixP (c : Int) : Int := if scpB c = true then c else 128
def ptL : Nat → List Int → List Int
  | 0, _ => []
  | k + 1, r => fixP (ptA r).1 :: ptL k (ptA r).2
def ptsF (zs : List Int) : List Int := ptL (nextV zs 12).toNat zs.tail

theorem fixP_sc (c : Int) : scpB (fixP c) = true := by
  unfold fixP
  split
  · assumption
  · decide
theorem ptL_len : ∀ (k : Nat) (r : List Int), (ptL k r).length = k
  | 0, _ => rfl
  | k + 1, r => by simp [ptL, ptL_len k]
theorem ptL_sc : ∀ (k : Nat) (r : List Int), (ptL k r).all scpB = true
  | 0, _ => rfl
  | k + 1, r => by simp only [ptL, List.all_cons, fixP_sc, ptL_sc k, Bool.and_self]
theorem ptsF_len (zs : List Int) : (ptsF zs).length ≤ 11 := by
  have := nextV_bd zs 12 (by omega)
  unfold ptsF
  rw [ptL_len]; omega
theorem ptsF_sc (zs : List Int) : (ptsF zs).all scpB = true := ptL_sc _ _

theorem pstep_append_one {w : World} {ops : Array Oper} {o : Oper} {a : Act} {K : Act → World → Prop} {Z : Exit → Act → World → Prop} {E : Prop} (hgd : o.guard = none) (s x : Operand)
    (ho : o.op = .call { callee := .builtin .append, args := #[s, x], argTypes := #[22, 22] })
    (base : Nat) (v : Value) (xs : List Int) (hs : a.eval s = v) (hown : Ints w base v xs)
    (b c : Nat) (z : Int) (hx : a.eval x = .slice (some ⟨b, 0, none⟩) 1 c) (c0 : w.cell? ⟨b, 0, none⟩ = some (.int .i64 z))
    (hlen : xs.length ≤ 1000) (hbase : base ≤ w.heap.size)
    (h : ∀ v' w', Ints w' base v' (xs ++ [z]) → w.grownBy w' v.ownBlock → (v'.ownBlock = v.ownBlock ∨ v'.ownBlock = some w.heap.size) → K (a.put o.dst v') w') :
    if Region.wanted o (yielded ops a.tmps) = true then Oper.wp Try.prog o a w K Z else E := by
  have hw : Region.wanted o (yielded ops a.tmps) = true := by simp [Region.wanted, hgd]
  rw [if_pos hw]
  obtain ⟨i0, hi, hz0, hz1, hz2⟩ := info_parts Try.info3
  have hin : ∀ j u, ([Value.int .i64 z])[j]? = some u → w.cell? ((⟨b, 0, none⟩ : Addr).add j) = some u := by
    intro j u hu
    rw [Addr.add_lit]
    rcases j with _ | j
    · simp only [List.getElem?_cons_zero, Option.some.injEq] at hu; subst hu; exact c0
    · simp at hu
  obtain ⟨v', w', hrun, h2, h3, _, h5⟩ := run_append_own_at (P := Try.prog) w base 22 o.type 3 i0 _ 1 8 Try.underlying22 hi hz0 hz1 hz2 rfl (by decide) v xs.length _ hown
    ⟨b, 0, none⟩ 1 c [Value.int .i64 z] rfl hin (by intro u hu; simp at hu; subst hu; rfl) (by unfold maxLen; omega) (by omega) hbase
  unfold Oper.wp execOp
  simp only [ho, resolve, invoke, builtin, Sem.run_bind, Sem.run_pure, Result.andThen_ok, List.map_toArray, List.map_cons, List.map_nil, hs, hx, hrun]
  exact h v' w' (by unfold Ints; simpa using h2) h3 h5

theorem pwpList_append_one {w : World} {ops : Array Oper} {rest : List Oper} {o : Oper} {a : Act} {Q : Exit → Act → World → Prop} (s x : Operand)
    (ho : o.op = .call { callee := .builtin .append, args := #[s, x], argTypes := #[22, 22] })
    (hgd : o.guard = none)
    (base : Nat) (v : Value) (xs : List Int) (hs : a.eval s = v) (hown : Ints w base v xs)
    (b c : Nat) (z : Int) (hx : a.eval x = .slice (some ⟨b, 0, none⟩) 1 c) (c0 : w.cell? ⟨b, 0, none⟩ = some (.int .i64 z))
    (hlen : xs.length ≤ 1000) (hbase : base ≤ w.heap.size)
    (h : ∀ v' w', Ints w' base v' (xs ++ [z]) → w.grownBy w' v.ownBlock → (v'.ownBlock = v.ownBlock ∨ v'.ownBlock = some w.heap.size) → wpList Try.prog ops Q rest (a.put o.dst v') w') : wpList Try.prog ops Q (o :: rest) a w := by
  unfold wpList
  have hw : Region.wanted o (yielded ops a.tmps) = true := by simp [Region.wanted, hgd]
  rw [if_pos hw]
  refine .inl ?_
  have := pstep_append_one (w := w) (ops := ops) (o := o) (a := a) (K := fun a' w' => wpList Try.prog ops Q rest a' w') (Z := Q) (E := True) hgd s x ho base v xs hs hown b c z hx c0 hlen hbase h
  rwa [if_pos hw] at this


/-- The state of the loop. -/
def PtS (w0 w : World) (g : Nat) (r : List Int) (v : Value) (P : List Int) : Prop := Src w g r ∧ Ints w (g + 1) v P ∧ g < w.heap.size ∧ Below w0.heap.size w0 w ∧ w0.heap.size ≤ g
theorem PtS.src {w0 w : World} {g : Nat} {r P : List Int} {v : Value} (h : PtS w0 w g r v P) : Src w g r := h.1
theorem PtS.own {w0 w : World} {g : Nat} {r P : List Int} {v : Value} (h : PtS w0 w g r v P) : Ints w (g + 1) v P := h.2.1
theorem PtS.next {w0 w w' : World} {g : Nat} {r r' P : List Int} {v : Value} (h : PtS w0 w g r v P) (hs : Src w' g r') (hg : w.grownBy w' (some g)) : PtS w0 w' g r' v P := by
  obtain ⟨h1, h2, h3, h4, h5⟩ := h
  refine ⟨hs, World.ownsRow.kept h2 hg ?_, Nat.lt_of_lt_of_le h3 hg.size, h4.grown hg h4.size (by intro j e; cases e; exact h5), h5⟩
  cases hv : Value.ownBlock v with
  | none => simp
  | some b => have := (World.ownsRow.lt h2 b hv).1; simp; omega
theorem PtS.alloc {w0 w : World} {g : Nat} {r P : List Int} {v : Value} (h : PtS w0 w g r v P) (o : Obj) : PtS w0 (w.alloc o) g r v P := by
  obtain ⟨h1, h2, h3, h4, h5⟩ := h
  exact ⟨h1.alloc o, World.ownsRow.alloc h2 o, by simp; omega, h4.alloc h4.size o, h5⟩
theorem PtS.drewN {w0 w : World} {g : Nat} {r P : List Int} {v : Value} (h : PtS w0 w g r v P) (n : Nat) : PtS w0 (w.drewN n) g r v P := by
  obtain ⟨h1, h2, h3, h4, h5⟩ := h
  exact ⟨h1.below (below_drewN (Below.refl _ _) n), h2, h3, below_drewN h4 n, h5⟩
theorem PtS.drew {w0 w : World} {g : Nat} {r P : List Int} {v : Value} (h : PtS w0 w g r v P) : PtS w0 w.drew g r v P := h.drewN 1
theorem PtS.app {w0 w w' : World} {g : Nat} {r P : List Int} {v v' : Value} {c : Int} (h : PtS w0 w g r v P) (ho : Ints w' (g + 1) v' (P ++ [c])) (hg : w.grownBy w' v.ownBlock) : PtS w0 w' g r v' (P ++ [c]) := by
  obtain ⟨h1, h2, h3, h4, h5⟩ := h
  refine ⟨Src.grown h1 hg (fun j hj => ?_), ho, Nat.lt_of_lt_of_le h3 hg.size, h4.grown hg h4.size (fun j hj => ?_), h5⟩
  · have := (World.ownsRow.lt h2 j hj).1; omega
  · have := (World.ownsRow.lt h2 j hj).1; omega
/-- The last element is there, and may be replaced. -/
theorem PtS.last {w0 w : World} {g : Nat} {r P : List Int} {v : Value} {c : Int} (h : PtS w0 w g r v (P ++ [c])) :
    ∃ b cap, v = .slice (some ⟨b, 0, none⟩) (P.length + 1) cap ∧ w.cell? ⟨b, P.length, none⟩ = some (.int .i64 c) ∧ w.frozen? ⟨b, P.length, none⟩ = false ∧ PtS w0 (w.setCell ⟨b, P.length, none⟩ (.int .i64 128)) g r v (P ++ [128]) := by
  obtain ⟨h1, h2, h3, h4, h5⟩ := h
  obtain ⟨b, cap, rfl, hB, hc, hr⟩ := SRow.ofInts h2 (by simp)
  have hz : P.length < (P ++ [c]).toArray.size := by simp
  have hcell := hr.cell hz
  refine ⟨b, cap, by simp, by rw [hcell]; simp, hr.soft _, ?_⟩
  have hr2 := (hr.set hz 128).toInts hB hc
  have hg := grownBy_store w b P.length (.int .i64 128)
  refine ⟨Src.grown h1 hg (by intro j e; cases e; omega), ?_, by simpa using h3, h4.grown hg h4.size (by intro j e; cases e; omega), h5⟩
  have e1 : ((P ++ [c]).toArray.setIfInBounds P.length 128).toList = P ++ [128] := by simp
  rw [e1] at hr2
  simpa using hr2

def PtsPost (xs : List Int) (w : World) (e : Ending) (w' : World) : Prop :=
  ∃ (p : Option Addr) (cap : Nat), e = .returned (.slice p xs.length cap) ∧ IntsIn w' p xs ∧ xs.length ≤ cap ∧ Below w.heap.size w w'

theorem poolP_scalar (j : Nat) (h : j < 5) : ∃ y, poolP.getD j 0 = y ∧ 19968 ≤ y ∧ y ≤ 65535 := by
  have : ∀ j, j < 5 → 19968 ≤ poolP.getD j 0 ∧ poolP.getD j 0 ≤ 65535 := by decide +kernel
  exact ⟨_, rfl, (this j h).1, (this j h).2⟩

theorem nextv_at (g : Nat) (r : List Int) (n v : Int) (w : World) (hs : Src w g r) (h0 : 1 ≤ n) (h1 : n ≤ 1073741824) (hv : Hid (nextV r n = v)) :
    Calls Try.prog 33 #[.pointer (some ⟨g, 0, none⟩), .int .i64 n] w (NextPost g v r.tail w) := hv.out ▸ next_any g r n w hs h0 h1

set_option maxHeartbeats 4000000 in
theorem points10_at (p : Option Addr) (cap : Nat) (zs xs : List Int) (w : World) (hin : IntsIn w p zs) (hl : zs.length ≤ 17592186043904) (hX : Hid (ptsF zs = xs)) :
    Calls Try.prog 13 #[.slice p zs.length cap] w (PtsPost xs w) := by
  have HI := Lib.hid hin
  clear hin
  obtain ⟨v0, v1⟩ := nextV_bd zs 12 (by omega)
  obtain ⟨n, hn⟩ : ∃ n : Nat, nextV zs 12 = n := ⟨(nextV zs 12).toNat, by omega⟩
  have hn10 : n ≤ 11 := by omega
  have HN := Lib.hid hn
  have HU : Hid (ptL n zs.tail = xs) := by unfold Hid; rw [← hX.out]; unfold ptsF; rw [hn]; rfl
  clear v0 v1 hn hX
  go_enter Try.func13, Try.ntmps13
  go_wp2_with fail
  refine (from_any p cap zs _ HI.out hl).mono ?_
  rintro e w1 ⟨g, rfl, hg, hs1, hb1⟩
  have HS1 := Lib.hid hs1
  have HB1 := Lib.hid hb1
  clear hs1 hb1
  go_wp2_with fail
  refine (nextv_at g zs 12 n _ HS1.out (by omega) (by omega) HN).mono ?_
  rintro e w2 ⟨rfl, hs2, hg2⟩
  have hb2 : Below w.heap.size w w2 := HB1.out.grown hg2 HB1.out.size (by intro k e; cases e; exact hg)
  have HP2 : Hid (PtS w w2 g zs.tail (.slice none 0 0) []) := ⟨hs2, Ints.nil _ _, by obtain ⟨_, _, _, _, _, _, _, h4, _⟩ := hs2; exact World.block_lt_of_cell? w2 _ h4, hb2, hg⟩
  clear hs2 hb2 hg2 HS1 HB1
  go_wp2
  go_loopw [4, 5] (fun v m wr => ∃ (k : Nat) (P r : List Int), k ≤ 11 ∧ m = .int .i64 k ∧ P.length + k ≤ 11 ∧ Hid (P ++ ptL k r = xs) ∧ Hid (PtS w wr g r v P)) (fun _ m _ => (intOf m).toNat)
  case atStart => exact ⟨n, [], zs.tail, hn10, rfl, by simpa using hn10, HU, HP2⟩
  case round =>
    obtain ⟨k, P, r, hk, rfl, hxk, hU, hp⟩ := hrel
    by_cases h0 : 0 < k
    · obtain ⟨j, rfl⟩ : ∃ j, k = j + 1 := ⟨k - 1, by omega⟩
      obtain ⟨v0, v1⟩ := nextV_bd r 4 (by omega)
      obtain ⟨x, hx⟩ : ∃ x, nextV r 4 = x := ⟨_, rfl⟩
      rw [hx] at v0 v1
      have HX := Lib.hid hx
      clear hx
      go_wp2_with fail
      refine (nextv_at g r 4 x _ hp.out.src (by omega) (by omega) HX).mono ?_
      rintro e w3 ⟨rfl, hs3, hg3⟩
      have HP3 := Lib.hid (hp.out.next hs3 hg3)
      clear hs3 hg3 hp
      have HQ : Hid (x = nextV r 4) := HX.out.symm
      go_upto_block 2 with fail
      go_cut [4] from 14 to 49 (fun v wx => ∃ (c : Int) (r' : List Int), Hid (ptA r = (c, r')) ∧ Hid (PtS w wx g r' v (P ++ [c])))
      case first =>
        have hx4 : x = 0 ∨ x = 1 ∨ x = 2 ∨ x = 3 := by omega
        clear v0 v1 HX
        rcases hx4 with rfl | rfl | rfl | rfl
        · obtain ⟨q, hq⟩ : ∃ q, nextV r.tail 128 = q := ⟨_, rfl⟩
          obtain ⟨q0, q1⟩ := nextV_bd r.tail 128 (by omega)
          have HA : Hid (ptA r = (q, r.tail.tail)) := by unfold Hid ptA; rw [if_pos HQ.out.symm, hq]
          have HN2 := Lib.hid hq
          clear hq q0 q1
          go_wp2_with fail
          refine (nextv_at g r.tail 128 q _ HP3.out.src (by omega) (by omega) HN2).mono ?_
          rintro e w5 ⟨rfl, hs5, hg5⟩
          have HP5 := Lib.hid (HP3.out.next hs5 hg5)
          clear hs5 hg5 HP3
          go_wp2_with (at_builtin; refine pwpList_append_one (.tmp 24) (.tmp 27) rfl rfl (g + 1) u4 P rfl (HP5.out.alloc _).own _ 1 q rfl (by simp) (by omega) (by have := HP5.out.2.2.1; simp; omega) ?_; intro v6 w6 ho6 hg6 _)
          have HP6 := Lib.hid ((HP5.out.alloc _).app ho6 hg6)
          clear ho6 hg6
          go_wp2
          go_meet
          exact ⟨q, _, HA, HP6⟩
        · obtain ⟨q, hq⟩ : ∃ q, nextV r.tail 600 = q := ⟨_, rfl⟩
          obtain ⟨q0, q1⟩ := nextV_bd r.tail 600 (by omega)
          rw [hq] at q0 q1
          have HA : Hid (ptA r = (128 + q, r.tail.tail)) := by unfold Hid ptA; rw [if_neg (by rw [← HQ.out]; omega), if_pos HQ.out.symm, hq]
          have HN2 := Lib.hid hq
          clear hq
          go_wp2_with fail
          refine (nextv_at g r.tail 600 q _ HP3.out.src (by omega) (by omega) HN2).mono ?_
          rintro e w5 ⟨rfl, hs5, hg5⟩
          have HP5 := Lib.hid (HP3.out.next hs5 hg5)
          clear hs5 hg5 HP3
          go_wp2_with (at_builtin; refine pwpList_append_one (.tmp 31) (.tmp 35) rfl rfl (g + 1) u4 P rfl (HP5.out.alloc _).own _ 1 (128 + q) rfl (by simp) (by omega) (by have := HP5.out.2.2.1; simp; omega) ?_; intro v6 w6 ho6 hg6 _)
          have HP6 := Lib.hid ((HP5.out.alloc _).app ho6 hg6)
          clear ho6 hg6
          go_wp2
          go_meet
          exact ⟨128 + q, _, HA, HP6⟩
        · obtain ⟨q, hq⟩ : ∃ q : Nat, nextV r.tail 5 = q := ⟨(nextV r.tail 5).toNat, by have := nextV_bd r.tail 5 (by omega); omega⟩
          have hq5 : q < 5 := by have := nextV_bd r.tail 5 (by omega); omega
          obtain ⟨y, hy, y0, y1⟩ := poolP_scalar q hq5
          obtain ⟨z, hz⟩ : ∃ z, nextV r.tail.tail 2 = z := ⟨_, rfl⟩
          obtain ⟨z0, z1⟩ := nextV_bd r.tail.tail 2 (by omega)
          rw [hz] at z0 z1
          have HA : Hid (ptA r = (y + z, r.tail.tail.tail)) := by unfold Hid ptA; rw [if_neg (by rw [← HQ.out]; omega), if_neg (by rw [← HQ.out]; omega), if_pos HQ.out.symm, hq, Int.toNat_natCast, hy, hz]
          have HN2 := Lib.hid hq
          have HN3 := Lib.hid hz
          have hlit : ∀ W : World, (W.alloc (.cells #[.int .i64 19968, .int .i64 44032, .int .i64 55295, .int .i64 57344, .int .i64 65535] 3)).cell? ⟨W.heap.size, q, none⟩ = some (.int .i64 y) := by
            intro W
            obtain ⟨_, _, e, hc⟩ := ints_lit_new W #[.int .i64 19968, .int .i64 44032, .int .i64 55295, .int .i64 57344, .int .i64 65535] poolP 3 rfl q (by simpa [poolP] using hq5)
            cases e
            rw [hy] at hc
            simpa using hc
          have l4 := hlit w3
          have hji : (q : Int) < 5 := by omega
          have hg3 := HP3.out.2.2.1
          have hwr : IntKind.i64.wrap (y + z) = y + z := IntWalk.i64_in _ (by omega)
          clear hq hy hz
          have hgl := HP3.out.2.2.1
          go_upto_region 13 with (fail)
          go_region_law (first
            | (refine pstep_append_one (by rfl) _ _ (by rfl) (g + 1) u4 P (by rfl) (by first | exact (HP6.out.alloc _).own | exact ((HP6.out.alloc _).alloc _).own) _ 1 (y + z) (by rfl) (by simp [World.cell?_alloc_new]) (by omega) (by have := HP6.out.2.2.1; simp; omega) ?_
               intro v7 w7 ho7 hg7 hv7
               have HP7 : Hid (PtS w w7 g r.tail.tail.tail v7 (P ++ [y + z])) := by first | exact (HP6.out.alloc _).app ho7 hg7 | exact ((HP6.out.alloc _).alloc _).app ho7 hg7)
            | (fail_if_success (have hz := l5)
               go_simp
               go_at_call 33
               refine (nextv_at g r.tail 5 q _ (by first | exact HP3.out.drew.src | exact (HP3.out.alloc _).drew.src) (by omega) (by omega) HN2).mono ?_
               rintro e w5 ⟨rfl, hs5, hg5⟩
               have HP5 : Hid (PtS w w5 g r.tail.tail u4 P) := by first | exact HP3.out.next hs5 hg5 | exact (HP3.out.alloc _).next hs5 hg5 | exact HP3.out.drew.next hs5 hg5 | exact (HP3.out.alloc _).drew.next hs5 hg5
               have l5 := hlit w5
               try have l5b : w5.cell? ⟨w3.heap.size, q, none⟩ = some (.int .i64 y) := hg5.cell l4 (by simp; omega))
            | (go_simp
               go_at_call 33
               refine (nextv_at g r.tail.tail 2 z _ (by first | exact HP5.out.drew.src | exact (HP5.out.alloc _).drew.src) (by omega) (by omega) HN3).mono ?_
               rintro e w6 ⟨rfl, hs6, hg6⟩
               have HP6 : Hid (PtS w w6 g r.tail.tail.tail u4 P) := by first | exact HP5.out.next hs6 hg6 | exact (HP5.out.alloc _).next hs6 hg6 | exact HP5.out.drew.next hs6 hg6 | exact (HP5.out.alloc _).drew.next hs6 hg6
               have l6 := hlit w6
               have hgl6 := HP5.out.2.2.1
               try have l6b : w6.cell? ⟨w3.heap.size, q, none⟩ = some (.int .i64 y) := hg6.cell l5b (by simp; omega)
               try have l6c : w6.cell? ⟨w5.heap.size, q, none⟩ = some (.int .i64 y) := hg6.cell l5 (by simp; omega)))
          all_goals
            go_wp2_with fail
            go_meet
            exact ⟨y + z, _, HA, HP7⟩
        · obtain ⟨q, hq⟩ : ∃ q, nextV r.tail 1048576 = q := ⟨_, rfl⟩
          obtain ⟨q0, q1⟩ := nextV_bd r.tail 1048576 (by omega)
          rw [hq] at q0 q1
          have HA : Hid (ptA r = (65536 + q, r.tail.tail)) := by unfold Hid ptA; rw [if_neg (by rw [← HQ.out]; omega), if_neg (by rw [← HQ.out]; omega), if_neg (by rw [← HQ.out]; omega), hq]
          have HN2 := Lib.hid hq
          clear hq
          go_wp2_with fail
          refine (nextv_at g r.tail 1048576 q _ HP3.out.src (by omega) (by omega) HN2).mono ?_
          rintro e w5 ⟨rfl, hs5, hg5⟩
          have HP5 := Lib.hid (HP3.out.next hs5 hg5)
          clear hs5 hg5 HP3
          go_wp2_with (at_builtin; refine pwpList_append_one (.tmp 16) (.tmp 20) rfl rfl (g + 1) u4 P rfl (HP5.out.alloc _).own _ 1 (65536 + q) rfl (by simp) (by omega) (by have := HP5.out.2.2.1; simp; omega) ?_; intro v6 w6 ho6 hg6 _)
          have HP6 := Lib.hid ((HP5.out.alloc _).app ho6 hg6)
          clear ho6 hg6
          go_wp2
          go_meet
          exact ⟨65536 + q, _, HA, HP6⟩
      case rest =>
        obtain ⟨c, r', hA, hp4⟩ := hcut
        obtain ⟨b, cb, rfl, hc4, hf4, hP8⟩ := hp4.out.last
        have HP8 := Lib.hid hP8
        have HE : Hid ((P ++ [fixP c]) ++ ptL j r' = xs) := by
          have h1 := hU.out
          unfold Hid
          rw [ptL, hA.out] at h1
          rw [← h1]; simp
        have HW : IntKind.i64.wrap ((P.length : Int) + 1 - 1) = P.length := by rw [IntWalk.i64_in _ (by omega)]; omega
        have hPl : ((P.length + 1 : Nat) : Int) = (P.length : Int) + 1 := by omega
        clear hP8 hU hA
        obtain ⟨B, hB⟩ : ∃ B, scpB c = B := ⟨_, rfl⟩
        have HB := Lib.hid hB
        clear hB
        cases B
        · have HF : Hid (fixP c = 128) := by unfold Hid fixP; rw [HB.out]; rfl
          go_wp2_with (first | (go_at_call 29; refine (pscalar_at c false _ HB).mono ?_; rintro e w6 ⟨rfl, rfl⟩))
          go_roundw
          case rel => exact ⟨j, P ++ [128], r', by omega, by go_num, by simp; omega, by rw [← HF.out]; exact HE, HP8⟩
          case measure => simp [intOf]
        · have HF : Hid (fixP c = c) := by unfold Hid fixP; rw [HB.out]; rfl
          go_wp2_with (first | (go_at_call 29; refine (pscalar_at c true _ HB).mono ?_; rintro e w6 ⟨rfl, rfl⟩))
          go_roundw
          case rel => exact ⟨j, P ++ [c], r', by omega, by go_num, by simp; omega, by rw [HF.out] at HE; exact HE, hp4⟩
          case measure => simp [intOf]
    · obtain rfl : k = 0 := by omega
      have hU' := hU.out
      simp only [ptL, List.append_nil] at hU'
      subst hU'
      obtain ⟨q, cp, rfl, hin, hcap, _⟩ := Ints.cap hp.out.own
      have HI2 := Lib.hid hin
      have HB2 := Lib.hid hp.out.2.2.2.1
      clear hin
      go_wp2
      go_ret
      exact ⟨q, cp, rfl, HI2.out, hcap, HB2.out⟩

end Go.Proofs.Ytaakdcelbnghoaa
