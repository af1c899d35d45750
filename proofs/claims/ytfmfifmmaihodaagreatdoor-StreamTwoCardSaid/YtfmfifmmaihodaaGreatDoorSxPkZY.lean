/-
  keep.Tables, told as a function of its list: the parts of a round (genDet.py).
  keep.decomps, told as a function (genDet.py).
  keep.Tables, told as a function of its list (genDet.py).
  stream: two streams of the program side by side; the rows of a list of spans that are written.
-/
import Derived.Test.YtfmfifmmaihodaaGreatDoorSxPkZV
import Derived.Test.YtfmfifmmaihodaaGreatDoorSxTblJ
import Derived.Test.YtfmfifmmaihodaaGreatDoorSxPkZX
set_option linter.unusedSimpArgs false
set_option linter.unusedVariables false
namespace Go.Proofs.YtfmfifmmaihodaaGreatDoor
open Go.RowKit
set_option linter.unusedVariables false

/-- The usual class of a code point of the pool. -/
def usC (c : Int) : Int := if c = 803 then 220 else if c = 2381 then 9 else if 769 ≤ c ∧ c ≤ 837 then 230 else 0
def chV (r zs : List Int) : Int := if 0 < nextV r 3 then zs.getD 0 0 else zs.getD (nextV r.tail zs.length).toNat 0
def chR (r : List Int) : List Int := if 0 < nextV r 3 then r.tail else r.tail.tail
def cutW (W : Bool) (c : Int) (r : List Int) : Int × List Int := if W = true then (chV (chR r) [usC c, 0, 1, 9, 202, 220, 230, 254], chR (chR (chR (chR (chR (chR r)))))) else (usC c, r)
def ignR (W : Bool) (c : Int) (r : List Int) : List Int := if c = 173 then r else if W = true then r.tail else r
/-- The rounds of Tables from k on: the class list, what is left of the source. -/
def clsG (W : Bool) : Nat → Nat → List Sp → List Int → List Sp × List Int
  | 0, _, L, r => (L, r)
  | n + 1, k, L, r => clsG W n (k + 1) (addL L (poolAt k, poolAt k, 0) (cutW W (poolAt k) r).1) (ignR W (poolAt k) (cutW W (poolAt k) r).2)
theorem clsG_step (W : Bool) {k : Nat} (hk : k < 28) (L : List Sp) (r : List Int) :
    clsG W (28 - k) k L r = clsG W (28 - (k + 1)) (k + 1) (addL L (poolAt k, poolAt k, 0) (cutW W (poolAt k) r).1) (ignR W (poolAt k) (cutW W (poolAt k) r).2) := by
  rw [show 28 - k = (28 - (k + 1)) + 1 by omega, clsG]

/-- The rounds of decomps. -/
def b1F (k : Nat) (r : List Int) : Bool × List Int := if k = 0 then (false, r) else (nextV r 3 == 0, r.tail)
def a2F (k : Nat) (a : Int) (B : Bool) (r : List Int) : Int × List Int := if B = true then (7680 + nextV r k, r.tail) else (a, r)
def tlF (a : Int) (r : List Int) : List Int × List Int := if 0 < nextV r 8 then ([a, marks.getD (nextV r.tail 5).toNat 0], r.tail.tail) else ([a], r.tail)
def twF (Q : List Mp) (tl r : List Int) : Bool := (nextV r 6 == 0) || Q.any fun d => d.2 == tl
def stD1 (k : Nat) (Q : List Mp) (E tl r : List Int) : List Mp × List Int × List Int := (Q ++ [(7680 + (k : Int), tl)], if twF Q tl r = true then E ++ [7680 + (k : Int)] else E, r.tail)
def stD2 (k : Nat) (Q : List Mp) (E : List Int) (p : Int × List Int) : List Mp × List Int × List Int := stD1 k Q E (tlF p.1 p.2).1 (tlF p.1 p.2).2
def stD3 (k : Nat) (Q : List Mp) (E : List Int) (a : Int) (p : Bool × List Int) : List Mp × List Int × List Int := stD2 k Q E (a2F k a p.1 p.2)
def stD (k : Nat) (Q : List Mp) (E r : List Int) : List Mp × List Int × List Int :=
  if nextV r 4 = 0 then (Q, E, r.tail) else stD3 k Q E (97 + nextV r.tail 2) (b1F k r.tail.tail)
def decF : Nat → Nat → List Mp → List Int → List Int → List Mp × List Int
  | 0, _, Q, E, _ => (Q, E)
  | n + 1, k, Q, E, r => decF n (k + 1) (stD k Q E r).1 (stD k Q E r).2.1 (stD k Q E r).2.2
theorem decF_step {k : Nat} (hk : k < 5) (Q : List Mp) (E r : List Int) : decF (5 - k) k Q E r = decF (5 - (k + 1)) (k + 1) (stD k Q E r).1 (stD k Q E r).2.1 (stD k Q E r).2.2 := by
  rw [show 5 - k = (5 - (k + 1)) + 1 by omega, decF]

/-- What a stream keeps of the tables that are made of zs. -/
def nrmF (zs : List Int) : Tb :=
  ⟨[], (clsG (nextV zs 3 == 0) 28 0 [] zs.tail).1, [], [], [], [], [], [], [], (decF 5 0 [] [] (clsG (nextV zs 3 == 0) 28 0 [] zs.tail).2).1, (decF 5 0 [] [] (clsG (nextV zs 3 == 0) 28 0 [] zs.tail).2).2, []⟩

/-- The row of v, if there is one, may be written. -/
def Warm (w : World) (v : Value) : Prop := ∀ b off n c, v = .slice (some ⟨b, off, none⟩) n c → ∀ j, w.frozen? ⟨b, j, none⟩ = false
theorem Warm.row {w : World} {B : Nat} {e : TypeId} {z : Nat} {v : Value} {n : Nat} {xs : List Value} (h : w.ownsRow B e z v n xs) : Warm w v := by
  intro b off m c e j
  rcases h.2 with ⟨rfl, _⟩ | ⟨g, cap, cur, rfl, _, hg, _⟩
  · cases e
  · injection e with e _ _
    injection e with e
    injection e with e1 _ _
    subst e1
    exact frozen_of_row w _ j cur _ hg
theorem Warm.store {w : World} {v : Value} (h : Warm w v) (a : Addr) (u : Value) : Warm (w.setCell a u) v := fun b off n c e j => (World.frozen?_setCell _ _ _ _).trans (h b off n c e j)
theorem Warm.keeps {w w' : World} {P R : Nat → Prop} {v : Value} (h : Warm w v) (hl : Lies w P v) (hk : Keeps w w' R) (hr : ∀ k, k < w.heap.size → R k → ¬ P k) : Warm w' v :=
  fun b off n c e j => (World.frozen?_of_block (a := ⟨b, j, none⟩) (hk.block b (hl b off n c e).2 (fun r => hr b (hl b off n c e).2 r (hl b off n c e).1))).trans (h b off n c e j)

def UsualPost9 (c : Int) (w : World) (e : Ending) (w' : World) : Prop := ∃ u, Six u ∧ u 1 = usC c ∧ e = .returned (sixV u) ∧ Below w.heap.size w w'
theorem six_lit9 (c0 a b c d e f : Int) (w w' : World) (hb : Below w.heap.size w w') (h : 0 ≤ a ∧ a ≤ 8 ∧ 0 ≤ b ∧ b ≤ 254 ∧ 0 ≤ c ∧ c ≤ 5 ∧ 0 ≤ d ∧ d ≤ 11 ∧ 0 ≤ e ∧ e ≤ 60 ∧ (f = 0 ∨ f = 1 ∨ f = 2 ∨ f = 4)) (hc : b = usC c0) :
    UsualPost9 c0 w (.returned (.agg #[.int .i64 a, .int .i64 b, .int .i64 c, .int .i64 d, .int .i64 e, .int .i64 f])) w' := by
  refine ⟨sixF a b c d e f, ⟨?_, ?_, ?_, ?_, ?_, ?_⟩, hc, rfl, hb⟩ <;> simp only [sixF, List.getD_cons_zero, List.getD_cons_succ] <;> omega

set_option maxHeartbeats 4000000 in
theorem usual9_any (c : Int) (w : World) (hc : c ∈ poolL) : Calls Tryz.prog 29 #[.int .i64 c] w (UsualPost9 c w) := by
  simp only [poolL, List.mem_cons, List.not_mem_nil, or_false] at hc
  rcases hc with rfl | rfl | rfl | rfl | rfl | rfl | rfl | rfl | rfl | rfl | rfl | rfl | rfl | rfl | rfl | rfl | rfl | rfl | rfl | rfl | rfl | rfl | rfl | rfl | rfl | rfl | rfl | rfl
  all_goals
    go_enter Tryz.func29, Tryz.ntmps29
    go_wp2
    refine bodyPost_ret (results_cell_row rfl _ _ w.heap.size _ _ _ _ rfl (heap_alloc_new _ _) Tryz.underlying55 rfl (by kernel_rfl)) rfl ?_
    exact six_lit9 _ _ _ _ _ _ _ _ _ (by first | exact ((Below.refl _ _).alloc (Nat.le_refl _) _) | exact ((Below.refl _ _).alloc (Nat.le_refl _) _).setCell (Nat.le_refl _) _ | trace_state) (by omega) (by decide)

def ChoosePost9 (g : Nat) (zs r : List Int) (w : World) (e : Ending) (w' : World) : Prop :=
  ∃ v r', e = .returned (.int .i64 v) ∧ v ∈ zs ∧ Src w' g r' ∧ w.grownBy w' (some g) ∧ v = chV r zs ∧ r' = chR r

set_option maxHeartbeats 2000000 in
theorem choose9_any (g : Nat) (r : List Int) (b : Nat) (off n cap : Nat) (zs : List Int) (w : World) (hs : Src w g r) (hin : IntsIn w (some ⟨b, off, none⟩) zs) (hn : zs.length = n) (h0 : 0 < n) (h1 : n ≤ 1000) (hb : b ≠ g) :
    Calls Tryz.prog 30 #[.pointer (some ⟨g, 0, none⟩), .slice (some ⟨b, off, none⟩) n cap] w (ChoosePost9 g zs r w) := by
  obtain ⟨x, hx⟩ : ∃ x, nextV r 3 = x := ⟨_, rfl⟩
  obtain ⟨b0, b1⟩ := nextV_bd r 3 (by omega)
  rw [hx] at b0 b1
  have HX := Lib.hid hx
  have HS := Lib.hid hs
  have HI := Lib.hid hin
  have HN := Lib.hid hn
  clear hx hs hin hn
  by_cases hz : 0 < x
  · go_enter Tryz.func30, Tryz.ntmps30
    go_wp2_with fail
    refine (next_at g r 3 x _ HS.out (by omega) (by omega) HX).mono ?_
    rintro e w1 ⟨rfl, hs1, hg1⟩
    obtain ⟨b', off', e', hc⟩ := (HI.out.grown hg1 (by intro b' off' e; cases e; exact hb)) 0 (by rw [HN.out]; exact h0)
    cases e'
    have HM := Lib.hid (getD_mem_int zs 0 (by rw [HN.out]; exact h0))
    obtain ⟨y, hy⟩ : ∃ y, zs.getD 0 0 = y := ⟨_, rfl⟩
    rw [hy] at hc HM
    simp only [Nat.add_zero] at hc
    have HS1 := Lib.hid hs1
    have HG1 := Lib.hid hg1
    have HY := Lib.hid hy
    clear hs1 hg1 hy
    go_wp2
    go_ret
    exact ⟨y, _, rfl, HM.out, HS1.out, HG1.out, by unfold chV; rw [HX.out, if_pos hz]; exact HY.out.symm, by unfold chR; rw [HX.out, if_pos hz]⟩
  · obtain ⟨q, hq⟩ : ∃ q : Nat, nextV r.tail n = q := ⟨(nextV r.tail n).toNat, by have := nextV_bd r.tail n (by omega); omega⟩
    have hqn : q < n := by have := nextV_bd r.tail n (by omega); omega
    have HQ := Lib.hid hq
    clear hq
    go_enter Tryz.func30, Tryz.ntmps30
    go_wp2_with fail
    refine (next_at g r 3 x _ HS.out (by omega) (by omega) HX).mono ?_
    rintro e w1 ⟨rfl, hs1, hg1⟩
    have HI1 := Lib.hid (HI.out.grown hg1 (by intro b' off' e; cases e; exact hb))
    have HS1 := Lib.hid hs1
    have HG1 := Lib.hid hg1
    clear hs1 hg1
    go_wp2_with fail
    refine (next_at g r.tail n q _ HS1.out (by omega) (by omega) HQ).mono ?_
    rintro e w2 ⟨rfl, hs2, hg2⟩
    obtain ⟨b', off', e', hc⟩ := (HI1.out.grown hg2 (by intro b' off' e; cases e; exact hb)) q (by rw [HN.out]; exact hqn)
    cases e'
    have HM := Lib.hid (getD_mem_int zs q (by rw [HN.out]; exact hqn))
    obtain ⟨y, hy⟩ : ∃ y, zs.getD q 0 = y := ⟨_, rfl⟩
    rw [hy] at hc HM
    have HS2 := Lib.hid hs2
    have HG2 := Lib.hid (grownBy_trans HG1.out hg2)
    have HY := Lib.hid hy
    clear hs2 hg2 hy
    go_wp2
    go_ret
    exact ⟨y, _, rfl, HM.out, HS2.out, HG2.out, by unfold chV; rw [HX.out, if_neg (by omega), HN.out, HQ.out, Int.toNat_natCast]; exact HY.out.symm, by unfold chR; rw [HX.out, if_neg (by omega)]⟩

def AddPost9 (g i : Nat) (v : Value) (L : List Sp) (w : World) (e : Ending) (w' : World) : Prop :=
  e = .returned (.tuple #[]) ∧ ∃ v', Sets w w' g i v' ∧ SpV w' v' L ∧ (v' = v ∨ (Warm w' v' ∧ ∀ b off n c, v' = .slice (some ⟨b, off, none⟩) n c → w.heap.size ≤ b ∧ b < w'.heap.size))

set_option maxRecDepth 100000 in
set_option maxHeartbeats 4000000 in
theorem add9_any (g i : Nat) (p : Option Addr) (n cap : Nat) (L : List Sp) (s : Sp) (z : Int) (w : World) (hc : w.cell? ⟨g, i, none⟩ = some (.slice p n cap)) (hf : w.frozen? ⟨g, i, none⟩ = false)
    (hin : SpIn w p L) (hn : L.length = n) (hl : n ≤ 1000) :
    Calls Tryz.prog 31 #[.pointer (some ⟨g, i, none⟩), spV s, .int .i64 z] w (AddPost9 g i (.slice p n cap) (addL L s z) w) := by
  obtain ⟨f, t, v⟩ := s
  have hg : g < w.heap.size := World.block_lt_of_cell? w _ hc
  have HI := Lib.hid hin
  have HN := Lib.hid hn
  clear hin hn
  by_cases hz : 0 < z
  · have HA : Hid (addL L (f, t, v) z = L ++ [(f, t, z)]) := by unfold Hid addL; rw [if_pos hz]
    obtain ⟨W, hW⟩ : ∃ W : World, W = w.alloc (.cells #[.int .i64 f, .int .i64 t, .int .i64 z] 50) := ⟨_, rfl⟩
    obtain ⟨h, hh⟩ : ∃ h, h = w.heap.size := ⟨_, rfl⟩
    have hkW : Keeps w W (fun _ => False) := by rw [hW]; exact Keeps.alloc _ _
    have hcur : Cur W h f t z := by rw [hW, hh]; exact Cur.new _ _ _ _ _
    obtain ⟨x0, x1, x2, _, _⟩ := hcur
    have c0 : W.cell? ⟨g, i, none⟩ = some (.slice p n cap) := hkW.cell hc (fun e => e)
    have f0 : W.frozen? ⟨g, i, none⟩ = false := (World.frozen?_of_block (a := ⟨g, i, none⟩) (hkW.block g hg (fun e => e))).trans hf
    have HIW := Lib.hid (SpIn.keeps HI.out hkW)
    have HKW := Lib.hid hkW
    have hWs : h < W.heap.size := by rw [hW, hh]; simp
    have cB0 : (W.alloc (.cells #[.int .i64 f, .int .i64 t, .int .i64 z] 50)).cell? ⟨g, i, none⟩ = some (.slice p n cap) := (Keeps.alloc W _).cell c0 (fun e => e)
    clear hkW
    go_enter Tryz.func31, Tryz.ntmps31
    go_upto_region 3 with (fail)
    rw [← hW, ← hh]
    have HH := Lib.hid hh
    have HC := Lib.hid hc
    have HF := Lib.hid hf
    clear hW hc hf HI hh
    go_region_law
      (first
        | (refine step_append_spans (by rfl) (.const (.slice none 0 0)) _ (by rfl) h (.slice none 0 0) [] (by rfl) (Spans.nil _ _) p n cap L HN.out (by rfl) (by first | exact HIW.out | exact HIW.out.alloc _) (by have := HN.out; simp; omega) (by first | exact Nat.le_of_lt hWs | (simp; omega)) ?_
           intro v1 w1 ho1 hg1
           have hk1 : Keeps W w1 (fun _ => False) := by first | exact (keeps_g hg1).undrew | exact (keeps_ag (W := W.drew) hg1).undrew
           have y0 : w1.cell? ⟨h, 0, none⟩ = some (.int .i64 f) := hk1.cell x0 (fun e => e)
           have y1 : w1.cell? ⟨h, 1, none⟩ = some (.int .i64 t) := hk1.cell x1 (fun e => e)
           have y2 : w1.cell? ⟨h, 2, none⟩ = some (.int .i64 z) := hk1.cell x2 (fun e => e)
           have hs1 : h < w1.heap.size := Nat.lt_of_lt_of_le hWs hk1.size)
        | (refine step_append_spans (by rfl) _ _ (by rfl) h v1 ([] ++ L) (by rfl) (by first | exact ho1 | exact ho1.alloc _) _ 1 1 [(f, t, z)] rfl (by rfl) (by first | exact one_new w1 f t z _ | exact (one_new W f t z 50).below ⟨hg1.os, hg1.tape, hg1.output, hg1.size, fun k hk => hg1.block k hk (by simp [Value.ownBlock])⟩) (by have := HN.out; simp; omega) (by first | exact Nat.le_of_lt hs1 | (simp; omega)) ?_
           intro v2 w2 ho2 hg2
           have hn1 : ∀ k, Value.ownBlock v1 = some k → h ≤ k := fun k hk => (ho1.base k hk)
           have hk2 : Keeps w1 w2 (fun k => Value.ownBlock v1 = some k) := by first | exact Keeps.of_grown hg2 | exact (Keeps.alloc w1 _).trans (Keeps.of_grown hg2) (fun _ _ e => e.elim) (fun _ _ e => e)
           have hk3 : Keeps w w2 (fun _ => False) := (HKW.out.trans hk1 (fun _ _ e => e) (fun _ _ e => e)).trans hk2 (fun _ _ e => e) (fun b hb e => by have := hn1 b e; have := HH.out; omega)
           have c2 : w2.cell? ⟨g, i, none⟩ = some (.slice p n cap) := hk3.cell HC.out (fun e => e)
           have f2 : w2.frozen? ⟨g, i, none⟩ = false := (World.frozen?_of_block (a := ⟨g, i, none⟩) (hk3.block g hg (fun e => e))).trans HF.out
           have hwm := Lib.hid (Warm.row ho2)
           have hso := Lib.hid (ho2.spO (by have := HN.out; simp; omega))
           obtain ⟨p2, q2, N2, rfl⟩ : ∃ p2 q2 N2, v2 = .slice p2 N2 q2 := by obtain ⟨p2, q2, e, _⟩ := ho2.inn; exact ⟨p2, q2, _, e⟩))
    all_goals
      have HS2 := Lib.hid ((Sets.store w2 g i (.slice p2 N2 q2) _ c2).behind hk3 (fun _ _ e => e) hg)
      have HV2 := Lib.hid (hso.out.keeps (Keeps.store w2 g i (.slice p2 N2 q2)) (fun k _ e hh => by have := HH.out; omega))
      clear ho2 hg2 hk2 hk3 ho1 hg1 hk1 hn1
      go_wp2
      go_end0
      rw [HA.out]
      refine ⟨rfl, _, HS2.out, HV2.out.1, .inr ⟨hwm.out.store _ _, fun b off n c e => ?_⟩⟩
      have := HV2.out.2 b off n c e
      have := HH.out
      omega
  · have HA : Hid (addL L (f, t, v) z = L) := by unfold Hid addL; rw [if_neg hz]
    have hbl := (Below.refl w.heap.size w).alloc (Nat.le_refl _) (.cells #[.int .i64 f, .int .i64 t, .int .i64 v] 50)
    have HS := Lib.hid (Sets.same w g i _ hc hbl)
    have HI2 := Lib.hid (HI.out.below hbl)
    clear hbl
    go_enter Tryz.func31, Tryz.ntmps31
    go_wp2
    go_end0
    rw [HA.out]
    exact ⟨rfl, _, HS.out, ⟨p, cap, by rw [HN.out], HI2.out, by have := HN.out; omega⟩, .inl rfl⟩

/-- The state of Tables; the class list's row may be written. -/
structure USt (w0 w : World) (gs g rb pb : Nat) (f : Nat → Value) (S : Nat → List Sp) (v6 : Value) (sl r : List Int) : Prop where
  base : TSt w0 w gs g rb pb f S v6 sl r
  warm : Warm w (f 1)

section
variable {w0 w w1 w' : World} {gs g rb pb : Nat} {f : Nat → Value} {S : Nat → List Sp} {v6 : Value} {sl r r' : List Int}
theorem USt.step (h : USt w0 w gs g rb pb f S v6 sl r) (hk : Keeps w w' (fun b => b = gs)) (hs : Src w' gs r') : USt w0 w' gs g rb pb f S v6 sl r' :=
  ⟨h.base.step hk hs, h.warm.keeps (h.base.cold.sp 1 (by omega)).2 hk (fun k _ e hp => by have := h.base.ord; omega)⟩
theorem USt.below (h : USt w0 w gs g rb pb f S v6 sl r) (hb : Below w.heap.size w w') : USt w0 w' gs g rb pb f S v6 sl r :=
  ⟨h.base.below hb, h.warm.keeps (h.base.cold.sp 1 (by omega)).2 (Keeps.of_below hb) (fun k hk e hp => by omega)⟩
theorem USt.call {i : Nat} (h : USt w0 w gs g rb pb f S v6 sl r) (hi : i < 7) (hi5 : i ≠ 5) (hl : (S i).length ≤ 1000) (s : Sp) (z : Int) :
    Calls Tryz.prog 31 #[.pointer (some ⟨g, i, none⟩), spV s, .int .i64 z] w (fun e w' => e = .returned (.tuple #[]) ∧ ∃ v, Keeps w w' (fun k => k = g) ∧ USt w0 w' gs g rb pb (upd f i v) (upd S i (addL (S i) s z)) v6 sl r) := by
  obtain ⟨⟨p, c, hf, hin, _⟩, _⟩ := h.base.cold.sp i hi
  obtain ⟨b1, b2⟩ := h.base.box i (by omega)
  refine (add9_any g i p _ c (S i) s z w (by rw [b1, hf]) b2 hin rfl hl).mono ?_
  rintro e w' ⟨rfl, v, hs, hv, hl⟩
  refine ⟨rfl, v, hs.keep, h.base.add hi hi5 hs hv (by rw [hf]; exact hl.imp_right And.right), ?_⟩
  have hw : Warm w' (f 1) := h.warm.keeps (h.base.cold.sp 1 (by omega)).2 hs.keep (fun k _ e hp => by have := h.base.ord; omega)
  by_cases e1 : i = 1
  · subst e1
    rw [upd_same]
    rcases hl with hl | hl
    · rw [hl, ← hf]; exact hw
    · exact hl.1
  · rw [upd_other _ _ (fun e => e1 e.symm)]; exact hw
theorem USt.more {v : Value} {z : Int} (h : USt w0 w gs g rb pb f S v6 sl r) (ho : Ints w' (pb + 1) v (sl ++ [z])) (hg : w1.grownBy w' v6.ownBlock) (hv : v.ownBlock = v6.ownBlock ∨ v.ownBlock = some w1.heap.size) (hb : Below w.heap.size w w1) :
    USt w0 w' gs g rb pb f S v (sl ++ [z]) r := by
  refine ⟨h.base.more ho hg hv hb, ?_⟩
  have hk : Keeps w w' (fun b => v6.ownBlock = some b) := (Keeps.of_below hb).trans (Keeps.of_grown hg) (fun b hb e => absurd e (by omega)) (fun _ _ e => e)
  exact h.warm.keeps (h.base.cold.sp 1 (by omega)).2 hk (fun k _ e hp => hp.2 e)
end

end Go.Proofs.YtfmfifmmaihodaaGreatDoor

namespace Go.Proofs.YtfmfifmmaihodaaGreatDoor
open Go.RowKit
set_option linter.unusedVariables false

def DecPost9 (gs g : Nat) (f : Nat → Value) (r0 : List Int) (w : World) (e : Ending) (w' : World) : Prop :=
  e = .returned (.tuple #[]) ∧ ∃ r v9 v10 D E, DecOk 5 D E ∧ Src w' gs r ∧ BoxF w' g (upd (upd f 9 v9) 10 v10) ∧ MpO w' (fun b => w.heap.size ≤ b) v9 D ∧ InO w' (fun b => w.heap.size ≤ b) v10 E ∧ Keeps w w' (fun b => b = gs ∨ b = g) ∧ (∀ p n c, v9 = .slice p n c → n ≤ c) ∧ (D, E) = decF 5 0 [] [] r0

theorem done9 {w0 w : World} {gs g : Nat} {f : Nat → Value} {v9 v10 : Value} {Q : List Mq} {E r r0 : List Int} (h : DSt w0 w gs g f v9 v10 Q E r) (hok : DecOk 5 (Q.map (·.1)) E) (hd : decF (5 - 5) 5 (Q.map (·.1)) E r = decF 5 0 [] [] r0) : DecPost9 gs g f r0 w0 (.returned (.tuple #[])) w := by
  have h1 := hok.len
  have h2 := hok.elen
  refine ⟨rfl, r, v9, v10, _, E, hok, h.src, h.box, h.hot.mpO (by simp at h1; omega) (fun b _ hb => hb.1) (fun b hb _ => hb), h.exc.inO (by omega), h.keep, fun p n c e => row_cap h.hot.own e, hd⟩

set_option maxRecDepth 100000 in
set_option maxHeartbeats 4000000 in
theorem decomps9_any (gs g : Nat) (f : Nat → Value) (r0 : List Int) (w : World) (hs : Src w gs r0) (hb : BoxF w g f) (h9 : f 9 = .slice none 0 0) (h10 : f 10 = .slice none 0 0) (ho : gs < g) :
    Calls Tryz.prog 32 #[.pointer (some ⟨gs, 0, none⟩), .pointer (some ⟨g, 0, none⟩)] w (DecPost9 gs g f r0 w) := by
  have HD := Lib.hid (DSt.start hs hb h9 h10 ho)
  clear hs hb h9 h10
  go_enter Tryz.func32, Tryz.ntmps32
  go_wp2
  go_loopw [4] (fun kv wr => ∃ (k : Nat) (v9 v10 : Value) (Q : List Mq) (E r : List Int), k ≤ 5 ∧ kv = .int .i64 k ∧ Hid (DSt w wr gs g f v9 v10 Q E r) ∧ Hid (DecOk k (Q.map (·.1)) E) ∧ Hid (decF (5 - k) k (Q.map (·.1)) E r = decF 5 0 [] [] r0)) (fun kv _ => 5 - (intOf kv).toNat)
  case atStart => exact ⟨0, _, _, _, _, r0, by omega, rfl, HD, DecOk.nil, rfl⟩
  case round =>
    obtain ⟨k, v9, v10, Q, E, r, hk, rfl, hd, hok, hdf⟩ := hrel
    by_cases hk5 : k < 5
    · have hstp := hdf.out
      rw [decF_step hk5] at hstp
      have HDF := Lib.hid hstp
      clear hstp hdf
      obtain ⟨x, hx⟩ : ∃ x, nextV r 4 = x := ⟨_, rfl⟩
      have HX := Lib.hid hx
      clear hx
      by_cases hx0 : x = 0
      · subst hx0
        go_wp2_with fail
        refine (next_at gs r 4 0 _ hd.out.src (by omega) (by omega) HX).mono ?_
        rintro e w1 ⟨rfl, hs1, hg1⟩
        have HD1 := Lib.hid ((hd.out.step ((Keeps.of_grown hg1).weak (fun b _ e => by injection e with e; exact e.symm)) hs1))
        clear hs1 hg1
        go_wp2
        go_roundw
        case rel =>
          refine ⟨k + 1, _, _, _, _, _, by omega, by go_num, HD1, hok.out.skip, ?_⟩
          have h := HDF.out
          unfold stD at h
          rw [if_pos HX.out] at h
          exact h
        case measure => simp [intOf]; omega
      · go_wp2_with fail
        refine (next_at gs r 4 x _ hd.out.src (by omega) (by omega) HX).mono ?_
        rintro e w1 ⟨rfl, hs1, hg1⟩
        have HK1 := Lib.hid ((Keeps.of_grown hg1).weak (Q := fun b => b = gs) (fun b _ e => by injection e with e; exact e.symm))
        have HS1 := Lib.hid hs1
        clear hs1 hg1
        obtain ⟨q, hq⟩ : ∃ q, nextV r.tail 2 = q := ⟨_, rfl⟩
        obtain ⟨q0, q1⟩ := nextV_bd r.tail 2 (by omega)
        rw [hq] at q0 q1
        have HQ := Lib.hid hq
        clear hq
        go_wp2_with fail
        refine (next_at gs r.tail 2 q _ HS1.out (by omega) (by omega) HQ).mono ?_
        rintro e w2 ⟨rfl, hs2, hg2⟩
        have HK2 := Lib.hid (HK1.out.trans ((Keeps.of_grown hg2).weak (Q := fun b => b = gs) (fun b _ e => by injection e with e; exact e.symm)) (fun _ _ e => e) (fun _ _ e => e))
        have HS2 := Lib.hid hs2
        clear hs2 hg2 HK1 HS1
        go_upto_region 5 with (fail)
        have hgw : gs < wr.heap.size := hd.out.src.lt
        have hst := MSt.new (fr := 7680 + k) (a := 97 + q) HK2.out HS2.out hgw
        have htb : wr.heap.size ≤ w2.heap.size := HK2.out.size
        generalize ((w2.alloc (.cells #[.int .i64 (97 + q)] 3)).alloc (.cells #[.int .i64 (7680 + k), .slice (some ⟨w2.heap.size, 0, none⟩) 1 1] 64)) = W at hst ⊢
        have hmt : w2.heap.size ≠ w2.heap.size + 1 := by omega
        generalize w2.heap.size + 1 = mb at hst hmt ⊢
        generalize w2.heap.size = tb at hst htb hmt ⊢
        have HST := Lib.hid hst
        have HHD : Hid (headOk k (97 + q)) := by unfold Hid headOk; omega
        clear HK2 HS2 hst q0 q1
        have HDF2 : Hid (stD k (Q.map (·.1)) E r = stD3 k (Q.map (·.1)) E (97 + q) (b1F k r.tail.tail)) := by unfold Hid stD; rw [if_neg (by rw [HX.out]; exact hx0), HQ.out]
        clear HQ HX
        generalize 97 + q = a at HST HHD HDF2 ⊢
        go_cut [29] (fun c wx => ∃ (B : Bool) (r' : List Int), c = .bool B ∧ (B = true → 0 < k) ∧ Hid (MSt wr.heap.size wr wx gs mb (7680 + k) (.slice (some ⟨tb, 0, none⟩) 1 1) [a] r') ∧ Hid (b1F k r.tail.tail = (B, r')))
        case first =>
          by_cases hk0 : k = 0
          · subst hk0
            go_wp2_with fail
            go_meet
            exact ⟨false, _, rfl, by simp, HST, by unfold Hid b1F; rw [if_pos rfl]⟩
          · have hkp : 0 < k := by omega
            obtain ⟨y, hy⟩ : ∃ y, nextV r.tail.tail 3 = y := ⟨_, rfl⟩
            have HY := Lib.hid hy
            clear hy
            go_wp2_with fail
            refine (next_at gs r.tail.tail 3 y _ HST.out.src (by omega) (by omega) HY).mono ?_
            rintro e w3 ⟨rfl, hs3, hg3⟩
            have hk3 := next_keeps hg3
            have HS3 := Lib.hid (HST.out.step hk3 hs3)
            clear hs3 hg3 hk3
            go_wp2_with fail
            go_meet
            exact ⟨y == 0, _, rfl, by intro _; omega, HS3, by unfold Hid b1F; rw [if_neg hk0, HY.out]⟩
        case rest =>
          obtain ⟨B, r3, rfl, hB, hst, hb1⟩ := hcut
          have HDF3 : Hid (stD k (Q.map (·.1)) E r = stD2 k (Q.map (·.1)) E (a2F k a B r3)) := by unfold Hid; rw [HDF2.out, hb1.out]; rfl
          clear HST HDF2 hb1
          go_upto_if 29 with (fail)
          go_cut [5] (fun v wx => ∃ (a' : Int) (r' : List Int), v = .pointer (some ⟨mb, 0, none⟩) ∧ Hid (headOk k a') ∧ Hid (MSt wr.heap.size wr wx gs mb (7680 + k) (.slice (some ⟨tb, 0, none⟩) 1 1) [a'] r') ∧ Hid (a2F k a B r3 = (a', r')))
          case first =>
            cases B with
            | false =>
              go_wp2_with fail
              go_meet
              exact ⟨a, _, rfl, HHD, hst, by unfold Hid a2F; rw [if_neg (by simp)]⟩
            | true =>
              have hkp : 0 < k := hB rfl
              obtain ⟨z, hz⟩ : ∃ z, nextV r3 k = z := ⟨_, rfl⟩
              obtain ⟨z0, z1⟩ := nextV_bd r3 k (by omega)
              rw [hz] at z0 z1
              have HZ := Lib.hid hz
              have HH2 : Hid (headOk k (7680 + z)) := .inr (.inr ⟨z.toNat, by omega, by omega⟩)
              have x1 := hst.out.c1
              have hwz : IntKind.i64.wrap (7680 + z) = 7680 + z := IntWalk.i64_in _ (by omega)
              clear hz
              go_upto_region 6 with (fail)
              go_region_law
                (go_simp
                 go_at_call 27
                 refine (next_at gs r3 k z _ hst.out.src.drew (by omega) (by omega) HZ).mono ?_
                 rintro e w4 ⟨rfl, hs4, hg4⟩
                 have hk4 := next_keeps hg4
                 have hs5 := MSt.step (w := wc) hst.out ⟨hk4.os, hk4.tape, hk4.output, hk4.size, hk4.block⟩ hs4
                 have HS5 := Lib.hid hs5
                 have y1 := hs5.c1
                 have y2 := hs5.row
                 have y3 := hs5.free)
              all_goals
                go_wp2_with fail
                go_meet
                exact ⟨7680 + z, _, rfl, HH2, HS5.out.setTo _, by unfold Hid a2F; rw [if_pos rfl, HZ.out]⟩
          case rest =>
            obtain ⟨a2, r4, rfl, hh2, hst2, ha2⟩ := hcut
            have HDF4 : Hid (stD k (Q.map (·.1)) E r = stD1 k (Q.map (·.1)) E (tlF a2 r4).1 (tlF a2 r4).2) := by unfold Hid; rw [HDF3.out, ha2.out]; rfl
            clear hst HDF3 ha2
            obtain ⟨z, hz⟩ : ∃ z, nextV r4 8 = z := ⟨_, rfl⟩
            have HZ := Lib.hid hz
            clear hz
            go_wp2_with fail
            refine (next_at gs r4 8 z _ hst2.out.src (by omega) (by omega) HZ).mono ?_
            rintro e w4 ⟨rfl, hs4, hg4⟩
            have HS4 := Lib.hid (hst2.out.step (next_keeps hg4) hs4)
            clear hs4 hg4 hst2
            go_upto_if 39 with (fail)
            go_cut [5] (fun v wx => ∃ (u : Value) (tl r' : List Int), v = .pointer (some ⟨mb, 0, none⟩) ∧ Hid (toOk k tl) ∧ Hid (MSt wr.heap.size wr wx gs mb (7680 + k) u tl r') ∧ Hid (tlF a2 r4 = (tl, r')))
            case first =>
              by_cases hz0 : 0 < z
              · obtain ⟨j, hj⟩ : ∃ j : Nat, nextV r4.tail 5 = j := ⟨(nextV r4.tail 5).toNat, by have := nextV_bd r4.tail 5 (by omega); omega⟩
                have hj5 : j < 5 := by have := nextV_bd r4.tail 5 (by omega); omega
                have HJ := Lib.hid hj
                obtain ⟨b, hb⟩ : ∃ b, marks.getD j 0 = b := ⟨_, rfl⟩
                have HBM : Hid (b ∈ marks) := by unfold Hid; rw [← hb]; exact getD_mem_int _ _ (by simpa [marks] using hj5)
                have hlit : ∀ W : World, (W.alloc (.cells #[.int .i64 769, .int .i64 776, .int .i64 803, .int .i64 837, .int .i64 945] 3)).cell? ⟨W.heap.size, j, none⟩ = some (.int .i64 b) := by
                  intro W
                  obtain ⟨_, _, e, hc⟩ := lit_ints W #[.int .i64 769, .int .i64 776, .int .i64 803, .int .i64 837, .int .i64 945] marks 3 rfl j (by simpa [marks] using hj5)
                  cases e
                  rw [hb] at hc
                  simpa using hc
                have l4 := hlit w4
                have x1 := HS4.out.c1
                have hmb := HS4.out.lt
                have x2 : ∀ o, (w4.alloc o).cell? ⟨mb, 1, none⟩ = some (.slice (some ⟨tb, 0, none⟩) 1 1) := fun o => (Keeps.alloc w4 o).cell x1 (fun e => e)
                have hji : (j : Int) < 5 := by omega
                have HTB : Hid (marks.getD (nextV r4.tail 5).toNat 0 = b) := by unfold Hid; rw [hj, Int.toNat_natCast]; exact hb
                have HZP : Hid (0 < nextV r4 8) := by unfold Hid; rw [HZ.out]; exact hz0
                clear hj hb
                go_upto_region 8 with (fail)
                go_region_law (first
                  | (refine step_append_one (by rfl) _ _ (by rfl) wr.heap.size (.slice (some ⟨tb, 0, none⟩) 1 1) [a2] (by rfl) (by first | exact hs5.own.alloc _ | exact (hs5.own.alloc _).alloc _) _ 1 b (by rfl) (by simp [World.cell?_alloc_new]) (by simp) (by have := hs5.ord; have := hs5.keep.size; simp; omega) ?_
                     intro v6 w6 ho6 hg6 hv6
                     obtain ⟨p6, n6, q6, rfl⟩ : ∃ p n q, v6 = .slice p n q := by obtain ⟨p, c, e, _⟩ := ho6.inn; exact ⟨p, _, c, e⟩
                     have hm6 := Lib.hid (first_more hs5 ho6 hg6 hv6 (by first | exact (Below.refl _ _).alloc (Nat.le_refl _) _ | exact ((Below.refl _ _).alloc (Nat.le_refl _) _).alloc (by simp) _))
                     have c6 : w6.cell? ⟨mb, 1, none⟩ = some (.slice (some ⟨tb, 0, none⟩) 1 1) := hm6.out.2.1
                     have f6 : w6.frozen? ⟨mb, 1, none⟩ = false := hm6.out.2.2)
                  | (go_simp
                     go_at_call 27
                     refine (next_at gs r4.tail 5 j _ (by first | exact HS4.out.src.drew | exact (HS4.out.src.alloc _).drew) (by omega) (by omega) HJ).mono ?_
                     rintro e w5 ⟨rfl, hs5', hg5⟩
                     have hk5 : Keeps w4 w5 (fun b => b = gs) := by
                       first
                         | exact (next_keeps hg5).undrewg
                         | exact (Keeps.alloc w4 _).trans (next_keeps hg5).undrewg (fun _ _ e => e.elim) (fun _ _ e => e)
                     have hs5 := HS4.out.step hk5 hs5'
                     have y1 := hs5.c1
                     have hmb5 := hs5.lt
                     have y2 : ∀ o, (w5.alloc o).cell? ⟨mb, 1, none⟩ = some (.slice (some ⟨tb, 0, none⟩) 1 1) := fun o => (Keeps.alloc w5 o).cell y1 (fun e => e)
                     have y3 : ∀ o o', ((w5.alloc o).alloc o').cell? ⟨mb, 1, none⟩ = some (.slice (some ⟨tb, 0, none⟩) 1 1) := fun o o' => (Keeps.alloc _ o').cell (y2 o) (fun e => e)
                     have l5 := hlit w5
                     try have l6 : w5.cell? ⟨w4.heap.size, j, none⟩ = some (.int .i64 b) := hg5.cell l4 (by have := hs5.ord; have := HS4.out.keep.size; simp; omega)))
                all_goals
                  clear ho6 hg6 hv6
                  go_wp2_with fail
                  go_meet
                  exact ⟨_, [a2] ++ [b], _, rfl, ⟨a2, hh2.out, .inr ⟨b, HBM.out, rfl⟩⟩, hm6.out.1, by unfold Hid tlF; rw [if_pos HZP.out, HTB.out]; rfl⟩
              · have HZN : Hid (¬ 0 < nextV r4 8) := by unfold Hid; rw [HZ.out]; exact hz0
                go_wp2_with fail
                go_meet
                exact ⟨_, [a2], _, rfl, ⟨a2, hh2.out, .inl rfl⟩, HS4, by unfold Hid tlF; rw [if_neg (by have := HZN.out; omega)]⟩
            case rest =>
              obtain ⟨u, tl, r5, rfl, hto, hst3, htl⟩ := hcut
              have HDF5 : Hid (stD k (Q.map (·.1)) E r = stD1 k (Q.map (·.1)) E tl r5) := by unfold Hid; rw [HDF4.out, htl.out]
              clear HS4 HDF4 htl
              obtain ⟨pu, cu, hu, _⟩ := hst3.out.own.inn
              subst hu
              obtain ⟨p9, c9, N, hN, rfl⟩ : ∃ p c N, Q.length = N ∧ v9 = .slice p N c := by obtain ⟨p, c, e⟩ := hd.out.hot.slice; exact ⟨p, c, _, rfl, e⟩
              have HO9 : Hid (∀ b, (Value.slice p9 N c9).ownBlock = some b → b < wr.heap.size) := fun b hb => (World.ownsRow.lt hd.out.hot.own b hb).2
              have HO10 : Hid (∀ b, v10.ownBlock = some b → b < wr.heap.size) := fun b hb => (World.ownsRow.lt hd.out.exc b hb).2
              have HWZ : Hid (w.heap.size ≤ wr.heap.size) := hd.out.size
              obtain ⟨z2, hz2⟩ : ∃ z, nextV r5 6 = z := ⟨_, rfl⟩
              have HZ2 := Lib.hid hz2
              have HN := Lib.hid hN
              clear hz2 hN
              go_wp2_with fail
              refine (next_at gs r5 6 z2 _ hst3.out.src (by omega) (by omega) HZ2).mono ?_
              rintro e w6 ⟨rfl, hs6, hg6⟩
              have HS6 := Lib.hid (hst3.out.step (next_keeps hg6) hs6)
              have HD6 := Lib.hid (hd.out.step HS6.out.keep HS6.out.src)
              have hNl : N ≤ 5 := by have h1 := hok.out.len; rw [List.length_map] at h1; have := HN.out; omega
              have b9 : w6.cell? ⟨g, 9, none⟩ = some (.slice p9 N c9) := by have := (HD6.out.box 9 (by omega)).1; rwa [upd_other _ _ (by omega), upd_same] at this
              clear hs6 hg6 hst3 hd
              go_wp2
              clear b9
              go_loopw [6, 58] (fun tw iv wx => ∃ (j : Nat) (B : Bool), j ≤ N ∧ tw = .bool B ∧ iv = .int .i64 j ∧ Hid (B = false → ∀ d ∈ (Q.take j).map (·.1), d.2 ≠ tl) ∧ Hid (B = ((z2 == 0) || ((Q.take j).map (·.1)).any fun d => d.2 == tl)) ∧ Hid (MSt wr.heap.size wr wx gs mb (7680 + k) (.slice pu tl.length cu) tl r5.tail) ∧ Hid (DSt w wx gs g f (.slice p9 N c9) v10 Q E r5.tail)) (fun _ iv _ => N - (intOf iv).toNat)
              case atStart => exact ⟨0, z2 == 0, by omega, rfl, rfl, by intro _ d hd; simp at hd, by simp [Hid], HS6, HD6⟩
              case round =>
                obtain ⟨j, B1, hj, rfl, rfl, hne, hbe, hms, hds⟩ := hrel
                by_cases hjN : j < N
                · obtain ⟨b9, cap9, q, e9, hq, hqm, _, hc1, hc2⟩ := hds.out.hot.cells j (by rw [HN.out]; exact hjN)
                  injection e9 with e9 e9b e9c
                  clear e9b e9c
                  subst e9
                  obtain ⟨⟨fq, tq⟩, uq⟩ := q
                  have htos := hds.out.hot.tos _ hqm
                  simp only at hc1 hc2 htos
                  obtain ⟨⟨pq, cq, hu2, hinq, hlq⟩, _⟩ := htos
                  subst hu2
                  have htk : Hid ((Q.take (j + 1)).map (·.1) = (Q.take j).map (·.1) ++ [(fq, tq)]) := by
                    unfold Hid
                    rw [List.take_add_one, hq]; simp
                  obtain ⟨p0, c0, e0, hin0⟩ := hms.out.own.inn
                  injection e0 with e0 _ e1
                  subst e0 e1
                  have x1 := hms.out.c1
                  have hmb := hms.out.lt
                  have hbl : Below wr.heap.size wr (wr.alloc (.cells #[.int .i64 fq, .slice pq tq.length cq] 64)) := (Below.refl _ _).alloc (Nat.le_refl _) _
                  have x2 : (wr.alloc (.cells #[.int .i64 fq, .slice pq tq.length cq] 64)).cell? ⟨mb, 1, none⟩ = some (.slice pu tl.length cu) := (Keeps.alloc _ _).cell x1 (fun e => e)
                  have HMS := Lib.hid (hms.out.step ((Keeps.of_below hbl).weak (fun b hb e => by omega)) (hms.out.src.below hbl))
                  have HDS := Lib.hid (hds.out.below hbl)
                  have HSAME := Lib.hid (same_any pq pu cq cu tq tl _ (hinq.below hbl) (hin0.below hbl) (by unfold maxLen; omega) (by have := hto.out; obtain ⟨_, _, h | ⟨_, _, h⟩⟩ := this <;> rw [h] <;> simp [maxLen]))
                  have HJ1 : Hid (Q.length = N) := HN
                  have HBE : Hid (((z2 == 0) || ((Q.take (j + 1)).map (·.1)).any fun d => d.2 == tl) = (B1 || (tq == tl))) := by unfold Hid; rw [htk.out, List.any_append, hbe.out]; simp [Bool.or_assoc]
                  clear hms hds x1 hbl hinq hin0 hlq hq hqm hbe
                  cases B1 with
                  | true =>
                    go_wp2
                    go_roundw
                    case rel => exact ⟨j + 1, true, by omega, rfl, by go_num, by first | exact fun e => absurd e (by simp) | exact trivial, by unfold Hid; rw [HBE.out]; simp, HMS, HDS⟩
                    case measure => simp [intOf]; omega
                  | false =>
                    go_wp2_with fail
                    refine HSAME.out.mono ?_
                    rintro e w7 ⟨rfl, hb7⟩
                    have HMS7 := Lib.hid (HMS.out.step ((Keeps.of_below hb7).weak (fun b hb e => by omega)) (HMS.out.src.below hb7))
                    have HDS7 := Lib.hid (HDS.out.below hb7)
                    have HN7 : Hid ((tq == tl) = false → ∀ d ∈ (Q.take (j + 1)).map (·.1), d.2 ≠ tl) := by
                      intro e d hd
                      rw [htk.out] at hd
                      rcases List.mem_append.1 hd with hd | hd
                      · exact hne.out (by first | rfl | trivial) d hd
                      · rw [List.mem_singleton] at hd; subst hd; simpa using e
                    clear hb7 hne htk
                    go_wp2
                    go_roundw
                    case rel =>
                      exact ⟨j + 1, tq == tl, by omega, by go_num, by go_num, HN7, by unfold Hid; rw [HBE.out]; simp, HMS7, HDS7⟩
                    case measure => simp [intOf]; omega
                · obtain rfl : j = N := by omega
                  have HFIN : Hid (B1 = false → ∀ d ∈ Q.map (·.1), d.2 ≠ tl) := by
                    have := hne.out
                    rwa [List.take_of_length_le (Nat.le_of_eq HN.out)] at this
                  have HTW : Hid (stD k (Q.map (·.1)) E r = (Q.map (·.1) ++ [(7680 + (k : Int), tl)], if B1 = true then E ++ [7680 + (k : Int)] else E, r5.tail)) := by
                    have h2 := hbe.out
                    rw [List.take_of_length_le (Nat.le_of_eq HN.out)] at h2
                    unfold Hid
                    rw [HDF5.out]
                    unfold stD1 twF
                    rw [HZ2.out, ← h2]
                  clear hne hbe HDF5
                  have hb1 := HWZ.out
                  have HTO := Lib.hid ((hms.out.inO (by have := hto.out; obtain ⟨_, _, h | ⟨_, _, h⟩⟩ := this <;> rw [h] <;> simp)).weak (Q := fun b => w.heap.size ≤ b ∧ (Value.slice p9 j c9).ownBlock ≠ some b ∧ v10.ownBlock ≠ some b) (fun b _ hb => ⟨by omega, fun e => by have := HO9.out b e; omega, fun e => by have := HO10.out b e; omega⟩))
                  clear hb1
                  go_upto_if 71 with (fail)
                  go_cut [5] (fun v wx => ∃ (v10' : Value), v = .pointer (some ⟨mb, 0, none⟩) ∧ Hid (wx.cell? ⟨mb, 0, none⟩ = some (.int .i64 (7680 + k))) ∧ Hid (wx.cell? ⟨mb, 1, none⟩ = some (.slice pu tl.length cu)) ∧ Hid (InO wx (fun b => w.heap.size ≤ b ∧ (Value.slice p9 j c9).ownBlock ≠ some b ∧ v10'.ownBlock ≠ some b) (.slice pu tl.length cu) tl) ∧ Hid (DSt w wx gs g f (.slice p9 j c9) v10' Q (if B1 then E ++ [7680 + (k : Int)] else E) r5.tail))
                  case first =>
                    cases B1 with
                    | false =>
                      go_wp2_with fail
                      go_meet
                      exact ⟨v10, rfl, hms.out.c0, hms.out.c1, HTO.out, hds.out⟩
                    | true =>
                      have hEl : E.length ≤ 1000 := by have := hok.out.elen; omega
                      have x10 : wr.cell? ⟨g, 10, none⟩ = some v10 := by have := (hds.out.box 10 (by omega)).1; rwa [upd_same] at this
                      have x11 : ∀ o, (wr.alloc o).cell? ⟨g, 10, none⟩ = some v10 := fun o => (Keeps.alloc wr o).cell x10 (fun e => e)
                      have x0 := hms.out.c0
                      have HN10 : Hid (¬ (v10.ownBlock = some mb ∨ mb = g)) := by
                        rintro (e | e)
                        · have := HO10.out mb e; have := hms.out.ord; omega
                        · have h1 := hds.out.ord; have h2 := hms.out.ord; have h3 := HWZ.out; omega
                      have HEa := Lib.hid (hds.out.exc.alloc (.cells #[.int .i64 (7680 + (k : Int))] 3))
                      go_upto_region 16 with (fail)
                      go_region_law
                        (refine step_append_one (by rfl) _ _ (by rfl) w.heap.size v10 E (by rfl) (by exact HEa.out) _ 1 (7680 + k) (by rfl) (by simp [World.cell?_alloc_new]) hEl (by have := hds.out.size; simp; omega) ?_
                         intro v8 w8 ho8 hg8 hv8
                         obtain ⟨p8, n8, q8, rfl⟩ : ∃ p n q, v8 = .slice p n q := by obtain ⟨p, c, e, _⟩ := ho8.inn; exact ⟨p, _, c, e⟩
                         have hm8 := Lib.hid (hds.out.addE ho8 hg8 hv8 ((Below.refl wr.heap.size wr).alloc (Nat.le_refl _) _).drew)
                         have y8 := hm8.out.2.1
                         have z8 := hm8.out.2.2.1)
                      all_goals
                        clear ho8 hg8 hv8
                        go_wp2_with fail
                        go_meet
                        exact ⟨_, rfl, hm8.out.2.2.2.1.cell hms.out.c0 HN10.out, hm8.out.2.2.2.1.cell hms.out.c1 HN10.out, hm8.out.2.2.2.2 _ _ HTO.out, hm8.out.1⟩
                  case rest =>
                    obtain ⟨v10', rfl, hc0, hc1, hto2, hds2⟩ := hcut
                    clear hds hms HTO
                    have x0 := hc0.out
                    have x1 := hc1.out
                    have x9 : wc.cell? ⟨g, 9, none⟩ = some (.slice p9 j c9) := by have := (hds2.out.box 9 (by omega)).1; rwa [upd_other _ _ (by omega), upd_same] at this
                    have x91 : ∀ o, (wc.alloc o).cell? ⟨g, 9, none⟩ = some (.slice p9 j c9) := fun o => (Keeps.alloc wc o).cell x9 (fun e => e)
                    have HQa := Lib.hid (World.ownsRow.alloc hds2.out.hot.own (.cells #[.int .i64 (7680 + (k : Int)), .slice pu tl.length cu] 64))
                    go_upto_region 17 with (fail)
                    go_region_law
                      (refine step_append_map (by rfl) _ _ (by rfl) w.heap.size (.slice p9 j c9) Q (by rfl) (by exact HQa.out) _ 1 ((7680 + (k : Int), tl), .slice pu tl.length cu) (by rfl) (by simp [World.cell?_alloc_new]) (by simp [World.cell?_alloc_new]) rfl (by have := HN.out; omega) (by have := hds2.out.size; simp; omega) ?_
                       intro v8 w8 ho8 hg8 hv8
                       obtain ⟨p8, n8, q8, rfl⟩ := row_slice ho8
                       have hm8 := Lib.hid (hds2.out.addQ hto2.out ho8 hg8 hv8 ((Below.refl wc.heap.size wc).alloc (Nat.le_refl _) _).drew)
                       have y8 := hm8.out.2.1
                       have z8 := hm8.out.2.2)
                    all_goals
                      have HOK : Hid (DecOk (k + 1) ((Q ++ [((7680 + (k : Int), tl), Value.slice pu tl.length cu)]).map (·.1)) (if B1 then E ++ [7680 + (k : Int)] else E)) := by
                        have := hok.out.snoc hk5 hto.out HFIN.out
                        unfold Hid
                        rw [List.map_append]
                        exact this
                      clear ho8 hg8 hv8
                      go_wp2
                      go_roundw
                      case rel =>
                        refine ⟨k + 1, _, _, _, _, _, by omega, by go_num, hm8.out.1, HOK, ?_⟩
                        have h := HDF.out
                        rw [HTW.out] at h
                        unfold Hid
                        rw [List.map_append]
                        exact h
                      case measure => simp [intOf]; omega
    · obtain rfl : k = 5 := by omega
      go_wp2
      go_end0
      exact done9 hd.out hok.out hdf.out

end Go.Proofs.YtfmfifmmaihodaaGreatDoor

namespace Go.Proofs.YtfmfifmmaihodaaGreatDoor
open Go.RowKit
set_option linter.unusedVariables false

def Tables9Post (zs : List Int) (w : World) (e : Ending) (w' : World) : Prop :=
  ∃ (x : TV) (T : Tb), e = .returned x.agg ∧ TabP w' (fun b => w.heap.size ≤ b) x T ∧ Made T ∧ (∀ p n c, x.a9 = .slice p n c → n ≤ c) ∧ Below w.heap.size w w' ∧ nrmT T = nrmF zs ∧ Warm w' x.a1 ∧ Lies w' (fun b => w.heap.size ≤ b) x.a1

set_option maxRecDepth 100000 in
set_option maxHeartbeats 16000000 in
theorem tables9_any (p : Option Addr) (cap : Nat) (zs : List Int) (w : World) (hin : IntsIn w p zs) (hl : zs.length ≤ 17592186043904) :
    Calls Tryz.prog 9 #[.slice p zs.length cap] w (Tables9Post zs w) := by
  have HI := Lib.hid hin
  have HL := Lib.hid hl
  clear hin hl
  obtain ⟨y, hy⟩ : ∃ y, nextV zs 3 = y := ⟨_, rfl⟩
  have HY := Lib.hid hy
  clear hy
  go_enter Tryz.func9, Tryz.ntmps9
  have hba := (Below.refl w.heap.size w).alloc (Nat.le_refl _) (.cells nilC 26)
  have HR0 := Lib.hid (BoxF.new w 26)
  have HBa := Lib.hid hba
  have HIa := Lib.hid (HI.out.below hba)
  have hsza : (w.alloc (.cells nilC 26)).heap.size = w.heap.size + 1 := by simp
  clear hba
  go_wp2_with fail
  refine (from_any p cap zs _ HIa.out HL.out).mono ?_
  rintro e w1 ⟨gs, rfl, hgs, hs1, hb1⟩
  have hgs1 : w.heap.size < gs := by omega
  have hlt1 := hs1.lt
  have hbb := (Below.refl w1.heap.size w1).alloc (Nat.le_refl _) (.cells nilC 26)
  have HR1 := Lib.hid ((HR0.out.below hb1).below hbb)
  have HB1 := Lib.hid ((HBa.out.trans (hb1.mono HBa.out.size)).trans (hbb.mono (by have := HBa.out.size; have := hb1.size; omega)))
  have HS1 := Lib.hid (hs1.below hbb)
  have HG1 := Lib.hid (BoxF.new w1 26)
  have hszb : (w1.alloc (.cells nilC 26)).heap.size = w1.heap.size + 1 := by simp
  clear hs1 hb1 hbb hgs HR0 HBa HIa hsza
  go_wp2_with fail
  refine (next_at gs zs 3 y _ HS1.out (by omega) (by omega) HY).mono ?_
  rintro e w2 ⟨rfl, hs2, hg2⟩
  have hk2 := next_keeps hg2
  have HR2 := Lib.hid (HR1.out.keeps hk2 (by omega))
  have HG2 := Lib.hid (HG1.out.keeps hk2 (by omega))
  have HB2 := Lib.hid (HB1.out.trans (hk2.below HB1.out.size (fun b _ e => by omega)))
  have HS2 := Lib.hid hs2
  have hz2 := hk2.size
  have HZ2 : Hid (w1.heap.size < w2.heap.size) := by unfold Hid; omega
  clear hs2 hg2 hk2 HR1 HG1 HB1 HS1 hz2 hszb
  go_wp2_with fail
  refine (pool_any _).mono ?_
  rintro e w3 ⟨rfl, hp, hz, hb3⟩
  have HD : Hid (USt w w3 gs w1.heap.size w.heap.size w2.heap.size (fun _ => .slice none 0 0) (fun _ => []) (.slice none 0 0) [] zs.tail) :=
    ⟨⟨HS2.out.below hb3, HG2.out.below hb3, HR2.out.below hb3, ⟨fun i _ => SpO.nil _ _, MpO.nil _ _, MpO.nil _ _, MpO.nil _ _, InO.nil _ _, MpO.nil _ _⟩, Ints.nil _ _, hp, HB2.out.trans (hb3.mono HB2.out.size), ⟨Nat.le_refl _, hgs1, hlt1, HZ2.out⟩, fun _ _ _ => rfl⟩, by intro b off n c e; cases e⟩
  clear hp hz hb3 HS2 HG2 HR2 HB2 HZ2 hgs1 hlt1
  generalize w1.heap.size = g at HD ⊢
  generalize w2.heap.size = pb at HD ⊢
  generalize w.heap.size = rb at HD ⊢
  go_wp2
  generalize hWd : (y == 0) = Wd
  have HWD : Hid ((nextV zs 3 == 0) = Wd) := by unfold Hid; rw [HY.out]; exact hWd
  clear hWd
  go_loopw [6, 21] (fun sv iv wr => ∃ (k : Nat) (f : Nat → Value) (S : Nat → List Sp) (sl r : List Int), k ≤ 28 ∧ iv = .int .i64 k ∧ Hid (USt w wr gs g rb pb f S sv sl r) ∧ Hid (Lists k S sl) ∧ Hid (clsG Wd (28 - k) k (S 1) r = clsG Wd 28 0 [] zs.tail)) (fun _ iv _ => 28 - (intOf iv).toNat)
  case atStart => exact ⟨0, _, _, _, _, by omega, rfl, HD, Lists.start, rfl⟩
  case round =>
    obtain ⟨k, f, S, sl, r, hk, rfl, hd, hls, hcg⟩ := hrel
    clear HD
    by_cases hk28 : k < 28
    · have hki : (k : Int) < 28 := by omega
      obtain ⟨L0, hL0⟩ : ∃ L, S 1 = L := ⟨_, rfl⟩
      have hcg2 := hcg.out
      rw [clsG_step Wd hk28, hL0] at hcg2
      have HL0 := Lib.hid hL0
      have HCG := Lib.hid hcg2
      clear hcg hcg2 hL0
      have x1 := hd.out.base.cellP k hk28
      have hpm := pool_mem k hk28
      have HP0 := Lib.hid hls.out.prog
      have HA0 : Hid (∀ (S : Nat → List Sp) (v : Int), v ≤ 8 → Prog k 0 S → Prog k 1 (upd S 0 (addL (S 0) (poolAt k, poolAt k, 0) v))) := fun S v hv h => h.add0 hk28 hv
      have HA1 : Hid (∀ (S : Nat → List Sp) (v : Int), v ≤ 254 → Prog k 1 S → Prog k 2 (upd S 1 (addL (S 1) (poolAt k, poolAt k, 0) v))) := fun S v hv h => h.add1 hk28 hv
      have HA2 : Hid (∀ (S : Nat → List Sp) (v : Int), v ≤ 5 → Prog k 2 S → Prog k 3 (upd S 2 (addL (S 2) (poolAt k, poolAt k, 0) v))) := fun S v hv h => h.add2 hk28 hv
      have HA3 : Hid (∀ (S : Nat → List Sp) (v : Int), v ≤ 11 → Prog k 3 S → Prog k 4 (upd S 3 (addL (S 3) (poolAt k, poolAt k, 0) v))) := fun S v hv h => h.add3 hk28 hv
      have HA4 : Hid (∀ (S : Nat → List Sp) (v : Int), v ≤ 60 → Prog k 4 S → Prog k 5 (upd S 4 (addL (S 4) (poolAt k, poolAt k, 0) v))) := fun S v hv h => h.add4 hk28 hv
      have HA6 : Hid (∀ (S : Nat → List Sp), Prog k 5 S → Prog k 6 (upd S 6 (addL (S 6) (poolAt k, poolAt k, 0) 1))) := fun S h => h.add6 hk28 (by omega)
      generalize poolAt k = c at x1 hpm HA0 HA1 HA2 HA3 HA4 HA6 HCG
      obtain ⟨o1, o2, o3, o4⟩ := hd.out.base.ord
      have hpbz : pb < wr.heap.size := World.block_lt_of_cell? wr _ x1
      have HPM := Lib.hid hpm
      clear hpm
      go_wp2_with fail
      refine (usual9_any c _ HPM.out).mono ?_
      rintro e w4 ⟨u, hu, hu1, rfl, hb4⟩
      obtain ⟨a0, ha0⟩ : ∃ a, u 0 = a := ⟨_, rfl⟩
      obtain ⟨a1, ha1⟩ : ∃ a, u 1 = a := ⟨_, rfl⟩
      obtain ⟨a2, ha2⟩ : ∃ a, u 2 = a := ⟨_, rfl⟩
      obtain ⟨a3, ha3⟩ : ∃ a, u 3 = a := ⟨_, rfl⟩
      obtain ⟨a4, ha4⟩ : ∃ a, u 4 = a := ⟨_, rfl⟩
      obtain ⟨a5, ha5⟩ : ∃ a, u 5 = a := ⟨_, rfl⟩
      have HB6 : Hid (B6 a0 a1 a2 a3 a4 a5) := by
        rw [← ha0, ← ha1, ← ha2, ← ha3, ← ha4, ← ha5]
        exact ⟨hu.cat, hu.cls, hu.joi, hu.bid, hu.scr, hu.sta⟩
      have HU1C : Hid (a1 = usC c) := by unfold Hid; rw [← ha1]; exact hu1
      simp only [sixV, ha0, ha1, ha2, ha3, ha4, ha5]
      clear hu1
      clear ha0 ha1 ha2 ha3 ha4 ha5 hu
      have hb5 := (Below.refl w4.heap.size w4).alloc (Nat.le_refl _) (.cells #[.int .i64 a0, .int .i64 a1, .int .i64 a2, .int .i64 a3, .int .i64 a4, .int .i64 a5] 55)
      have HKU := Lib.hid (((Keeps.of_below hb4).trans (Keeps.of_below hb5) (S := fun b => b = gs) (fun b hb e => by omega) (fun b hb e => by have := hb4.size; omega)))
      have HSU := Lib.hid ((hd.out.base.src.below hb4).below hb5)
      have HUU := Lib.hid (UB6.new w4 55 a0 a1 a2 a3 a4 a5)
      have hub : wr.heap.size ≤ w4.heap.size := hb4.size
      clear x1 hb4 hb5
      go_upto_if 27 with (fail)
      generalize (w4.alloc (.cells #[.int .i64 a0, .int .i64 a1, .int .i64 a2, .int .i64 a3, .int .i64 a4, .int .i64 a5] 55)) = wU at HKU HSU HUU ⊢
      generalize w4.heap.size = ub at HUU hub ⊢
      have hubg : ub ≠ gs := by omega
      go_cut [10] (fun v wx => ∃ (b0 b1 b2 b3 b4 b5 : Int) (r' : List Int), v = .pointer (some ⟨ub, 0, none⟩) ∧ Hid (B6 b0 b1 b2 b3 b4 b5) ∧ Hid (UB6 wx ub b0 b1 b2 b3 b4 b5) ∧ Hid (Keeps wr wx (fun b => b = gs)) ∧ Hid (Src wx gs r') ∧ Hid ((b1, r') = cutW Wd c r))
      case first =>
        cases Wd with
        | true =>
          obtain ⟨h0, h1, h2, h3, h4, h5⟩ := HB6.out
          have H0 := Lib.hid h0
          have H1 := Lib.hid h1
          have H2 := Lib.hid h2
          have H3 := Lib.hid h3
          have H4 := Lib.hid h4
          have H5 := Lib.hid h5
          clear h0 h1 h2 h3 h4 h5
          obtain ⟨⟨c0, c1, c2, c3, c4, c5⟩, cf⟩ := HUU.out
          clear cf
          go_wp2_with fail
          refine (choose9_any gs _ wU.heap.size 0 3 3 [a0, 2, 1] _ (HSU.out.alloc _) (lit_ints wU #[.int .i64 a0, .int .i64 2, .int .i64 1] [a0, 2, 1] 3 rfl) rfl (by omega) (by omega) (by have := HSU.out.lt; omega)).mono ?_
          rintro e w10 ⟨v0, r10, rfl, hv0, hs0, hg0, hcv0, hcr0⟩
          have HCV0 := Lib.hid hcv0
          have HCR0 := Lib.hid hcr0
          clear hcv0 hcr0
          have hk0 := (Keeps.alloc wU (.cells #[.int .i64 a0, .int .i64 2, .int .i64 1] 3)).trans (next_keeps hg0) (S := fun b => b = gs) (fun _ _ e => e.elim) (fun _ _ e => e)
          have HUn0 := Lib.hid (HUU.out.keeps hk0 hubg)
          have HV0 : Hid (0 ≤ v0 ∧ v0 ≤ 8) := by
            simp only [List.mem_cons, List.not_mem_nil, or_false] at hv0
            have := H0.out
            unfold Hid
            omega
          obtain ⟨⟨d0, d1, d2, d3, d4, d5⟩, df0⟩ := HUn0.out
          have df := df0 0
          have hst0 := Keeps.store w10 ub 0 (.int .i64 v0)
          have HKm0 := Lib.hid ((HKU.out.trans hk0 (fun _ _ e => e) (fun _ _ e => e)).trans hst0 (S := fun b => b = gs) (fun _ _ e => e) (fun b hb e => by omega))
          have HUm0 := Lib.hid (HUn0.out.set0 v0)
          have HSm0 := Lib.hid (hs0.keeps hst0 (fun b hb e => by omega))
          have HZ0 : Hid (w10.heap.size = (w10.setCell ⟨ub, 0, none⟩ (.int .i64 v0)).heap.size) := by unfold Hid; simp [World.setCell]
          clear hv0 hs0 hg0 hk0 HUn0 df0 hst0 HSU HKU HUU H0 c0 c1 c2 c3 c4 c5
          go_wp2_with fail
          rw [HZ0.out]
          clear d0 d1 d2 d3 d4 d5 df
          generalize (w10.setCell ⟨ub, 0, none⟩ (.int .i64 v0)) = W0 at HSm0 HKm0 HUm0 ⊢
          refine (choose9_any gs _ W0.heap.size 0 8 8 [a1, 0, 1, 9, 202, 220, 230, 254] _ (HSm0.out.alloc _) (lit_ints W0 #[.int .i64 a1, .int .i64 0, .int .i64 1, .int .i64 9, .int .i64 202, .int .i64 220, .int .i64 230, .int .i64 254] [a1, 0, 1, 9, 202, 220, 230, 254] 3 rfl) rfl (by omega) (by omega) (by have := HSm0.out.lt; omega)).mono ?_
          rintro e w11 ⟨v1, r11, rfl, hv1, hs1, hg1, hcv1, hcr1⟩
          have HCV1 := Lib.hid hcv1
          have HCR1 := Lib.hid hcr1
          clear hcv1 hcr1
          have hk1 := (Keeps.alloc W0 (.cells #[.int .i64 a1, .int .i64 0, .int .i64 1, .int .i64 9, .int .i64 202, .int .i64 220, .int .i64 230, .int .i64 254] 3)).trans (next_keeps hg1) (S := fun b => b = gs) (fun _ _ e => e.elim) (fun _ _ e => e)
          have HUn1 := Lib.hid (HUm0.out.keeps hk1 hubg)
          have HV1 : Hid (0 ≤ v1 ∧ v1 ≤ 254) := by
            simp only [List.mem_cons, List.not_mem_nil, or_false] at hv1
            have := H1.out
            unfold Hid
            omega
          obtain ⟨⟨d0, d1, d2, d3, d4, d5⟩, df0⟩ := HUn1.out
          have df := df0 1
          have hst1 := Keeps.store w11 ub 1 (.int .i64 v1)
          have HKm1 := Lib.hid ((HKm0.out.trans hk1 (fun _ _ e => e) (fun _ _ e => e)).trans hst1 (S := fun b => b = gs) (fun _ _ e => e) (fun b hb e => by omega))
          have HUm1 := Lib.hid (HUn1.out.set1 v1)
          have HSm1 := Lib.hid (hs1.keeps hst1 (fun b hb e => by omega))
          have HZ1 : Hid (w11.heap.size = (w11.setCell ⟨ub, 1, none⟩ (.int .i64 v1)).heap.size) := by unfold Hid; simp [World.setCell]
          clear hv1 hs1 hg1 hk1 HUn1 df0 hst1 HSm0 HKm0 HUm0 H1
          go_wp2_with fail
          rw [HZ1.out]
          clear d0 d1 d2 d3 d4 d5 df
          generalize (w11.setCell ⟨ub, 1, none⟩ (.int .i64 v1)) = W1 at HSm1 HKm1 HUm1 ⊢
          refine (choose9_any gs _ W1.heap.size 0 7 7 [a2, 0, 1, 2, 3, 4, 5] _ (HSm1.out.alloc _) (lit_ints W1 #[.int .i64 a2, .int .i64 0, .int .i64 1, .int .i64 2, .int .i64 3, .int .i64 4, .int .i64 5] [a2, 0, 1, 2, 3, 4, 5] 3 rfl) rfl (by omega) (by omega) (by have := HSm1.out.lt; omega)).mono ?_
          rintro e w12 ⟨v2, r12, rfl, hv2, hs2, hg2, hcv2, hcr2⟩
          have HCV2 := Lib.hid hcv2
          have HCR2 := Lib.hid hcr2
          clear hcv2 hcr2
          have hk2 := (Keeps.alloc W1 (.cells #[.int .i64 a2, .int .i64 0, .int .i64 1, .int .i64 2, .int .i64 3, .int .i64 4, .int .i64 5] 3)).trans (next_keeps hg2) (S := fun b => b = gs) (fun _ _ e => e.elim) (fun _ _ e => e)
          have HUn2 := Lib.hid (HUm1.out.keeps hk2 hubg)
          have HV2 : Hid (0 ≤ v2 ∧ v2 ≤ 5) := by
            simp only [List.mem_cons, List.not_mem_nil, or_false] at hv2
            have := H2.out
            unfold Hid
            omega
          obtain ⟨⟨d0, d1, d2, d3, d4, d5⟩, df0⟩ := HUn2.out
          have df := df0 2
          have hst2 := Keeps.store w12 ub 2 (.int .i64 v2)
          have HKm2 := Lib.hid ((HKm1.out.trans hk2 (fun _ _ e => e) (fun _ _ e => e)).trans hst2 (S := fun b => b = gs) (fun _ _ e => e) (fun b hb e => by omega))
          have HUm2 := Lib.hid (HUn2.out.set2 v2)
          have HSm2 := Lib.hid (hs2.keeps hst2 (fun b hb e => by omega))
          have HZ2 : Hid (w12.heap.size = (w12.setCell ⟨ub, 2, none⟩ (.int .i64 v2)).heap.size) := by unfold Hid; simp [World.setCell]
          clear hv2 hs2 hg2 hk2 HUn2 df0 hst2 HSm1 HKm1 HUm1 H2
          go_wp2_with fail
          rw [HZ2.out]
          clear d0 d1 d2 d3 d4 d5 df
          generalize (w12.setCell ⟨ub, 2, none⟩ (.int .i64 v2)) = W2 at HSm2 HKm2 HUm2 ⊢
          refine (choose9_any gs _ W2.heap.size 0 9 9 [a3, 0, 1, 2, 3, 4, 8, 10, 11] _ (HSm2.out.alloc _) (lit_ints W2 #[.int .i64 a3, .int .i64 0, .int .i64 1, .int .i64 2, .int .i64 3, .int .i64 4, .int .i64 8, .int .i64 10, .int .i64 11] [a3, 0, 1, 2, 3, 4, 8, 10, 11] 3 rfl) rfl (by omega) (by omega) (by have := HSm2.out.lt; omega)).mono ?_
          rintro e w13 ⟨v3, r13, rfl, hv3, hs3, hg3, hcv3, hcr3⟩
          have HCV3 := Lib.hid hcv3
          have HCR3 := Lib.hid hcr3
          clear hcv3 hcr3
          have hk3 := (Keeps.alloc W2 (.cells #[.int .i64 a3, .int .i64 0, .int .i64 1, .int .i64 2, .int .i64 3, .int .i64 4, .int .i64 8, .int .i64 10, .int .i64 11] 3)).trans (next_keeps hg3) (S := fun b => b = gs) (fun _ _ e => e.elim) (fun _ _ e => e)
          have HUn3 := Lib.hid (HUm2.out.keeps hk3 hubg)
          have HV3 : Hid (0 ≤ v3 ∧ v3 ≤ 11) := by
            simp only [List.mem_cons, List.not_mem_nil, or_false] at hv3
            have := H3.out
            unfold Hid
            omega
          obtain ⟨⟨d0, d1, d2, d3, d4, d5⟩, df0⟩ := HUn3.out
          have df := df0 3
          have hst3 := Keeps.store w13 ub 3 (.int .i64 v3)
          have HKm3 := Lib.hid ((HKm2.out.trans hk3 (fun _ _ e => e) (fun _ _ e => e)).trans hst3 (S := fun b => b = gs) (fun _ _ e => e) (fun b hb e => by omega))
          have HUm3 := Lib.hid (HUn3.out.set3 v3)
          have HSm3 := Lib.hid (hs3.keeps hst3 (fun b hb e => by omega))
          have HZ3 : Hid (w13.heap.size = (w13.setCell ⟨ub, 3, none⟩ (.int .i64 v3)).heap.size) := by unfold Hid; simp [World.setCell]
          clear hv3 hs3 hg3 hk3 HUn3 df0 hst3 HSm2 HKm2 HUm2 H3
          go_wp2_with fail
          rw [HZ3.out]
          clear d0 d1 d2 d3 d4 d5 df
          generalize (w13.setCell ⟨ub, 3, none⟩ (.int .i64 v3)) = W3 at HSm3 HKm3 HUm3 ⊢
          refine (choose9_any gs _ W3.heap.size 0 9 9 [a4, 0, 1, 2, 3, 6, 7, 9, 10] _ (HSm3.out.alloc _) (lit_ints W3 #[.int .i64 a4, .int .i64 0, .int .i64 1, .int .i64 2, .int .i64 3, .int .i64 6, .int .i64 7, .int .i64 9, .int .i64 10] [a4, 0, 1, 2, 3, 6, 7, 9, 10] 3 rfl) rfl (by omega) (by omega) (by have := HSm3.out.lt; omega)).mono ?_
          rintro e w14 ⟨v4, r14, rfl, hv4, hs4, hg4, hcv4, hcr4⟩
          have HCV4 := Lib.hid hcv4
          have HCR4 := Lib.hid hcr4
          clear hcv4 hcr4
          have hk4 := (Keeps.alloc W3 (.cells #[.int .i64 a4, .int .i64 0, .int .i64 1, .int .i64 2, .int .i64 3, .int .i64 6, .int .i64 7, .int .i64 9, .int .i64 10] 3)).trans (next_keeps hg4) (S := fun b => b = gs) (fun _ _ e => e.elim) (fun _ _ e => e)
          have HUn4 := Lib.hid (HUm3.out.keeps hk4 hubg)
          have HV4 : Hid (0 ≤ v4 ∧ v4 ≤ 60) := by
            simp only [List.mem_cons, List.not_mem_nil, or_false] at hv4
            have := H4.out
            unfold Hid
            omega
          obtain ⟨⟨d0, d1, d2, d3, d4, d5⟩, df0⟩ := HUn4.out
          have df := df0 4
          have hst4 := Keeps.store w14 ub 4 (.int .i64 v4)
          have HKm4 := Lib.hid ((HKm3.out.trans hk4 (fun _ _ e => e) (fun _ _ e => e)).trans hst4 (S := fun b => b = gs) (fun _ _ e => e) (fun b hb e => by omega))
          have HUm4 := Lib.hid (HUn4.out.set4 v4)
          have HSm4 := Lib.hid (hs4.keeps hst4 (fun b hb e => by omega))
          have HZ4 : Hid (w14.heap.size = (w14.setCell ⟨ub, 4, none⟩ (.int .i64 v4)).heap.size) := by unfold Hid; simp [World.setCell]
          clear hv4 hs4 hg4 hk4 HUn4 df0 hst4 HSm3 HKm3 HUm3 H4
          go_wp2_with fail
          rw [HZ4.out]
          clear d0 d1 d2 d3 d4 d5 df
          generalize (w14.setCell ⟨ub, 4, none⟩ (.int .i64 v4)) = W4 at HSm4 HKm4 HUm4 ⊢
          refine (choose9_any gs _ W4.heap.size 0 5 5 [a5, 0, 1, 2, 4] _ (HSm4.out.alloc _) (lit_ints W4 #[.int .i64 a5, .int .i64 0, .int .i64 1, .int .i64 2, .int .i64 4] [a5, 0, 1, 2, 4] 3 rfl) rfl (by omega) (by omega) (by have := HSm4.out.lt; omega)).mono ?_
          rintro e w15 ⟨v5, r15, rfl, hv5, hs5, hg5, hcv5, hcr5⟩
          have HCV5 := Lib.hid hcv5
          have HCR5 := Lib.hid hcr5
          clear hcv5 hcr5
          have hk5 := (Keeps.alloc W4 (.cells #[.int .i64 a5, .int .i64 0, .int .i64 1, .int .i64 2, .int .i64 4] 3)).trans (next_keeps hg5) (S := fun b => b = gs) (fun _ _ e => e.elim) (fun _ _ e => e)
          have HUn5 := Lib.hid (HUm4.out.keeps hk5 hubg)
          have HV5 : Hid (ok5 v5) := by
            simp only [List.mem_cons, List.not_mem_nil, or_false] at hv5
            have := H5.out
            unfold ok5 at this
            unfold Hid ok5
            omega
          obtain ⟨⟨d0, d1, d2, d3, d4, d5⟩, df0⟩ := HUn5.out
          have df := df0 5
          have hst5 := Keeps.store w15 ub 5 (.int .i64 v5)
          have HKm5 := Lib.hid ((HKm4.out.trans hk5 (fun _ _ e => e) (fun _ _ e => e)).trans hst5 (S := fun b => b = gs) (fun _ _ e => e) (fun b hb e => by omega))
          have HUm5 := Lib.hid (HUn5.out.set5 v5)
          have HSm5 := Lib.hid (hs5.keeps hst5 (fun b hb e => by omega))
          have HZ5 : Hid (w15.heap.size = (w15.setCell ⟨ub, 5, none⟩ (.int .i64 v5)).heap.size) := by unfold Hid; simp [World.setCell]
          clear hv5 hs5 hg5 hk5 HUn5 df0 hst5 HSm4 HKm4 HUm4 H5
          go_wp2_with fail
          go_meet
          exact ⟨v0, v1, v2, v3, v4, v5, _, rfl, ⟨HV0.out, HV1.out, HV2.out, HV3.out, HV4.out, HV5.out⟩, HUm5, HKm5, HSm5, by unfold Hid cutW; rw [if_pos rfl, HCV1.out, HCR5.out, HCR4.out, HCR3.out, HCR2.out, HCR1.out, HCR0.out, HU1C.out]⟩
        | false =>
          go_wp2_with fail
          go_meet
          exact ⟨a0, a1, a2, a3, a4, a5, _, rfl, HB6, HUU, HKU, HSU, by unfold Hid cutW; rw [if_neg (by simp), HU1C.out]⟩
      case rest =>
        obtain ⟨b0, b1, b2, b3, b4, b5, r5, rfl, hb6, hu6, hk6, hs6, HCW⟩ := hcut
        clear HKU HSU HUU HB6
        have HT0 := Lib.hid (hd.out.step hk6.out hs6.out)
        clear hk6 hs6 hd
        have hbx := (Below.refl wc.heap.size wc).alloc (Nat.le_refl _) (.cells #[.int .i64 c, .int .i64 c, .int .i64 0] 50)
        have HT := Lib.hid (HT0.out.below hbx)
        have hubw := hu6.out.lt
        have HU := Lib.hid (hu6.out.keeps (Keeps.of_below hbx) (by omega))
        have HX := Lib.hid (Cur.new wc c c 0 50)
        have hxg : wc.heap.size ≠ g := by have := HT0.out.base.box.lt; omega
        have hxbg : wc.heap.size ≠ gs := by have := HT0.out.base.src.lt; omega
        have hubg2 : ub ≠ g := by have := HT0.out.base.box.lt; have := HT0.out.base.bel.size; omega
        obtain ⟨p0, p1, p2, p3, p4, p5⟩ := hb6.out
        have HB := Lib.hid (And.intro p0.2 (And.intro p1.2 (And.intro p2.2 (And.intro p3.2 p4.2))))
        have H5 := Lib.hid p5
        obtain ⟨⟨c0, _, _, _, _, _⟩, _⟩ := hu6.out
        clear p0 p1 p2 p3 p4 p5 hb6 HT0 hbx hu6
        go_wp2_with fail
        clear c0
        refine (HT.out.call (i := 0) (by omega) (by omega) (HP0.out.len hk28).1 (c, c, 0) b0).mono ?_
        rintro e wA1 ⟨rfl, vv0, hkA, htA⟩
        have HT1 := Lib.hid htA
        have HPr1 := Lib.hid (HA0.out _ _ HB.out.1 HP0.out)
        have HU1 := Lib.hid (HU.out.keeps hkA hubg2)
        have HX1 : Hid (Cur wA1 wc.heap.size c c 0) := HX.out.keepsC hkA hxg
        clear htA hkA HT HU HX
        generalize upd _ 0 vv0 = f1 at HT1
        have HLS1 : Hid (upd S 0 (addL (S 0) (c, c, 0) b0) 1 = L0) := (upd_other _ _ (by omega)).trans HL0.out
        generalize upd _ 0 (addL _ (c, c, 0) b0) = S1 at HT1 HPr1 HLS1
        obtain ⟨⟨c0, c1, c2, c3, c4, c5⟩, _⟩ := HU1.out
        obtain ⟨x0, x1, x2, _, _⟩ := HX1.out
        go_wp2_with fail
        clear c0 c1 c2 c3 c4 c5 x0 x1 x2
        refine (HT1.out.call (i := 1) (by omega) (by omega) (HPr1.out.len hk28).2.1 (c, c, 0) b1).mono ?_
        rintro e wA2 ⟨rfl, vv1, hkA, htA⟩
        have HT2 := Lib.hid htA
        have HPr2 := Lib.hid (HA1.out _ _ HB.out.2.1 HPr1.out)
        have HU2 := Lib.hid (HU1.out.keeps hkA hubg2)
        have HX2 : Hid (Cur wA2 wc.heap.size c c 0) := HX1.out.keepsC hkA hxg
        clear htA hkA HT1 HU1 HX1
        generalize upd _ 1 vv1 = f2 at HT2
        have HLS2 : Hid (upd S1 1 (addL (S1 1) (c, c, 0) b1) 1 = addL L0 (c, c, 0) b1) := by unfold Hid; rw [upd_same, HLS1.out]
        generalize upd _ 1 (addL _ (c, c, 0) b1) = S2 at HT2 HPr2 HLS2
        obtain ⟨⟨c0, c1, c2, c3, c4, c5⟩, _⟩ := HU2.out
        obtain ⟨x0, x1, x2, _, _⟩ := HX2.out
        go_wp2_with fail
        clear c0 c1 c2 c3 c4 c5 x0 x1 x2
        refine (HT2.out.call (i := 2) (by omega) (by omega) (HPr2.out.len hk28).2.2.1 (c, c, 0) b2).mono ?_
        rintro e wA3 ⟨rfl, vv2, hkA, htA⟩
        have HT3 := Lib.hid htA
        have HPr3 := Lib.hid (HA2.out _ _ HB.out.2.2.1 HPr2.out)
        have HU3 := Lib.hid (HU2.out.keeps hkA hubg2)
        have HX3 : Hid (Cur wA3 wc.heap.size c c 0) := HX2.out.keepsC hkA hxg
        clear htA hkA HT2 HU2 HX2
        generalize upd _ 2 vv2 = f3 at HT3
        have HLS3 : Hid (upd S2 2 (addL (S2 2) (c, c, 0) b2) 1 = addL L0 (c, c, 0) b1) := (upd_other _ _ (by omega)).trans HLS2.out
        generalize upd _ 2 (addL _ (c, c, 0) b2) = S3 at HT3 HPr3 HLS3
        obtain ⟨⟨c0, c1, c2, c3, c4, c5⟩, _⟩ := HU3.out
        obtain ⟨x0, x1, x2, _, _⟩ := HX3.out
        go_wp2_with fail
        clear c0 c1 c2 c3 c4 c5 x0 x1 x2
        refine (HT3.out.call (i := 3) (by omega) (by omega) (HPr3.out.len hk28).2.2.2.1 (c, c, 0) b3).mono ?_
        rintro e wA4 ⟨rfl, vv3, hkA, htA⟩
        have HT4 := Lib.hid htA
        have HPr4 := Lib.hid (HA3.out _ _ HB.out.2.2.2.1 HPr3.out)
        have HU4 := Lib.hid (HU3.out.keeps hkA hubg2)
        have HX4 : Hid (Cur wA4 wc.heap.size c c 0) := HX3.out.keepsC hkA hxg
        clear htA hkA HT3 HU3 HX3
        generalize upd _ 3 vv3 = f4 at HT4
        have HLS4 : Hid (upd S3 3 (addL (S3 3) (c, c, 0) b3) 1 = addL L0 (c, c, 0) b1) := (upd_other _ _ (by omega)).trans HLS3.out
        generalize upd _ 3 (addL _ (c, c, 0) b3) = S4 at HT4 HPr4 HLS4
        obtain ⟨⟨c0, c1, c2, c3, c4, c5⟩, _⟩ := HU4.out
        obtain ⟨x0, x1, x2, _, _⟩ := HX4.out
        go_wp2_with fail
        clear c0 c1 c2 c3 c4 c5 x0 x1 x2
        refine (HT4.out.call (i := 4) (by omega) (by omega) (HPr4.out.len hk28).2.2.2.2.1 (c, c, 0) b4).mono ?_
        rintro e wA5 ⟨rfl, vv4, hkA, htA⟩
        have HT5 := Lib.hid htA
        have HPr5 := Lib.hid (HA4.out _ _ HB.out.2.2.2.2 HPr4.out)
        have HU5 := Lib.hid (HU4.out.keeps hkA hubg2)
        have HX5 : Hid (Cur wA5 wc.heap.size c c 0) := HX4.out.keepsC hkA hxg
        clear htA hkA HT4 HU4 HX4
        generalize upd _ 4 vv4 = f5 at HT5
        have HLS5 : Hid (upd S4 4 (addL (S4 4) (c, c, 0) b4) 1 = addL L0 (c, c, 0) b1) := (upd_other _ _ (by omega)).trans HLS4.out
        generalize upd _ 4 (addL _ (c, c, 0) b4) = S5 at HT5 HPr5 HLS5
        generalize wc.heap.size = xb at HX5 hxg hxbg ⊢
        go_upto_region 23 with (fail)
        go_cut [101] (fun cv wx => ∃ (B : Bool) (r' : List Int), cv = .bool B ∧ Hid (r' = ignR Wd c r5) ∧ Hid (USt w wx gs g rb pb f5 S5 u6 sl r') ∧ Hid (UB6 wx ub b0 b1 b2 b3 b4 b5) ∧ Hid (Cur wx xb c c 0))
        case first =>
          by_cases hc1 : c = 173
          · have e1 : (c == 173) = true := by simp [hc1]
            have HIG : Hid (r5 = ignR Wd c r5) := by unfold Hid ignR; rw [if_pos hc1]
            clear hc1
            go_wp2_with fail
            go_meet
            exact ⟨_, _, rfl, HIG, HT5, HU5, HX5⟩
          · have e1 : (c == 173) = false := by simp [hc1]
            have HIGT : Hid (r5.tail = ignR true c r5) := by unfold Hid ignR; rw [if_neg hc1, if_pos rfl]
            have HIGF : Hid (r5 = ignR false c r5) := by unfold Hid ignR; rw [if_neg hc1, if_neg (by simp)]
            clear hc1
            cases Wd with
            | true =>
              obtain ⟨z, hz⟩ : ∃ z, nextV r5 12 = z := ⟨_, rfl⟩
              have HZ := Lib.hid hz
              clear hz
              go_wp2_with fail
              refine (next_at gs r5 12 z _ HT5.out.base.src (by omega) (by omega) HZ).mono ?_
              rintro e w9 ⟨rfl, hs9, hg9⟩
              have hk9 := next_keeps hg9
              have HT9 := Lib.hid (HT5.out.step hk9 hs9)
              have HU9 := Lib.hid (HU5.out.keeps hk9 hubg)
              have HX9 : Hid (Cur w9 xb c c 0) := HX5.out.keepsC hk9 hxbg
              clear hs9 hg9 hk9
              go_wp2_with fail
              go_meet
              exact ⟨_, _, rfl, HIGT, HT9, HU9, HX9⟩
            | false =>
              go_wp2_with fail
              go_meet
              exact ⟨_, _, rfl, HIGF, HT5, HU5, HX5⟩
        case rest =>
          obtain ⟨B, r9, rfl, HIG, ht9, hu9, hx9⟩ := hcut
          clear HT5 HU5 HX5
          go_upto_if 101 with (fail)
          go_cut [10] (fun v wx => ∃ (f6 : Nat → Value) (S6 : Nat → List Sp), v = .pointer (some ⟨ub, 0, none⟩) ∧ Hid (S6 1 = addL L0 (c, c, 0) b1) ∧ Hid (USt w wx gs g rb pb f6 S6 u6 sl r9) ∧ Hid (Prog k 6 S6) ∧ Hid (UB6 wx ub b0 b1 b2 b3 b4 b5))
          case first =>
            cases B with
            | false =>
              go_wp2_with fail
              go_meet
              exact ⟨f5, S5, rfl, HLS5, ht9, HPr5.out.skip6 hk28, hu9⟩
            | true =>
              obtain ⟨x0, x1, x2, _, _⟩ := hx9.out
              go_wp2_with fail
              refine (ht9.out.call (i := 6) (by omega) (by omega) (HPr5.out.len hk28).2.2.2.2.2 (c, c, 0) 1).mono ?_
              rintro e wB ⟨rfl, vv6, hkB, htB⟩
              have HTB := Lib.hid htB
              have HPB := Lib.hid (HA6.out _ HPr5.out)
              have HUB := Lib.hid (hu9.out.keeps hkB hubg2)
              clear htB hkB x0 x1 x2
              go_wp2_with fail
              go_meet
              exact ⟨_, _, rfl, (upd_other _ _ (by omega)).trans HLS5.out, HTB, HPB, HUB⟩
          case rest =>
            obtain ⟨f6, S6, rfl, HL6, ht6, hp6, hu6'⟩ := hcut
            clear ht9 hu9 hx9
            obtain ⟨⟨_, _, _, _, _, c5⟩, _⟩ := hu6'.out
            have HCGN : Hid (clsG Wd (28 - (k + 1)) (k + 1) (S6 1) r9 = clsG Wd 28 0 [] zs.tail) := by
              have h := HCG.out
              rw [← HCW.out] at h
              simp only at h
              unfold Hid
              rw [HL6.out, HIG.out]
              exact h
            have HSA := Lib.hid (ht6.out.base.sts.alloc (.cells #[.int .i64 b5] 3))
            have HSL : Hid (sl.length ≤ 1000) := by have := hls.out.len; unfold Hid; omega
            have HPB : Hid (pb + 1 ≤ wc.heap.size) := by
              obtain ⟨_, _, e, hc⟩ := ht6.out.base.pool 0 (by rw [pool_len]; omega)
              cases e
              exact World.block_lt_of_cell? wc _ hc
            have HLS := Lib.hid (hls.out.next hp6.out H5.out)
            clear hls hp6
            go_wp2_with (at_builtin; refine wpList_append_one _ _ rfl rfl (pb + 1) u6 sl (by rfl) (by exact HSA.out) _ 1 b5 (by rfl) (by simp [World.cell?_alloc_new]) HSL.out (by have := HPB.out; simp; omega) ?_; intro v7 w7 ho7 hg7 hv7; have HT7 := Lib.hid (ht6.out.more ho7 hg7 hv7 ((Below.refl _ _).alloc (Nat.le_refl _) _)); clear ho7 hg7 hv7)
            go_roundw
            case rel => exact ⟨k + 1, _, _, _, _, by omega, by go_num, HT7, HLS, HCGN⟩
            case measure => simp [intOf]; omega
    · obtain rfl : k = 28 := by omega
      obtain ⟨o1, o2, o3, o4⟩ := hd.out.base.ord
      have hl28 := hls.out.len
      have hsts : wr.ownsRow (pb + 1) 3 1 u6 28 (sl.map (.int .i64)) := by
        have := hd.out.base.sts
        unfold Ints at this
        rwa [hl28] at this
      obtain ⟨sb, sc, hsv, hsb1, hsb2⟩ := hsts.form (by omega)
      subst hsv
      have hglt := hd.out.base.box.lt
      have HC := Lib.hid (hd.out.base.cold.weak (Q := fun b => g < b ∧ b ≠ sb) (fun b _ hb => ⟨hb.1, fun e => hb.2 (by rw [e]; rfl)⟩))
      have HRB := Lib.hid hd.out.base.res
      have HBL := Lib.hid hd.out.base.bel
      have HWM := Lib.hid hd.out.warm
      have HLI : Hid (Lies wr (fun b => g < b ∧ b ≠ sb) (f 1)) := (HC.out.sp 1 (by omega)).2
      obtain ⟨vc, hvc⟩ : ∃ v, f 1 = v := ⟨_, rfl⟩
      rw [hvc] at HWM HLI
      have hcl : clsG Wd 28 0 [] zs.tail = (S 1, r) := hcg.out.symm
      have HCL := Lib.hid hcl
      clear hcg hcl
      have HST := Lib.hid hsts
      clear hsts
      go_wp2_with fail
      refine (decomps9_any gs g f r _ hd.out.base.src hd.out.base.box (hd.out.base.nil 9 (by omega) (by omega)) (hd.out.base.nil 10 (by omega) (by omega)) o3).mono ?_
      rintro e w5 ⟨rfl, r5, v9, v10, D, E, hdec, hs5, hbx5, hmp9, hin10, hk5, hcap, hdef⟩
      have HDEF := Lib.hid hdef
      have HWM5 := Lib.hid (HWM.out.keeps HLI.out hk5 (fun b _ e hh => by omega))
      have HLI5 := Lib.hid (HLI.out.size hk5.size)
      have HV15 : Hid (upd (upd f 9 v9) 10 v10 1 = vc) := hvc
      have HC5 := Lib.hid ((HC.out.keeps hk5 (fun b _ e hh => by omega)).setD (hmp9.weak (fun b _ hb => ⟨by omega, by omega⟩)) (hin10.weak (fun b _ hb => ⟨by omega, by omega⟩)))
      have HRB5 := Lib.hid (HRB.out.keeps hk5 (by omega))
      have HBL5 := Lib.hid (HBL.out.trans (hk5.below HBL.out.size (fun b _ e => by omega)))
      have HST5 := Lib.hid (ownsRow_mono (hk5.owns HST.out (fun b hb e => by have e2 : some sb = some b := hb; injection e2 with e2; omega)) (Nat.zero_le _))
      have HS5 := Lib.hid hs5
      have HX5 := Lib.hid hbx5
      have HDEC := Lib.hid hdec
      have HCAP := Lib.hid hcap
      have hz5 := hk5.size
      have h85 : upd (upd f 9 v9) 10 v10 8 = .slice none 0 0 := hd.out.base.nil 8 (by omega) (by omega)
      have h55 : upd (upd f 9 v9) 10 v10 5 = .slice none 0 0 := hd.out.base.nil 5 (by omega) (by omega)
      have h115 : upd (upd f 9 v9) 10 v10 11 = .slice none 0 0 := hd.out.base.nil 11 (by omega) (by omega)
      have HF9 : Hid (upd (upd f 9 v9) 10 v10 9 = v9) := rfl
      have H85 := Lib.hid h85
      have H55 := Lib.hid h55
      have H115 := Lib.hid h115
      clear hs5 hbx5 hmp9 hin10 hk5 hcap hdec HC HRB HBL HST hd h85 h55 h115
      clear hdef HWM HLI hvc
      generalize upd (upd f 9 v9) 10 v10 = f5 at HC5 HX5 H85 H55 H115 HF9 HV15
      go_wp2_with fail
      refine (maps_any gs g sb sc f5 sl r5 _ HS5.out HX5.out H85.out H55.out HST5.out (fun i hi => hls.out.five i hi) ⟨o3, by omega, by omega⟩).mono ?_
      rintro e w6 ⟨rfl, r6, v8, v5, M, St, hmap, hs6, hbx6, hmp8, hsp5, hk6⟩
      have HC6 := Lib.hid ((HC5.out.keeps hk6 (fun b _ e hh => by omega)).setM (hmp8.weak (fun b _ hb => ⟨by omega, by omega⟩)) (hsp5.weak (fun b _ hb => ⟨by omega, by omega⟩)))
      have HRB6 := Lib.hid (HRB5.out.keeps hk6 (by omega))
      have HBL6 := Lib.hid (HBL5.out.trans (hk6.below HBL5.out.size (fun b _ e => by omega)))
      have HWM6 := Lib.hid (HWM5.out.keeps HLI5.out hk6 (fun b _ e hh => by omega))
      have HLI6 := Lib.hid (HLI5.out.size hk6.size)
      have HV16 : Hid (upd (upd f5 8 v8) 5 v5 1 = vc) := HV15.out
      have HS6 := Lib.hid hs6
      have HX6 := Lib.hid hbx6
      have HMAP := Lib.hid hmap
      have hz6 := hk6.size
      have H116 : Hid (upd (upd f5 8 v8) 5 v5 11 = .slice none 0 0) := H115.out
      have HG6 : Hid (upd (upd f5 8 v8) 5 v5 9 = v9) := HF9.out
      have HI6 : Hid (SpO w6 (fun b => b ≠ gs ∧ b ≠ g) (upd (upd f5 8 v8) 5 v5 6) (S 6)) := (HC6.out.sp 6 (by omega)).weak (fun b _ hb => ⟨by omega, by omega⟩)
      clear hs6 hbx6 hmp8 hsp5 hk6 hmap HC5 HRB5 HBL5 HS5 HX5 H85 H55 H115 HF9 HST5
      clear HWM5 HLI5 HV15
      generalize upd (upd f5 8 v8) 5 v5 = f6 at HC6 HX6 H116 HG6 HI6 HV16
      go_wp2_with fail
      refine (prototypes_any gs g f6 (S 6) r6 _ HS6.out HX6.out H116.out HI6.out (hls.out.ign.vals (by omega)) o3).mono ?_
      rintro e w7 ⟨rfl, r7, v11, Pr, hpro, hs7, hbx7, hmp11, hk7⟩
      have HC7 := Lib.hid ((HC6.out.keeps hk7 (fun b _ e hh => by omega)).setR (hmp11.weak (fun b _ hb => ⟨by omega, by omega⟩)))
      have HRB7 := Lib.hid (HRB6.out.keeps hk7 (by omega))
      have HBL7 := Lib.hid (HBL6.out.trans (hk7.below HBL6.out.size (fun b _ e => by omega)))
      have HWM7 := Lib.hid (HWM6.out.keeps HLI6.out hk7 (fun b _ e hh => by omega))
      have HLI7 := Lib.hid (HLI6.out.size hk7.size)
      have HV17 : Hid (upd f6 11 v11 1 = vc) := HV16.out
      have HS7 := Lib.hid hs7
      have HX7 := Lib.hid hbx7
      have HPRO := Lib.hid hpro
      have hz7 := hk7.size
      have HG7 : Hid (upd f6 11 v11 9 = v9) := HG6.out
      clear hs7 hbx7 hmp11 hk7 hpro HC6 HRB6 HBL6 HS6 HX6 H116 HI6 HG6
      clear HWM6 HLI6 HV16
      generalize upd f6 11 v11 = f7 at HC7 HX7 HG7 HV17
      obtain ⟨z, hz⟩ : ∃ z, nextV r7 2 = z := ⟨_, rfl⟩
      have HZ := Lib.hid hz
      clear hz
      go_wp2_with fail
      refine (next_at gs r7 2 z _ HS7.out (by omega) (by omega) HZ).mono ?_
      rintro e w8 ⟨rfl, hs8, hg8⟩
      have hk8 := next_keeps hg8
      have HC8 := Lib.hid (HC7.out.keeps hk8 (fun b _ e hh => by omega))
      have HRB8 := Lib.hid (HRB7.out.keeps hk8 (by omega))
      have HBL8 := Lib.hid (HBL7.out.trans (hk8.below HBL7.out.size (fun b _ e => by omega)))
      have HX8 := Lib.hid (HX7.out.keeps hk8 (by omega))
      have HWM8 := Lib.hid (HWM7.out.keeps HLI7.out hk8 (fun b _ e hh => by omega))
      have HLI8 := Lib.hid (HLI7.out.size hk8.size)
      have hz8 := hk8.size
      clear HWM7 HLI7
      clear hs8 hg8 hk8 HC7 HRB7 HBL7 HX7 HS7
      go_upto_if 120 with (fail)
      go_cut [4] (fun v wx => ∃ (f9 : Nat → Value) (Ex : List Mp), v = .pointer (some ⟨g, 0, none⟩) ∧ Hid (Ex = [] ∨ Ex = [(12539, [7, 8])]) ∧ Hid (BoxF wx g f9) ∧ Hid (Cold wx (fun b => g < b ∧ b ≠ sb) f9 (upd S 5 St) Ex M D Pr E) ∧ Hid (BoxF wx rb (fun _ => .slice none 0 0)) ∧ Hid (Below w.heap.size w wx) ∧ Hid (f9 9 = v9) ∧ Hid (f9 1 = vc) ∧ Hid (Warm wx vc) ∧ Hid (Lies wx (fun b => g < b ∧ b ≠ sb) vc))
      case first =>
        by_cases hz0 : z = 0
        · have e1 : (z == 0) = true := by simp [hz0]
          clear hz0
          obtain ⟨q7, q7f⟩ := HX8.out 7 (by omega)
          have hks := Keeps.store w8 g 7 (.slice (some ⟨w8.heap.size + 1, 0, none⟩) 1 1)
          have hsz : (w8.setCell ⟨g, 7, none⟩ (.slice (some ⟨w8.heap.size + 1, 0, none⟩) 1 1)).heap.size = w8.heap.size := by simp [World.setCell]
          have hb1 := (Below.refl (w8.setCell ⟨g, 7, none⟩ (.slice (some ⟨w8.heap.size + 1, 0, none⟩) 1 1)).heap.size (w8.setCell ⟨g, 7, none⟩ (.slice (some ⟨w8.heap.size + 1, 0, none⟩) 1 1))).alloc (Nat.le_refl _) (.cells #[.int .i64 7, .int .i64 8] 3)
          have hb2 := hb1.alloc hb1.size (.cells #[.int .i64 12539, .slice (some ⟨w8.heap.size, 0, none⟩) 2 2] 64)
          have hmx := ext_new (w8.setCell ⟨g, 7, none⟩ (.slice (some ⟨w8.heap.size + 1, 0, none⟩) 1 1)) w8.heap.size hsz (fun b => g < b ∧ b ≠ sb) ⟨by omega, by omega⟩ ⟨by omega, by omega⟩
          have HXb := Lib.hid ((HX8.out.sets (Sets.store w8 g 7 (.slice (some ⟨w8.heap.size + 1, 0, none⟩) 1 1) _ q7)).below hb2)
          have HCb := Lib.hid (((HC8.out.keeps hks (fun b _ e hh => by omega)).below hb2).setE hmx)
          have HRb := Lib.hid ((HRB8.out.keeps hks (by omega)).below hb2)
          have HBb := Lib.hid ((HBL8.out.trans (hks.below HBL8.out.size (fun b _ e => by omega))).trans (hb2.mono (by rw [hsz]; exact HBL8.out.size)))
          have HGb : Hid (upd f7 7 (.slice (some ⟨w8.heap.size + 1, 0, none⟩) 1 1) 9 = v9) := HG7.out
          have hg8' : g < w8.heap.size := HX8.out.lt
          have HWMb := Lib.hid ((HWM8.out.store ⟨g, 7, none⟩ (.slice (some ⟨w8.heap.size + 1, 0, none⟩) 1 1)).keeps (HLI8.out.size hks.size) (Keeps.of_below hb2) (fun b hb e hh => by omega))
          have HLIb := Lib.hid ((HLI8.out.size hks.size).size hb2.size)
          have HVb : Hid (upd f7 7 (.slice (some ⟨w8.heap.size + 1, 0, none⟩) 1 1) 1 = vc) := HV17.out
          clear hb1 hb2 hmx hks hsz
          go_wp2_with fail
          go_meet
          exact ⟨_, _, rfl, .inr rfl, HXb, HCb, HRb, HBb, HGb, HVb, HWMb, HLIb⟩
        · have e1 : (z == 0) = false := by simp [hz0]
          clear hz0
          go_wp2_with fail
          go_meet
          exact ⟨f7, [], rfl, .inl rfl, HX8, HC8, HRB8, HBL8, HG7, HV17, HWM8, HLI8⟩
      case rest =>
        obtain ⟨f9, Ex, rfl, hex, hx9, hc9, hr9, hb9, hg9, hv9, HWM9, HLI9⟩ := hcut
        have HNF : Hid (nrmT (tbOf (upd S 5 St) Ex M D Pr E) = nrmF zs) := by
          unfold Hid nrmF
          rw [HWD.out, HCL.out, ← HDEF.out]
          rfl
        clear HX8 HC8 HRB8 HBL8 HG7
        obtain ⟨⟨a0, a1, a2, a3, a4, a5, a6, a7, a8, a9, a10, a11⟩, hx⟩ : ∃ x, xOf f9 = x := ⟨_, rfl⟩
        have htv : TabV wc ⟨a0, a1, a2, a3, a4, a5, a6, a7, a8, a9, a10, a11⟩ (tbOf (upd S 5 St) Ex M D Pr E) := by rw [← hx]; exact hc9.out.tab
        obtain ⟨p0, n0, q0, hsl0⟩ : Slc a0 := htv.cat.slc
        subst hsl0
        obtain ⟨p1, n1, q1, hsl1⟩ : Slc a1 := htv.cls.slc
        subst hsl1
        obtain ⟨p2, n2, q2, hsl2⟩ : Slc a2 := htv.joi.slc
        subst hsl2
        obtain ⟨p3, n3, q3, hsl3⟩ : Slc a3 := htv.bid.slc
        subst hsl3
        obtain ⟨p4, n4, q4, hsl4⟩ : Slc a4 := htv.scr.slc
        subst hsl4
        obtain ⟨p5, n5, q5, hsl5⟩ : Slc a5 := htv.sta.slc
        subst hsl5
        obtain ⟨p6, n6, q6, hsl6⟩ : Slc a6 := htv.ign.slc
        subst hsl6
        obtain ⟨p7, n7, q7, hsl7⟩ : Slc a7 := htv.ext.slc
        subst hsl7
        obtain ⟨p8, n8, q8, hsl8⟩ : Slc a8 := htv.map.slc
        subst hsl8
        obtain ⟨p9, n9, q9, hsl9⟩ : Slc a9 := htv.dec.slc
        subst hsl9
        obtain ⟨p10, n10, q10, hsl10⟩ : Slc a10 := htv.exc.slc
        subst hsl10
        obtain ⟨p11, n11, q11, hsl11⟩ : Slc a11 := htv.pro.slc
        subst hsl11
        have HXX : Hid (xOf f9 = ⟨.slice p0 n0 q0, .slice p1 n1 q1, .slice p2 n2 q2, .slice p3 n3 q3, .slice p4 n4 q4, .slice p5 n5 q5, .slice p6 n6 q6, .slice p7 n7 q7, .slice p8 n8 q8, .slice p9 n9 q9, .slice p10 n10 q10, .slice p11 n11 q11⟩) := hx
        have HV1 : Hid (Value.slice p1 n1 q1 = vc) := by
          have e : f9 1 = .slice p1 n1 q1 := congrArg TV.a1 hx
          unfold Hid; rw [← e]; exact hv9.out
        have HMD := Lib.hid (made_of hls.out HMAP.out HDEC.out HPRO.out hex.out)
        have HA9 : Hid (n9 ≤ q9) := by
          have e : f9 9 = .slice p9 n9 q9 := congrArg TV.a9 hx
          exact HCAP.out p9 n9 q9 (hg9.out.symm.trans e)
        have hbt : BoxT wc g ⟨.slice p0 n0 q0, .slice p1 n1 q1, .slice p2 n2 q2, .slice p3 n3 q3, .slice p4 n4 q4, .slice p5 n5 q5, .slice p6 n6 q6, .slice p7 n7 q7, .slice p8 n8 q8, .slice p9 n9 q9, .slice p10 n10 q10, .slice p11 n11 q11⟩ := by rw [← hx]; exact hx9.out.box
        obtain ⟨⟨k0, k1, k2, k3, k4, k5⟩, ⟨k6, k7, k8, k9, k10, k11⟩⟩ := hbt.load
        simp only at k0 k1 k2 k3 k4 k5 k6 k7 k8 k9 k10 k11
        obtain ⟨s0, t0⟩ := hr9.out 0 (by omega)
        obtain ⟨s1, t1⟩ := hr9.out 1 (by omega)
        obtain ⟨s2, t2⟩ := hr9.out 2 (by omega)
        obtain ⟨s3, t3⟩ := hr9.out 3 (by omega)
        obtain ⟨s4, t4⟩ := hr9.out 4 (by omega)
        obtain ⟨s5, t5⟩ := hr9.out 5 (by omega)
        obtain ⟨s6, t6⟩ := hr9.out 6 (by omega)
        obtain ⟨s7, t7⟩ := hr9.out 7 (by omega)
        obtain ⟨s8, t8⟩ := hr9.out 8 (by omega)
        obtain ⟨s9, t9⟩ := hr9.out 9 (by omega)
        obtain ⟨s10, t10⟩ := hr9.out 10 (by omega)
        obtain ⟨s11, t11⟩ := hr9.out 11 (by omega)
        have HRBX := hr9
        clear hr9 hx hbt hex htv hx9 hg9 HCAP
        go_wp2
        obtain ⟨hbF, hkF⟩ := store12 wc rb (.slice p0 n0 q0) (.slice p1 n1 q1) (.slice p2 n2 q2) (.slice p3 n3 q3) (.slice p4 n4 q4) (.slice p5 n5 q5) (.slice p6 n6 q6) (.slice p7 n7 q7) (.slice p8 n8 q8) (.slice p9 n9 q9) (.slice p10 n10 q10) (.slice p11 n11 q11) HRBX.out
        generalize (World.setCell (World.setCell (World.setCell (World.setCell (World.setCell (World.setCell (World.setCell (World.setCell (World.setCell (World.setCell (World.setCell (World.setCell wc ⟨rb, 0, none⟩ (.slice p0 n0 q0)) ⟨rb, 1, none⟩ (.slice p1 n1 q1)) ⟨rb, 2, none⟩ (.slice p2 n2 q2)) ⟨rb, 3, none⟩ (.slice p3 n3 q3)) ⟨rb, 4, none⟩ (.slice p4 n4 q4)) ⟨rb, 5, none⟩ (.slice p5 n5 q5)) ⟨rb, 6, none⟩ (.slice p6 n6 q6)) ⟨rb, 7, none⟩ (.slice p7 n7 q7)) ⟨rb, 8, none⟩ (.slice p8 n8 q8)) ⟨rb, 9, none⟩ (.slice p9 n9 q9)) ⟨rb, 10, none⟩ (.slice p10 n10 q10)) ⟨rb, 11, none⟩ (.slice p11 n11 q11)) = WF at hbF hkF ⊢
        obtain ⟨⟨Q0, Q1, Q2, Q3, Q4, Q5⟩, ⟨Q6, Q7, Q8, Q9, Q10, Q11⟩⟩ := hbF.load
        have hcF := hc9.out.keeps hkF (fun b _ e hh => by omega)
        have htF : TabP WF (fun b => w.heap.size ≤ b) (xOf f9) (tbOf (upd S 5 St) Ex M D Pr E) := fun W R hk hr => (hcF.keeps hk (fun k hlt e hp => hr k hlt e (by omega))).tab
        rw [HXX.out] at htF
        have hbF2 := hb9.out.trans (hkF.below hb9.out.size (fun b _ e => by omega))
        have hwF : Warm WF (.slice p1 n1 q1) := by rw [HV1.out]; exact HWM9.out.keeps HLI9.out hkF (fun b _ e hh => by omega)
        simp only at Q0 Q1 Q2 Q3 Q4 Q5 Q6 Q7 Q8 Q9 Q10 Q11
        refine bodyPost_ret (v := .agg #[.slice p0 n0 q0, .slice p1 n1 q1, .slice p2 n2 q2, .slice p3 n3 q3, .slice p4 n4 q4, .slice p5 n5 q5, .slice p6 n6 q6, .slice p7 n7 q7, .slice p8 n8 q8, .slice p9 n9 q9, .slice p10 n10 q10, .slice p11 n11 q11]) (by simp [results, Tryz.results9, go_sem, Q0, Q1, Q2, Q3, Q4, Q5, Q6, Q7, Q8, Q9, Q10, Q11]) rfl ?_
        exact ⟨⟨.slice p0 n0 q0, .slice p1 n1 q1, .slice p2 n2 q2, .slice p3 n3 q3, .slice p4 n4 q4, .slice p5 n5 q5, .slice p6 n6 q6, .slice p7 n7 q7, .slice p8 n8 q8, .slice p9 n9 q9, .slice p10 n10 q10, .slice p11 n11 q11⟩, _, rfl, htF, HMD.out, fun p n c e => by cases e; exact HA9.out, hbF2, HNF.out, hwF, fun b off n c e => ⟨by have := (HLI9.out b off n c (HV1.out.symm.trans e)).1; omega, Nat.lt_of_lt_of_le (HLI9.out b off n c (HV1.out.symm.trans e)).2 hkF.size⟩⟩

end Go.Proofs.YtfmfifmmaihodaaGreatDoor

namespace Go.Proofs.YtfmfifmmaihodaaGreatDoor
open Go.RowKit
set_option linter.unusedVariables false

/-- The row at pc, of nc spans, is written, and nothing else; the box of tables stays. -/
structure ClsSt (W1 : World) (g : Nat) (pc : Option Addr) (nc : Nat) (f : Nat → Value) (wr : World) : Prop where
  keep : Keeps W1 wr (fun k => ∃ off, pc = some ⟨k, off, none⟩)
  box : BoxF wr g f
  row : ∀ k, k < nc → ∃ b off v, pc = some ⟨b, off, none⟩ ∧ wr.cell? ⟨b, off + k * 3 + 2, none⟩ = some v
  frz : ∀ b off, pc = some ⟨b, off, none⟩ → ∀ j, wr.frozen? ⟨b, j, none⟩ = false

theorem ClsSt.start {W1 : World} {g : Nat} {pc : Option Addr} {nc : Nat} {f : Nat → Value} {L : List Sp} (hb : BoxF W1 g f) (hs : SpIn W1 pc L) (hl : L.length = nc) (hw : ∀ b off, pc = some ⟨b, off, none⟩ → ∀ j, W1.frozen? ⟨b, j, none⟩ = false) : ClsSt W1 g pc nc f W1 :=
  ⟨Keeps.refl _ _, hb, fun k hk => by obtain ⟨b, off, e, _, _, c3⟩ := hs k (by omega); exact ⟨b, off, _, e, c3⟩, hw⟩

theorem ClsSt.set {W1 wr : World} {g b off : Nat} {nc : Nat} {f : Nat → Value} (h : ClsSt W1 g (some ⟨b, off, none⟩) nc f wr) (hg : b ≠ g) (k : Nat) (v : Value) : ClsSt W1 g (some ⟨b, off, none⟩) nc f (wr.setCell ⟨b, off + k * 3 + 2, none⟩ v) := by
  have hk := Keeps.store wr b (off + k * 3 + 2) v
  refine ⟨h.keep.trans hk (fun _ _ e => e) (fun q _ e => by subst e; exact ⟨off, rfl⟩), h.box.keeps hk (fun e => hg e.symm), fun j hj => ?_, fun b' off' e j => (World.frozen?_setCell _ _ _ _).trans (h.frz b' off' e j)⟩
  obtain ⟨b', off', u, e, hc⟩ := h.row j hj
  injection e with e
  injection e with e1 e2 _
  subst e1 e2
  by_cases hjk : j = k
  · subst hjk
    exact ⟨_, _, v, rfl, World.cell?_setCell_same _ _ _ hc⟩
  · exact ⟨_, _, u, rfl, (World.cell?_setCell_other _ _ _ _ (by intro e; injection e with _ e; omega)).trans hc⟩

/-- What both streams leave alone. -/
structure Duo0 (B lo c g sa sb : Nat) (x : TV) (T : Tb) (vx vy : Value) (xs ys : List Int) (w0 wr : World) : Prop where
  bel : Below B w0 wr
  tab : TabP wr (rows lo c) x T
  box : BoxT wr g x
  inx : Ints wr lo vx xs
  iny : Ints wr lo vy ys
  ilx : ∀ b, vx.ownBlock = some b → b < c
  ily : ∀ b, vy.ownBlock = some b → b < c
  csz : c ≤ wr.heap.size
  ord : B ≤ g ∧ g < sa ∧ sa < sb ∧ sb < lo ∧ lo ≤ c

theorem Duo0.keeps {B lo c g sa sb : Nat} {x : TV} {T : Tb} {vx vy : Value} {xs ys : List Int} {w0 wr w' : World} {R : Nat → Prop} (h : Duo0 B lo c g sa sb x T vx vy xs ys w0 wr) (hk : Keeps wr w' R) (hR : ∀ k, k < wr.heap.size → R k → k = sa ∨ k = sb ∨ c ≤ k) : Duo0 B lo c g sa sb x T vx vy xs ys w0 w' := by
  obtain ⟨o1, o2, o3, o4, o5⟩ := h.ord
  have hi := fun b hb => World.ownsRow.lt h.inx b hb
  have hj := fun b hb => World.ownsRow.lt h.iny b hb
  have hcs := h.csz
  obtain ⟨⟨h0, h1, h2, h3, h4, h5⟩, ⟨h6, h7, h8, h9, h10, h11⟩⟩ := h.box
  have hgl : g < wr.heap.size := World.block_lt_of_cell? wr _ h0
  have key : ∀ i v, wr.cell? ⟨g, i, none⟩ = some v → w'.cell? ⟨g, i, none⟩ = some v := fun i v hc => hk.cell hc (fun e => by have := hR g hgl e; omega)
  refine ⟨h.bel.trans (hk.below (by omega) (fun k hlt e => by have := hR k hlt e; omega)), h.tab.keeps hk (fun k hlt e => by have := hR k hlt e; unfold rows; omega),
    ⟨⟨key _ _ h0, key _ _ h1, key _ _ h2, key _ _ h3, key _ _ h4, key _ _ h5⟩, ⟨key _ _ h6, key _ _ h7, key _ _ h8, key _ _ h9, key _ _ h10, key _ _ h11⟩⟩,
    hk.owns h.inx (fun k e r => by have := hR k (hi k e).2 r; have := h.ilx k e; have := hi k e; omega), hk.owns h.iny (fun k e r => by have := hR k (hj k e).2 r; have := h.ily k e; have := hj k e; omega), h.ilx, h.ily, Nat.le_trans h.csz hk.size, h.ord⟩

/-- Two rows of different blocks. -/
def Dj (v u : Value) : Prop := ∀ b, v.ownBlock = some b → u.ownBlock ≠ some b
theorem Dj.symm {v u : Value} (h : Dj v u) : Dj u v := fun b e e2 => h b e2 e
theorem Dj.nil (v : Value) (n c : Nat) : Dj v (.slice none n c) := fun b e e2 => by cases e2
theorem Dj.new {v u u' : Value} {m : Nat} (h : Dj v u) (hv : ∀ b, v.ownBlock = some b → b < m) (ho : ∀ b, b < m → u.ownBlock ≠ some b → u'.ownBlock ≠ some b) : Dj v u' := fun b e => ho b (hv b e) (h b e)
theorem off_of {v u : Value} {w : World} (h : u.ownBlock = v.ownBlock ∨ u.ownBlock = some w.heap.size) : ∀ b, b < w.heap.size → v.ownBlock ≠ some b → u.ownBlock ≠ some b := off_new h

structure Duo (B lo c g sa sb la lb : Nat) (x : TV) (T : Tb) (ya yb : TV) (U : Tb) (vx vy : Value) (xs ys : List Int) (w0 wr : World) (va vb : Value) (Ha Hb : List Int) (o q : Value) (O K : List Int) : Prop where
  base : Duo0 B lo c g sa sb x T vx vy xs ys w0 wr
  sta : StrV wr la sa sa ya U 32 c va Ha
  stb : StrV wr lb sb sb yb U 32 c vb Hb
  lab : sa < lb
  out : Ints wr c o O
  kep : Ints wr c q K
  ab : Dj va vb
  ao : Dj va o
  aq : Dj va q
  bo : Dj vb o
  bq : Dj vb q
  oq : Dj o q

section
variable {B lo c g sa sb la lb : Nat} {x : TV} {T : Tb} {ya yb : TV} {U : Tb} {vx vy : Value} {xs ys : List Int} {w0 wr w' : World} {va vb va' vb' : Value} {Ha Hb H' : List Int} {o q o' q' : Value} {O K O' K' : List Int}

theorem Duo.pushA (h : Duo B lo c g sa sb la lb x T ya yb U vx vy xs ys w0 wr va vb Ha Hb o q O K) (hk : Keeps wr w' (fun k => k = sa ∨ va.ownBlock = some k)) (hs : StrV w' la sa sa ya U 32 c va' H') (ho : ∀ b, b < wr.heap.size → va.ownBlock ≠ some b → va'.ownBlock ≠ some b) :
    Duo B lo c g sa sb la lb x T ya yb U vx vy xs ys w0 w' va' vb H' Hb o q O K := by
  obtain ⟨o1, o2, o3, o4, o5⟩ := h.base.ord
  have hl := h.lab
  have h1 := h.sta.hlt
  have h2 := h.stb.hlt
  have h3 := fun b hb => World.ownsRow.lt h.out b hb
  have h4 := fun b hb => World.ownsRow.lt h.kep b hb
  refine ⟨h.base.keeps hk (fun k _ e => ?_), hs, h.stb.keeps hk (fun k _ e => ?_), h.lab, hk.owns h.out (fun k e r => ?_), hk.owns h.kep (fun k e r => ?_), (h.ab.symm.new (fun b e => (h2 b e).2) ho).symm, (h.ao.symm.new (fun b e => (h3 b e).2) ho).symm, (h.aq.symm.new (fun b e => (h4 b e).2) ho).symm, h.bo, h.bq, h.oq⟩
  · rcases e with e | e
    · exact .inl e
    · exact .inr (.inr (h1 k e).1)
  · rcases e with e | e
    · exact ⟨by unfold rows; omega, by omega, fun e2 => by have := h2 k e2; omega⟩
    · have := h1 k e
      exact ⟨by unfold rows; omega, by omega, h.ab k e⟩
  · rcases r with r | r
    · have := h3 k e; omega
    · exact h.ao k r e
  · rcases r with r | r
    · have := h4 k e; omega
    · exact h.aq k r e

theorem Duo.pushB (h : Duo B lo c g sa sb la lb x T ya yb U vx vy xs ys w0 wr va vb Ha Hb o q O K) (hk : Keeps wr w' (fun k => k = sb ∨ vb.ownBlock = some k)) (hs : StrV w' lb sb sb yb U 32 c vb' H') (ho : ∀ b, b < wr.heap.size → vb.ownBlock ≠ some b → vb'.ownBlock ≠ some b) :
    Duo B lo c g sa sb la lb x T ya yb U vx vy xs ys w0 w' va vb' Ha H' o q O K := by
  obtain ⟨o1, o2, o3, o4, o5⟩ := h.base.ord
  have hl := h.lab
  have h1 := h.sta.hlt
  have h2 := h.stb.hlt
  have h3 := fun b hb => World.ownsRow.lt h.out b hb
  have h4 := fun b hb => World.ownsRow.lt h.kep b hb
  refine ⟨h.base.keeps hk (fun k _ e => ?_), h.sta.keeps hk (fun k _ e => ?_), hs, h.lab, hk.owns h.out (fun k e r => ?_), hk.owns h.kep (fun k e r => ?_), h.ab.new (fun b e => (h1 b e).2) ho, h.ao, h.aq, (h.bo.symm.new (fun b e => (h3 b e).2) ho).symm, (h.bq.symm.new (fun b e => (h4 b e).2) ho).symm, h.oq⟩
  · rcases e with e | e
    · exact .inr (.inl e)
    · exact .inr (.inr (h2 k e).1)
  · rcases e with e | e
    · exact ⟨by unfold rows; omega, by omega, fun e2 => by have := h1 k e2; omega⟩
    · have := h2 k e
      exact ⟨by unfold rows; omega, by omega, fun e2 => h.ab k e2 e⟩
  · rcases r with r | r
    · have := h3 k e; omega
    · exact h.bo k r e
  · rcases r with r | r
    · have := h4 k e; omega
    · exact h.bq k r e

theorem Duo.below (h : Duo B lo c g sa sb la lb x T ya yb U vx vy xs ys w0 wr va vb Ha Hb o q O K) (hb : Below wr.heap.size wr w') : Duo B lo c g sa sb la lb x T ya yb U vx vy xs ys w0 w' va vb Ha Hb o q O K :=
  ⟨h.base.keeps (Keeps.of_below hb) (fun k hk e => absurd e (by omega)), h.sta.below hb, h.stb.below hb, h.lab, h.out.below hb, h.kep.below hb, h.ab, h.ao, h.aq, h.bo, h.bq, h.oq⟩

theorem Duo.app (h : Duo B lo c g sa sb la lb x T ya yb U vx vy xs ys w0 wr va vb Ha Hb o q O K) (hg : wr.grownBy w' o.ownBlock) (ho : Ints w' c o' O') (hv : o'.ownBlock = o.ownBlock ∨ o'.ownBlock = some wr.heap.size) :
    Duo B lo c g sa sb la lb x T ya yb U vx vy xs ys w0 w' va vb Ha Hb o' q O' K := by
  obtain ⟨o1, o2, o3, o4, o5⟩ := h.base.ord
  have hl := h.lab
  have hk := Keeps.of_grown hg
  have h1 := h.sta.hlt
  have h2 := h.stb.hlt
  have h3 := fun b hb => World.ownsRow.lt h.out b hb
  have h4 := fun b hb => World.ownsRow.lt h.kep b hb
  refine ⟨h.base.keeps hk (fun k _ e => .inr (.inr (h3 k e).1)), h.sta.keeps hk (fun k _ e => ⟨?_, ?_, h.ao.symm k e⟩), h.stb.keeps hk (fun k _ e => ⟨?_, ?_, h.bo.symm k e⟩), h.lab, ho, hk.owns h.kep (fun k e r => h.oq k r e), h.ab, h.ao.new (fun b e => (h1 b e).2) (off_of hv), h.aq, h.bo.new (fun b e => (h2 b e).2) (off_of hv), h.bq, (h.oq.symm.new (fun b e => (h4 b e).2) (off_of hv)).symm⟩
  · have := h3 k e; unfold rows; omega
  · have := h3 k e; omega
  · have := h3 k e; unfold rows; omega
  · have := h3 k e; omega

theorem Duo.appk (h : Duo B lo c g sa sb la lb x T ya yb U vx vy xs ys w0 wr va vb Ha Hb o q O K) (hg : wr.grownBy w' q.ownBlock) (ho : Ints w' c q' K') (hv : q'.ownBlock = q.ownBlock ∨ q'.ownBlock = some wr.heap.size) :
    Duo B lo c g sa sb la lb x T ya yb U vx vy xs ys w0 w' va vb Ha Hb o q' O K' := by
  obtain ⟨o1, o2, o3, o4, o5⟩ := h.base.ord
  have hl := h.lab
  have hk := Keeps.of_grown hg
  have h1 := h.sta.hlt
  have h2 := h.stb.hlt
  have h3 := fun b hb => World.ownsRow.lt h.out b hb
  have h4 := fun b hb => World.ownsRow.lt h.kep b hb
  refine ⟨h.base.keeps hk (fun k _ e => .inr (.inr (h4 k e).1)), h.sta.keeps hk (fun k _ e => ⟨?_, ?_, h.aq.symm k e⟩), h.stb.keeps hk (fun k _ e => ⟨?_, ?_, h.bq.symm k e⟩), h.lab, hk.owns h.out (fun k e r => h.oq k e r), ho, h.ab, h.ao, h.aq.new (fun b e => (h1 b e).2) (off_of hv), h.bo, h.bq.new (fun b e => (h2 b e).2) (off_of hv), h.oq.new (fun b e => (h3 b e).2) (off_of hv)⟩
  · have := h4 k e; unfold rows; omega
  · have := h4 k e; omega
  · have := h4 k e; unfold rows; omega
  · have := h4 k e; omega
end

/-- The class list of a value (a word of its own: a plain equation would be lost in the walk). -/
def A1 (x : TV) (v : Value) : Prop := x.a1 = v

/-- The tables of a value, cell by cell. -/
def fOf (x : TV) : Nat → Value := fun i => [x.a0, x.a1, x.a2, x.a3, x.a4, x.a5, x.a6, x.a7, x.a8, x.a9, x.a10, x.a11].getD i x.a0
theorem BoxF.tab (w : World) (x : TV) (t : TypeId) : BoxF (w.alloc (.cells (tabCells x) t)) w.heap.size (fOf x) := by
  intro i hi
  have : i = 0 ∨ i = 1 ∨ i = 2 ∨ i = 3 ∨ i = 4 ∨ i = 5 ∨ i = 6 ∨ i = 7 ∨ i = 8 ∨ i = 9 ∨ i = 10 ∨ i = 11 := by omega
  rcases this with rfl | rfl | rfl | rfl | rfl | rfl | rfl | rfl | rfl | rfl | rfl | rfl <;> simp [World.cell?_alloc_new, fOf]

theorem nfc_norm {T T2 : Tb} {zs : List Int} (h1 : nrmT T = nrmF zs) (h2 : nrmT T2 = nrmF zs) (c1 : checkT T = 0) (c2 : checkT T2 = 0) (l : List Int) : nfcL T2 l = nfcL T l := by
  rw [← nrm_nfcL c2, ← nrm_nfcL c1, h1, h2]

end Go.Proofs.YtfmfifmmaihodaaGreatDoor
