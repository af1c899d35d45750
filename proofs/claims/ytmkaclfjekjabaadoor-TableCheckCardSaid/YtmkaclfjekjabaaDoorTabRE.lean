/-
  The references of table: rule 3.
-/
import Derived.Test.YtmkaclfjekjabaaDoorTabRC
namespace Go.Proofs.YtmkaclfjekjabaaDoor
open Go.RowKit

/-- A value of the k-th list of spans, as the references test it. -/
def valV (k : Nat) (v : Int) : Bool := !(decide (v < 0) || decide (mostL.getD k 0 < v) || decide (v = 0) && (decide (k = 1) || decide (k = 6)))
def valF (k : Nat) (l : List Sp) : Bool := l.all fun s => valV k s.2.2

theorem valF_ok {k : Nat} {lo hi : Int} {l : List Sp} (hh : mostL.getD k 0 = hi) (hlo : lo = if k = 1 ∨ k = 6 then 1 else 0) : valF k l = valOk lo hi l := by
  unfold valF valOk
  congr 1
  funext s
  rw [Bool.eq_iff_iff]
  simp only [valV, hh, hlo, Bool.not_eq_true', Bool.or_eq_false_iff, Bool.and_eq_false_iff, decide_eq_false_iff_not, Bool.and_eq_true, decide_eq_true_eq]
  by_cases h : k = 1 ∨ k = 6
  · rw [if_pos h]; omega
  · rw [if_neg h]; omega

theorem r3_vals (T : Tb) : r3 T = (valF 0 T.cat && (valF 1 T.cls && (valF 2 T.joi && (valF 3 T.bid && (valF 4 T.scr && (valF 5 T.sta && valF 6 T.ign)))))) := by
  unfold r3
  rw [valF_ok (k := 0) (lo := 0) (hi := 8) rfl rfl, valF_ok (k := 1) (lo := 1) (hi := 254) rfl rfl, valF_ok (k := 2) (lo := 0) (hi := 5) rfl rfl, valF_ok (k := 3) (lo := 0) (hi := 11) rfl rfl, valF_ok (k := 4) (lo := 0) (hi := 60) rfl rfl, valF_ok (k := 5) (lo := 0) (hi := 4) rfl rfl, valF_ok (k := 6) (lo := 1) (hi := 1) rfl rfl]

theorem sp_list {T : Tb} (q : (k : Nat) → List Sp → Bool) (h : ∀ j, j < 7 → q j ((spansT T).getD j []) = true) : (q 0 T.cat && (q 1 T.cls && (q 2 T.joi && (q 3 T.bid && (q 4 T.scr && (q 5 T.sta && q 6 T.ign)))))) = true := by
  have h0 : q 0 T.cat = true := h 0 (by omega)
  have h1 : q 1 T.cls = true := h 1 (by omega)
  have h2 : q 2 T.joi = true := h 2 (by omega)
  have h3 : q 3 T.bid = true := h 3 (by omega)
  have h4 : q 4 T.scr = true := h 4 (by omega)
  have h5 : q 5 T.sta = true := h 5 (by omega)
  have h6 : q 6 T.ign = true := h 6 (by omega)
  rw [h0, h1, h2, h3, h4, h5, h6]; rfl
theorem sp_bad {T : Tb} (q : (k : Nat) → List Sp → Bool) {j : Nat} (hj : j < 7) (h : q j ((spansT T).getD j []) = false) : (q 0 T.cat && (q 1 T.cls && (q 2 T.joi && (q 3 T.bid && (q 4 T.scr && (q 5 T.sta && q 6 T.ign)))))) = false := by
  have : j = 0 ∨ j = 1 ∨ j = 2 ∨ j = 3 ∨ j = 4 ∨ j = 5 ∨ j = 6 := by omega
  rcases this with rfl | rfl | rfl | rfl | rfl | rfl | rfl
  · rw [show q 0 T.cat = false from h]; simp
  · rw [show q 1 T.cls = false from h]; simp
  · rw [show q 2 T.joi = false from h]; simp
  · rw [show q 3 T.bid = false from h]; simp
  · rw [show q 4 T.scr = false from h]; simp
  · rw [show q 5 T.sta = false from h]; simp
  · rw [show q 6 T.ign = false from h]; simp

theorem most_at {w : World} {h : Nat} (hi : IntsIn w (some ⟨h, 0, none⟩) mostL) (k : Nat) (hk : k < 7) : w.cell? ⟨h, k, none⟩ = some (.int .i64 (mostL.getD k 0)) := by
  obtain ⟨b, off, e, hc⟩ := hi k hk
  injection e with e
  injection e with e1 e2
  subst e1; subst e2
  rwa [Nat.zero_add] at hc

set_option maxRecDepth 100000 in
set_option maxHeartbeats 8000000 in
theorem rranged_any (x : TV) (T : Tb) (w : World) (hx : TabV w x T) :
    Calls Tryd.prog 27 #[x.agg] w (Gives (.bool (r3 T)) w) := by
  have HE := Lib.hid (Env.new hx)
  clear hx
  simp only [TV.agg]
  go_enter Tryd.func27, Tryd.ntmps27
  go_wp2_with fail
  refine (rspans_any _ T _ HE.out.tab).mono ?_
  rintro e w1 ⟨g, h, rfl, hsev, hmo, hb⟩
  have HS := Lib.hid hsev
  have HM := Lib.hid hmo
  have HE1 := Lib.hid (HE.out.step hb)
  clear hb hsev hmo
  go_wp2
  obtain ⟨wo, rfl⟩ : ∃ wo : World, wo = w1 := ⟨_, rfl⟩
  go_loopw [16] (fun i wr => ∃ k : Nat, k ≤ 7 ∧ i = .int .i64 k ∧ Hid (∀ j, j < k → valF j ((spansT T).getD j []) = true) ∧ Hid (Below wo.heap.size wo wr)) (fun i _ => 7 - (intOf i).toNat)
  case atStart => exact ⟨0, by omega, rfl, fun j hj => absurd hj (Nat.not_lt_zero _), Below.refl _ _⟩
  case round =>
    obtain ⟨k, hk, rfl, hall, hb1⟩ := hrel
    by_cases hlt : k < 7
    · obtain ⟨p, n, c, l, hl, hln, hn, hin, hc⟩ := (HS.out.below hb1.out).at_ (HE1.out.step hb1.out).tab k hlt
      have HBAD : Hid (valF k l = false → r3 T = false) := fun h => by
        rw [r3_vals]; exact sp_bad valF hlt (by rw [hl]; exact h)
      have HL4 := Lib.hid hl
      have HI := Lib.hid hin
      have HLN := Lib.hid hln
      have hmk := most_at (HM.out.below hb1.out) k hlt
      have HMK := Lib.hid hmk
      clear hl hln hin hmk
      have hkk0 : (0 : Int) ≤ (k : Int) := by omega
      have hkk1 : (k : Int) < 7 := by omega
      go_wp2
      obtain ⟨wi, rfl⟩ : ∃ wi : World, wi = wr := ⟨_, rfl⟩
      go_loopw [23] (fun i wr => ∃ j : Nat, j ≤ n ∧ i = .int .i64 j ∧ Hid ((l.take j).all (fun s => valV k s.2.2) = true) ∧ Hid (Below wi.heap.size wi wr)) (fun i _ => n - (intOf i).toNat)
      case atStart => exact ⟨0, Nat.zero_le _, rfl, rfl, Below.refl _ _⟩
      case round =>
        obtain ⟨j, hj, rfl, hok, hb4⟩ := hrel
        by_cases hlt5 : j < n
        · have hjl : j < l.length := by rw [HLN.out]; exact hlt5
          obtain ⟨b, off, rfl, hc1, hc2, hc3⟩ := (HI.out.below hb4.out) j hjl
          have hst := all_take_snoc (fun s : Sp => valV k s.2.2) l j sp0 hjl
          rw [hok.out, Bool.true_and] at hst
          obtain ⟨⟨f, t, v⟩, hs⟩ : ∃ s, l.getD j sp0 = s := ⟨_, rfl⟩
          rw [hs] at hc1 hc2 hc3 hst
          simp only at hst
          obtain ⟨mk, hmk⟩ : ∃ m, mostL.getD k 0 = m := ⟨_, rfl⟩
          obtain ⟨K1, hK1⟩ : ∃ K, ((k : Int) == 1) = K := ⟨_, rfl⟩
          obtain ⟨K6, hK6⟩ : ∃ K, ((k : Int) == 6) = K := ⟨_, rfl⟩
          have hvv : valV k v = !(decide (v < 0) || decide (mk < v) || (v == 0) && (K1 || K6)) := by
            rw [valV, hmk, ← hK1, ← hK6, show decide (k = 1) = ((k : Int) == 1) from decide_eq_decide.2 (by omega), show decide (k = 6) = ((k : Int) == 6) from decide_eq_decide.2 (by omega)]
            rfl
          have hm1 := (hb4.out.cell (p := ⟨h, k, none⟩) (World.block_lt_of_cell? wi _ HMK.out)).trans HMK.out
          rw [hmk] at hm1
          have hm2 : (wr.alloc (.cells #[.int .i64 f, .int .i64 t, .int .i64 v] 50)).cell? ⟨h, k, none⟩ = some (.int .i64 mk) := (World.cell?_alloc_lt wr _ ⟨h, k, none⟩ (World.block_lt_of_cell? wr _ hm1)).trans hm1
          have HST := Lib.hid hst
          have HVV := Lib.hid hvv
          have HBa := Lib.hid (hb4.out.alloc hb4.out.size (.cells #[.int .i64 f, .int .i64 t, .int .i64 v] 50))
          clear hs hst hvv hmk hm1
          go_upto_region 8 with (fail)
          go_cut [51] (fun cc wx => ∃ B : Bool, cc = .bool B ∧ Hid (B = !valV k v) ∧ Hid (Below wi.heap.size wi wx))
          case first =>
            by_cases h1 : v < 0
            · go_quiet (fail)
              go_wp2_with fail
              go_meet
              exact ⟨true, rfl, by unfold Hid; rw [HVV.out]; simp [h1], below_drewN_sp HBa.out _⟩
            · have d1 : decide (v < 0) = false := decide_eq_false h1
              clear h1
              by_cases h2 : mk < v
              · go_quiet (fail)
                go_wp2_with fail
                go_meet
                exact ⟨true, rfl, by unfold Hid; rw [HVV.out]; simp [h2], below_drewN_sp HBa.out _⟩
              · have d2 : decide (mk < v) = false := decide_eq_false h2
                clear h2
                by_cases h3 : v = 0
                · have d3 : (v == 0) = true := decide_eq_true h3
                  clear h3
                  cases K1 with
                  | true =>
                    go_quiet (fail)
                    go_wp2_with fail
                    go_meet
                    exact ⟨true, rfl, by unfold Hid; rw [HVV.out, d1, d2, d3]; rfl, below_drewN_sp HBa.out _⟩
                  | false =>
                    cases K6 with
                    | true =>
                      go_quiet (fail)
                      go_wp2_with fail
                      go_meet
                      exact ⟨true, rfl, by unfold Hid; rw [HVV.out, d1, d2, d3]; rfl, below_drewN_sp HBa.out _⟩
                    | false =>
                      go_quiet (fail)
                      go_wp2_with fail
                      go_meet
                      exact ⟨false, rfl, by unfold Hid; rw [HVV.out, d1, d2, d3]; rfl, below_drewN_sp HBa.out _⟩
                · have d3 : (v == 0) = false := decide_eq_false h3
                  clear h3
                  go_quiet (fail)
                  go_wp2_with fail
                  go_meet
                  exact ⟨false, rfl, by unfold Hid; rw [HVV.out, d1, d2, d3]; rfl, below_drewN_sp HBa.out _⟩
          case rest =>
            obtain ⟨B, rfl, hBB, hb5⟩ := hcut
            cases B
            · have HN : Hid ((l.take (j + 1)).all (fun s => valV k s.2.2) = true) := by
                unfold Hid; rw [HST.out]
                have := hBB.out
                cases hv : valV k v with
                | true => rfl
                | false => rw [hv] at this; cases this
              clear hBB hok hb4
              go_wp2
              go_roundw
              case rel => exact ⟨j + 1, by omega, by go_num, HN, hb5⟩
              case measure => simp [intOf]; omega
            · have HF : Hid (r3 T = false) := by
                unfold Hid
                apply HBAD.out
                have := hBB.out
                exact all_of_take _ l (j + 1) (by
                  rw [HST.out]
                  cases hv : valV k v with
                  | true => rw [hv] at this; cases this
                  | false => rfl)
              have HBB := Lib.hid (HE1.out.step hb1.out)
              clear hBB hok hb4
              go_wp2
              go_ret
              rw [HF.out]
              exact ⟨rfl, (HBB.out.step hb5.out).bel⟩
        · obtain rfl : j = n := by omega
          have HT : Hid (∀ i, i < k + 1 → valF i ((spansT T).getD i []) = true) := by
            intro i hi
            by_cases hik : i < k
            · exact hall.out i hik
            · obtain rfl : i = k := by omega
              have := hok.out
              rw [List.take_of_length_le (Nat.le_of_eq HLN.out)] at this
              rw [HL4.out]; exact this
          go_wp2
          go_roundw
          case rel => exact ⟨k + 1, by omega, by go_num, HT, Lib.hid (hb1.out.trans (hb4.out.mono hb1.out.size))⟩
          case measure => simp [intOf]; omega
    · obtain rfl : k = 7 := by omega
      have HR : Hid (r3 T = true) := by unfold Hid; rw [r3_vals]; exact sp_list valF hall.out
      have HBB := Lib.hid (HE1.out.step hb1.out)
      clear hall
      go_wp2
      go_ret
      rw [HR.out]
      exact ⟨rfl, HBB.out.bel⟩

end Go.Proofs.YtmkaclfjekjabaaDoor
