/-
  table: rule 4.
  table: the properties that spans give, with the fixed ones.
-/
import Derived.Test.YtopaojjodkoidaaGreatDoorSSmTabI
import Derived.Test.YtopaojjodkoidaaGreatDoorSSmPkZZQ
set_option linter.unusedSimpArgs false
set_option linter.unusedVariables false
namespace Go.Proofs.YtopaojjodkoidaaGreatDoor
open Go.RowKit
def LenPost (c : Int) (w : World) (e : Ending) (w' : World) : Prop := ∃ n : Int, e = .returned (.int .i64 n) ∧ (n = 0 ↔ scaB c = false) ∧ w = w'
theorem scaF_iff {c : Int} : scaB c = false ↔ ¬ (0 ≤ c ∧ c ≤ 1114111 ∧ (c < 55296 ∨ 57343 < c)) := by rw [← scaB_iff]; simp
set_option maxHeartbeats 1000000 in
theorem len_any (c : Int) (w : World) : Calls Tryz.prog 112 #[.int .i64 c] w (LenPost c w) := by
 have HS := Lib.hid (@scaF_iff c)
 go_enter Tryz.func112, Tryz.ntmps112
 go_wp2
 all_goals
  go_ret
  exact ⟨_, rfl, by rw [HS.out]; omega, rfl⟩
def notSca (c : Int) : Bool := !scaB c
theorem sca1_any (c : Int) (w : World) : Calls Tryz.prog 180 #[.int .i64 c] w (Gives (.bool (notSca c)) w) := by
 obtain ⟨B, hB⟩ : ∃ B, Hid (scaB c = B) := ⟨_, rfl⟩
 have HN : Hid (notSca c = !B) := by unfold Hid notSca; rw [hB.out]
 go_enter Tryz.func180, Tryz.ntmps180
 go_wp2_with fail
 refine (len_any c _).mono ?_
 rintro e w1 ⟨n, rfl, hn, rfl⟩
 rw [hB.out] at hn
 cases B with
 | true =>
  have hz : (n == 0) = false := by simp; simpa using hn
  clear hn
  go_wp2
  go_ret
  exact ⟨by rw [HN.out]; rfl, Below.refl _ _⟩
 | false =>
  have hz : (n == 0) = true := by simpa using hn
  clear hn
  go_wp2
  go_ret
  exact ⟨by rw [HN.out]; rfl, Below.refl _ _⟩
theorem testSca (w : World) : TestI 180 #[] notSca w := fun c W _ => sca1_any c W
theorem entersSca1 : ∀ args w, (callFunc 180 args).run Tryz.prog w = .ok (.enter 180 args) w := enters_of Tryz.func180 (by kernel_rfl) rfl
theorem entersSca : ∀ args w, (callFunc 164 args).run Tryz.prog w = .ok (.enter 164 args) w := enters_of Tryz.func164 (by kernel_rfl) rfl
theorem entersExt : ∀ args w, (callFunc 162 args).run Tryz.prog w = .ok (.enter 162 args) w := enters_of Tryz.func162 (by kernel_rfl) rfl
theorem sca_any (v0 : Value) (l : List Int) (w : World) (hv : InV w v0 l) : Calls Tryz.prog 164 #[v0] w (Gives (.bool (l.all scaB)) w) := by
 obtain ⟨B, hB⟩ : ∃ B, Hid (l.any notSca = B) := ⟨_, rfl⟩
 have HN : Hid (l.all scaB = !B) := by unfold Hid; rw [← not_any hB.out]; congr 1; funext c; simp [notSca]
 have HV := Lib.hid hv
 clear hv
 go_enter Tryz.func164, Tryz.ntmps164
 go_wp2_with fail
 refine (conI_any v0 l 180 #[] notSca B _ HV.out (testSca _) entersSca1 hB).mono ?_
 rintro e w1 ⟨rfl, hb⟩
 have HB := Lib.hid hb
 clear hb
 go_wp2
 go_ret
 exact ⟨by rw [HN.out]; rfl, HB.out⟩
theorem ext_any (v0 : Value) (l : List Int) (w : World) (hv : InV w v0 l) : Calls Tryz.prog 162 #[v0] w (Gives (.bool (ascI 3 60 l)) w) := by
 obtain ⟨B, hB⟩ : ∃ B, Hid (ascI 3 60 l = B) := ⟨_, rfl⟩
 have HV := Lib.hid hv
 clear hv
 go_enter Tryz.func162, Tryz.ntmps162
 go_wp2_with fail
 refine (asc_at v0 l 3 60 B _ HV.out hB).mono ?_
 rintro e w1 ⟨rfl, rfl⟩
 go_wp2
 go_ret
 exact ⟨by rw [hB.out]; rfl, Below.refl _ _⟩
theorem testL_sca (w : World) : TestL 164 (fun l => l.all scaB) w := fun l v W _ hv => sca_any v l W hv
theorem testL_ext (w : World) : TestL 162 (ascI 3 60) w := fun l v W _ hv => ext_any v l W hv
theorem seqE_all (l : List Mp) : (l.all fun m => sizOk m && ascI 3 60 m.2) = l.all seqE := rfl
theorem seqS_all (l : List Mp) : (l.all fun m => sizOk m && m.2.all scaB) = l.all seqS := rfl
theorem seqsE_at (v0 : Value) (l : List Mp) (B : Bool) (w : World) (hv : MpV w v0 l) (hB : Hid (l.all seqE = B)) :
 Calls Tryz.prog 161 #[v0, .func (.func 162) #[] #[]] w (Gives (.bool B) w) := by
 rw [← hB.out, ← seqE_all]; exact seqs_any v0 l _ _ w hv (testL_ext w) entersExt
theorem seqsS_at (v0 : Value) (l : List Mp) (B : Bool) (w : World) (hv : MpV w v0 l) (hB : Hid (l.all seqS = B)) :
 Calls Tryz.prog 161 #[v0, .func (.func 164) #[] #[]] w (Gives (.bool B) w) := by
 rw [← hB.out, ← seqS_all]; exact seqs_any v0 l _ _ w hv (testL_sca w) entersSca
set_option maxHeartbeats 4000000 in
theorem seqsIn_any (x : TV) (T : Tb) (w : World) (hx : TabV w x T) :
 Calls Tryz.prog 132 #[x.agg] w (Gives (.bool (r4 T)) w) := by
 have HE := Lib.hid (Env.new hx)
 obtain ⟨B1, hB1⟩ : ∃ B, Hid (T.ext.all seqE = B) := ⟨_, rfl⟩
 obtain ⟨B2, hB2⟩ : ∃ B, Hid (T.map.all seqS = B) := ⟨_, rfl⟩
 obtain ⟨B3, hB3⟩ : ∃ B, Hid (T.dec.all seqS = B) := ⟨_, rfl⟩
 obtain ⟨B4, hB4⟩ : ∃ B, Hid (T.pro.all seqS = B) := ⟨_, rfl⟩
 have HRR : Hid (r4 T = (B1 && (B2 && (B3 && B4)))) := by
  unfold Hid r4; rw [hB1.out, hB2.out, hB3.out, hB4.out]
 clear hx
 simp only [TV.agg]
 go_enter Tryz.func132, Tryz.ntmps132
 go_wp2_with fail
 refine (seqsE_at x.a7 T.ext B1 _ HE.out.tab.ext hB1).mono ?_
 rintro e w1 ⟨rfl, hb⟩
 replace HE := Lib.hid (HE.out.step hb)
 clear hb
 cases B1 with
 | false => go_wp2; go_ret; exact ⟨by rw [HRR.out]; rfl, HE.out.bel⟩
 | true =>
  obtain ⟨_, ⟨_, _, k, _, _, _⟩⟩ := HE.out.box
  go_wp2_with fail
  refine (seqsS_at x.a8 T.map B2 _ HE.out.tab.map hB2).mono ?_
  rintro e w2 ⟨rfl, hb⟩
  replace HE := Lib.hid (HE.out.step hb)
  clear hb k
  cases B2 with
  | false => go_wp2; go_ret; exact ⟨by rw [HRR.out]; rfl, HE.out.bel⟩
  | true =>
   obtain ⟨_, ⟨_, _, _, k, _, _⟩⟩ := HE.out.box
   go_wp2_with fail
   refine (seqsS_at x.a9 T.dec B3 _ HE.out.tab.dec hB3).mono ?_
   rintro e w3 ⟨rfl, hb⟩
   replace HE := Lib.hid (HE.out.step hb)
   clear hb k
   cases B3 with
   | false => go_wp2; go_ret; exact ⟨by rw [HRR.out]; rfl, HE.out.bel⟩
   | true =>
    obtain ⟨_, ⟨_, _, _, _, _, k⟩⟩ := HE.out.box
    go_wp2_with fail
    refine (seqsS_at x.a11 T.pro B4 _ HE.out.tab.pro hB4).mono ?_
    rintro e w4 ⟨rfl, hb⟩
    replace HE := Lib.hid (HE.out.step hb)
    clear hb k
    go_wp2
    go_ret
    exact ⟨by rw [HRR.out]; rfl, HE.out.bel⟩
theorem fixed_at (c a b s t : Int) (w : World) (h1 : Hid (fixC c = a)) (h2 : Hid (fixB c = b)) (h3 : Hid (fixS c = s)) (h4 : Hid (fixT c = t)) :
 Calls Tryz.prog 61 #[.int .i64 c] w (Gives (.agg #[.int .i64 a, .int .i64 b, .int .i64 s, .int .i64 t]) w) :=
 (fixed_any c w).mono fun e w' h => by rw [← h1.out, ← h2.out, ← h3.out, ← h4.out]; exact h
theorem drew_one (w : World) : Below w.heap.size w w.drew := ⟨rfl, rfl, rfl, Nat.le_refl _, fun _ _ => rfl⟩
theorem Env.at5 {w0 w : World} {x : TV} {T : Tb} (h : Env w0 x T w) : w.cell? ⟨w0.heap.size, 5, none⟩ = some x.a5 := h.box.1.2.2.2.2.2
theorem Env.at4 {w0 w : World} {x : TV} {T : Tb} (h : Env w0 x T w) : w.cell? ⟨w0.heap.size, 4, none⟩ = some x.a4 := h.box.1.2.2.2.2.1
theorem Env.at3 {w0 w : World} {x : TV} {T : Tb} (h : Env w0 x T w) : w.cell? ⟨w0.heap.size, 3, none⟩ = some x.a3 := h.box.1.2.2.2.1
theorem Env.at2 {w0 w : World} {x : TV} {T : Tb} (h : Env w0 x T w) : w.cell? ⟨w0.heap.size, 2, none⟩ = some x.a2 := h.box.1.2.2.1
theorem Env.at1 {w0 w : World} {x : TV} {T : Tb} (h : Env w0 x T w) : w.cell? ⟨w0.heap.size, 1, none⟩ = some x.a1 := h.box.1.2.1
theorem Env.at0 {w0 w : World} {x : TV} {T : Tb} (h : Env w0 x T w) : w.cell? ⟨w0.heap.size, 0, none⟩ = some x.a0 := h.box.1.1
theorem Env.at6 {w0 w : World} {x : TV} {T : Tb} (h : Env w0 x T w) : w.cell? ⟨w0.heap.size, 6, none⟩ = some x.a6 := h.box.2.1
theorem Env.at7 {w0 w : World} {x : TV} {T : Tb} (h : Env w0 x T w) : w.cell? ⟨w0.heap.size, 7, none⟩ = some x.a7 := h.box.2.2.1
theorem Env.at8 {w0 w : World} {x : TV} {T : Tb} (h : Env w0 x T w) : w.cell? ⟨w0.heap.size, 8, none⟩ = some x.a8 := h.box.2.2.2.1
theorem Env.at9 {w0 w : World} {x : TV} {T : Tb} (h : Env w0 x T w) : w.cell? ⟨w0.heap.size, 9, none⟩ = some x.a9 := h.box.2.2.2.2.1
theorem Env.at10 {w0 w : World} {x : TV} {T : Tb} (h : Env w0 x T w) : w.cell? ⟨w0.heap.size, 10, none⟩ = some x.a10 := h.box.2.2.2.2.2.1
theorem Env.at11 {w0 w : World} {x : TV} {T : Tb} (h : Env w0 x T w) : w.cell? ⟨w0.heap.size, 11, none⟩ = some x.a11 := h.box.2.2.2.2.2.2
set_option maxHeartbeats 2000000 in
theorem status_at (x : TV) (T : Tb) (c z : Int) (w : World) (hx : TabV w x T) (ha : ascB 0 T.sta = true) (hz : Hid (staT T c = z)) :
 Calls Tryz.prog 63 #[x.agg, .int .i64 c] w (Gives (.int .i64 z) w) := by
 have HE := Lib.hid ((Env.new hx).step (drew_one _))
 have k := (Env.new hx).at5
 have HA := Lib.hid ha
 obtain ⟨fc, h1⟩ : ∃ z, Hid (fixC c = z) := ⟨_, rfl⟩
 obtain ⟨fb, h2⟩ : ∃ z, Hid (fixB c = z) := ⟨_, rfl⟩
 obtain ⟨fs, h3⟩ : ∃ z, Hid (fixS c = z) := ⟨_, rfl⟩
 obtain ⟨ft, h4⟩ : ∃ z, Hid (fixT c = z) := ⟨_, rfl⟩
 have hzz : Hid ((val T.sta c).getD ft = z) := by unfold Hid; rw [← hz.out, ← h4.out]; rfl
 have hfld : ∀ w, (Instr.field 80 (.agg #[.int .i64 fc, .int .i64 fb, .int .i64 fs, .int .i64 ft]) 3).run Tryz.prog w = .ok (.int .i64 ft) w := fun _ => by kernel_rfl
 clear hx ha
 simp only [TV.agg]
 go_enter Tryz.func63, Tryz.ntmps63
 go_wp2_with fail
 go_region_held3 (fun w' => w'.cell? ⟨w.heap.size, 5, none⟩ = some x.a5)
  (first
   | go_keep
   | exact ((HE.out.step hb2).step hb3).at5
   | exact (HE.out.step hb2).at5)
  (first
   | (go_at_call 61; (with_reducible refine (fixed_at c fc fb fs ft _ h1 h2 h3 h4).mono ?_); rintro e w2 ⟨rfl, hb2⟩)
   | (go_at_call 60; (with_reducible refine (valueOr_at x.a5 T.sta c ft z _ (HE.out.step hb2).tab.sta HA.out hzz).mono ?_); rintro e w3 ⟨rfl, hb3⟩))
 all_goals
  go_wp2
  go_ret
  exact ⟨rfl, ((HE.out.step hb2).step hb3).bel⟩
set_option maxHeartbeats 2000000 in
theorem category_at (x : TV) (T : Tb) (c z : Int) (w : World) (hx : TabV w x T) (ha : ascB 0 T.cat = true) (hz : Hid (catT T c = z)) :
 Calls Tryz.prog 36 #[x.agg, .int .i64 c] w (Gives (.int .i64 z) w) := by
 have HE := Lib.hid ((Env.new hx).step (drew_one _))
 have k := (Env.new hx).at0
 have HA := Lib.hid ha
 obtain ⟨fc, h1⟩ : ∃ z, Hid (fixC c = z) := ⟨_, rfl⟩
 obtain ⟨fb, h2⟩ : ∃ z, Hid (fixB c = z) := ⟨_, rfl⟩
 obtain ⟨fs, h3⟩ : ∃ z, Hid (fixS c = z) := ⟨_, rfl⟩
 obtain ⟨ft, h4⟩ : ∃ z, Hid (fixT c = z) := ⟨_, rfl⟩
 have hzz : Hid ((val T.cat c).getD fc = z) := by unfold Hid; rw [← hz.out, ← h1.out]; rfl
 have hfld : ∀ w, (Instr.field 80 (.agg #[.int .i64 fc, .int .i64 fb, .int .i64 fs, .int .i64 ft]) 0).run Tryz.prog w = .ok (.int .i64 fc) w := fun _ => by kernel_rfl
 clear hx ha
 simp only [TV.agg]
 go_enter Tryz.func36, Tryz.ntmps36
 go_wp2_with fail
 go_region_held3 (fun w' => w'.cell? ⟨w.heap.size, 0, none⟩ = some x.a0)
  (first
   | go_keep
   | exact ((HE.out.step hb2).step hb3).at0
   | exact (HE.out.step hb2).at0)
  (first
   | (go_at_call 61; (with_reducible refine (fixed_at c fc fb fs ft _ h1 h2 h3 h4).mono ?_); rintro e w2 ⟨rfl, hb2⟩)
   | (go_at_call 60; (with_reducible refine (valueOr_at x.a0 T.cat c fc z _ (HE.out.step hb2).tab.cat HA.out hzz).mono ?_); rintro e w3 ⟨rfl, hb3⟩))
 all_goals
  go_wp2
  go_ret
  exact ⟨rfl, ((HE.out.step hb2).step hb3).bel⟩
set_option maxHeartbeats 2000000 in
theorem script_at (x : TV) (T : Tb) (c z : Int) (w : World) (hx : TabV w x T) (ha : ascB 0 T.scr = true) (hz : Hid (scrT T c = z)) :
 Calls Tryz.prog 95 #[x.agg, .int .i64 c] w (Gives (.int .i64 z) w) := by
 have HE := Lib.hid ((Env.new hx).step (drew_one _))
 have k := (Env.new hx).at4
 have HA := Lib.hid ha
 obtain ⟨fc, h1⟩ : ∃ z, Hid (fixC c = z) := ⟨_, rfl⟩
 obtain ⟨fb, h2⟩ : ∃ z, Hid (fixB c = z) := ⟨_, rfl⟩
 obtain ⟨fs, h3⟩ : ∃ z, Hid (fixS c = z) := ⟨_, rfl⟩
 obtain ⟨ft, h4⟩ : ∃ z, Hid (fixT c = z) := ⟨_, rfl⟩
 have hzz : Hid ((val T.scr c).getD fs = z) := by unfold Hid; rw [← hz.out, ← h3.out]; rfl
 have hfld : ∀ w, (Instr.field 80 (.agg #[.int .i64 fc, .int .i64 fb, .int .i64 fs, .int .i64 ft]) 2).run Tryz.prog w = .ok (.int .i64 fs) w := fun _ => by kernel_rfl
 clear hx ha
 simp only [TV.agg]
 go_enter Tryz.func95, Tryz.ntmps95
 go_wp2_with fail
 go_region_held3 (fun w' => w'.cell? ⟨w.heap.size, 4, none⟩ = some x.a4)
  (first
   | go_keep
   | exact ((HE.out.step hb2).step hb3).at4
   | exact (HE.out.step hb2).at4)
  (first
   | (go_at_call 61; (with_reducible refine (fixed_at c fc fb fs ft _ h1 h2 h3 h4).mono ?_); rintro e w2 ⟨rfl, hb2⟩)
   | (go_at_call 60; (with_reducible refine (valueOr_at x.a4 T.scr c fs z _ (HE.out.step hb2).tab.scr HA.out hzz).mono ?_); rintro e w3 ⟨rfl, hb3⟩))
 all_goals
  go_wp2
  go_ret
  exact ⟨rfl, ((HE.out.step hb2).step hb3).bel⟩
end Go.Proofs.YtopaojjodkoidaaGreatDoor
