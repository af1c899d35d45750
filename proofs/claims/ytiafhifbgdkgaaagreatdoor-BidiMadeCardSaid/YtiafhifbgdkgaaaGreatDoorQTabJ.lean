/-
  table: rule 4.
-/
import Derived.Test.YtiafhifbgdkgaaaGreatDoorQTabI
set_option linter.unusedSimpArgs false
set_option linter.unusedVariables false
namespace Go.Proofs.YtiafhifbgdkgaaaGreatDoor
open Go.RowKit
set_option linter.unusedVariables false

def LenPost (c : Int) (w : World) (e : Ending) (w' : World) : Prop := ∃ n : Int, e = .returned (.int .i64 n) ∧ (n = 0 ↔ scaB c = false) ∧ w = w'

theorem scaF_iff {c : Int} : scaB c = false ↔ ¬ (0 ≤ c ∧ c ≤ 1114111 ∧ (c < 55296 ∨ 57343 < c)) := by rw [← scaB_iff]; simp

set_option maxHeartbeats 1000000 in
theorem len_any (c : Int) (w : World) : Calls Tryz.prog 91 #[.int .i64 c] w (LenPost c w) := by
  have HS := Lib.hid (@scaF_iff c)
  go_enter Tryz.func91, Tryz.ntmps91
  go_wp2
  all_goals
    go_ret
    exact ⟨_, rfl, by rw [HS.out]; omega, rfl⟩

def notSca (c : Int) : Bool := !scaB c

theorem sca1_any (c : Int) (w : World) : Calls Tryz.prog 90 #[.int .i64 c] w (Gives (.bool (notSca c)) w) := by
  obtain ⟨B, hB⟩ : ∃ B, Hid (scaB c = B) := ⟨_, rfl⟩
  have HN : Hid (notSca c = !B) := by unfold Hid notSca; rw [hB.out]
  go_enter Tryz.func90, Tryz.ntmps90
  go_wp2_with fail
  refine (len_any c _).mono ?_
  rintro e w1 ⟨n, rfl, hn, rfl⟩
  rw [hB.out] at hn
  cases B with
  | true =>
    have hz : (n == 0) = false := by simp; simpa using hn
    clear hn
    go_wp2
    go_ret
    exact ⟨by rw [HN.out]; rfl, Below.refl _ _⟩
  | false =>
    have hz : (n == 0) = true := by simpa using hn
    clear hn
    go_wp2
    go_ret
    exact ⟨by rw [HN.out]; rfl, Below.refl _ _⟩

theorem testSca (w : World) : TestI 90 #[] notSca w := fun c W _ => sca1_any c W
theorem entersSca1 : ∀ args w, (callFunc 90 args).run Tryz.prog w = .ok (.enter 90 args) w := enters_of Tryz.func90 (by kernel_rfl) rfl
theorem entersSca : ∀ args w, (callFunc 67 args).run Tryz.prog w = .ok (.enter 67 args) w := enters_of Tryz.func67 (by kernel_rfl) rfl
theorem entersExt : ∀ args w, (callFunc 65 args).run Tryz.prog w = .ok (.enter 65 args) w := enters_of Tryz.func65 (by kernel_rfl) rfl

theorem sca_any (v0 : Value) (l : List Int) (w : World) (hv : InV w v0 l) : Calls Tryz.prog 67 #[v0] w (Gives (.bool (l.all scaB)) w) := by
  obtain ⟨B, hB⟩ : ∃ B, Hid (l.any notSca = B) := ⟨_, rfl⟩
  have HN : Hid (l.all scaB = !B) := by unfold Hid; rw [← not_any hB.out]; congr 1; funext c; simp [notSca]
  have HV := Lib.hid hv
  clear hv
  go_enter Tryz.func67, Tryz.ntmps67
  go_wp2_with fail
  refine (conI_any v0 l 90 #[] notSca B _ HV.out (testSca _) entersSca1 hB).mono ?_
  rintro e w1 ⟨rfl, hb⟩
  have HB := Lib.hid hb
  clear hb
  go_wp2
  go_ret
  exact ⟨by rw [HN.out]; rfl, HB.out⟩

theorem ext_any (v0 : Value) (l : List Int) (w : World) (hv : InV w v0 l) : Calls Tryz.prog 65 #[v0] w (Gives (.bool (ascI 3 60 l)) w) := by
  obtain ⟨B, hB⟩ : ∃ B, Hid (ascI 3 60 l = B) := ⟨_, rfl⟩
  have HV := Lib.hid hv
  clear hv
  go_enter Tryz.func65, Tryz.ntmps65
  go_wp2_with fail
  refine (asc_at v0 l 3 60 B _ HV.out hB).mono ?_
  rintro e w1 ⟨rfl, rfl⟩
  go_wp2
  go_ret
  exact ⟨by rw [hB.out]; rfl, Below.refl _ _⟩

theorem testL_sca (w : World) : TestL 67 (fun l => l.all scaB) w := fun l v W _ hv => sca_any v l W hv
theorem testL_ext (w : World) : TestL 65 (ascI 3 60) w := fun l v W _ hv => ext_any v l W hv

theorem seqE_all (l : List Mp) : (l.all fun m => sizOk m && ascI 3 60 m.2) = l.all seqE := rfl
theorem seqS_all (l : List Mp) : (l.all fun m => sizOk m && m.2.all scaB) = l.all seqS := rfl

theorem seqsE_at (v0 : Value) (l : List Mp) (B : Bool) (w : World) (hv : MpV w v0 l) (hB : Hid (l.all seqE = B)) :
    Calls Tryz.prog 64 #[v0, .func (.func 65) #[] #[]] w (Gives (.bool B) w) := by
  rw [← hB.out, ← seqE_all]; exact seqs_any v0 l _ _ w hv (testL_ext w) entersExt
theorem seqsS_at (v0 : Value) (l : List Mp) (B : Bool) (w : World) (hv : MpV w v0 l) (hB : Hid (l.all seqS = B)) :
    Calls Tryz.prog 64 #[v0, .func (.func 67) #[] #[]] w (Gives (.bool B) w) := by
  rw [← hB.out, ← seqS_all]; exact seqs_any v0 l _ _ w hv (testL_sca w) entersSca

set_option maxHeartbeats 4000000 in
theorem seqsIn_any (x : TV) (T : Tb) (w : World) (hx : TabV w x T) :
    Calls Tryz.prog 41 #[x.agg] w (Gives (.bool (r4 T)) w) := by
  have HE := Lib.hid (Env.new hx)
  obtain ⟨B1, hB1⟩ : ∃ B, Hid (T.ext.all seqE = B) := ⟨_, rfl⟩
  obtain ⟨B2, hB2⟩ : ∃ B, Hid (T.map.all seqS = B) := ⟨_, rfl⟩
  obtain ⟨B3, hB3⟩ : ∃ B, Hid (T.dec.all seqS = B) := ⟨_, rfl⟩
  obtain ⟨B4, hB4⟩ : ∃ B, Hid (T.pro.all seqS = B) := ⟨_, rfl⟩
  have HRR : Hid (r4 T = (B1 && (B2 && (B3 && B4)))) := by
    unfold Hid r4; rw [hB1.out, hB2.out, hB3.out, hB4.out]
  clear hx
  simp only [TV.agg]
  go_enter Tryz.func41, Tryz.ntmps41
  go_wp2_with fail
  refine (seqsE_at x.a7 T.ext B1 _ HE.out.tab.ext hB1).mono ?_
  rintro e w1 ⟨rfl, hb⟩
  replace HE := Lib.hid (HE.out.step hb)
  clear hb
  cases B1 with
  | false => go_wp2; go_ret; exact ⟨by rw [HRR.out]; rfl, HE.out.bel⟩
  | true =>
    obtain ⟨_, ⟨_, _, k, _, _, _⟩⟩ := HE.out.box
    go_wp2_with fail
    refine (seqsS_at x.a8 T.map B2 _ HE.out.tab.map hB2).mono ?_
    rintro e w2 ⟨rfl, hb⟩
    replace HE := Lib.hid (HE.out.step hb)
    clear hb k
    cases B2 with
    | false => go_wp2; go_ret; exact ⟨by rw [HRR.out]; rfl, HE.out.bel⟩
    | true =>
      obtain ⟨_, ⟨_, _, _, k, _, _⟩⟩ := HE.out.box
      go_wp2_with fail
      refine (seqsS_at x.a9 T.dec B3 _ HE.out.tab.dec hB3).mono ?_
      rintro e w3 ⟨rfl, hb⟩
      replace HE := Lib.hid (HE.out.step hb)
      clear hb k
      cases B3 with
      | false => go_wp2; go_ret; exact ⟨by rw [HRR.out]; rfl, HE.out.bel⟩
      | true =>
        obtain ⟨_, ⟨_, _, _, _, _, k⟩⟩ := HE.out.box
        go_wp2_with fail
        refine (seqsS_at x.a11 T.pro B4 _ HE.out.tab.pro hB4).mono ?_
        rintro e w4 ⟨rfl, hb⟩
        replace HE := Lib.hid (HE.out.step hb)
        clear hb k
        go_wp2
        go_ret
        exact ⟨by rw [HRR.out]; rfl, HE.out.bel⟩

end Go.Proofs.YtiafhifbgdkgaaaGreatDoor
