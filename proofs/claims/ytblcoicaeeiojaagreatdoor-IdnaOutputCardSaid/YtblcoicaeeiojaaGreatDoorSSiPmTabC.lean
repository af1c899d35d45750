/- Tests of a code point: table's and the references'. table: a -/
import Derived.Test.YtblcoicaeeiojaaGreatDoorSSiPmTabMem
import Derived.BigGuardPart
import Derived.Test.YtblcoicaeeiojaaGreatDoorSSiPmRanChk
import Derived.Shelf.Abstract
set_option linter.unusedSimpArgs false
set_option linter.unusedVariables false
namespace Go.Proofs.YtblcoicaeeiojaaGreatDoor
open Go.RowKit
theorem iff_ret {a b:Bool} (h:a=true↔b=true):Ending.returned (.bool a) = .returned (.bool b):=by
 rw[Bool.eq_iff_iff.2 h]
theorem upp_any (c:Int) (w:World):Calls Tryz.prog 222 #[.int .i64 c] w fun e w'=>e = .returned (.bool (uppB c))∧w=w':=by
 have HJ:=Lib.hid (@uppB_iff c)
 go_enter Tryz.func222,Tryz.ntmps222
 go_wp2
 all_goals
  go_ret
  exact⟨iff_ret (by rw[HJ.out];first|(simp;done)|(simp;omega)),rfl⟩
theorem dig_any (c:Int) (w:World):Calls Tryz.prog 255 #[.int .i64 c] w fun e w'=>e = .returned (.bool (digB c))∧w=w':=by
 have HJ:=Lib.hid (@digB_iff c)
 go_enter Tryz.func255,Tryz.ntmps255
 go_wp2
 all_goals
  go_ret
  exact⟨iff_ret (by rw[HJ.out];first|(simp;done)|(simp;omega)),rfl⟩
theorem syl_any (c:Int) (w:World):Calls Tryz.prog 217 #[.int .i64 c] w fun e w'=>e = .returned (.bool (sylB c))∧w=w':=by
 have HJ:=Lib.hid (@sylB_iff c)
 go_enter Tryz.func217,Tryz.ntmps217
 go_wp2
 all_goals
  go_ret
  exact⟨iff_ret (by rw[HJ.out];first|(simp;done)|(simp;omega)),rfl⟩
set_option maxHeartbeats 1000000 in
theorem jam_any (c:Int) (w:World):Calls Tryz.prog 258 #[.int .i64 c] w fun e w'=>e = .returned (.bool (jamB c))∧w=w':=by
 have HJ:=Lib.hid (@jamB_iff c)
 go_enter Tryz.func258,Tryz.ntmps258
 go_wp2
 all_goals
  go_ret
  exact⟨iff_ret (by rw[HJ.out];first|(simp;done)|(simp;omega)),rfl⟩
theorem scaB_iff {c:Int}:scaB c=true↔0≤c∧c≤1114111∧(c<55296∨57343<c):=by
 simp[scaB];omega
theorem forb_iff {c:Int}:forb c=true↔c=46∨sylB c=true∨jamB c=true:=by simp[forb]
set_option maxHeartbeats 1000000 in
theorem forb_any (c:Int) (w:World):Calls Tryz.prog 210 #[.int .i64 c] w fun e w'=>e = .returned (.bool (forb c))∧w=w':=by
 have HJ:=Lib.hid (@forb_iff c)
 obtain⟨S,hS⟩:∃S,sylB c=S:=⟨_,rfl⟩
 obtain⟨J,hJ⟩:∃J,jamB c=J:=⟨_,rfl⟩
 rw[hS,hJ]at HJ
 have HS:=Lib.hid hS
 have HK:=Lib.hid hJ
 clear hS hJ
 go_enter Tryz.func210,Tryz.ntmps210
 go_wp2_with (first
  | (go_at_call 217;refine(syl_any _ _).mono ?_;rw[HS.out];rintro e w' ⟨rfl,rfl⟩)
  | (go_at_call 258;refine(jam_any _ _).mono ?_;rw[HK.out];rintro e w' ⟨rfl,rfl⟩))
 all_goals
  go_ret
  exact⟨iff_ret (by rw[HJ.out];first|(simp;done)|(simp;omega)|(cases S<;>cases J<;>simp_all<;>omega)),rfl⟩
theorem resP_iff {c:Int}:resP c=true↔resB c=true∧lowB c=false∧digB c=false∧c≠45:=by
 simp[resP,latB,and_assoc]
set_option maxHeartbeats 1000000 in
theorem resP_any (c:Int) (w:World) (hr:Rsv w):Calls Tryz.prog 203 #[.int .i64 c] w (Gives (.bool (resP c)) w):=by
 have HR:=Lib.hid hr
 have HJ:=Lib.hid (@resP_iff c)
 obtain⟨B,hB⟩:∃B,resB c=B:=⟨_,rfl⟩
 obtain⟨S,hS⟩:∃S,lowB c=S:=⟨_,rfl⟩
 obtain⟨J,hJ⟩:∃J,digB c=J:=⟨_,rfl⟩
 rw[hB,hS,hJ]at HJ
 have HB:=Lib.hid hB
 have HS:=Lib.hid hS
 have HK:=Lib.hid hJ
 clear hB hS hJ hr
 go_enter Tryz.func203,Tryz.ntmps203
 go_wp2_with fail
 refine(isRes_at c B _ HR.out HB).mono ?_
 rintro e w1 ⟨rfl,hb⟩
 have HB1:=Lib.hid hb
 clear hb
 go_wp2_with (first
  | (go_at_call 254;refine(low_any _ _).mono ?_;rw[HS.out];rintro e w' ⟨rfl,rfl⟩)
  | (go_at_call 255;refine(dig_any _ _).mono ?_;rw[HK.out];rintro e w' ⟨rfl,rfl⟩))
 all_goals
  go_ret
  refine⟨iff_ret ?_,HB1.out⟩
  rw[HJ.out]
  clear HJ HB HS HK HR HB1
  first
   | (simp;done)
   | (simp;omega)
   | (cases B<;>simp_all<;>omega)
   | (cases B<;>cases S<;>simp_all<;>omega)
   | (cases B<;>cases S<;>cases J<;>simp_all<;>omega)
def TestS (g:Nat) (cb:Array Value) (p:Sp→Bool) (w:World):Prop :=
 ∀(s:Sp) (W:World),Below w.heap.size w W→Calls Tryz.prog g (#[spV s]++cb) W (Gives (.bool (p s)) W)
def TestI (g:Nat) (cb:Array Value) (p:Int→Bool) (w:World):Prop :=
 ∀(c:Int) (W:World),Below w.heap.size w W→Calls Tryz.prog g (#[.int .i64 c]++cb) W (Gives (.bool (p c)) W)
theorem TestS.below {g:Nat} {cb:Array Value} {p:Sp→Bool} {w w':World} (h:TestS g cb p w) (hb:Below w.heap.size w w'):TestS g cb p w' :=
 fun s W hW=>h s W (hb.trans (hW.mono hb.size))
theorem TestI.below {g:Nat} {cb:Array Value} {p:Int→Bool} {w w':World} (h:TestI g cb p w) (hb:Below w.heap.size w w'):TestI g cb p w' :=
 fun s W hW=>h s W (hb.trans (hW.mono hb.size))
theorem TestS.at_ {g : Nat} {cb : Array Value} {p : Sp → Bool} {w : World} (h : TestS g cb p w) (f t v : Int) (B : Bool) (hB : Hid (p (f, t, v) = B)) (W : World) (hW : Below w.heap.size w W) :
  Calls Tryz.prog g (#[.agg #[.int .i64 f,.int .i64 t,.int .i64 v]]++cb) W (Gives (.bool B) W):=by
 rw[←hB.out];exact h (f,t,v) W hW
theorem TestI.at_ {g : Nat} {cb : Array Value} {p : Int → Bool} {w : World} (h : TestI g cb p w) (c : Int) (B : Bool) (hB : Hid (p c = B)) (W : World) (hW : Below w.heap.size w W) :
  Calls Tryz.prog g (#[.int .i64 c]++cb) W (Gives (.bool B) W):=by
 rw[←hB.out];exact h c W hW
def IdxPost (b:Bool) (w:World) (e:Ending) (w':World):Prop :=
 ∃i:Int,e = .returned (.int .i64 i)∧(b=true→0≤i)∧(b=false→i<0)∧Below w.heap.size w w'
set_option maxHeartbeats 2000000 in
theorem idxS_any (p : Option Addr) (n cp : Nat) (l : List Sp) (g : Nat) (cb : Array Value) (q : Sp → Bool) (w : World) (hl : l.length = n) (hn : n ≤ 17592186043904) (hin : SpIn w p l) (hq : TestS g cb q w)
  (eg:∀args w,(callFunc g args).run Tryz.prog w = .ok (.enter g args) w) :
  Calls Tryz.prog 253 #[.slice p n cp,.func (.func g) #[] cb] w (IdxPost (l.any q) w):=by
 have HI:=Lib.hid hin
 have HL:=Lib.hid hl
 have HQ:=Lib.hid hq
 clear hin hl hq
 go_enter Tryz.func253,Tryz.ntmps253
 go_wp2
 go_loopw [8] (fun i wr=>∃k:Nat,k≤n∧i = .int .i64 k∧Hid ((l.take k).any q=false)∧Hid (Below w.heap.size w wr)) (fun i _=>n-(intOf i).toNat)
 case atStart=>exact⟨0,Nat.zero_le _,rfl,by simp[Hid],Below.refl _ _⟩
 case round =>
  obtain⟨k,hk,rfl,hno,hb⟩:=hrel
  by_cases hlt:k<n
  ·have hkl:k<l.length:=by rw[HL.out];exact hlt
   obtain⟨b,off,rfl,hc1,hc2,hc3⟩:=(HI.out.below hb.out) k hkl
   have hsn:=any_take_snoc q l k sp0 hkl
   rw[hno.out,Bool.false_or]at hsn
   obtain⟨⟨f,t,v⟩,hs⟩:∃s,l.getD k sp0=s:=⟨_,rfl⟩
   rw[hs]at hc1 hc2 hc3 hsn
   have HSN:=Lib.hid hsn
   clear hs hsn
   obtain⟨B,hB⟩:∃B,Hid (q (f,t,v)=B):=⟨_,rfl⟩
   cases B with
   | true =>
    have HA:Hid (l.any q=true):=any_of_take q l (k+1) (by rw[HSN.out,hB.out])
    go_wp2_with (go_at_fn g;refine(HQ.out.at_ f t v true hB _ hb.out).mono ?_;rintro e w2 ⟨rfl,hb2⟩;have HB2:=Lib.hid (hb.out.trans (hb2.mono hb.out.size));clear hb2)
    go_ret
    exact⟨k,rfl,fun _=>by omega,by rw[HA.out];simp,HB2.out⟩
   | false =>
    have HN:Hid ((l.take (k+1)).any q=false):=by unfold Hid;rw[HSN.out,hB.out]
    go_wp2_with (go_at_fn g;refine(HQ.out.at_ f t v false hB _ hb.out).mono ?_;rintro e w2 ⟨rfl,hb2⟩;have HB2:=Lib.hid (hb.out.trans (hb2.mono hb.out.size));clear hb2)
    go_roundw
    case rel=>exact⟨k+1,by omega,by go_num,HN,HB2⟩
    case measure=>simp[intOf];omega
  ·obtain rfl:k=n:=by omega
   have HA:Hid (l.any q=false):=by
    have:=hno.out
    rwa[List.take_of_length_le (Nat.le_of_eq HL.out)]at this
   go_wp2
   go_ret
   exact⟨-1,rfl,by rw[HA.out];simp,fun _=>by omega,hb.out⟩
set_option maxHeartbeats 2000000 in
theorem idxI_any (p : Option Addr) (n cp : Nat) (l : List Int) (g : Nat) (cb : Array Value) (q : Int → Bool) (w : World) (hl : l.length = n) (hn : n ≤ 17592186043904) (hin : IntsIn w p l) (hq : TestI g cb q w)
  (eg:∀args w,(callFunc g args).run Tryz.prog w = .ok (.enter g args) w) :
  Calls Tryz.prog 234 #[.slice p n cp,.func (.func g) #[] cb] w (IdxPost (l.any q) w):=by
 have HI:=Lib.hid hin
 have HL:=Lib.hid hl
 have HQ:=Lib.hid hq
 clear hin hl hq
 go_enter Tryz.func234,Tryz.ntmps234
 go_wp2
 go_loopw [8] (fun i wr=>∃k:Nat,k≤n∧i = .int .i64 k∧Hid ((l.take k).any q=false)∧Hid (Below w.heap.size w wr)) (fun i _=>n-(intOf i).toNat)
 case atStart=>exact⟨0,Nat.zero_le _,rfl,by simp[Hid],Below.refl _ _⟩
 case round =>
  obtain⟨k,hk,rfl,hno,hb⟩:=hrel
  by_cases hlt:k<n
  ·have hkl:k<l.length:=by rw[HL.out];exact hlt
   obtain⟨b,off,rfl,hc1⟩:=(HI.out.below hb.out) k hkl
   have hsn:=any_take_snoc q l k 0 hkl
   rw[hno.out,Bool.false_or]at hsn
   obtain⟨f,hs⟩:∃s,l.getD k 0=s:=⟨_,rfl⟩
   rw[hs]at hc1 hsn
   have HSN:=Lib.hid hsn
   clear hs hsn
   obtain⟨B,hB⟩:∃B,Hid (q f=B):=⟨_,rfl⟩
   cases B with
   | true =>
    have HA:Hid (l.any q=true):=any_of_take q l (k+1) (by rw[HSN.out,hB.out])
    go_wp2_with (go_at_fn g;refine(HQ.out.at_ f true hB _ hb.out).mono ?_;rintro e w2 ⟨rfl,hb2⟩;have HB2:=Lib.hid (hb.out.trans (hb2.mono hb.out.size));clear hb2)
    go_ret
    exact⟨k,rfl,fun _=>by omega,by rw[HA.out];simp,HB2.out⟩
   | false =>
    have HN:Hid ((l.take (k+1)).any q=false):=by unfold Hid;rw[HSN.out,hB.out]
    go_wp2_with (go_at_fn g;refine(HQ.out.at_ f false hB _ hb.out).mono ?_;rintro e w2 ⟨rfl,hb2⟩;have HB2:=Lib.hid (hb.out.trans (hb2.mono hb.out.size));clear hb2)
    go_roundw
    case rel=>exact⟨k+1,by omega,by go_num,HN,HB2⟩
    case measure=>simp[intOf];omega
  ·obtain rfl:k=n:=by omega
   have HA:Hid (l.any q=false):=by
    have:=hno.out
    rwa[List.take_of_length_le (Nat.le_of_eq HL.out)]at this
   go_wp2
   go_ret
   exact⟨-1,rfl,by rw[HA.out];simp,fun _=>by omega,hb.out⟩
theorem conS_any (v0 : Value) (l : List Sp) (g : Nat) (cb : Array Value) (q : Sp → Bool) (B : Bool) (w : World) (hv : SpV w v0 l) (hq : TestS g cb q w) (eg : ∀ args w, (callFunc g args).run Tryz.prog w = .ok (.enter g args) w) (hB : Hid (l.any q = B)) :
  Calls Tryz.prog 197 #[v0,.func (.func g) #[] cb] w (Gives (.bool B) w):=by
 obtain⟨p,cp,rfl,hin,hn⟩:=hv
 have HI:=Lib.hid hin
 have HQ:=Lib.hid hq
 have EG:=Lib.hid eg
 clear hin hq eg
 go_enter Tryz.func197,Tryz.ntmps197
 go_wp2_with fail
 refine(idxS_any p l.length cp l g cb q _ rfl hn HI.out HQ.out EG.out).mono ?_
 rw[hB.out]
 rintro e w1 ⟨i,rfl,h1,h2,hb⟩
 have HB:=Lib.hid hb
 clear hb
 cases B with
 | true =>
  have hd:decide (0≤i)=true:=decide_eq_true (h1 rfl)
  clear h1 h2
  go_wp2
  go_ret
  exact⟨by rw[←hd];rfl,HB.out⟩
 | false =>
  have hd:decide (0≤i)=false:=decide_eq_false (by have:=h2 rfl;omega)
  clear h1 h2
  go_wp2
  go_ret
  exact⟨by rw[←hd];rfl,HB.out⟩
theorem conI_any (v0 : Value) (l : List Int) (g : Nat) (cb : Array Value) (q : Int → Bool) (B : Bool) (w : World) (hv : InV w v0 l) (hq : TestI g cb q w) (eg : ∀ args w, (callFunc g args).run Tryz.prog w = .ok (.enter g args) w) (hB : Hid (l.any q = B)) :
  Calls Tryz.prog 164 #[v0,.func (.func g) #[] cb] w (Gives (.bool B) w):=by
 obtain⟨p,cp,rfl,hin,hn⟩:=hv
 have HI:=Lib.hid hin
 have HQ:=Lib.hid hq
 have EG:=Lib.hid eg
 clear hin hq eg
 go_enter Tryz.func164,Tryz.ntmps164
 go_wp2_with fail
 refine(idxI_any p l.length cp l g cb q _ rfl hn HI.out HQ.out EG.out).mono ?_
 rw[hB.out]
 rintro e w1 ⟨i,rfl,h1,h2,hb⟩
 have HB:=Lib.hid hb
 clear hb
 cases B with
 | true =>
  have hd:decide (0≤i)=true:=decide_eq_true (h1 rfl)
  clear h1 h2
  go_wp2
  go_ret
  exact⟨by rw[←hd];rfl,HB.out⟩
 | false =>
  have hd:decide (0≤i)=false:=decide_eq_false (by have:=h2 rfl;omega)
  clear h1 h2
  go_wp2
  go_ret
  exact⟨by rw[←hd];rfl,HB.out⟩
abbrev fixV (a b c d:Int):Value := .agg #[.int .i64 a,.int .i64 b,.int .i64 c,.int .i64 d]
def FixPost (c:Int) (w:World) (e:Ending) (w':World):Prop:=e = .returned (fixV (fixC c) (fixB c) (fixS c) (fixT c))∧Below w.heap.size w w'
theorem fix_post {c a b s t:Int} {w w':World} {e:Ending} (he:e = .returned (fixV a b s t)) (h1:fixC c=a) (h2:fixB c=b) (h3:fixS c=s) (h4:fixT c=t) (hb:Below w.heap.size w w'):FixPost c w e w':=by
 subst he h1 h2 h3 h4;exact⟨rfl,hb⟩
theorem beqF_iff {c d:Int}:(c==d)=false↔¬c=d:=by simp
theorem beqT_iff {c d:Int}:(c==d)=true↔c=d:=by simp
set_option maxHeartbeats 4000000 in
theorem fixed_any (c:Int) (w:World):Calls Tryz.prog 221 #[.int .i64 c] w (FixPost c w):=by
 obtain⟨L,hL⟩:∃L,lowB c=L:=⟨_,rfl⟩
 obtain⟨U,hU⟩:∃U,uppB c=U:=⟨_,rfl⟩
 obtain⟨D,hD⟩:∃D,digB c=D:=⟨_,rfl⟩
 obtain⟨S,hS⟩:∃S,sylB c=S:=⟨_,rfl⟩
 obtain⟨J,hJ⟩:∃J,jamB c=J:=⟨_,rfl⟩
 have HL:=Lib.hid hL
 have HU:=Lib.hid hU
 have HD:=Lib.hid hD
 have HS:=Lib.hid hS
 have HJ:=Lib.hid hJ
 clear hL hU hD hS hJ
 go_enter Tryz.func221,Tryz.ntmps221
 go_wp2_with (first
  | (go_at_call 254;refine(low_any _ _).mono ?_;rw[HL.out];rintro e w' ⟨rfl,rfl⟩)
  | (go_at_call 222;refine(upp_any _ _).mono ?_;rw[HU.out];rintro e w' ⟨rfl,rfl⟩)
  | (go_at_call 255;refine(dig_any _ _).mono ?_;rw[HD.out];rintro e w' ⟨rfl,rfl⟩)
  | (go_at_call 217;refine(syl_any _ _).mono ?_;rw[HS.out];rintro e w' ⟨rfl,rfl⟩)
  | (go_at_call 258;refine(jam_any _ _).mono ?_;rw[HJ.out];rintro e w' ⟨rfl,rfl⟩))
 all_goals
  have hl:L=true↔(97≤c∧c≤122):=by rw[←HL.out];exact lowB_iff
  have hu:U=true↔(65≤c∧c≤90):=by rw[←HU.out];exact uppB_iff
  have hd:D=true↔(48≤c∧c≤57):=by rw[←HD.out];exact digB_iff
  have hs:S=true↔(44032≤c∧c≤55203):=by rw[←HS.out];exact sylB_iff
  have hj:J=true↔((4352≤c∧c≤4370)∨(4449≤c∧c≤4469)∨(4520≤c∧c≤4546)):=by rw[←HJ.out];exact jamB_iff
  clear HL HU HD HS HJ
  first
   | (refine bodyPost_ret (v := fixV 1 0 3 1) ?_ rfl (fix_post rfl ?_ ?_ ?_ ?_ ((Below.refl _ _).alloc (Nat.le_refl _) _))
      ·(simp[results,Tryz.results221,go_sem];done))
   | (refine bodyPost_ret (v := fixV 1 0 3 3) ?_ rfl (fix_post rfl ?_ ?_ ?_ ?_ ((Below.refl _ _).alloc (Nat.le_refl _) _))
      ·(simp[results,Tryz.results221,go_sem];done))
   | (refine bodyPost_ret (v := fixV 3 4 1 1) ?_ rfl (fix_post rfl ?_ ?_ ?_ ?_ ((Below.refl _ _).alloc (Nat.le_refl _) _))
      ·(simp[results,Tryz.results221,go_sem];done))
   | (refine bodyPost_ret (v := fixV 5 5 1 1) ?_ rfl (fix_post rfl ?_ ?_ ?_ ?_ ((Below.refl _ _).alloc (Nat.le_refl _) _))
      ·(simp[results,Tryz.results221,go_sem];done))
   | (refine bodyPost_ret (v := fixV 5 6 1 1) ?_ rfl (fix_post rfl ?_ ?_ ?_ ?_ ((Below.refl _ _).alloc (Nat.le_refl _) _))
      ·(simp[results,Tryz.results221,go_sem];done))
   | (refine bodyPost_ret (v := fixV 8 11 1 0) ?_ rfl (fix_post rfl ?_ ?_ ?_ ?_ ((Below.refl _ _).alloc (Nat.le_refl _) _))
      ·(simp[results,Tryz.results221,go_sem];done))
   | (refine bodyPost_ret (v := fixV 7 11 1 0) ?_ rfl (fix_post rfl ?_ ?_ ?_ ?_ ((Below.refl _ _).alloc (Nat.le_refl _) _))
      ·(simp[results,Tryz.results221,go_sem];done))
   | (refine bodyPost_ret (v := fixV 5 8 1 0) ?_ rfl (fix_post rfl ?_ ?_ ?_ ?_ ((Below.refl _ _).alloc (Nat.le_refl _) _))
      ·(simp[results,Tryz.results221,go_sem];done))
   | (refine bodyPost_ret (v := fixV 1 0 9 1) ?_ rfl (fix_post rfl ?_ ?_ ?_ ?_ ((Below.refl _ _).alloc (Nat.le_refl _) _))
      ·(simp[results,Tryz.results221,go_sem];done))
   | (refine bodyPost_ret (v := fixV 1 0 9 0) ?_ rfl (fix_post rfl ?_ ?_ ?_ ?_ ((Below.refl _ _).alloc (Nat.le_refl _) _))
      ·(simp[results,Tryz.results221,go_sem];done))
   | (refine bodyPost_ret (v := fixV 0 0 0 0) ?_ rfl (fix_post rfl ?_ ?_ ?_ ?_ ((Below.refl _ _).alloc (Nat.le_refl _) _))
      ·(simp[results,Tryz.results221,go_sem];done))
  all_goals
   simp_all only[beqT_iff,beqF_iff,Bool.true_eq_false,Bool.false_eq_true,true_iff,false_iff,reduceCtorEq]
   simp only[fixC,fixB,fixS,fixT,latB,Bool.or_eq_true,decide_eq_true_eq,lowB_iff,uppB_iff,digB_iff,sylB_iff,jamB_iff]
   repeat' (first|omega|(exfalso;simp_all;done)|split)
theorem endI_take (lo:Int) (l:List Int) (j:Nat) (h:j<l.length):endI lo (l.take (j+1))=l.getD j 0+1:=by
 rw[take_snoc_int l j h,endI_snoc]
set_option maxRecDepth 100000 in
set_option maxHeartbeats 2000000 in
theorem asc_any (p : Option Addr) (n cp : Nat) (l : List Int) (lo hi : Int) (w : World) (hl : l.length = n) (hn : n ≤ 17592186043904) (hin : IntsIn w p l) :
  Calls Tryz.prog 207 #[.slice p n cp,.int .i64 lo,.int .i64 hi] w fun e w'=>e = .returned (.bool (ascI lo hi l))∧w=w':=by
 have HI:=Lib.hid hin
 have HL:=Lib.hid hl
 clear hin hl
 go_enter Tryz.func207,Tryz.ntmps207
 go_wp2
 go_loop [11] (fun i=>∃k:Nat,k≤n∧i = .int .i64 k∧Hid (ascI lo hi (l.take k)=true)) (fun i=>n-(intOf i).toNat)
 case atStart=>exact⟨0,Nat.zero_le _,rfl,rfl⟩
 case round =>
  obtain⟨k,hk,rfl,ha⟩:=hrel
  by_cases hlt:k<n
  ·have hkl:k<l.length:=by rw[HL.out];exact hlt
   obtain⟨b,off,rfl,hc⟩:=HI.out k hkl
   obtain⟨v,hv⟩:∃v,l.getD k 0=v:=⟨_,rfl⟩
   rw[hv]at hc
   have hsn:ascI lo hi (l.take (k+1))=true↔endI lo (l.take k)≤v∧v≤hi:=by
    rw[take_snoc_int l k hkl,ascI_snoc,hv]
    exact⟨fun h=>h.2,fun h=>⟨ha.out,h⟩⟩
   have hno:¬(endI lo (l.take k)≤v∧v≤hi)→ascI lo hi l=false:=fun h=>ascI_prefix (k+1) (by rw[←Bool.not_eq_true,hsn];exact h)
   have hge:=endI_ge ha.out
   have HSN:=Lib.hid hsn
   have HNO:=Lib.hid hno
   have HGE:=Lib.hid hge
   clear hv hsn hno hge
   by_cases h1:v<lo
   ·have HF:Hid (ascI lo hi l=false):=HNO.out (by have:=HGE.out;omega)
    go_wp2
    go_ret
    rw[HF.out]
    exact⟨rfl,rfl⟩
   ·have d1:decide (v<lo)=false:=decide_eq_false h1
    by_cases h2:hi<v
    ·have HF:Hid (ascI lo hi l=false):=HNO.out (by omega)
     clear h1
     go_wp2
     go_ret
     rw[HF.out]
     exact⟨rfl,rfl⟩
    ·have d2:decide (hi<v)=false:=decide_eq_false h2
     cases k with
     | zero =>
      have HT:Hid (ascI lo hi (l.take (0+1))=true):=HSN.out.2 ⟨by simp[endI];omega,by omega⟩
      clear h1 h2
      simp only[Nat.add_zero]at hc
      go_wp2
      go_round
      case rel=>exact⟨0+1,by omega,by go_num,HT⟩
      case measure=>simp[intOf];omega
     | succ j =>
      have hj:j<l.length:=by omega
      obtain⟨b',off',e',hq⟩:=HI.out j hj
      injection e' with e'
      injection e' with e1 e2
      subst e1;subst e2
      have HE:=Lib.hid (endI_take lo l j hj)
      obtain⟨pv,hp⟩:∃s,l.getD j 0=s:=⟨_,rfl⟩
      rw[hp]at hq HE
      have hk0:(0:Int)<(j:Int)+1:=by omega
      have hj0:(0:Int)≤(j:Int):=by omega
      have hj1:(j:Int)<(n:Int):=by omega
      have hx1:IntKind.i64.wrap ((j:Int)+1-1)=j:=by rw[IntWalk.i64_in _ (by omega)];omega
      have hx2:IntKind.i64.wrap (j:Int)=j:=IntWalk.i64_in _ (by omega)
      clear hp
      by_cases h3:v≤pv
      ·have HF:Hid (ascI lo hi l=false):=HNO.out (by rw[HE.out];omega)
       clear h1 h2
       go_wp2
       go_ret
       rw[HF.out]
       exact⟨rfl,rfl⟩
      ·have d3:decide (v≤pv)=false:=decide_eq_false h3
       have HT:Hid (ascI lo hi (l.take (j+1+1))=true):=HSN.out.2 ⟨by rw[HE.out];omega,by omega⟩
       clear h1 h2 h3
       go_wp2
       go_round
       case rel=>exact⟨j+1+1,by omega,by go_num,HT⟩
       case measure=>simp[intOf];omega
  ·obtain rfl:k=n:=by omega
   have HF:Hid (ascI lo hi l=true):=by
    have:=ha.out
    rwa[List.take_of_length_le (Nat.le_of_eq HL.out)]at this
   go_wp2
   go_ret
   rw[HF.out]
   exact⟨rfl,rfl⟩
theorem asc_at (v0 : Value) (l : List Int) (lo hi : Int) (B : Bool) (w : World) (hv : InV w v0 l) (hB : Hid (ascI lo hi l = B)) :
  Calls Tryz.prog 207 #[v0,.int .i64 lo,.int .i64 hi] w fun e w'=>e = .returned (.bool B)∧w=w':=by
 obtain⟨p,cp,rfl,hin,hn⟩:=hv
 rw[←hB.out]
 exact asc_any p l.length cp l lo hi w rfl hn hin
theorem not_any {l:List Int} {q:Int→Bool} {B:Bool} (h:l.any q=B):(l.all fun c => !q c) = !B:=by
 rw[←h,Bool.eq_iff_iff];simp
theorem areKeys_any (v0 : Value) (l : List Int) (g : Nat) (q : Int → Bool) (w : World) (hv : InV w v0 l) (hq : TestI g #[] q w) (eg : ∀ args w, (callFunc g args).run Tryz.prog w = .ok (.enter g args) w) :
  Calls Tryz.prog 200 #[v0,.func (.func g) #[] #[]] w (Gives (.bool (ascI 0 1114111 l&&l.all fun c => !q c)) w):=by
 have HV:=Lib.hid hv
 have HQ:=Lib.hid hq
 have EG:=Lib.hid eg
 clear hv hq eg
 cases ha:ascI 0 1114111 l with
 | false =>
  have HA:=Lib.hid ha
  clear ha
  go_enter Tryz.func200,Tryz.ntmps200
  go_wp2_with fail
  refine(asc_at v0 l 0 1114111 false _ HV.out HA).mono ?_
  rintro e w1 ⟨rfl,rfl⟩
  go_wp2
  go_ret
  exact⟨rfl,Below.refl _ _⟩
 | true =>
  have HA:=Lib.hid ha
  clear ha
  obtain⟨B,hB⟩:∃B,Hid (l.any q=B):=⟨_,rfl⟩
  have HN:=Lib.hid (not_any hB.out)
  rw[Bool.true_and]
  go_enter Tryz.func200,Tryz.ntmps200
  go_wp2_with fail
  refine(asc_at v0 l 0 1114111 true _ HV.out HA).mono ?_
  rintro e w1 ⟨rfl,rfl⟩
  go_wp2_with fail
  refine(conI_any v0 l g #[] q B _ HV.out HQ.out EG.out hB).mono ?_
  rintro e w1 ⟨rfl,hb⟩
  have HB:=Lib.hid hb
  clear hb
  go_wp2
  go_ret
  exact⟨by rw[HN.out];rfl,HB.out⟩
theorem areKeys_at (v0 : Value) (l : List Int) (g : Nat) (q : Int → Bool) (B : Bool) (w : World) (hv : InV w v0 l) (hq : TestI g #[] q w) (eg : ∀ args w, (callFunc g args).run Tryz.prog w = .ok (.enter g args) w) (hB : Hid ((ascI 0 1114111 l && l.all fun c => !q c) = B)) :
  Calls Tryz.prog 200 #[v0,.func (.func g) #[] #[]] w (Gives (.bool B) w):=hB.out▸areKeys_any v0 l g q w hv hq eg
def NewI (l:List Int) (w:World) (e:Ending) (w':World):Prop:=∃v,e = .returned v∧Ints w' w.heap.size v l∧Below w.heap.size w w'
theorem Ints.inV {w:World} {B:Nat} {v:Value} {l:List Int} (h:Ints w B v l) (hl:l.length≤17592186043904):InV w v l:=by
 obtain⟨p,c,rfl,hi⟩:=h.inn
 exact⟨p,c,rfl,hi,hl⟩
def madeI (c:Nat):Obj := .cells (madeCells (Value.cells (.int .i64 0)) (c*1)) 3
theorem run_make_ints0 (c : Nat) (hc : c ≤ 4194304) (w : World) :
  (Instr.makeSlice 22 (.int .i64 0) (.int .i64 (c:Int))).run Tryz.prog w = .ok (.slice (some ⟨w.heap.size,0,none⟩) 0 c) (w.alloc (madeI c)):=by
 obtain⟨i0,hi,hz0,hz1,hz2⟩:=info_parts Tryz.info3
 have h:=run_make_rowN (P:=Tryz.prog) 22 3 i0 _ Tryz.underlying22 hi hz0 .i64 .i64 0 c (Nat.zero_le _) (by rw[hz2];omega) (by omega) w
 rw[hz1]at h
 exact h
theorem Ints.made (w:World) (B c:Nat) (hB:B≤w.heap.size) (hc:c≤4194304):Ints (w.alloc (madeI c)) B (.slice (some ⟨w.heap.size,0,none⟩) 0 c) []:=by
 unfold Ints madeI
 exact World.ownsRow_made w _ c hB (by unfold maxLen;omega) (size_madeCells _ _)
set_option maxHeartbeats 2000000 in
theorem froms_any (v0 : Value) (l : List Mp) (w : World) (hv : MpV w v0 l) (hs : l.length ≤ 256) :
  Calls Tryz.prog 201 #[v0] w (NewI (froms l) w):=by
 obtain⟨p,cp,rfl,hin,hn⟩:=hv
 obtain⟨n,hl⟩:∃n,l.length=n:=⟨_,rfl⟩
 rw[hl]at hs hn ⊢
 have hmk:=run_make_ints0 n (by omega)
 have HI:=Lib.hid hin
 have HL:=Lib.hid hl
 clear hin hl
 go_enter Tryz.func201,Tryz.ntmps201
 go_wp2
 go_loopw [3,11] (fun v i wr=>∃k:Nat,k≤n∧i = .int .i64 k∧Hid (Ints wr w.heap.size v (froms (l.take k)))∧Hid (Below w.heap.size w wr)) (fun _ i _=>n-(intOf i).toNat)
 case atStart=>exact⟨0,Nat.zero_le _,rfl,Ints.made w _ n (Nat.le_refl _) (by omega),(Below.refl _ _).alloc (Nat.le_refl _) _⟩
 case round =>
  obtain⟨k,hk,rfl,ho,hb⟩:=hrel
  by_cases hlt:k<n
  ·have hkl:k<l.length:=by rw[HL.out];exact hlt
   obtain⟨b,off,v,rfl,hc1,hc2,q,cq,rfl,_,_⟩:=(HI.out.below hb.out) k hkl
   obtain⟨m,hm⟩:∃m,(l.getD k mp0).2.length=m:=⟨_,rfl⟩
   rw[hm]at hc2
   clear hm
   have hsn:froms (l.take (k+1))=froms (l.take k)++[(l.getD k mp0).1]:=by rw[take_snoc_mp l k hkl];simp[froms]
   obtain⟨f,hf⟩:∃f,(l.getD k mp0).1=f:=⟨_,rfl⟩
   rw[hf]at hc1 hsn
   have HSN:=Lib.hid hsn
   have HLK:Hid ((froms (l.take k)).length≤256):=by unfold Hid;rw[froms_length];exact Nat.le_trans (List.length_take_le _ _) (by omega)
   clear hsn hf
   have hob:=Ints.alloc ho.out (.cells #[.int .i64 f,.slice q m cq] 73)
   have hbb:=hb.out.alloc hb.out.size (.cells #[.int .i64 f,.slice q m cq] 73)
   have hbz:w.heap.size≤(wr.alloc (.cells #[.int .i64 f,.slice q m cq] 73)).heap.size:=hbb.size
   have HOB:=Lib.hid hob
   have HBB:=Lib.hid hbb
   clear hob hbb
   go_wp2_with (at_builtin;(refine wpList_append_int (.tmp 15) (.tmp 18) rfl rfl w.heap.size u3 (froms (l.take k)) rfl HOB.out f 1 _ rfl (by simp) (by have:=HLK.out;omega) hbz ?_);intro v1 w1 ho1 hg1)
   have HO1:=Lib.hid ho1
   have HB1:=Lib.hid (below_appI HBB.out HOB.out (Nat.le_refl _) hg1)
   clear ho1 hg1
   go_wp2
   go_roundw
   case rel=>exact⟨k+1,by omega,by go_num,by rw[HSN.out];exact HO1,HB1⟩
   case measure=>simp[intOf];omega
  ·obtain rfl:k=n:=by omega
   have HJ:Hid (l.take k=l):=by unfold Hid;rw[List.take_of_length_le (Nat.le_of_eq HL.out)]
   go_wp2
   go_ret
   exact⟨_,rfl,by rw[HJ.out]at ho;exact ho.out,hb.out⟩
end Go.Proofs.YtblcoicaeeiojaaGreatDoor
