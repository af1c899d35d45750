/- puny: contracts of the small functions: threshold, digit, di -/
import Derived.Test.YtblcoicaeeiojaaGreatDoorSSiPmOwn
import Derived.Test.YtblcoicaeeiojaaGreatDoorSSiPmPunSpec3
import Derived.PlainAid
set_option linter.unusedSimpArgs false
set_option linter.unusedVariables false
namespace Go.Proofs.YtblcoicaeeiojaaGreatDoor
open Go.RowKit
theorem pun_ret {a b:Int} (h:a=b):Ending.returned (.int .i64 a) = .returned (.int .i64 b):=by rw[h]
theorem pun_ret8 {a b:Int} (h:a=b):Ending.returned (.int .u8 a) = .returned (.int .u8 b):=by rw[h]
set_option maxHeartbeats 400000 in
theorem thr_at (j b T : Nat) (w : World) (hj : j ≤ 1099511627776) (hb : b ≤ 70368744177664) (hT : Hid (thr b j = T)) :
  Calls Tryz.prog 247 #[.int .i64 j,.int .i64 b] w fun e w'=>e = .returned (.int .i64 T)∧w'=w:=by
 have hT':(T:Int)=min 26 (max 1 (36*((j:Int)+1)-b)):=by rw[←hT.out];unfold thr;omega
 rcases(show 36*((j:Int)+1)-b<1∨(¬36*((j:Int)+1)-b<1∧¬1<36*((j:Int)+1)-b)∨(1<36*((j:Int)+1)-b∧36*((j:Int)+1)-b<26)∨(26≤36*((j:Int)+1)-b∧¬26<36*((j:Int)+1)-b)∨26<36*((j:Int)+1)-b by omega)with h1|⟨h1,h2⟩|⟨h1,h2⟩|⟨h1,h2⟩|h1
 all_goals
  have HT:=Lib.hid hT'
  clear hT'
  go_enter Tryz.func247,Tryz.ntmps247
  go_wp2
  all_goals
   go_ret
   exact⟨pun_ret (by rw[HT.out];omega),rfl⟩
set_option maxHeartbeats 400000 in
theorem digit_at (v : Nat) (B : Int) (w : World) (h : v < 36) (hB : Hid (pdigB v = B)) :
  Calls Tryz.prog 248 #[.int .i64 v] w fun e w'=>e = .returned (.int .u8 B)∧w'=w:=by
 rw[←hB.out]
 unfold pdigB
 by_cases h1:v<26
 ·have hw:IntKind.u8.wrap (97+(v:Int))=97+v:=by rw[IntKind.wrap_u8];omega
  go_enter Tryz.func248,Tryz.ntmps248
  go_wp2
  go_ret
  refine⟨pun_ret8 ?_,rfl⟩
  first|rfl|(rw[if_pos h1])
 ·have hw:IntKind.u8.wrap (48+(v:Int)-26)=22+v:=by rw[IntKind.wrap_u8];omega
  go_enter Tryz.func248,Tryz.ntmps248
  go_wp2
  go_ret
  refine⟨pun_ret8 ?_,rfl⟩
  first|rfl|(rw[if_neg h1])|omega
def dvN (o:Option Nat):Nat:=match o with|none=>0|some d=>d
set_option maxHeartbeats 400000 in
theorem digv_at (c : Int) (o : Option Nat) (w : World) (h0 : 0 ≤ c) (h1 : c ≤ 255) (hO : Hid (digV c = o)) :
  Calls Tryz.prog 297 #[.int .u8 c] w fun e w'=>e = .returned (.tuple #[.int .i64 (dvN o:Nat),.bool o.isSome])∧w'=w:=by
 by_cases a0:97≤c∧c≤122
 ·obtain⟨b1,b2⟩:=a0
  obtain rfl:some (c-97).toNat=o:=by rw[←hO.out];unfold digV;rw[if_pos ⟨b1,b2⟩]
  have HE:Hid (((dvN (some (c-97).toNat):Nat):Int)=c-97):=by unfold Hid;simp only[dvN];omega
  clear hO
  go_enter Tryz.func297,Tryz.ntmps297
  go_wp2
  go_ret2
  exact⟨by rw[HE.out];first|rfl|(exact pun_ret (by omega))|(simp;omega),rfl⟩
 by_cases a1:65≤c∧c≤90
 ·obtain⟨b1,b2⟩:=a1
  have c0:¬97≤c:=by omega
  obtain rfl:some (c-65).toNat=o:=by rw[←hO.out];unfold digV;rw[if_neg (by omega),if_pos ⟨b1,b2⟩]
  have HE:Hid (((dvN (some (c-65).toNat):Nat):Int)=c-65):=by unfold Hid;simp only[dvN];omega
  clear hO
  go_enter Tryz.func297,Tryz.ntmps297
  go_wp2
  go_ret2
  exact⟨by rw[HE.out];first|rfl|(exact pun_ret (by omega))|(simp;omega),rfl⟩
 by_cases a2:48≤c∧c≤57
 ·obtain⟨b1,b2⟩:=a2
  have c0:¬97≤c:=by omega
  have c1:¬65≤c:=by omega
  obtain rfl:some (c-22).toNat=o:=by rw[←hO.out];unfold digV;rw[if_neg (by omega),if_neg (by omega),if_pos ⟨b1,b2⟩]
  have HE:Hid (((dvN (some (c-22).toNat):Nat):Int)=c-22):=by unfold Hid;simp only[dvN];omega
  clear hO
  go_enter Tryz.func297,Tryz.ntmps297
  go_wp2
  go_ret2
  exact⟨by rw[HE.out];first|rfl|(exact pun_ret (by omega))|(simp;omega),rfl⟩
 ·obtain rfl:none=o:=by rw[←hO.out];unfold digV;rw[if_neg a0,if_neg a1,if_neg a2]
  clear hO
  go_enter Tryz.func297,Tryz.ntmps297
  go_wp2
  all_goals first
   | (exfalso;omega)
   | (go_ret2
      exact⟨rfl,rfl⟩)
def nextW (W f:Nat):Nat:=if 2147483647 / f<W then 2147483648 else W*f
set_option maxHeartbeats 400000 in
theorem nextw_at (W f V : Nat) (w : World) (h0 : 1 ≤ f) (h1 : f ≤ 36) (h2 : W ≤ 2147483648) (hV : Hid (nextW W f = V)) :
  Calls Tryz.prog 298 #[.int .i64 W,.int .i64 f] w fun e w'=>e = .returned (.int .i64 V)∧w'=w:=by
 rw[←hV.out]
 unfold nextW
 obtain⟨q,hqq⟩:∃q,2147483647 / f=q:=⟨_,rfl⟩
 have hq:(2147483647:Int).tdiv (f:Int)=(q:Int):=by rw[←hqq];rfl
 have hle:q≤2147483647:=by rw[←hqq];exact Nat.div_le_self _ _
 have hb:W*f≤2147483648*36:=Nat.mul_le_mul h2 h1
 obtain⟨p,hpp⟩:∃p,W*f=p:=⟨_,rfl⟩
 have hm:(W:Int)*(f:Int)=(p:Int):=by rw[←hpp,Int.natCast_mul]
 rw[hpp]at hb
 rw[hqq,hpp]
 clear hqq hpp
 by_cases h3:q<W
 all_goals
  go_enter Tryz.func298,Tryz.ntmps298
  go_wp2
  go_ret
  exact⟨rfl,rfl⟩
set_option maxHeartbeats 400000 in
theorem isbasic_at (c : Int) (B : Bool) (w : World) (hB : Hid (basB c = B)) :
  Calls Tryz.prog 243 #[.int .i64 c] w fun e w'=>e = .returned (.bool B)∧w'=w:=by
 rw[←hB.out]
 unfold basB
 go_enter Tryz.func243,Tryz.ntmps243
 go_wp2
 go_ret
 exact⟨rfl,rfl⟩
set_option maxHeartbeats 400000 in
theorem len_no (c : Int) (w : World) (h : scpB c = false) :
  Calls Tryz.prog 74 #[.int .i64 c] w fun e w'=>e = .returned (.int .i64 0)∧w'=w:=by
 have h':c<0∨1114111<c∨(55296≤c∧c≤57343):=by unfold scpB at h;simp at h;omega
 clear h
 rcases h' with h1|h1|⟨h1,h2⟩
 ·go_enter Tryz.func74,Tryz.ntmps74
  go_wp2
  go_ret
  exact⟨rfl,rfl⟩
 ·have h2:¬c<0:=by omega
  go_enter Tryz.func74,Tryz.ntmps74
  go_wp2
  go_ret
  exact⟨rfl,rfl⟩
 ·have h3:¬c<0:=by omega
  have h4:¬1114111<c:=by omega
  go_enter Tryz.func74,Tryz.ntmps74
  go_wp2
  go_ret
  exact⟨rfl,rfl⟩
set_option maxHeartbeats 400000 in
theorem len_yes (c : Int) (w : World) (h : scpB c = true) :
  Calls Tryz.prog 74 #[.int .i64 c] w fun e w'=>(∃n:Nat,1≤n∧n≤4∧e = .returned (.int .i64 n))∧w'=w:=by
 have h':¬c<0∧¬1114111<c∧¬(55296≤c∧c≤57343):=by unfold scpB at h;simp at h;omega
 obtain⟨h1,h2,h3⟩:=h'
 clear h
 go_enter Tryz.func74,Tryz.ntmps74
 go_wp2
 all_goals first
  | (exfalso;omega)
  | (go_ret;exact⟨⟨1,by omega,by omega,rfl⟩,rfl⟩)
  | (go_ret;exact⟨⟨2,by omega,by omega,rfl⟩,rfl⟩)
  | (go_ret;exact⟨⟨3,by omega,by omega,rfl⟩,rfl⟩)
  | (go_ret;exact⟨⟨4,by omega,by omega,rfl⟩,rfl⟩)
theorem adL_stop {d k:Nat} (h:¬455<d):adL d k=k+36*d / (d+38):=by rw[adL,dif_neg h]
theorem adL_go {d k:Nat} (h:455<d):adL d k=adL (d / 35) (k+36):=by rw[adL,dif_pos h]
theorem adaptN_bd (d p:Nat) (f:Bool) (hd:d≤1099511627776):adaptN d p f≤2199023255588:=by
 unfold adaptN
 have h1:(if f=true then d / 700 else d / 2)≤d:=by split<;>omega
 obtain⟨x,hx⟩:∃x,(if f=true then d / 700 else d / 2)=x:=⟨_,rfl⟩
 rw[hx]at h1 ⊢
 have:=Nat.div_le_self x p
 have:=adL_le (x+x / p) 0
 omega
set_option maxHeartbeats 1000000 in
theorem adapt_at_in (d p B : Nat) (f : Bool) (w : World) (h1 : d ≤ 1099511627776) (h2 : 1 ≤ p) (h3 : p ≤ 4096) (hB : Hid (adaptN d p f = B)) :
  Calls Tryz.prog 249 #[.int .i64 d,.int .i64 p,.bool f] w fun e w'=>e = .returned (.int .i64 B)∧w'=w:=by
 obtain⟨x,hx⟩:∃x,(if f=true then d / 700 else d / 2)=x:=⟨_,rfl⟩
 have hxd:x≤d:=by rw[←hx];split<;>omega
 obtain⟨y,hy⟩:∃y,x / p=y:=⟨_,rfl⟩
 have hyx:y≤x:=by rw[←hy];exact Nat.div_le_self _ _
 have HB:Hid (adL (x+y) 0=B):=by unfold Hid;rw[←hB.out,adaptN,hx,hy]
 have hq:(x:Int).tdiv (p:Int)=(y:Int):=by rw[←hy];rfl
 clear hy hB
 cases f
 ·simp at hx
  have hxq:(d:Int).tdiv 2=(x:Int):=by rw[←hx];rfl
  have HX:=Lib.hid hx
  clear hx
  go_enter Tryz.func249,Tryz.ntmps249
  go_wp2
  go_loopw [0,7] (fun u v wr=>∃D K:Nat,u = .int .i64 D∧v = .int .i64 K∧D+K≤2199023255588∧Hid (adL D K=B)∧wr=w) (fun u _ _=>(intOf u).toNat)
  case atStart=>exact⟨x+y,0,by go_num,rfl,by omega,HB,rfl⟩
  case round =>
   obtain⟨D,K,rfl,rfl,hD,hA,rfl⟩:=hrel
   by_cases h:455<D
   ·have hq1:(D:Int).tdiv 35=((D / 35:Nat):Int):=rfl
    have HA:Hid (adL (D / 35) (K+36)=B):=by unfold Hid;rw[←hA.out,adL_go h]
    obtain⟨E,hE⟩:∃E,D / 35=E:=⟨_,rfl⟩
    rw[hE]at hq1 HA
    have hEb:E+36≤D:=by omega
    clear hE hA
    go_wp2
    go_roundw
    case rel=>exact⟨E,K+36,rfl,by go_num,by omega,HA,by first|rfl|trivial⟩
    case measure=>simp[intOf];omega
   ·have HA:Hid (K+36*D / (D+38)=B):=by unfold Hid;rw[←hA.out,adL_stop h]
    have hq1:(36*(D:Int)).tdiv ((D:Int)+38)=((36*D / (D+38):Nat):Int):=rfl
    have hqb:36*D / (D+38)≤36*D:=Nat.div_le_self _ _
    obtain⟨E,hE⟩:∃E,36*D / (D+38)=E:=⟨_,rfl⟩
    rw[hE]at hq1 HA hqb
    clear hE hA
    go_wp2
    go_ret
    exact⟨pun_ret (by rw[←HA.out];omega),rfl⟩
 ·simp at hx
  have hxq:(d:Int).tdiv 700=(x:Int):=by rw[←hx];rfl
  have HX:=Lib.hid hx
  clear hx
  go_enter Tryz.func249,Tryz.ntmps249
  go_wp2
  go_loopw [0,7] (fun u v wr=>∃D K:Nat,u = .int .i64 D∧v = .int .i64 K∧D+K≤2199023255588∧Hid (adL D K=B)∧wr=w) (fun u _ _=>(intOf u).toNat)
  case atStart=>exact⟨x+y,0,by go_num,rfl,by omega,HB,rfl⟩
  case round =>
   obtain⟨D,K,rfl,rfl,hD,hA,rfl⟩:=hrel
   by_cases h:455<D
   ·have hq1:(D:Int).tdiv 35=((D / 35:Nat):Int):=rfl
    have HA:Hid (adL (D / 35) (K+36)=B):=by unfold Hid;rw[←hA.out,adL_go h]
    obtain⟨E,hE⟩:∃E,D / 35=E:=⟨_,rfl⟩
    rw[hE]at hq1 HA
    have hEb:E+36≤D:=by omega
    clear hE hA
    go_wp2
    go_roundw
    case rel=>exact⟨E,K+36,rfl,by go_num,by omega,HA,by first|rfl|trivial⟩
    case measure=>simp[intOf];omega
   ·have HA:Hid (K+36*D / (D+38)=B):=by unfold Hid;rw[←hA.out,adL_stop h]
    have hq1:(36*(D:Int)).tdiv ((D:Int)+38)=((36*D / (D+38):Nat):Int):=rfl
    have hqb:36*D / (D+38)≤36*D:=Nat.div_le_self _ _
    obtain⟨E,hE⟩:∃E,36*D / (D+38)=E:=⟨_,rfl⟩
    rw[hE]at hq1 HA hqb
    clear hE hA
    go_wp2
    go_ret
    exact⟨pun_ret (by rw[←HA.out];omega),rfl⟩
def siz0 (o:Option Nat):Nat:=match o with|none=>0|some m=>m
set_option maxHeartbeats 1000000 in
theorem sizenum_at (s : ByteArray) (b : Nat) (R : Option Nat) (w : World) (hs : s.size ≤ 1099511627776) (hb : b ≤ 70368744177664) (hR : Hid (sizD b 0 (nums s) = R)) :
  Calls Tryz.prog 296 #[.string s,.int .i64 b] w fun e w'=>e = .returned (.tuple #[.int .i64 (siz0 R:Nat),.bool R.isSome])∧w'=w:=by
 go_enter Tryz.func296,Tryz.ntmps296
 go_wp2
 go_loopw [11] (fun u wr=>∃k:Nat,u = .int .i64 k∧k≤s.size∧Hid (sizD b k ((nums s).drop k)=R)∧wr=w) (fun u _=>s.size-(intOf u).toNat)
 case atStart=>exact⟨0,rfl,Nat.zero_le _,hR,rfl⟩
 case round =>
  obtain⟨k,rfl,hk,hz,rfl⟩:=hrel
  by_cases hlt:k<s.size
  ·have hz2:=hz.out
   rw[pnums_drop s k hlt,sizD]at hz2
   obtain⟨c,hc⟩:∃c:Int,(s[k].toNat:Int)=c:=⟨_,rfl⟩
   have hc0:0≤c:=by omega
   have hc1:c≤255:=by have:=s[k].toNat_lt;omega
   rw[hc]at hz2
   cases hd:digV c with
   | none =>
    rw[hd]at hz2
    simp only at hz2
    subst hz2
    have HD:=Lib.hid hd
    clear hd hz hR
    go_wp2_with (go_at_call 297;refine(digv_at c none _ hc0 hc1 HD).mono ?_;rintro e w1 ⟨rfl,rfl⟩)
    go_ret2
    exact⟨rfl,rfl⟩
   | some d =>
    rw[hd]at hz2
    simp only at hz2
    have HD:=Lib.hid hd
    have hd36:=digV_lt hd
    obtain⟨T,hT⟩:∃T,thr b k=T:=⟨_,rfl⟩
    rw[hT]at hz2
    have HT:=Lib.hid hT
    clear hd hz hT
    by_cases hdt:d<T
    ·rw[if_pos hdt]at hz2
     subst hz2
     clear hR
     go_wp2_with (first
      | (go_at_call 297;refine(digv_at c (some d) _ hc0 hc1 HD).mono ?_;rintro e w1 ⟨rfl,rfl⟩;simp only[dvN,Option.isSome_some])
      | (go_at_call 247;refine(thr_at k b T _ (by omega) hb HT).mono ?_;rintro e w2 ⟨rfl,rfl⟩))
     go_ret2
     exact⟨rfl,rfl⟩
    ·rw[if_neg hdt]at hz2
     have HZ2:=Lib.hid hz2
     clear hz2
     go_wp2_with (first
      | (go_at_call 297;refine(digv_at c (some d) _ hc0 hc1 HD).mono ?_;rintro e w1 ⟨rfl,rfl⟩;simp only[dvN,Option.isSome_some])
      | (go_at_call 247;refine(thr_at k b T _ (by omega) hb HT).mono ?_;rintro e w2 ⟨rfl,rfl⟩))
     go_roundw
     case rel=>exact⟨k+1,by go_num,by omega,HZ2,by first|rfl|trivial⟩
     case measure=>simp[intOf];omega
  ·have HZ:Hid (R=none):=by
    unfold Hid;rw[←hz.out,List.drop_of_length_le (by rw[nums_length];omega)];rfl
   obtain rfl:=HZ.out
   clear HZ hz hR
   go_wp2
   go_ret2
   exact⟨rfl,rfl⟩
set_option maxHeartbeats 2000000 in
theorem readnum_at (s : ByteArray) (b v m : Nat) (er : Int) (w : World) (hs : s.size ≤ 1099511627776) (hb : b ≤ 70368744177664) (hR : Hid (rdN b (nums s) = (v, m, er))) :
  Calls Tryz.prog 286 #[.string s,.int .i64 b] w fun e w'=>e = .returned (.tuple #[.int .i64 v,.int .i64 m,.int .i64 er])∧w'=w:=by
 have hR2:=hR.out
 unfold rdN at hR2
 cases ht:takeD b 0 (nums s) with
 | none =>
  rw[ht]at hR2
  simp only at hR2
  injection hR2 with e1 e2
  injection e2 with e2 e3
  subst e1;subst e2;subst e3
  have HS:Hid (sizD b 0 (nums s)=none):=by unfold Hid;rw[sizD_take,ht]
  clear ht hR
  go_enter Tryz.func286,Tryz.ntmps286
  go_wp2_with (go_at_call 296;refine(sizenum_at s b none _ hs hb HS).mono ?_;rintro e w1 ⟨rfl,rfl⟩)
  go_ret3
  exact⟨rfl,rfl⟩
 | some X =>
  obtain⟨D,r⟩:=X
  rw[ht]at hR2
  simp only at hR2
  obtain⟨p1,p2,p3,p4⟩:=takeD_parts b (nums s) 0 D r ht
  rw[nums_length]at p2
  have HS:Hid (sizD b 0 (nums s)=some D.length):=by unfold Hid;rw[sizD_take,ht];simp
  have HP4:=Lib.hid p4
  have HR2:=Lib.hid hR2
  clear ht hR p4 hR2
  go_enter Tryz.func286,Tryz.ntmps286
  go_wp2_with (go_at_call 296;refine(sizenum_at s b (some D.length) _ hs hb HS).mono ?_;rintro e w1 ⟨rfl,rfl⟩;simp only[siz0,Option.isSome_some])
  go_loopw [4,5,8,21] (fun su sz we u wr=>∃(k S W Sk Wk:Nat),sz = .int .i64 D.length∧u = .int .i64 k∧su = .int .i64 Sk∧we = .int .i64 Wk∧k≤D.length∧Sk≤2147483647∧1≤Wk∧Wk≤2147483648∧Hid (NumSt b D k S W)∧Hid (KeptP S W Sk Wk)∧wr=w1) (fun _ _ _ u _=>D.length-(intOf u).toNat)
  case atStart=>exact⟨0,0,1,0,1,rfl,rfl,rfl,rfl,Nat.zero_le _,by omega,by omega,by omega,NumSt.start b D,⟨rfl,by omega,by omega⟩,by first|rfl|trivial⟩
  case round =>
   obtain⟨k,S,W,Sk,Wk,rfl,rfl,rfl,rfl,hk,hSk,hW1,hW2,hns,hkp,rfl⟩:=hrel
   by_cases hlt:k<D.length
   ·have hks:k<s.size:=by omega
    have hdv:=HP4.out k hlt
    rw[pnums_getD s k hks]at hdv
    obtain⟨c,hc⟩:∃c:Int,(s[k].toNat:Int)=c:=⟨_,rfl⟩
    have hc0:0≤c:=by omega
    have hc1:c≤255:=by have:=s[k].toNat_lt;omega
    obtain⟨d,hd⟩:∃d,D.getD k 0=d:=⟨_,rfl⟩
    rw[hc,hd]at hdv
    have hd36:=digV_lt hdv
    have HDV:=Lib.hid hdv
    have HLE:=Lib.hid (hns.out.le hlt)
    have HST:=Lib.hid (hns.out.step hlt)
    rw[hd]at HLE HST
    obtain⟨T,hT⟩:∃T,thr b k=T:=⟨_,rfl⟩
    obtain⟨ht1,ht2⟩:=thr_bd b k
    rw[hT]at HST ht1 ht2
    have HT:=Lib.hid hT
    obtain⟨f,hf⟩:∃f,36-T=f:=⟨_,rfl⟩
    rw[hf]at HST
    have hf1:1≤f:=by omega
    have hf36:f≤36:=by omega
    have HPOS:=Lib.hid hns.out.pos
    have hfI:(36:Int)-(T:Int)=(f:Int):=by omega
    obtain⟨R,hRR⟩:∃R,2147483647-Sk=R:=⟨_,rfl⟩
    obtain⟨q,hq⟩:∃q,R / Wk=q:=⟨_,rfl⟩
    have hRI:(2147483647:Int)-(Sk:Int)=(R:Int):=by omega
    have hqI:(R:Int).tdiv (Wk:Int)=(q:Int):=by rw[←hq];rfl
    have hqR:q≤R:=by rw[←hq];exact Nat.div_le_self _ _
    have HOV:Hid (q<d→2147483647<S+d*W):=fun h=>hkp.out.over HPOS.out (by rw[hRR,hq];exact h)
    have HNX:Hid (¬q<d→KeptP (S+d*W) (W*f) (Sk+d*Wk) (nextW Wk f)∧Sk+d*Wk≤2147483647):=fun h=>hkp.out.next HPOS.out hf1 hf36 (by rw[hRR,hq];exact h)
    clear hd hT hf hRR hq hdv hns hkp
    by_cases hov:q<d
    ·have hbig:2147483647<pvalS b 0 D:=Nat.lt_of_lt_of_le (HOV.out hov) HLE.out
     have hE:=HR2.out
     rw[if_pos hbig]at hE
     injection hE with e1 e2
     injection e2 with e2 e3
     subst e1;subst e2;subst e3
     clear hbig HNX HOV HR2
     go_wp2_with (go_at_call 297;refine(digv_at c (some d) _ hc0 hc1 HDV).mono ?_;rintro e w2 ⟨rfl,rfl⟩;simp only[dvN,Option.isSome_some])
     go_ret3
     exact⟨rfl,rfl⟩
    ·obtain⟨hkn,hsm⟩:=HNX.out hov
     obtain⟨p,hp⟩:∃p,d*Wk=p:=⟨_,rfl⟩
     have hpI:(d:Int)*(Wk:Int)=(p:Int):=by rw[←hp,Int.natCast_mul]
     rw[hp]at hkn hsm
     obtain⟨V,hV⟩:∃V,nextW Wk f=V:=⟨_,rfl⟩
     rw[hV]at hkn
     have HV:=Lib.hid hV
     have HKN:=Lib.hid hkn
     have hV1:1≤V:=by
      have h1:=hkn.w
      have h2:=HST.out.pos
      omega
     have hV2:V≤2147483648:=by have h1:=hkn.w;omega
     have hnov:¬((q:Int)<(d:Int)):=by omega
     clear hp hV hkn HNX HOV HLE
     go_wp2_with (first
      | (go_at_call 297;refine(digv_at c (some d) _ hc0 hc1 HDV).mono ?_;rintro e w2 ⟨rfl,rfl⟩;simp only[dvN,Option.isSome_some])
      | (go_at_call 247;refine(thr_at k b T _ (by omega) hb HT).mono ?_;rintro e w3 ⟨rfl,rfl⟩)
      | (go_at_call 298;refine(nextw_at Wk f V _ hf1 hf36 hW2 HV).mono ?_;rintro e w4 ⟨rfl,rfl⟩))
     go_roundw
     case rel=>exact⟨k+1,_,_,Sk+p,V,rfl,by go_num,by go_num,rfl,by omega,hsm,hV1,hV2,HST,HKN,by first|rfl|trivial⟩
     case measure=>simp[intOf];omega
   ·obtain rfl:k=D.length:=by omega
    have HV:Hid (S=pvalS b 0 D):=hns.out.done
    have hE:=HR2.out
    have hsum:=hkp.out.sum
    rw[if_neg (by rw[←HV.out,←hsum];omega),←HV.out,←hsum]at hE
    injection hE with e1 e2
    injection e2 with e2 e3
    subst e1;subst e2;subst e3
    clear hsum HV hns hkp HR2
    go_wp2
    go_ret3
    exact⟨rfl,rfl⟩
end Go.Proofs.YtblcoicaeeiojaaGreatDoor
