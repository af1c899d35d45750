/-
  The library's stable sort: the merge in place, whole.
-/
import Derived.Test.YtblcoicaeeiojaaGreatDoorSSiPmPunSrtC
set_option linter.unusedSimpArgs false
set_option linter.unusedVariables false
namespace Go.Proofs.YtblcoicaeeiojaaGreatDoor
open Go.RowKit Go.Sort
set_option maxRecDepth 100000 in
set_option maxHeartbeats 8000000 in
theorem sym_midP (l : List Int) (g cap bx N K : Nat) (w0 : World) (hc : CmpOk l bx g w0) (hl : N ≤ 1099511627776) (IH : SymOk l g cap bx N K w0) (a m b : Nat) (d : Array Int) (w : World) (hK : b ≤ a + (K + 1)) (hN : Hid (d.size = N)) (hg0 : w0.grownBy w (some g)) (hv : Val l d) (hs : SRow w g cap d) (hM : Mrg l a m b d) (ham : a < m) (hmb : m < b) (h1 : a + 2 ≤ m) (h2 : m + 2 ≤ b) (hmc0 : (a + b) / 2 < m) :
  Calls Tryz.prog 292 #[.slice (some ⟨g,0,none⟩) N cap,.int .i64 a,.int .i64 m,.int .i64 b,.func (.func 245) #[] #[.pointer (some ⟨bx,0,none⟩)]] w (SrtPost g cap d (fun d'=>PermIn a b d d'∧SortedIn (ltT l) a b d') w):=by
 have HC:=Lib.hid hc
 have HG0:=Lib.hid hg0
 have HV:=Lib.hid hv
 have HS:=Lib.hid hs
 have HM:=Lib.hid hM
 have HIH:=Lib.hid IH
 have hbN:b≤N:=by rw[←hN.out];exact hM.size
 clear hc hg0 hv hs hM IH
 have t1:((m:Int)-(a:Int)==1)=false:=by simp;omega
 have t2:((b:Int)-(m:Int)==1)=false:=by simp;omega
 obtain⟨s0,r0,hsr0⟩:∃s0 r0,sym0 a m b=(s0,r0):=⟨_,_,rfl⟩
 obtain⟨q1,q2,q3,q4,q5,q6,q7⟩:=sym0_bd hsr0 h1 h2
 have HSR:=Lib.hid hsr0
 obtain⟨c,hcc⟩:∃c,(a+b) / 2=c:=⟨_,rfl⟩
 have hcI:((a:Int)+(b:Int)) / 2=(c:Int):=by omega
 rw[hcc]at q4 q5 q6 q7 hmc0
 have hmc:=hmc0
 clear hmc0
 have HCC:=Lib.hid hcc
 have hca:a+2≤c:=by omega
 have hcb:c+2≤b:=by omega
 have hc2:2*c≤a+b:=by omega
 have hc3:a+b≤2*c+1:=by omega
 clear hcc hsr0
 have Q6:=Lib.hid q6
 have Q7:=Lib.hid q7
 clear q6 q7
 obtain⟨e1,e2⟩:=Q6.out hmc
 have e1I:(c:Int)+(m:Int)-(b:Int)=(s0:Int):=by omega
 obtain rfl:=e2.symm
 clear e1 Q6 Q7
 go_enter Tryz.func292,Tryz.ntmps292
 go_wp2
 go_loopw [20,21] (fun u v wr=>∃s r:Nat,u = .int .i64 s∧v = .int .i64 r∧s0≤s∧s≤r∧r≤c∧Hid (s0<s→ltT l d[c+m-1-(s-1)]! d[s-1]! = false)∧Hid (r<c→ltT l d[c+m-1-r]! d[r]! = true)∧Hid (SRow wr g cap d)∧Hid (w.grownBy wr (some g))) (fun u v _=>(intOf v).toNat-(intOf u).toNat)
 case atStart=>exact⟨s0,c,rfl,rfl,Nat.le_refl _,by omega,Nat.le_refl _,fun h=>by omega,fun h=>by omega,HS,grown_refl _ _⟩
 case round =>
  obtain⟨s,r,rfl,rfl,hs0,hsr,hr0,hb1,hb2,hrw,hg⟩:=hrel
  by_cases hlt:s<r
  ·obtain⟨h,hh⟩:∃h,(s+r) / 2=h:=⟨_,rfl⟩
   have hih:s≤h:=by omega
   have hhj:h<r:=by omega
   obtain⟨p,hp⟩:∃p,c+m-1-h=p:=⟨_,rfl⟩
   have hpm:m≤p:=by omega
   have hpb:p<b:=by omega
   have c1:=hrw.out.cell (i:=p) (by rw[hN.out];omega)
   have c2:=hrw.out.cell (i:=h) (by rw[hN.out];omega)
   obtain⟨x,hx⟩:∃x,d[p]! = x:=⟨_,rfl⟩
   obtain⟨y,hy⟩:∃y,d[h]! = y:=⟨_,rfl⟩
   have vx:=HV.out p (by rw[hN.out];omega)
   have vy:=HV.out h (by rw[hN.out];omega)
   have hcmp:=HM.out.cmp (show a≤h by omega) (show h<m by omega) hpm hpb
   rw[hx,hy]at hcmp
   rw[hx]at c1 vx
   rw[hy]at c2 vy
   obtain⟨vx0,vx1⟩:=vx
   obtain⟨vy0,vy1⟩:=vy
   have hhI:((s:Int)+(r:Int)) / 2=(h:Int):=by omega
   have hpI:(c:Int)+(m:Int)-1-(h:Int)=(p:Int):=by omega
   have HX:=Lib.hid hx
   have HY:=Lib.hid hy
   have HPP:=Lib.hid hp
   have hpN:p<N:=by omega
   have hhN:h<N:=by omega
   clear hx hy hh hp
   by_cases hcv:pcmpI l x y<0
   ·have HB2:Hid (h<c→ltT l d[c+m-1-h]! d[h]! = true):=fun _=>by rw[HPP.out,HX.out,HY.out];exact hcmp.1 hcv
    obtain⟨cv,hcve⟩:∃cv,pcmpI l x y=cv:=⟨_,rfl⟩
    rw[hcve]at hcv
    have HCV:=Lib.hid hcve
    clear hcve hcmp
    go_wp2_with fail
    go_quiet ((go_at_call 245;exact Calls.quiet_of (HC.out _ (grownBy_trans HG0.out (grownBy_drewN hg.out _)) x y cv vx0 vx1 vy0 vy1 HCV)))
    go_wp2
    go_roundw
    case rel=>first|exact⟨s,h,rfl,rfl,hs0,by omega,by omega,hb1,HB2,hrw.out,grownBy_drewN hg.out _⟩|(repeat apply Exists.intro;refine⟨?_,rfl⟩;exact⟨s,h,rfl,rfl,hs0,by omega,by omega,hb1,HB2,hrw.out,grownBy_drewN hg.out _⟩)
    case measure=>simp[intOf];omega
   ·have HB1:Hid (s0<h+1→ltT l d[c+m-1-(h+1-1)]! d[h+1-1]! = false):=fun _=>by
     rw[Nat.add_sub_cancel,HPP.out,HX.out,HY.out]
     cases hb:ltT l x y with
     | false=>rfl
     | true=>exact absurd (hcmp.2 hb) hcv
    obtain⟨cv,hcve⟩:∃cv,pcmpI l x y=cv:=⟨_,rfl⟩
    rw[hcve]at hcv
    have dcv:decide (cv<0)=false:=decide_eq_false hcv
    have HCV:=Lib.hid hcve
    clear hcve hcmp
    go_wp2_with fail
    go_quiet ((go_at_call 245;exact Calls.quiet_of (HC.out _ (grownBy_trans HG0.out (grownBy_drewN hg.out _)) x y cv vx0 vx1 vy0 vy1 HCV)))
    go_wp2
    go_roundw
    case rel=>first|exact⟨h+1,r,by go_num,rfl,by omega,by omega,hr0,HB1,hb2,hrw.out,grownBy_drewN hg.out _⟩|(repeat apply Exists.intro;refine⟨?_,rfl⟩;exact⟨h+1,r,by go_num,rfl,by omega,by omega,hr0,HB1,hb2,hrw.out,grownBy_drewN hg.out _⟩)
    case measure=>simp[intOf];omega
  ·obtain rfl:r=s:=by omega
   obtain⟨e,he⟩:∃e,c+m-r=e:=⟨_,rfl⟩
   have heI:(c:Int)+(m:Int)-(r:Int)=(e:Int):=by omega
   have hrm:r≤m:=by omega
   have hme:m≤e:=by omega
   have hrc:r≤c:=by omega
   have hce:c≤e:=by omega
   have heb:e≤b:=by omega
   have har:a≤r:=by omega
   have HHV:=fun (d1:Array Int) (hz:d1.size=d.size) (hr:∀k,d1[k]! = rotF r m e (fun k=>d[k]!) k)=>HM.out.halves (s:=r) (d':=d1) h1 h2 (by rw[HSR.out];exact hs0) (by rw[HSR.out];exact hr0) (by rw[HSR.out,HCC.out];exact hb1.out) (by rw[HSR.out,HCC.out];exact hb2.out) hz (by rw[HCC.out,he];exact hr)
   rw[HCC.out,he]at HHV
   have HH:=Lib.hid HHV
   have HGw:=Lib.hid (grownBy_trans HG0.out hg.out)
   clear HHV he hb1 hb2
   by_cases k1:r<m∧m<e
   ·obtain⟨k1a,k1b⟩:=k1
    by_cases k2:a<r∧r<c
    ·obtain⟨k2a,k2b⟩:=k2
     by_cases k3:c<e∧e<b
     ·obtain⟨k3a,k3b⟩:=k3
      go_wp2_with fail
      refine(rotate_n N g cap r m e d _ wr hN hrw.out hl k1a k1b (by omega)).mono ?_
      rintro ex w1 ⟨rfl,d1,ks1,kz1,⟨kr1,kp1⟩,kg1⟩
      have KS1:=Lib.hid ks1
      have KZ1:Hid (d1.size=d.size):=kz1
      have KR1:=Lib.hid kr1
      have KP1:Hid (PermIn a b d d1):=permIn_mono d d1 r e a b har heb (by rw[hN.out];exact hbN) kp1
      have KG1:=Lib.hid (grownBy_trans hg.out kg1)
      clear ks1 kz1 kr1 kp1 kg1
      have KH:=HH.out d1 KZ1.out KR1.out
      obtain⟨kh1,kh2,kh3⟩:=KH
      have KH1:=Lib.hid kh1
      have KH2:=Lib.hid kh2
      have KH3:=Lib.hid kh3
      clear kh1 kh2 kh3
      have KV1:Hid (Val l d1):=HV.out.perm KP1.out (by rw[hN.out];exact hbN)
      have KN1:Hid (d1.size=N):=by unfold Hid;rw[KZ1.out];exact hN.out
      go_wp2_with fail
      refine(HIH.out a r c d1 _ (by omega) KN1 (grownBy_trans HG0.out KG1.out) KV1.out KS1.out KH1.out k2a k2b).mono ?_
      rintro ex w2 ⟨rfl,d2,ks2,kz2,⟨kp2,ko2⟩,kg2⟩
      have KS2:=Lib.hid ks2
      have KP2:Hid (PermIn a c d1 d2):=kp2
      have KO2:Hid (SortedIn (ltT l) a c d2):=ko2
      have KG2:=Lib.hid (grownBy_trans KG1.out kg2)
      clear ks2 kz2 kp2 ko2 kg2
      have KN2:Hid (d2.size=N):=by unfold Hid;rw[KP2.out.1];exact KN1.out
      have KV2:Hid (Val l d2):=KV1.out.perm KP2.out (by rw[KN1.out];omega)
      have KM2:Hid (Mrg l c e b d2):=KH2.out.congr KP2.out.1 (fun k hk=>KP2.out.2.1 k (.inr hk))
      go_wp2_with fail
      refine(HIH.out c e b d2 _ (by omega) KN2 (grownBy_trans HG0.out KG2.out) KV2.out KS2.out KM2.out k3a k3b).mono ?_
      rintro ex w3 ⟨rfl,d3,ks3,kz3,⟨kp3,ko3⟩,kg3⟩
      have KS3:=Lib.hid ks3
      have KP3:Hid (PermIn c b d2 d3):=kp3
      have KO3:Hid (SortedIn (ltT l) c b d3):=ko3
      have KG3:=Lib.hid (grownBy_trans KG2.out kg3)
      clear ks3 kz3 kp3 ko3 kg3
      have KO:Hid (SortedIn (ltT l) a b d3):=halves_done (by rw[KN1.out];exact hbN) (by omega) (by omega) KH3.out KP2.out KO2.out KP3.out KO3.out
      have KP:Hid (PermIn a b d d3):=permIn_trans _ _ _ _ _ KP1.out (permIn_trans _ _ _ _ _ (permIn_mono d1 d2 a c a b (Nat.le_refl a) (by omega) (by rw[KN1.out];exact hbN) KP2.out) (permIn_mono d2 d3 c b a b (by omega) (Nat.le_refl b) (by rw[KN2.out];exact hbN) KP3.out))
      have KZ:Hid (d3.size=d.size):=by unfold Hid;rw[KP3.out.1,KN2.out,hN.out]
      go_wp2
      go_end0
      exact⟨rfl,d3,KS3.out,KZ.out,⟨KP.out,KO.out⟩,KG3.out⟩
     ·
      have k3g:¬c<e∨(c<e∧¬e<b):=by omega
      rcases k3g with k3x|⟨k3y,k3x⟩
      all_goals
       go_wp2_with fail
       refine(rotate_n N g cap r m e d _ wr hN hrw.out hl k1a k1b (by omega)).mono ?_
       rintro ex w1 ⟨rfl,d1,ks1,kz1,⟨kr1,kp1⟩,kg1⟩
       have KS1:=Lib.hid ks1
       have KZ1:Hid (d1.size=d.size):=kz1
       have KR1:=Lib.hid kr1
       have KP1:Hid (PermIn a b d d1):=permIn_mono d d1 r e a b har heb (by rw[hN.out];exact hbN) kp1
       have KG1:=Lib.hid (grownBy_trans hg.out kg1)
       clear ks1 kz1 kr1 kp1 kg1
       have KH:=HH.out d1 KZ1.out KR1.out
       obtain⟨kh1,kh2,kh3⟩:=KH
       have KH1:=Lib.hid kh1
       have KH2:=Lib.hid kh2
       have KH3:=Lib.hid kh3
       clear kh1 kh2 kh3
       have KV1:Hid (Val l d1):=HV.out.perm KP1.out (by rw[hN.out];exact hbN)
       have KN1:Hid (d1.size=N):=by unfold Hid;rw[KZ1.out];exact hN.out
       go_wp2_with fail
       refine(HIH.out a r c d1 _ (by omega) KN1 (grownBy_trans HG0.out KG1.out) KV1.out KS1.out KH1.out k2a k2b).mono ?_
       rintro ex w2 ⟨rfl,d2,ks2,kz2,⟨kp2,ko2⟩,kg2⟩
       have KS2:=Lib.hid ks2
       have KP2:Hid (PermIn a c d1 d2):=kp2
       have KO2:Hid (SortedIn (ltT l) a c d2):=ko2
       have KG2:=Lib.hid (grownBy_trans KG1.out kg2)
       clear ks2 kz2 kp2 ko2 kg2
       have KN2:Hid (d2.size=N):=by unfold Hid;rw[KP2.out.1];exact KN1.out
       have KV2:Hid (Val l d2):=KV1.out.perm KP2.out (by rw[KN1.out];omega)
       have KM2:Hid (Mrg l c e b d2):=KH2.out.congr KP2.out.1 (fun k hk=>KP2.out.2.1 k (.inr hk))
       have KO3:Hid (SortedIn (ltT l) c b d2):=KM2.out.idle k3
       obtain⟨d3,hd3⟩:∃d3,d3=d2:=⟨d2,rfl⟩
       have KP3:Hid (PermIn c b d2 d3):=by rw[hd3];exact permIn_refl d2 c b
       rw[←hd3]at KO3
       have KS3:Hid (SRow w2 g cap d3):=by rw[hd3];exact KS2
       have KG3:=KG2
       clear hd3
       have KO:Hid (SortedIn (ltT l) a b d3):=halves_done (by rw[KN1.out];exact hbN) (by omega) (by omega) KH3.out KP2.out KO2.out KP3.out KO3.out
       have KP:Hid (PermIn a b d d3):=permIn_trans _ _ _ _ _ KP1.out (permIn_trans _ _ _ _ _ (permIn_mono d1 d2 a c a b (Nat.le_refl a) (by omega) (by rw[KN1.out];exact hbN) KP2.out) (permIn_mono d2 d3 c b a b (by omega) (Nat.le_refl b) (by rw[KN2.out];exact hbN) KP3.out))
       have KZ:Hid (d3.size=d.size):=by unfold Hid;rw[KP3.out.1,KN2.out,hN.out]
       go_wp2
       go_end0
       exact⟨rfl,d3,KS3.out,KZ.out,⟨KP.out,KO.out⟩,KG3.out⟩
    ·
     by_cases k3:c<e∧e<b
     ·obtain⟨k3a,k3b⟩:=k3
      have k2g:¬a<r∨(a<r∧¬r<c):=by omega
      rcases k2g with k2x|⟨k2y,k2x⟩
      all_goals
       go_wp2_with fail
       refine(rotate_n N g cap r m e d _ wr hN hrw.out hl k1a k1b (by omega)).mono ?_
       rintro ex w1 ⟨rfl,d1,ks1,kz1,⟨kr1,kp1⟩,kg1⟩
       have KS1:=Lib.hid ks1
       have KZ1:Hid (d1.size=d.size):=kz1
       have KR1:=Lib.hid kr1
       have KP1:Hid (PermIn a b d d1):=permIn_mono d d1 r e a b har heb (by rw[hN.out];exact hbN) kp1
       have KG1:=Lib.hid (grownBy_trans hg.out kg1)
       clear ks1 kz1 kr1 kp1 kg1
       have KH:=HH.out d1 KZ1.out KR1.out
       obtain⟨kh1,kh2,kh3⟩:=KH
       have KH1:=Lib.hid kh1
       have KH2:=Lib.hid kh2
       have KH3:=Lib.hid kh3
       clear kh1 kh2 kh3
       have KV1:Hid (Val l d1):=HV.out.perm KP1.out (by rw[hN.out];exact hbN)
       have KN1:Hid (d1.size=N):=by unfold Hid;rw[KZ1.out];exact hN.out
       have KO2:Hid (SortedIn (ltT l) a c d1):=KH1.out.idle k2
       obtain⟨d2,hd2⟩:∃d2,d2=d1:=⟨d1,rfl⟩
       have KP2:Hid (PermIn a c d1 d2):=by rw[hd2];exact permIn_refl d1 a c
       rw[←hd2]at KO2
       have KS2:Hid (SRow w1 g cap d2):=by rw[hd2];exact KS1
       have KG2:=KG1
       clear hd2
       have KN2:Hid (d2.size=N):=by unfold Hid;rw[KP2.out.1];exact KN1.out
       have KV2:Hid (Val l d2):=KV1.out.perm KP2.out (by rw[KN1.out];omega)
       have KM2:Hid (Mrg l c e b d2):=KH2.out.congr KP2.out.1 (fun k hk=>KP2.out.2.1 k (.inr hk))
       go_wp2_with fail
       refine(HIH.out c e b d2 _ (by omega) KN2 (grownBy_trans HG0.out KG2.out) KV2.out KS2.out KM2.out k3a k3b).mono ?_
       rintro ex w3 ⟨rfl,d3,ks3,kz3,⟨kp3,ko3⟩,kg3⟩
       have KS3:=Lib.hid ks3
       have KP3:Hid (PermIn c b d2 d3):=kp3
       have KO3:Hid (SortedIn (ltT l) c b d3):=ko3
       have KG3:=Lib.hid (grownBy_trans KG2.out kg3)
       clear ks3 kz3 kp3 ko3 kg3
       have KO:Hid (SortedIn (ltT l) a b d3):=halves_done (by rw[KN1.out];exact hbN) (by omega) (by omega) KH3.out KP2.out KO2.out KP3.out KO3.out
       have KP:Hid (PermIn a b d d3):=permIn_trans _ _ _ _ _ KP1.out (permIn_trans _ _ _ _ _ (permIn_mono d1 d2 a c a b (Nat.le_refl a) (by omega) (by rw[KN1.out];exact hbN) KP2.out) (permIn_mono d2 d3 c b a b (by omega) (Nat.le_refl b) (by rw[KN2.out];exact hbN) KP3.out))
       have KZ:Hid (d3.size=d.size):=by unfold Hid;rw[KP3.out.1,KN2.out,hN.out]
       go_wp2
       go_end0
       exact⟨rfl,d3,KS3.out,KZ.out,⟨KP.out,KO.out⟩,KG3.out⟩
     ·
      have k2g:¬a<r∨(a<r∧¬r<c):=by omega
      have k3g:¬c<e∨(c<e∧¬e<b):=by omega
      rcases k2g with k2x|⟨k2y,k2x⟩
      all_goals rcases k3g with k3x|⟨k3y,k3x⟩
      all_goals
       go_wp2_with fail
       refine(rotate_n N g cap r m e d _ wr hN hrw.out hl k1a k1b (by omega)).mono ?_
       rintro ex w1 ⟨rfl,d1,ks1,kz1,⟨kr1,kp1⟩,kg1⟩
       have KS1:=Lib.hid ks1
       have KZ1:Hid (d1.size=d.size):=kz1
       have KR1:=Lib.hid kr1
       have KP1:Hid (PermIn a b d d1):=permIn_mono d d1 r e a b har heb (by rw[hN.out];exact hbN) kp1
       have KG1:=Lib.hid (grownBy_trans hg.out kg1)
       clear ks1 kz1 kr1 kp1 kg1
       have KH:=HH.out d1 KZ1.out KR1.out
       obtain⟨kh1,kh2,kh3⟩:=KH
       have KH1:=Lib.hid kh1
       have KH2:=Lib.hid kh2
       have KH3:=Lib.hid kh3
       clear kh1 kh2 kh3
       have KV1:Hid (Val l d1):=HV.out.perm KP1.out (by rw[hN.out];exact hbN)
       have KN1:Hid (d1.size=N):=by unfold Hid;rw[KZ1.out];exact hN.out
       have KO2:Hid (SortedIn (ltT l) a c d1):=KH1.out.idle k2
       obtain⟨d2,hd2⟩:∃d2,d2=d1:=⟨d1,rfl⟩
       have KP2:Hid (PermIn a c d1 d2):=by rw[hd2];exact permIn_refl d1 a c
       rw[←hd2]at KO2
       have KS2:Hid (SRow w1 g cap d2):=by rw[hd2];exact KS1
       have KG2:=KG1
       clear hd2
       have KN2:Hid (d2.size=N):=by unfold Hid;rw[KP2.out.1];exact KN1.out
       have KV2:Hid (Val l d2):=KV1.out.perm KP2.out (by rw[KN1.out];omega)
       have KM2:Hid (Mrg l c e b d2):=KH2.out.congr KP2.out.1 (fun k hk=>KP2.out.2.1 k (.inr hk))
       have KO3:Hid (SortedIn (ltT l) c b d2):=KM2.out.idle k3
       obtain⟨d3,hd3⟩:∃d3,d3=d2:=⟨d2,rfl⟩
       have KP3:Hid (PermIn c b d2 d3):=by rw[hd3];exact permIn_refl d2 c b
       rw[←hd3]at KO3
       have KS3:Hid (SRow w1 g cap d3):=by rw[hd3];exact KS2
       have KG3:=KG2
       clear hd3
       have KO:Hid (SortedIn (ltT l) a b d3):=halves_done (by rw[KN1.out];exact hbN) (by omega) (by omega) KH3.out KP2.out KO2.out KP3.out KO3.out
       have KP:Hid (PermIn a b d d3):=permIn_trans _ _ _ _ _ KP1.out (permIn_trans _ _ _ _ _ (permIn_mono d1 d2 a c a b (Nat.le_refl a) (by omega) (by rw[KN1.out];exact hbN) KP2.out) (permIn_mono d2 d3 c b a b (by omega) (Nat.le_refl b) (by rw[KN2.out];exact hbN) KP3.out))
       have KZ:Hid (d3.size=d.size):=by unfold Hid;rw[KP3.out.1,KN2.out,hN.out]
       go_wp2
       go_end0
       exact⟨rfl,d3,KS3.out,KZ.out,⟨KP.out,KO.out⟩,KG3.out⟩
   ·have k1n:r=m∨m=e:=by omega
    have k1f:¬(r<m∧m<e):=k1
    by_cases k2:a<r∧r<c
    ·obtain⟨k2a,k2b⟩:=k2
     by_cases k3:c<e∧e<b
     ·obtain⟨k3a,k3b⟩:=k3
      have k1g:¬r<m∨(r<m∧¬m<e):=by omega
      rcases k1g with k1x|⟨k1y,k1x⟩
      all_goals
       obtain⟨d1,hd1⟩:∃d1,d1=d:=⟨d,rfl⟩
       have KZ1:Hid (d1.size=d.size):=by rw[hd1];rfl
       have KS1:Hid (SRow wr g cap d1):=by rw[hd1];exact hrw
       have KR1:Hid (∀k,d1[k]! = rotF r m e (fun k=>d[k]!) k):=by rw[hd1];exact fun k=>(rotF_none k1n k).symm
       have KP1:Hid (PermIn a b d d1):=by rw[hd1];exact permIn_refl d a b
       have KG1:=hg
       clear hd1
       have KH:=HH.out d1 KZ1.out KR1.out
       obtain⟨kh1,kh2,kh3⟩:=KH
       have KH1:=Lib.hid kh1
       have KH2:=Lib.hid kh2
       have KH3:=Lib.hid kh3
       clear kh1 kh2 kh3
       have KV1:Hid (Val l d1):=HV.out.perm KP1.out (by rw[hN.out];exact hbN)
       have KN1:Hid (d1.size=N):=by unfold Hid;rw[KZ1.out];exact hN.out
       go_wp2_with fail
       refine(HIH.out a r c d1 _ (by omega) KN1 (grownBy_trans HG0.out KG1.out) KV1.out KS1.out KH1.out k2a k2b).mono ?_
       rintro ex w2 ⟨rfl,d2,ks2,kz2,⟨kp2,ko2⟩,kg2⟩
       have KS2:=Lib.hid ks2
       have KP2:Hid (PermIn a c d1 d2):=kp2
       have KO2:Hid (SortedIn (ltT l) a c d2):=ko2
       have KG2:=Lib.hid (grownBy_trans KG1.out kg2)
       clear ks2 kz2 kp2 ko2 kg2
       have KN2:Hid (d2.size=N):=by unfold Hid;rw[KP2.out.1];exact KN1.out
       have KV2:Hid (Val l d2):=KV1.out.perm KP2.out (by rw[KN1.out];omega)
       have KM2:Hid (Mrg l c e b d2):=KH2.out.congr KP2.out.1 (fun k hk=>KP2.out.2.1 k (.inr hk))
       go_wp2_with fail
       refine(HIH.out c e b d2 _ (by omega) KN2 (grownBy_trans HG0.out KG2.out) KV2.out KS2.out KM2.out k3a k3b).mono ?_
       rintro ex w3 ⟨rfl,d3,ks3,kz3,⟨kp3,ko3⟩,kg3⟩
       have KS3:=Lib.hid ks3
       have KP3:Hid (PermIn c b d2 d3):=kp3
       have KO3:Hid (SortedIn (ltT l) c b d3):=ko3
       have KG3:=Lib.hid (grownBy_trans KG2.out kg3)
       clear ks3 kz3 kp3 ko3 kg3
       have KO:Hid (SortedIn (ltT l) a b d3):=halves_done (by rw[KN1.out];exact hbN) (by omega) (by omega) KH3.out KP2.out KO2.out KP3.out KO3.out
       have KP:Hid (PermIn a b d d3):=permIn_trans _ _ _ _ _ KP1.out (permIn_trans _ _ _ _ _ (permIn_mono d1 d2 a c a b (Nat.le_refl a) (by omega) (by rw[KN1.out];exact hbN) KP2.out) (permIn_mono d2 d3 c b a b (by omega) (Nat.le_refl b) (by rw[KN2.out];exact hbN) KP3.out))
       have KZ:Hid (d3.size=d.size):=by unfold Hid;rw[KP3.out.1,KN2.out,hN.out]
       go_wp2
       go_end0
       exact⟨rfl,d3,KS3.out,KZ.out,⟨KP.out,KO.out⟩,KG3.out⟩
     ·
      have k1g:¬r<m∨(r<m∧¬m<e):=by omega
      have k3g:¬c<e∨(c<e∧¬e<b):=by omega
      rcases k1g with k1x|⟨k1y,k1x⟩
      all_goals rcases k3g with k3x|⟨k3y,k3x⟩
      all_goals
       obtain⟨d1,hd1⟩:∃d1,d1=d:=⟨d,rfl⟩
       have KZ1:Hid (d1.size=d.size):=by rw[hd1];rfl
       have KS1:Hid (SRow wr g cap d1):=by rw[hd1];exact hrw
       have KR1:Hid (∀k,d1[k]! = rotF r m e (fun k=>d[k]!) k):=by rw[hd1];exact fun k=>(rotF_none k1n k).symm
       have KP1:Hid (PermIn a b d d1):=by rw[hd1];exact permIn_refl d a b
       have KG1:=hg
       clear hd1
       have KH:=HH.out d1 KZ1.out KR1.out
       obtain⟨kh1,kh2,kh3⟩:=KH
       have KH1:=Lib.hid kh1
       have KH2:=Lib.hid kh2
       have KH3:=Lib.hid kh3
       clear kh1 kh2 kh3
       have KV1:Hid (Val l d1):=HV.out.perm KP1.out (by rw[hN.out];exact hbN)
       have KN1:Hid (d1.size=N):=by unfold Hid;rw[KZ1.out];exact hN.out
       go_wp2_with fail
       refine(HIH.out a r c d1 _ (by omega) KN1 (grownBy_trans HG0.out KG1.out) KV1.out KS1.out KH1.out k2a k2b).mono ?_
       rintro ex w2 ⟨rfl,d2,ks2,kz2,⟨kp2,ko2⟩,kg2⟩
       have KS2:=Lib.hid ks2
       have KP2:Hid (PermIn a c d1 d2):=kp2
       have KO2:Hid (SortedIn (ltT l) a c d2):=ko2
       have KG2:=Lib.hid (grownBy_trans KG1.out kg2)
       clear ks2 kz2 kp2 ko2 kg2
       have KN2:Hid (d2.size=N):=by unfold Hid;rw[KP2.out.1];exact KN1.out
       have KV2:Hid (Val l d2):=KV1.out.perm KP2.out (by rw[KN1.out];omega)
       have KM2:Hid (Mrg l c e b d2):=KH2.out.congr KP2.out.1 (fun k hk=>KP2.out.2.1 k (.inr hk))
       have KO3:Hid (SortedIn (ltT l) c b d2):=KM2.out.idle k3
       obtain⟨d3,hd3⟩:∃d3,d3=d2:=⟨d2,rfl⟩
       have KP3:Hid (PermIn c b d2 d3):=by rw[hd3];exact permIn_refl d2 c b
       rw[←hd3]at KO3
       have KS3:Hid (SRow w2 g cap d3):=by rw[hd3];exact KS2
       have KG3:=KG2
       clear hd3
       have KO:Hid (SortedIn (ltT l) a b d3):=halves_done (by rw[KN1.out];exact hbN) (by omega) (by omega) KH3.out KP2.out KO2.out KP3.out KO3.out
       have KP:Hid (PermIn a b d d3):=permIn_trans _ _ _ _ _ KP1.out (permIn_trans _ _ _ _ _ (permIn_mono d1 d2 a c a b (Nat.le_refl a) (by omega) (by rw[KN1.out];exact hbN) KP2.out) (permIn_mono d2 d3 c b a b (by omega) (Nat.le_refl b) (by rw[KN2.out];exact hbN) KP3.out))
       have KZ:Hid (d3.size=d.size):=by unfold Hid;rw[KP3.out.1,KN2.out,hN.out]
       go_wp2
       go_end0
       exact⟨rfl,d3,KS3.out,KZ.out,⟨KP.out,KO.out⟩,KG3.out⟩
    ·
     by_cases k3:c<e∧e<b
     ·obtain⟨k3a,k3b⟩:=k3
      have k1g:¬r<m∨(r<m∧¬m<e):=by omega
      have k2g:¬a<r∨(a<r∧¬r<c):=by omega
      rcases k1g with k1x|⟨k1y,k1x⟩
      all_goals rcases k2g with k2x|⟨k2y,k2x⟩
      all_goals
       obtain⟨d1,hd1⟩:∃d1,d1=d:=⟨d,rfl⟩
       have KZ1:Hid (d1.size=d.size):=by rw[hd1];rfl
       have KS1:Hid (SRow wr g cap d1):=by rw[hd1];exact hrw
       have KR1:Hid (∀k,d1[k]! = rotF r m e (fun k=>d[k]!) k):=by rw[hd1];exact fun k=>(rotF_none k1n k).symm
       have KP1:Hid (PermIn a b d d1):=by rw[hd1];exact permIn_refl d a b
       have KG1:=hg
       clear hd1
       have KH:=HH.out d1 KZ1.out KR1.out
       obtain⟨kh1,kh2,kh3⟩:=KH
       have KH1:=Lib.hid kh1
       have KH2:=Lib.hid kh2
       have KH3:=Lib.hid kh3
       clear kh1 kh2 kh3
       have KV1:Hid (Val l d1):=HV.out.perm KP1.out (by rw[hN.out];exact hbN)
       have KN1:Hid (d1.size=N):=by unfold Hid;rw[KZ1.out];exact hN.out
       have KO2:Hid (SortedIn (ltT l) a c d1):=KH1.out.idle k2
       obtain⟨d2,hd2⟩:∃d2,d2=d1:=⟨d1,rfl⟩
       have KP2:Hid (PermIn a c d1 d2):=by rw[hd2];exact permIn_refl d1 a c
       rw[←hd2]at KO2
       have KS2:Hid (SRow wr g cap d2):=by rw[hd2];exact KS1
       have KG2:=KG1
       clear hd2
       have KN2:Hid (d2.size=N):=by unfold Hid;rw[KP2.out.1];exact KN1.out
       have KV2:Hid (Val l d2):=KV1.out.perm KP2.out (by rw[KN1.out];omega)
       have KM2:Hid (Mrg l c e b d2):=KH2.out.congr KP2.out.1 (fun k hk=>KP2.out.2.1 k (.inr hk))
       go_wp2_with fail
       refine(HIH.out c e b d2 _ (by omega) KN2 (grownBy_trans HG0.out KG2.out) KV2.out KS2.out KM2.out k3a k3b).mono ?_
       rintro ex w3 ⟨rfl,d3,ks3,kz3,⟨kp3,ko3⟩,kg3⟩
       have KS3:=Lib.hid ks3
       have KP3:Hid (PermIn c b d2 d3):=kp3
       have KO3:Hid (SortedIn (ltT l) c b d3):=ko3
       have KG3:=Lib.hid (grownBy_trans KG2.out kg3)
       clear ks3 kz3 kp3 ko3 kg3
       have KO:Hid (SortedIn (ltT l) a b d3):=halves_done (by rw[KN1.out];exact hbN) (by omega) (by omega) KH3.out KP2.out KO2.out KP3.out KO3.out
       have KP:Hid (PermIn a b d d3):=permIn_trans _ _ _ _ _ KP1.out (permIn_trans _ _ _ _ _ (permIn_mono d1 d2 a c a b (Nat.le_refl a) (by omega) (by rw[KN1.out];exact hbN) KP2.out) (permIn_mono d2 d3 c b a b (by omega) (Nat.le_refl b) (by rw[KN2.out];exact hbN) KP3.out))
       have KZ:Hid (d3.size=d.size):=by unfold Hid;rw[KP3.out.1,KN2.out,hN.out]
       go_wp2
       go_end0
       exact⟨rfl,d3,KS3.out,KZ.out,⟨KP.out,KO.out⟩,KG3.out⟩
     ·
      have k1g:¬r<m∨(r<m∧¬m<e):=by omega
      have k2g:¬a<r∨(a<r∧¬r<c):=by omega
      have k3g:¬c<e∨(c<e∧¬e<b):=by omega
      rcases k1g with k1x|⟨k1y,k1x⟩
      all_goals rcases k2g with k2x|⟨k2y,k2x⟩
      all_goals rcases k3g with k3x|⟨k3y,k3x⟩
      all_goals
       obtain⟨d1,hd1⟩:∃d1,d1=d:=⟨d,rfl⟩
       have KZ1:Hid (d1.size=d.size):=by rw[hd1];rfl
       have KS1:Hid (SRow wr g cap d1):=by rw[hd1];exact hrw
       have KR1:Hid (∀k,d1[k]! = rotF r m e (fun k=>d[k]!) k):=by rw[hd1];exact fun k=>(rotF_none k1n k).symm
       have KP1:Hid (PermIn a b d d1):=by rw[hd1];exact permIn_refl d a b
       have KG1:=hg
       clear hd1
       have KH:=HH.out d1 KZ1.out KR1.out
       obtain⟨kh1,kh2,kh3⟩:=KH
       have KH1:=Lib.hid kh1
       have KH2:=Lib.hid kh2
       have KH3:=Lib.hid kh3
       clear kh1 kh2 kh3
       have KV1:Hid (Val l d1):=HV.out.perm KP1.out (by rw[hN.out];exact hbN)
       have KN1:Hid (d1.size=N):=by unfold Hid;rw[KZ1.out];exact hN.out
       have KO2:Hid (SortedIn (ltT l) a c d1):=KH1.out.idle k2
       obtain⟨d2,hd2⟩:∃d2,d2=d1:=⟨d1,rfl⟩
       have KP2:Hid (PermIn a c d1 d2):=by rw[hd2];exact permIn_refl d1 a c
       rw[←hd2]at KO2
       have KS2:Hid (SRow wr g cap d2):=by rw[hd2];exact KS1
       have KG2:=KG1
       clear hd2
       have KN2:Hid (d2.size=N):=by unfold Hid;rw[KP2.out.1];exact KN1.out
       have KV2:Hid (Val l d2):=KV1.out.perm KP2.out (by rw[KN1.out];omega)
       have KM2:Hid (Mrg l c e b d2):=KH2.out.congr KP2.out.1 (fun k hk=>KP2.out.2.1 k (.inr hk))
       have KO3:Hid (SortedIn (ltT l) c b d2):=KM2.out.idle k3
       obtain⟨d3,hd3⟩:∃d3,d3=d2:=⟨d2,rfl⟩
       have KP3:Hid (PermIn c b d2 d3):=by rw[hd3];exact permIn_refl d2 c b
       rw[←hd3]at KO3
       have KS3:Hid (SRow wr g cap d3):=by rw[hd3];exact KS2
       have KG3:=KG2
       clear hd3
       have KO:Hid (SortedIn (ltT l) a b d3):=halves_done (by rw[KN1.out];exact hbN) (by omega) (by omega) KH3.out KP2.out KO2.out KP3.out KO3.out
       have KP:Hid (PermIn a b d d3):=permIn_trans _ _ _ _ _ KP1.out (permIn_trans _ _ _ _ _ (permIn_mono d1 d2 a c a b (Nat.le_refl a) (by omega) (by rw[KN1.out];exact hbN) KP2.out) (permIn_mono d2 d3 c b a b (by omega) (Nat.le_refl b) (by rw[KN2.out];exact hbN) KP3.out))
       have KZ:Hid (d3.size=d.size):=by unfold Hid;rw[KP3.out.1,KN2.out,hN.out]
       go_wp2
       go_end0
       exact⟨rfl,d3,KS3.out,KZ.out,⟨KP.out,KO.out⟩,KG3.out⟩
end Go.Proofs.YtblcoicaeeiojaaGreatDoor
