/- short names of lemmas -/
set_option linter.all false
namespace Go.Proofs.YtblcoicaeeiojaaGreatDoor
variable{p:Prop}
abbrev A4:=@decide_eq_true_eq
abbrev AJ:=@Bool.and_eq_true
abbrev AO:=@List.take_of_length_le
abbrev AR:=@List.all_eq_true
abbrev AX:=@List.mem_cons
abbrev Aaa:=@ByteArray.append_assoc
abbrev Aaj:=@Int.mul_le_mul_of_nonneg_right
abbrev Aak:=@Int.tmod_eq_emod_of_nonneg
abbrev Aal:=@List.find?_append
abbrev Aam:=@List.flatMap_append
abbrev Aan:=@List.getElem?_toArray
abbrev Aao:=@List.getLastD_eq_getLast?
abbrev Aap:=@List.map_singleton
abbrev Aaq:=@List.mem_of_find?_eq_some
abbrev Aar:=@List.mem_of_mem_drop
abbrev Aas:=@List.pairwise_cons
abbrev Aat:=@List.pairwise_iff_getElem
abbrev Aau:=@List.pairwise_map
abbrev Aav:=@List.pairwise_singleton
abbrev Aaw:=@Nat.min_eq_right
abbrev Aax:=@Option.map_eq_some_iff
abbrev Aay:=@UInt8.toNat_ofNat'
abbrev Ac:=@Nat.le_refl
abbrev Af:=@Nat.le_trans
abbrev Ai:=@decide_eq_false
abbrev Ajs:=@ByteArray.empty_append
abbrev Ajt:=@List.getLast?_eq_getElem?
abbrev Aju:=@List.replicate_succ
abbrev At:=@decide_eq_true
abbrev Au:=@Nat.zero_le
abbrev BB:=@List.length_cons
abbrev BG:=@Bool.true_and
abbrev BH:=@List.map_cons
abbrev BW:=@Nat.le_of_eq
abbrev BY:=@Nat.zero_add
abbrev Bc:=@List.length_append
abbrev Bg:=@List.mem_append
abbrev Bw:=@List.eq_nil_of_length_eq_zero
abbrev C6:=@List.length_map
abbrev C7:=@or_false
abbrev CH:=@List.cons_append
abbrev CI:=@List.getElem?_eq_getElem
abbrev CS:=@List.getD_cons_succ
abbrev CT:=@List.not_mem_nil
abbrev Cc:=@List.mem_map
abbrev Ch:=@List.mem_singleton
abbrev Ci:=@Nat.lt_of_lt_of_le
abbrev Cv:=@List.nil_append
abbrev Cz:=@List.getD_eq_getElem?_getD
abbrev DI:=@List.getD_cons_zero
abbrev DQ:=@List.all_cons
abbrev DY:=@Prod.mk.injEq
abbrev E6:=@ByteArray.size_append
abbrev E8:=@List.append_nil
abbrev E9:=@List.take_succ_eq_append_getElem
abbrev EM:=@Array.getElem?_eq_some_iff
abbrev EP:=@List.drop_eq_getElem_cons
abbrev E_:=@Nat.add_zero
abbrev Ef:=@Int.toNat_natCast
abbrev Eg:=@List.map_nil
abbrev Eu:=@List.getElem?_take
abbrev FE:=@Bool.false_or
abbrev FG:=@List.take_append_drop
abbrev FH:=@Nat.not_lt_zero
abbrev FI:=@Option.some.injEq
abbrev FY:=@List.map_append
abbrev Fc:=@of_decide_eq_false
abbrev G0:=@List.drop_of_length_le
abbrev GK:=@List.length_drop
abbrev GL:=@List.length_take
abbrev Gd:=@Bool.eq_iff_iff
abbrev Gf:=@List.all_nil
abbrev Gg:=@List.getElem?_map
abbrev Gh:=@List.length_nil
abbrev I8:=@Bool.not_eq_true
abbrev IE:=@List.all_append
abbrev Ib:=@Bool.and_false
abbrev Ic:=@Bool.or_eq_true
abbrev Ie:=@Nat.lt_or_ge
abbrev If:=@of_decide_eq_true
abbrev JP:=@Bool.and_true
abbrev JQ:=@Classical.byContradiction
abbrev JS:=@List.any_eq_true
abbrev JT:=@List.flatMap_cons
abbrev JU:=@List.getElem_of_mem
abbrev JV:=@List.length_set
abbrev JW:=@List.mem_filter
abbrev JX:=@Nat.mul_le_mul_right
abbrev JY:=@Ne.symm
abbrev JZ:=@getElem!_pos
abbrev Jc:=@List.map_congr_left
abbrev Jd:=@List.take_succ_cons
abbrev Je:=@Nat.div_le_self
abbrev KS:=@Int.natCast_mul
abbrev KT:=@List.length_pos_iff
abbrev KV:=@List.map_set
abbrev KW:=@List.mem_of_mem_take
abbrev KX:=@List.sum_cons
abbrev KY:=@Nat.le_succ
abbrev K_:=@Nat.min_eq_left
abbrev L0:=@List.take_zero
abbrev L2:=@Prod.ext
abbrev L3:=@decide_eq_false_iff_not
abbrev LV:=@List.append_assoc
abbrev LW:=@List.getElem?_append_right
abbrev LX:=@List.getElem?_eq_some_iff
abbrev LY:=@List.getElem?_set_ne
abbrev LZ:=@List.map_map
abbrev MP:=@List.any_append
abbrev MQ:=@List.any_cons
abbrev MR:=@List.getElem?_append_left
abbrev MS:=@List.getElem?_drop
abbrev MT:=@List.getElem?_eq_none
abbrev MU:=@Nat.sub_self
abbrev MV:=@Option.getD_some
abbrev MW:=@Option.map_some
abbrev N':=@List.getElem?_cons_succ
abbrev N7:=@Bool.not_eq_true'
abbrev N:=@if_pos
abbrev N_:=@Int.le_refl
abbrev Oa:=@List.getElem?_cons_zero
abbrev Ob:=@List.getElem_mem
abbrev Oc:=@List.map_toArray
abbrev Od:=@Nat.mod_lt
abbrev Oe:=@Nat.mul_le_mul
abbrev Of:=@decide_eq_decide
abbrev PJ:=@List.contains_iff_mem
abbrev PK:=@List.flatMap_nil
abbrev PM:=@List.length_singleton
abbrev PO:=@List.set_append
abbrev PP:=@List.take_length
abbrev PQ:=@List.take_take
abbrev PR:=@Nat.add_sub_cancel
abbrev PS:=@Option.getD_none
abbrev PT:=@Option.isSome_some
abbrev PU:=@decide_eq_true_iff
abbrev Pw:=@Array.getElem?_eq_none
abbrev Px:=@Array.getElem?_toList
abbrev Py:=@Bool.or_eq_false_iff
abbrev Pz:=@ByteArray.ext
abbrev R8:=@List.any_eq_false
abbrev RU:=@Array.length_toList
abbrev RV:=@Array.toList_extract
abbrev RW:=@ByteArray.data_extract
abbrev R_:=@List.ext_getElem?
abbrev Sc:=@List.filter_append
abbrev Sd:=@List.map_drop
abbrev Se:=@List.map_take
abbrev Sf:=@List.mem_cons_of_mem
abbrev Sg:=@List.mem_range
abbrev Sh:=@List.nodup_append
abbrev Si:=@List.set_cons_succ
abbrev Sj:=@List.set_cons_zero
abbrev Sl:=@List.take_append_of_le_length
abbrev Sm:=@Nat.div_lt_iff_lt_mul
abbrev Sn:=@Nat.le_of_lt
abbrev So:=@Nat.le_succ_of_le
abbrev Sq:=@Nat.lt_succ_of_lt
abbrev Sr:=@Nat.mul_assoc
abbrev Ss:=@Nat.mul_comm
abbrev Su:=@Nat.mul_le_mul_left
abbrev Sv:=@Nat.mul_one
abbrev Sx:=@Nat.succ_mul
abbrev Sy:=@beq_eq_false_iff_ne
abbrev U5:=@Bool.false_eq_true
abbrev U6:=@Bool.or_false
abbrev U7:=@ByteArray.size_extract
abbrev V:=@if_neg
abbrev Vb:=@List.drop_append_of_le_length
abbrev Vc:=@List.drop_eq_nil_of_le
abbrev Vd:=@List.drop_length
abbrev Ve:=@List.ext_getElem
abbrev Vf:=@List.flatMap_def
abbrev Vg:=@List.getElem?_replicate
abbrev Vh:=@List.getElem?_set_self
abbrev Vi:=@List.mem_append_left
abbrev Vj:=@List.mem_flatMap
abbrev Vk:=@List.nodup_cons
abbrev Vl:=@List.pairwise_append
abbrev Vm:=@List.set_append_right
abbrev Vn:=@List.singleton_append
abbrev Vo:=@Nat.add_assoc
abbrev Vq:=@Nat.testBit_and
abbrev Vr:=@Nat.testBit_two_pow
abbrev Z':=@Bool.and_eq_false_iff
abbrev Z9:=@Array.getD_eq_getD_getElem?
abbrev Z_:=@Array.getElem?_setIfInBounds
def O(h:p:=by omega):p:=h
def Ae(h:p:=by simp;omega):p:=h
def J(h:p:=by simp):p:=h
def JO(h:p:=by exact⟨rfl,ac.out.ab⟩):p:=h
def C5(h:p:=by exact⟨rfl,rfl⟩):p:=h
def Aw(h:p:=by decide):p:=h
def Dq(h:p:=by have:=dq.out;simp;omega):p:=h
def BQ(h:p:=by unfold maxLen;omega):p:=h
def I5(h:p:=by simp[F_,GZ];omega):p:=h
def Dr(h:p:=by first|rfl|trivial):p:=h
def AvU(h:p:=by rw[nW.out];exact lI):p:=h
def YX(h:p:=by injection this with bt bd;injection bd with bd ct;exact⟨bt.symm,bd.symm,ct.symm⟩):p:=h
def UJ(h:p:=by exact⟨⟨fM _ _ bl,fM _ _ a',fM _ _ be,fM _ _ cD,fM _ _ eL,fM _ _ eB⟩,⟨fM _ _ ez,fM _ _ ey,fM _ _ ea,fM _ _ fm,fM _ _ fN,fM _ _ iJ⟩⟩):p:=h
def Y6(h:p:=by unfold Hid;rw[nG.out.1];exact nW.out):p:=h
def Co(h:p:=by simpa using h):p:=h
def RE(h:p:=by unfold Hid;rw[oB.out];exact iY.out):p:=h
def Hj(h:p:=by unfold Hid;omega):p:=h
def LS(h:p:=by rw[iY.out];exact lI):p:=h
def MJ(h:p:=by obtain⟨p,c,e⟩:=CK.slice dc;exact⟨p,c,_,e⟩):p:=h
def KQ(h:p:=by simp[Kf];omega):p:=h
def H6(h:p:=by rw[bx.out];exact Ac _):p:=h
def UT(h:p:=by
 intro b ad bx e;rcases dH with dH|dH
 ·exact bx (by rw[<-dH,e])
 ·rw[dH]at e;injection e with e;omega):p:=h
def GH(h:p:=by unfold Az;simp;omega):p:=h
def FD(h:p:=by rw[bb.out];omega):p:=h
def RI(h:p:=by exact⟨rfl,bc.out.ab⟩):p:=h
def ZB(h:p:=by simp[F_,GZ,o7.out,o8.out];omega):p:=h
def RK(h:p:=by exact⟨_,rfl,Ak.nil _ _,ac.out.ab⟩):p:=h
def Ayg(h:p:=by
 obtain⟨a',be⟩:=h;rcases be with⟨rfl,cD⟩|⟨g,cap,mQ,rfl,ef,dy,bx,cB,b2,ep⟩
 ·have:ao=[]:=Bw cD;subst this;exact⟨none,0,rfl,λk ba=>by simp at ba,Ac _⟩
 ·obtain⟨p,c,e,dI⟩:=Ak.ap (w:=w) (B:=B) (ao:=ao) ⟨a',.inr ⟨g,cap,mQ,rfl,ef,dy,bx,cB,b2,ep⟩⟩;injection e with bt bd ct;subst bt;subst ct;exact⟨_,cap,rfl,dI,bx⟩):p:=h
def AiI(h:p:=by obtain⟨mm,ml,mj⟩:=h;have:=co.out;omega):p:=h
def IA(h:p:=by simp at ba;omega):p:=h
def ABY(h:p:=by rw[n5.out];exact lI):p:=h
def AiX(h:p:=by
 have be:=a'.keeps cv (λb ad e i8=>by
  rcases e with e|e
  ·exact i8.1.2 e
  ·have:=i8.1.1;omega)
 exact be.aq (λb ad e=>⟨e.1.1,iT b e.2 e.1.2⟩)):p:=h
def Ai2(h:p:=by unfold Hid;rw[i2.out];cases a<;>rfl):p:=h
def Dt(h:p:=by decide +eM):p:=h
def Hk(h:p:=by rw[iY.out];omega):p:=h
def ZZ(h:p:=by rw[nW.out];omega):p:=h
def Z1(h:p:=by first|exact lx.out _ (Bx wr)|exact lx.out _ ((Bx wr).trans (eS.mono (Bx wr).size))):p:=h
def DH(h:p:=by simp[Hid]):p:=h
def Z4(h:p:=by rw[nF];exact λk=>(X3 ox k).symm):p:=h
def RR(h:p:=by simp only[Bc,BB,Gh];have:=bs.out.dec;omega):p:=h
def Ajo(h:p:=by have:=fD.out.zero (by rw[ei.out];exact ee) cp.out iD.out.1 fS.out ZT;rw[eV.out]at this;exact this):p:=h
def Pu(h:p:=by intro k e;cases e;exact dy):p:=h
def MM(h:p:=by have:=fb.out;simp;omega):p:=h
def RS(h:p:=by have:=b1.out.size;simp;omega):p:=h
def AAT(h:p:=by
 obtain rfl:i=k:=by omega
 have:=f8.out;rw[AO (BW eu.out)]at this;rw[kg.out];exact this):p:=h
def U4(h:p:=by exact⟨rfl,b1.out⟩):p:=h
def Z8(h:p:=by
 cases ad:AK l x y with
 | false=>rfl
 | true=>exact absurd (fV.2 ad) eY):p:=h
def Ajp(h:p:=by rw[V a']at h;split at h<;>first|omega|(split at h<;>first|omega|(split at h<;>first|omega|(split at h<;>omega)))):p:=h
def H'(h:p:=by simp<;>omega):p:=h
def Pv(h:p:=by rw[<-bb.out];exact(CN co.out).2.1):p:=h
def Ia(h:p:=by rw[ia.out];rfl):p:=h
def Ajr(h:p:=by
 intro x b3;rcases Bg.1 b3 with b3|b3
 ·exact fM _ _ (h.aw.bo x b3)
 ·rw[Ch]at b3;subst b3;exact fM _ _ dO):p:=h
def Yz(h:p:=by rw[co.out];exact bl):p:=h
def Pk(h:p:=by rw[ei.out];exact ee):p:=h
def Iz(h:p:=by simpa using dI):p:=h
def JK(h:p:=by rw[lN.out];omega):p:=h
def MD(h:p:=by rw[eJ.out,bb.out];omega):p:=h
def LP(h:p:=by rw[cF.out];omega):p:=h
def ME(h:p:=by rw[bb.out];exact Ac _):p:=h
def KK(h:p:=by rw[bv.out];rfl):p:=h
def LQ(h:p:=by rw[N a']at h;exact absurd h a'):p:=h
def Rr(h:p:=by rw[eV.out];simp;omega):p:=h
def Avk(h:p:=by rw[<-h9]at cl;obtain⟨z,b5,rfl⟩:=Cc.1 cl;have:=TD (X:=X) (P:=λx=>(A8 T x).2=0) (by rw[bb.out];exact cA.out) z b5;have:=AoK this;omega):p:=h
def Avm(h:p:=by rw[h]at a';have:=QK.inj a' be;injection this with this;injection this with this;injection this with bt bd;injection bt with _ bt;injection bd with bd _;injection bd with _ bd;exact⟨bt,bd⟩):p:=h
def Avn(h:p:=by
 induction l with
 | nil=>intro _;rfl
 | cons c r mi =>
  intro er;rw[A2,I0,mi (λi8=>er (by simp[i8]))];unfold Dl;rw[V (λi8=>er (by simp[i8]))];omega):p:=h
def Ahh(h:p:=by
 unfold BL I2
 repeat' split
 all_goals first
  | (exfalso;omega)
  | rfl
  | (congr 1<;>omega)):p:=h
def UB(h:p:=by have:=cC.size;unfold Hid;simpa using this):p:=h
def I3(h:p:=by rw[dE];omega):p:=h
def E5(h:p:=by simp at h):p:=h
def Avq(h:p:=by
 unfold Hid;rw[cu,V (by
  intro e
  have a':(L.take k).length=k:=by rw[GL,bx.out];omega
  rw[e]at a'
  simp at a';omega)]):p:=h
def Rt(h:p:=by unfold Hid;simp[World.setCell]):p:=h
def NW(h:p:=by simp[World.frozen?,fe]):p:=h
def YD(h:p:=by rw[co.out];simp):p:=h
def YF(h:p:=by obtain⟨b,e,bl,a'⟩:=h;exact⟨b,e,bl,a'.keeps ba (λe=>e)⟩):p:=h
def Ahk(h:p:=by simpa[World.setCell] using ey):p:=h
def KL(h:p:=by simpa using ba):p:=h
def Pm(h:p:=by rw[eu.out];exact Ac _):p:=h
def Avt(h:p:=by unfold Hid;rw[kp.out];exact iC):p:=h
def NX(h:p:=by rw[N be]at h;exact absurd h be):p:=h
def YG(h:p:=by obtain⟨p,c,e,_⟩:=dc.ap;exact⟨p,c,_,e⟩):p:=h
def Avu(h:p:=by
 have:=eN.out;rw[Ql (L.drop p) c m fk,List.drop_drop]at this;refine⟨?_,?_⟩
 ·rw[this.1];simp
 ·simp only at this;omega):p:=h
def Avv(h:p:=by have mU:=(EM.1 h.kn).1;have mT:=(EM.1 h.rs).1;exact⟨h.env.step ad,OO h.m1 ad,OO h.m2 ad,(ad.block _ mU).trans h.kn,(ad.block _ mT).trans h.rs⟩):p:=h
def Hy(h:p:=by rw[cj];simp):p:=h
def I4(h:p:=by simp at ba):p:=h
def UC(h:p:=by intro u en;simp at en;subst en;rfl):p:=h
def AA1(h:p:=by rw[<-bv.out];decide):p:=h
def UD(h:p:=by have:=cI.out;rwa[AO (BW bb.out)]at this):p:=h
def Avy(h:p:=by exact⟨be.os.trans co.os,be.tape.trans co.tape,be.output.trans co.output,Af co.size be.size,λi dI eQ=>(be.block i (Ci dI co.size) eQ).trans (co.block i dI eQ)⟩):p:=h
def Avz(h:p:=by have:=cr.out;rw[AbG f9 dy.out (.inr (by rw[jb];exact lR)),jb,V jE]at this;injection this with bt bd;exact⟨bt.symm,bd.symm⟩):p:=h
def AA2(h:p:=by
 have e:P.take c7++[c]++P.drop c7=Do P c c7:=by unfold Do;simp
 rw[<-e];exact Iv dc iG.out.size):p:=h
def NY(h:p:=by rw[bb.out];exact er):p:=h
def Hz(h:p:=by simp[b0]):p:=h
def Pn(h:p:=by simp[Region.wanted,cA]):p:=h
def AA3(h:p:=by have:=cr.out;rw[AbG f9 dy.out (.inl (by rw[jb];exact jE)),jb,N jE]at this;injection this with bt bd;exact⟨bt.symm,bd.symm⟩):p:=h
def Ru(h:p:=by have:=s[k].toNat_lt;omega):p:=h
def AvB(h:p:=by obtain rfl:=jo.out;first|with_reducible exact AgN|with_reducible exact AuJ mn|with_reducible exact AuK mn|with_reducible rfl):p:=h
def Po(h:p:=by rw[<-bv.out,N rfl]):p:=h
def GG(h:p:=by simpa using this):p:=h
def YL(h:p:=by unfold Hid;rw[<-df.out,C6];exact bx.out):p:=h
def Rv(h:p:=by injection h with a' be;rw[<-a'];simp):p:=h
def AvG(h:p:=by intro h;split at h<;>first|omega|(split at h<;>first|omega|(split at h<;>first|omega|(split at h<;>first|omega|(split at h<;>omega))))):p:=h
def AvH(h:p:=by
 rcases this with h|h|h|h
 ·omega
 ·omega
 ·omega
 ·cases h):p:=h
def MF(h:p:=by simpa using cq):p:=h
def MG(h:p:=by rw[bd,<-el,C6]):p:=h
def Rw(h:p:=by rw[<-eF.out];rfl):p:=h
def UE(h:p:=by simpa[World.setCell] using cl):p:=h
def AvJ(h:p:=by
 constructor
 ·rintro ⟨⟨a',be,cD⟩,eL,eB⟩;exact⟨⟨a',eL⟩,be,cD,eB⟩
 ·rintro ⟨⟨a',eL⟩,be,cD,eB⟩;exact⟨⟨a',be,cD⟩,eL,eB⟩):p:=h
def Rx(h:p:=by rw[<-fE];exact V5 _ _):p:=h
def Ahm(h:p:=by unfold Hid;rw[<-df.out];unfold Oo;rw[cr.out,ek.out];rfl):p:=h
def AvK(h:p:=by intro k ba;obtain⟨b,ff,e,cB⟩:=h k ba;exact⟨b,ff,e,(ad.cell (p:=⟨b,ff+k,none⟩) (World.block_lt_of_cell? w _ cB)).trans cB⟩):p:=h
def YN(h:p:=by rw[<-cF.out];exact ee):p:=h
def AvM(h:p:=by
 cases eN:S.data.toList with
 | nil=>exact absurd (by rw[show S.size=S.data.toList.length from rfl,eN];rfl) h
 | cons c r=>rfl):p:=h
def Aho(h:p:=by rw[bb.out]at h;omega):p:=h
def YO(h:p:=by have:=cI.out;rwa[AO (BW (Agj T))]at this):p:=h
def JL(h:p:=by simp[b5]):p:=h
def AvP(h:p:=by unfold Hid;rw[<-cr.out];exact P6 bv.out Ai6 (by have:=cI.out;rwa[AO (BW bb.out)]at this)):p:=h
def AvQ(h:p:=by
 have e:((λn:Int=>UInt8.ofNat n.toNat) ∘ λb:UInt8=>(b.toNat:Int))=id:=by funext b;simp
 simp[strOfNums,Ap,e]):p:=h
def Ahp(h:p:=by have bd:some sb=some b:=ad;injection bd with bd;omega):p:=h
def UF(h:p:=by have:=ei.out;omega):p:=h
def YP(h:p:=by injection e with e;exact e.symm):p:=h
def YQ(h:p:=by unfold Hid;rw[<-d8.out];exact eJ):p:=h
def Ry(h:p:=by have:=h.len;simp;omega):p:=h
def UG(h:p:=by rw[bb.out];rfl):p:=h
def Ahs(h:p:=by rw[oF];exact nR):p:=h
def YT(h:p:=by rw[np];exact nQ):p:=h
def YU(h:p:=by rw[nF];exact jw):p:=h
def MH(h:p:=by simpa using cD):p:=h
def KM(h:p:=by rw[e];rfl):p:=h
def AvT(h:p:=by
 rcases h.2 with⟨le,_⟩|⟨lf,_,_,le,_⟩
 ·cases le
 ·injection le with le;injection le with le;injection le):p:=h
def Aht(h:p:=by obtain⟨p,c,e⟩:=h.shape;exact⟨p,_,c,e⟩):p:=h
def Ahu(h:p:=by obtain⟨p,c,rfl,a',be⟩:=h;exact⟨p,c,rfl,a'.below ad,be⟩):p:=h
def MI(h:p:=by simp only;omega):p:=h
def AA7(h:p:=by unfold Hid;rw[<-co.out,AjW h]):p:=h
def Ahv(h:p:=by have:=bb.out;rw[e]at this;simp at this;omega):p:=h
def AvW(h:p:=by have:=eu.out; simp; omega):p:=h
def Rz(h:p:=by rw[bd];exact cj.dec):p:=h
def RA(h:p:=by rw[eV.out];omega):p:=h
def AvX(h:p:=by have:=fD.out;rw[<-ei.out]at this;unfold Hid;rw[<-fx.out];exact this.done.symm):p:=h
def YW(h:p:=by simp at ba;exact ba):p:=h
def Gc(h:p:=by simp[ba]):p:=h
def N1(h:p:=by simpa using be):p:=h
def AA8(h:p:=by have h:=kC.out;rw[AO (BW kE.out)]at h;unfold Hid;rw[hO.out,dx.out,h];rfl):p:=h
def AvY(h:p:=by
 rcases AX.1 b3 with rfl|b3
 ·exact bc
 ·have:=dn.fin x b3;exact⟨this.1,.inl this.2.1⟩):p:=h
def AvZ(h:p:=by have:=(AdU bv.out lv.out).1;rw[AdT (by rw[b5.out,e']),eE.out]at this;exact this):p:=h
def Ahz(h:p:=by have:=(OR bl).2.2.2.2.1;rwa[fp.out]at this):p:=h
def Av0(h:p:=by have h:=hI.1;have be:=eF.out;rw[h]at be;simp only at be;unfold Hid;rw[h,be]):p:=h
def RC(h:p:=by unfold Az;omega):p:=h
def Av3(h:p:=by
 by_cases be:j<k
 ·rw[At (show j<k+1 by omega),At be]
 ·rw[Ai (show ¬j<k+1 by omega),Ai be]):p:=h
def AA9(h:p:=by have:=CQ (w.alloc (.cells (AG x) 26)) #[.int .i64 (c+32)] [c+32] 3 rfl;simpa[AG] using this):p:=h
def AA_(h:p:=by unfold Hid;rw[<-ef.out];exact Akj (λj ed=>cI.out j (by rw[<-bx.out];exact ed))):p:=h
def Pp(h:p:=by cases e;omega):p:=h
def Av7(h:p:=by simp only[bl,ne_eq,not_true_eq_false,false_iff]at this;simp only[bl,true_iff];omega):p:=h
def Av8(h:p:=by simp only[ne_eq,bl,not_false_eq_true,true_iff]at this;simp only[bl,false_iff];omega):p:=h
def Av9(h:p:=by exact⟨_,_,rfl,Ac9 _ _ [4352+i,4449+j,4519+k] _ rfl,(RowKit.Below.refl _ _).alloc (Ac _) _⟩):p:=h
def Av_(h:p:=by exact⟨λh=>.inr (.inr (.inr h)),λh=>by rcases h with h|h|h|h<;>first|exact h|omega⟩):p:=h
def Av'(h:p:=by have:=c8.out;unfold Bf at this;rw[V (by rw[bl];simp),fp.out]at this;exact this):p:=h
def Awa(h:p:=by unfold Hid AA;simp;omega):p:=h
def YY(h:p:=by rw[<-iY.out];exact dn.size):p:=h
def YZ(h:p:=by have:=s[0].toNat_lt;omega):p:=h
def Awb(h:p:=by obtain⟨b,ff,e,cB⟩:=h.aN k (by rw[Ae1];exact ba);cases e;rw[Arp k ba]at cB;simpa using cB):p:=h
def Awd(h:p:=by have:=km.out;simp;omega):p:=h
def AA'(h:p:=by unfold Hid;rw[hO.out,Api (by rw[b5.out];exact e') Ai5,E8]):p:=h
def Awe(h:p:=by rw[be]at a';cases f<;>(rw[En]at a';injection a' with a1 a2;exact⟨a1,a2.symm⟩)):p:=h
def Awf(h:p:=by
 rcases ie.2 with⟨_,h⟩|⟨fX,eP,pv,h,_,_,kZ,_⟩
 ·omega
 ·exact⟨fX,eP,h,kZ⟩):p:=h
def Y3(h:p:=by unfold AF;rw[JT]):p:=h
def Ds(h:p:=by cases h):p:=h
def Y4(h:p:=by unfold Hid;rw[Wi];omega):p:=h
def UI(h:p:=by rw[Be];exact ee):p:=h
def Pq(h:p:=by assumption):p:=h
def Awh(h:p:=by exact⟨_,_,rfl,Ac9 _ _ [4352+i,4449+j] _ rfl,(RowKit.Below.refl _ _).alloc (Ac _) _⟩):p:=h
def UK(h:p:=by rw[oH.out];omega):p:=h
def Awi(h:p:=by
 intro x b3;rw[Bg,Ch]at b3;rcases b3 with b3|rfl
 ·exact h.bk x b3
 ·exact b2):p:=h
def RD(h:p:=by simpa using b2):p:=h
def Awk(h:p:=by
 rcases h with h|h
 ·exact Ar' (eF.out.trans h)
 ·exact Ar_ (fJ.out.trans h)):p:=h
def Y5(h:p:=by unfold maxLen; omega):p:=h
def Awl(h:p:=by obtain⟨j,ed,e⟩:=W_ L l cl;rw[<-e];exact cA.out j (by rw[bb.out]at ed;exact ed)):p:=h
def UL(h:p:=by have:=bx.out;omega):p:=h
def Awm(h:p:=by have:=(QO _ (XO k k4).1).2.2.2;rw[kG]at this;simp only at this;omega):p:=h
def Awn(h:p:=by
 rcases h.own.2 with⟨a',_⟩|⟨lf,oL,oK,a',_⟩
 ·cases a'
 ·injection a' with _ e _):p:=h
def Ps(h:p:=by simp[List.getD,h]):p:=h
def UM(h:p:=by simpa using hF):p:=h
def Y7(h:p:=by injection e with _ bt bd;omega):p:=h
def AhB(h:p:=by rw[E6];omega):p:=h
def N3(h:p:=by simp[b3]):p:=h
def AhC(h:p:=by unfold Hid;rw[i2.out];simp[ey,ea,ez]):p:=h
def Awp(h:p:=by unfold Hid IK;rw[At (show 0<m by omega),show m-1=eH by omega,hY,b5.out];rfl):p:=h
def Awq(h:p:=by unfold Hid;rw[<-ef.out];simp only[Sy,ne_eq];rintro rfl;exact cl rfl):p:=h
def UN(h:p:=by unfold BP;omega):p:=h
def Y8(h:p:=by rw[nF];rfl):p:=h
def Y9(h:p:=by rwa[AO (BW cF.out)]at this):p:=h
def Y_(h:p:=by unfold Az at cl;omega):p:=h
def Awr(h:p:=by rw[VB];omega):p:=h
def AhD(h:p:=by have:=App T D;rwa[dn.out]at this):p:=h
def Y'(h:p:=by rw[<-bx.out,e];rfl):p:=h
def AhE(h:p:=by unfold Hid;rw[<-cr.out];exact i7):p:=h
def AhF(h:p:=by unfold Hid;rw[fj.out,Ai dE];simp):p:=h
def AhG(h:p:=by unfold Hid;rw[fj.out,Ai eK];simp):p:=h
def Awt(h:p:=by unfold Hid;rw[<-cr.out];exact AjT bv.out (by rw[bb.out];exact fc)):p:=h
def AhH(h:p:=by unfold Hid;simp only[Lk];omega):p:=h
def AhI(h:p:=by unfold Hid;simp only[LG];omega):p:=h
def Za(h:p:=by unfold bne;rw[jj];rfl):p:=h
def AhJ(h:p:=by intro mI mJ e;cases e;exact ad):p:=h
def Zb(h:p:=by rw[bx.out];exact fc):p:=h
def Zc(h:p:=by rw[bx.out];exact bl):p:=h
def Zd(h:p:=by rw[mR.out];exact en):p:=h
def Ze(h:p:=by rw[Ef,dn];exact h):p:=h
def Zg(h:p:=by intro j e;cases e):p:=h
def AhK(h:p:=by rw[fp.out];exact bl):p:=h
def Zh(h:p:=by rw[bx.out];exact jn):p:=h
def ABa(h:p:=by have a':=WH L (k+1);have be:=cl.out;rw[<-eE.out]at be;omega):p:=h
def AhL(h:p:=by unfold Hid;rw[<-hU.out];omega):p:=h
def AhM(h:p:=by unfold Hid;rw[<-hT.out];omega):p:=h
def Awv(h:p:=by have:s.data.toList.length=0:=(by rw[h];rfl);exact this):p:=h
def Aww(h:p:=by have bd:some w.heap.size=some k:=e;injection bd with bd;omega):p:=h
def Zi(h:p:=by rw[fR.out];simp):p:=h
def Awx(h:p:=by have:=fb.out; simp; omega):p:=h
def AwA(h:p:=by
 rcases Bg.1 b0 with h|h
 ·exact eo y h
 ·rw[Ch]at h;subst h;exact cB):p:=h
def Zj(h:p:=by simp[Value.ownBlock]):p:=h
def ABb(h:p:=by
 have:T=ByteArray.empty:=by rw[<-ih.out,bl];simp[Xd]
 rw[this,Ajs]):p:=h
def Zk(h:p:=by rw[cF.out];exact hP):p:=h
def AhN(h:p:=by unfold Hid;rw[cu,OT,cq.out,c']):p:=h
def AhO(h:p:=by rw[<-cB];simp[dJ]):p:=h
def ABc(h:p:=by unfold Hid;rw[<-df.out];exact Xf (by rw[cr.out];exact bl)):p:=h
def AwB(h:p:=by have:=eW.out;rw[<-bb.out,Apy,h9]at this;exact this):p:=h
def AwC(h:p:=by unfold Hid;rw[<-cr.out];exact AjV (by rw[ex.out];exact bl)):p:=h
def AwD(h:p:=by rw[<-ex.out,Ak6 fd.out ej.out ib.out f_.out jp.out iW.out];rfl):p:=h
def AhP(h:p:=by unfold Hid;rw[eK];exact eJ.out):p:=h
def AhQ(h:p:=by have:=fT.out.2 h;cases this):p:=h
def AwF(h:p:=by have:=Abh 0 ao k dJ cA.out (by rw[cB,b5.out];exact eI);rwa[BY]at this):p:=h
def AwH(h:p:=by simpa[List.getD,CI ba] using e):p:=h
def Zl(h:p:=by rw[Be];exact lL):p:=h
def AwI(h:p:=by unfold Hid;rw[<-f3.out];unfold Oo;rw[cr.out,N rfl]):p:=h
def ABe(h:p:=by rw[<-eb.out,V (λh=>by rw[pe.out]at h;cases h.1)]):p:=h
def ABf(h:p:=by rw[<-eb.out,V (λh=>by rw[pg.out]at h;cases h.2)]):p:=h
def Zm(h:p:=by rw[Sx]at this;exact this):p:=h
def UO(h:p:=by simpa using bx):p:=h
def AhR(h:p:=by rw[eJ.out,bb.out];exact cl):p:=h
def AhS(h:p:=by rw[eJ.out,bb.out];exact ad):p:=h
def Zn(h:p:=by rw[bx.out];omega):p:=h
def AwK(h:p:=by unfold Hid;rw[<-df.out];exact Aem (by rw[i7];decide)):p:=h
def AhU(h:p:=by obtain⟨p,c,e,_⟩:=h;exact⟨p,c,e⟩):p:=h
def Zo(h:p:=by have:=ea b ad;omega):p:=h
def Zp(h:p:=by have:=h.len;omega):p:=h
def AwL(h:p:=by unfold Hid;rw[jl.out];simp):p:=h
def AwM(h:p:=by rw[<-ex.out,Ak5 fd.out ej.out ib.out f_.out jp.out];rfl):p:=h
def AwN(h:p:=by
 rcases Ie b w1.heap.size with le|le
 ·exact le
 ·simp[Pw le]at iX):p:=h
def AhV(h:p:=by have:=s[1].toNat_lt;omega):p:=h
def AhW(h:p:=by unfold Er BP at *;omega):p:=h
def AwQ(h:p:=by
 cases ad:Cg c with
 | false=>rfl
 | true=>have:=JD.1 ad;omega):p:=h
def AhX(h:p:=by unfold Hid;rw[AlQ,eo.out]):p:=h
def Zq(h:p:=by rw[<-ef.out];rfl):p:=h
def AwR(h:p:=by rw[<-eN.out];have h:=bd;unfold Kw at h;rw[h];rfl):p:=h
def AhY(h:p:=by rw[eh.out];exact ku.out):p:=h
def AhZ(h:p:=by rw[eh.out];exact cA.out):p:=h
def UR(h:p:=by rw[<-em];rfl):p:=h
def RF(h:p:=by simp[hF]):p:=h
def Zs(h:p:=by unfold Er;omega):p:=h
def US(h:p:=by unfold Hid;omega):p:=h
def ABg(h:p:=by rw[V_];omega):p:=h
def AwT(h:p:=by rw[<-ef.out,Ai a',FE];by_cases cD:z=3<;>simp[cD]):p:=h
def AwU(h:p:=by unfold Hid;rw[hO.out,AdT (by rw[b5.out,e']),eE.out]):p:=h
def Zt(h:p:=by rw[b3];exact hJ):p:=h
def ABh(h:p:=by have:=oS.out;rw[dx.out,Bc,Bc]at this;exact this):p:=h
def RG(h:p:=by rw[cu,h]):p:=h
def AwV(h:p:=by rw[j_.out,At jh,BG];by_cases h:d=108<;>simp[h]):p:=h
def AwW(h:p:=by have:=Al3 T Y;rw[eo.out]at this;exact this.symm):p:=h
def AwY(h:p:=by intro b ff e;cases e;have:=i9.out.size;omega):p:=h
def Ah0(h:p:=by simpa[Act.eval] using b0):p:=h
def Ah1(h:p:=by simp[Value.oneCell']):p:=h
def Zu(h:p:=by unfold Hid;simp):p:=h
def Zv(h:p:=by simpa using ed):p:=h
def ABi(h:p:=by unfold Hid;rw[Ku (by rw[ja.out];omega),ja.out]):p:=h
def AwZ(h:p:=by rw[pu.out];omega):p:=h
def ABj(h:p:=by obtain⟨_,_,er⟩:=h.map.mem _ (IR cj);exact er.facts.2.1):p:=h
def Ah2(h:p:=by unfold Hid;rw[E6];rfl):p:=h
def Ah3(h:p:=by rw[<-eb.out,N jZ.out]):p:=h
def Aw0(h:p:=by rw[<-ex.out,Ak4 fd.out ej.out ib.out f_.out];rfl):p:=h
def Ah5(h:p:=by simp[Xa xs f t cj ep]):p:=h
def Aw1(h:p:=by obtain⟨b,e,a'⟩:=h;exact⟨b,e,a'.keeps ba (λ_ _ _ e=>e)⟩):p:=h
def ABl(h:p:=by have:=oS.out;rw[dx.out,Bc]at this;exact this):p:=h
def Ah6(h:p:=by rw[<-bb.out,h];rfl):p:=h
def Aw5(h:p:=by injection this with a1 a2;exact⟨a1.symm,a2.symm⟩):p:=h
def Aw6(h:p:=by have:=Acl s.data.toList;rwa[eo.out]at this):p:=h
def Aw7(h:p:=by exact be.aq (λb ad e=>⟨e.1.1,e.1.2.1,iT b e.2 e.1.2.2⟩)):p:=h
def Aw8(h:p:=by simp only[DY]at h;obtain⟨rfl,rfl,rfl,rfl⟩:=h;rfl):p:=h
def Aw9(h:p:=by have:=kU.out;have:=lD.out;have:=cp.out;omega):p:=h
def Aw_(h:p:=by rw[<-jq.out];unfold Fp;rw[N ⟨eD,et⟩]):p:=h
def Aw'(h:p:=by rintro j ⟨⟩;rw[mo.out];exact Ac _):p:=h
def Axa(h:p:=by have:=i1.out;rw[E6,E6]at this;exact this):p:=h
def Ah9(h:p:=by rw[eu.out];exact ee):p:=h
def Ah_(h:p:=by rw[eV.out];exact em):p:=h
def Axc(h:p:=by unfold Hid r1;rw[kM.out,lS.out,bb.out];rfl):p:=h
def Ah'(h:p:=by rw[c6.out];exact ii):p:=h
def Axd(h:p:=by unfold Hid;rw[<-df.out,OJ cr.out,eo.out]):p:=h
def Axe(h:p:=by unfold Hid;rw[lm.out];exact(Aq6 kc.out).1):p:=h
def Axf(h:p:=by unfold Hid;rw[<-ef.out,Aog cr.out,df.out]):p:=h
def Axg(h:p:=by rw[<-eE.out];unfold Br;rw[fJ.out,V h]):p:=h
def Aia(h:p:=by
 split
 ·omega
 ·split<;>omega):p:=h
def Axh(h:p:=by rw[cB.exp,E8];exact LA _ _ trivial):p:=h
def Aib(h:p:=by rw[<-ba.out];decide):p:=h
def ABn(h:p:=by rw[<-eT.out];by_cases h:c=46<;>simp[h]):p:=h
def ABo(h:p:=by rw[mg.out];decide):p:=h
def Aic(h:p:=by simp[World.setCell]):p:=h
def Axi(h:p:=by rw[e,Apz T X k ku.out]at this;exact this):p:=h
def Axj(h:p:=by rw[<-ex.out,Ak3 fd.out ej.out ib.out];rfl):p:=h
def ABp(h:p:=by unfold Hid;rw[oY.out,oV.out,bl];simp[A7]):p:=h
def Axk(h:p:=by simpa[List.getD,CI (show k<xs.length by omega)] using e):p:=h
def Axl(h:p:=by
 rintro b ad eQ (e|e)
 ·have:=ea b e;omega
 ·exact eQ e):p:=h
def Axn(h:p:=by unfold Hid;rw[<-AoL eQ em];exact cr.out):p:=h
def Axp(h:p:=by obtain⟨b,e,a'⟩:=h;exact⟨b,e,ba.cell a' (λe=>e)⟩):p:=h
def Aid(h:p:=by rcases kV with⟨mn,jr⟩|⟨mn,jr⟩):p:=h
def Axr(h:p:=by have:=i1.out;rw[E6]at this;exact this):p:=h
def Aie(h:p:=by have:=c.gw;omega):p:=h
def Axs(h:p:=by unfold Hid;rw[lm.out];exact Aq7 kc.out):p:=h
def Axt(h:p:=by rw[<-df.out];have:=Xg T ao;omega):p:=h
def Aif(h:p:=by simp at a';omega):p:=h
def Aig(h:p:=by have:=bb.out;omega):p:=h
def Aih(h:p:=by rw[ei.out];omega):p:=h
def ABq(h:p:=by rw[<-bv.out];exact At ⟨a',be,eL,cD⟩):p:=h
def Zx(h:p:=by rw[<-b3];rfl):p:=h
def Aii(h:p:=by have:=b1.out;omega):p:=h
def Aij(h:p:=by simp at o4;omega):p:=h
def Axu(h:p:=by have:=h.az.2.2.2.2.2.2;omega):p:=h
def Zy(h:p:=by simp[C8]):p:=h
def Zz(h:p:=by simp[h.len]):p:=h
def N4(h:p:=by rw[ep]):p:=h
def Axx(h:p:=by unfold Hid;rw[swp_size];exact lN.out):p:=h
def Axy(h:p:=by unfold Hid;rw[<-ac.out];simp[hR.out]):p:=h
def Axz(h:p:=by unfold Hid;rw[iK.out];cases c<;>rfl):p:=h
def Aik(h:p:=by rw[e]at i4;simpa[AqZ] using i4):p:=h
def JM(h:p:=by simp[h]):p:=h
def AxA(h:p:=by simp[show j<T.dec.length by omega]):p:=h
def Ail(h:p:=by rw[Bc,BB];omega):p:=h
def Aim(h:p:=by rw[jZ.out];simp):p:=h
def ABr(h:p:=by rw[<-eb.out,N ⟨pe.out,pg.out⟩]):p:=h
def AxB(h:p:=by intro u en;obtain⟨y,_,rfl⟩:=Cc.1 en;rfl):p:=h
def AxC(h:p:=by rw[dm.out];simp only[A4];omega):p:=h
def AxD(h:p:=by have:=cI.out;rwa[AO (BW (ApH T))]at this):p:=h
def Ain(h:p:=by rw[c6.out];omega):p:=h
def Aio(h:p:=by simp[List.getD,f7]):p:=h
def MK(h:p:=by have h:=cp.out.maps cv dc (Ac _) fv.out c' Dq da b5;rw[fw.out]at h;exact h):p:=h
def Aiz(h:p:=by unfold Hid;rw[iI.out];unfold Gt;rw[V I5,N O]):p:=h
def ZA(h:p:=by unfold Hid;rw[iI.out];unfold Fs;rw[V ZB,V KQ,V O,V O,N O]):p:=h
def ZC(h:p:=by unfold Hid;rw[iI.out];unfold FO;rw[V I5,V KQ,V O,V O,V O,N O]):p:=h
def Ax0(h:p:=by exact⟨by rw[ac.out];first|rfl|(exact XP O)|(simp;omega),rfl⟩):p:=h
def Ax7(h:p:=by
 by_cases cB:127<k\/253<(L.map ByteArray.size).sum+(k-1)
 ·rw[N cB]at a';injection a' with bt bd;exact .inl ⟨O,bt.symm,bd.symm⟩
 ·rw[V cB]at a';injection a' with bt bd;exact .inr ⟨O,bt.symm,bd.symm⟩):p:=h
def Aye(h:p:=by
 have ad:(i.bytes:Int)*(c:Int)<=281474976710656:=by
  have h:((i.bytes*c:Nat):Int)<=281474976710656:=O;rwa[KS]at h
 have ga:=run_make (P:=P) w t e i z ep dI b5 kz ky n c O O ad O;simp only[Ef]at ga;exact ga):p:=h
def ZI(h:p:=by
 by_cases e:j=k
 ·rw[e];exact ej
 ·exact cA.out j O):p:=h
def Ayk(h:p:=by exact Lx (W:=W) (b:=w1.heap.size) (ff:=0) (((Jp w1 #[.int .i64 131073] 3 0 [131073] rfl AAw).alloc _).alloc _) J db cm d9 rfl):p:=h
def ZJ(h:p:=by intro k ba;have gc:k=0:=IA;rcases gc with rfl<;>rfl):p:=h
def Ayq(h:p:=by have:=DO r.tail 12 O;omega):p:=h
def Ayr(h:p:=by have:=DO r.tail 28 O;omega):p:=h
def Ays(h:p:=by unfold Hid;rw[iI.out];unfold FO;rw[V I5,V KQ,V O,V O,N O]):p:=h
def Ayy(h:p:=by
 have e:a=c*2*z:=by rw[Sr];exact h.at_
 have:=ad.aO (c*2);rw[<-e]at this;exact SortedIn.congr (SortedIn.mono this (Ac _) O) (λi dI _=>h.same i dI)):p:=h
def AiK(h:p:=by
 cases cy with
 | nil=>rfl
 | cons y r=>obtain⟨_,_,e,_⟩:=e9 0 J;cases e):p:=h
def AyB(h:p:=by subst e;rw[O5 _ _ _ _ O]at ad;have a':=(lO.1.lt ad).1;intro bd;simp only[Value.ownBlock,FI]at bd;subst bd;exact absurd i' O):p:=h
def ZL(h:p:=by rw[a'.out];exact λh=>absurd h.1 Aw):p:=h
def AyG(h:p:=by refine(lO.1.mono ef).kept jC.2 (λb ad bd=>?_);have a':=(lO.1.lt ad).1;simp only[FI]at bd;subst bd;exact absurd i' O):p:=h
def AyK(h:p:=by obtain⟨m,er⟩:∃m,n-L.length=m+1:=⟨n-L.length-1,O⟩;rw[er,Aju,Sj,Bc,PM,show n-(L.length+1)=m by omega];exact J):p:=h
def AyL(h:p:=by obtain⟨s,b2,_,_,cD⟩:=Pd lX;have:=AR.1 dH s b2;simp only[AJ,A4]at this;have:v=1:=O;subst this;rfl):p:=h
def LU(h:p:=by rw[eX.out];exact C5):p:=h
def AyO(h:p:=by obtain⟨m,er⟩:∃m,L.length-k=m+1:=⟨L.length-k-1,O⟩;rw[er,Aju,Sj,show L.length-(k+1)=m by omega];exact J):p:=h
def AiN(h:p:=by rw[<-c8.out];unfold QM;rw[Ai (λh=>AiI)];rfl):p:=h
def AyQ(h:p:=by
 rw[N rfl];constructor
 ·intro e;cases e
 ·intro be;have:=be k (Ac _) O;rw[h]at this;cases this):p:=h
def AiP(h:p:=by rw[<-c8.out];unfold QC;rw[V (λh=>AiI)]):p:=h
def AiQ(h:p:=by rw[<-c8.out];unfold QU;rw[V (λh=>AiI)]):p:=h
def RO(h:p:=by exact cA.out j O):p:=h
def ZP(h:p:=by have:=DO r.tail 15 O;omega):p:=h
def ABU(h:p:=by rw[<-b0];exact⟨O,by exact_mod_cast pr⟩):p:=h
def AyT(h:p:=by
 refine DataW.weights_mem_each (j:=j) (t:=f.type) (d:=(cy[j]' O).1) ?_ ?_ k ba
 ·simp[ed]
 ·simp[kK]):p:=h
def ZQ(h:p:=by have:=DO r.tail 4 O;omega):p:=h
def ZR(h:p:=by have:=DO r.tail 9 O;omega):p:=h
def AiR(h:p:=by refine bodyPost_ret (AfH rfl _ _ _) rfl ?_;exact C5):p:=h
def JN(h:p:=by omega):p:=h
def AyX(h:p:=by obtain⟨m,er⟩:∃m,n-L.length=m+1:=⟨n-L.length-1,O⟩;rw[er,Gg,LW (Ac _)];exact J):p:=h
def AiV(h:p:=by rw[Ch]at cB;rw[cB];exact⟨O,O,O⟩):p:=h
def Ay0(h:p:=by first|(rw[fi.out];done)|(rw[fi.out];simp;done)|(rw[fi.out];simp;omega)):p:=h
def ABW(h:p:=by rw[<-dx.out];unfold IK;rw[At O,show m-1=eH by omega,hY,b5.out];simp;rfl):p:=h
def Ay2(h:p:=by unfold Hid;rw[fj.out,fh.out,h7.out,cl,h7.out];exact Ae):p:=h
def Ay3(h:p:=by
 cases xs with
 | nil=>rfl
 | cons y r=>obtain⟨_,_,e,_⟩:=e9 0 J;cases e):p:=h
def RP(h:p:=by rw[fi.out];rfl):p:=h
def Ay4(h:p:=by have:=fD.out.comp bv.out Pk cp.out iD.out fS.out;rwa[Ef]at this):p:=h
def Ay6(h:p:=by unfold Hid;rw[<-df.out];exact Aem (by rw[Aek Yz,co.out];exact bl)):p:=h
def Ay7(h:p:=by
 by_cases e:j=k
 ·subst e;rw[jb];omega
 ·exact dy.out j O):p:=h
def ZT(h:p:=by rw[b5.out];exact eI):p:=h
def Ay9(h:p:=by rw[Aaw O];rw[Aaw O]at f6;exact f6):p:=h
def Ay_(h:p:=by have:=ih.out;rw[AO H6]at this;unfold Hid;rw[<-this,c6.out]):p:=h
def Ay'(h:p:=by rw[<-jq.out];unfold Fp;rw[V O,V O,N ⟨eD,et⟩]):p:=h
def Azb(h:p:=by
 by_cases e:j=k
 ·subst e;rw[cA];omega
 ·exact cI.out j O):p:=h
def Azc(h:p:=by exact⟨rfl,((b2.out.env.ab.setCell J _).setCell J _).setCell J _⟩):p:=h
def Azd(h:p:=by unfold Hid;rw[iI.out];unfold Fs;rw[V ZB,V KQ,N O]):p:=h
def AiY(h:p:=by rw[dy m (Ac _) O];simp):p:=h
def ZU(h:p:=by rw[c6.out];exact⟨rfl,dN⟩):p:=h
def Aze(h:p:=by unfold Hid;rw[cu,N (by rw[bl];simp)];exact ABb):p:=h
def Azg(h:p:=by have e:AF T (c::r)=Dz T c++AF T r:=Y3;rw[e,Bc,BB];omega):p:=h
def Azh(h:p:=by rw[<-jq.out];unfold Fp;rw[V O,N ⟨eD,et⟩]):p:=h
def Azk(h:p:=by
 by_cases m5:i<k
 ·exact cI.out i m5
 ·exact AAT):p:=h
def ZV(h:p:=by simpa using cm):p:=h
def Azm(h:p:=by obtain⟨s,b2,_,_,rfl⟩:=Pd dH;have:=AR.1 eB s b2;exact GG):p:=h
def Azn(h:p:=by unfold Hid;rw[<-cr.out,<-co.out];exact Aek Yz):p:=h
def Azo(h:p:=by unfold Az;rw[V O,V O,V O,N O]):p:=h
def ABZ(h:p:=by
 by_cases e:j=k
 ·rw[e];exact h
 ·exact be j O O):p:=h
def Azq(h:p:=by have:=dy (j+1) O;simpa only[CS] using this):p:=h
def Ai4(h:p:=by unfold Hid;simp;omega):p:=h
def Ai5(h:p:=by rw[b5.out];exact kl):p:=h
def Ai6(h:p:=by rw[bb.out];exact lz):p:=h
def Azt(h:p:=by
 by_cases cj:As T.map c=[]
 ·exact Hy
 ·exact ABj):p:=h
def ZW(h:p:=by rw[c6.out];rfl):p:=h
def Azu(h:p:=by unfold Hid;rw[iI.out];unfold Fs;rw[N I5]):p:=h
def Azv(h:p:=by unfold Hid;rw[iI.out];unfold Gt;rw[N I5]):p:=h
def Azw(h:p:=by unfold Hid;rw[iI.out];unfold FO;rw[N I5]):p:=h
def Azx(h:p:=by unfold Hid;rw[b4.out,V Aw,me.out,FE]):p:=h
def Azy(h:p:=by exact⟨none,0,rfl,λk ba=>I4,RowKit.Below.refl _ _⟩):p:=h
def Azz(h:p:=by unfold Bq;rw[V O,V O,V O]):p:=h
def AzA(h:p:=by obtain⟨j,a',be⟩:=h.mem m er;exact⟨j,O,be⟩):p:=h
def AzB(h:p:=by obtain⟨p,cap,rfl,e9⟩:=ld.ap;exact⟨p,cap,rfl,e9,cl⟩):p:=h
def AzC(h:p:=by unfold AB;rw[V O,V O,em];rfl):p:=h
def AzD(h:p:=by rw[ga];unfold BL;rw[V O,V O]):p:=h
def AzE(h:p:=by rw[<-ex.out];exact SM (λh=>O)):p:=h
def AzF(h:p:=by rw[<-ex.out];exact SM (λh=>Aho)):p:=h
def Ai8(h:p:=by rw[Eu,N O]at e;exact AwH):p:=h
def AzH(h:p:=by unfold Hid;rw[b4.out,V Aw,l'.out]):p:=h
def AzI(h:p:=by unfold Hid;exact AR.1 i5.out c AhO):p:=h
def AzK(h:p:=by have:=a' (i+1) O;simpa using this):p:=h
def AAo(h:p:=by
 constructor
 ·intro be j cD eL;exact ABZ
 ·intro be j cD eL;exact be j O O):p:=h
def AAu(h:p:=by
 by_cases e:j=k
 ·subst e;rw[cB,b5.out];exact eI
 ·exact RO):p:=h
def AAv(h:p:=by
 by_cases e:j=k
 ·rw[e,jk.out];exact co.out
 ·exact RO):p:=h
def AAw(h:p:=by intro k ba;have gc:k=0:=IA;rcases gc with rfl;rfl):p:=h
def AAy(h:p:=by
 by_cases e:j=k
 ·rw[e,cF.out,h_.out]
 ·exact RO):p:=h
def U2(h:p:=by exact⟨rfl,dF.out.ab⟩):p:=h
end Go.Proofs.YtblcoicaeeiojaaGreatDoor
