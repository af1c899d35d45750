/- The references of table: -/
import Derived.Test.YtblcoicaeeiojaaGreatDoorSOaPmCtxFact
set_option linter.all false
set_option maxHeartbeats 16000000
set_option maxRecDepth 100000
open Go.Proofs.Tryz
namespace Go.Proofs.YtblcoicaeeiojaaGreatDoor
open Go.RowKit
def Md(T:Y)(c:Int):Bool:=!AP T.ah c&&(!Cg c&&plain T c)
def Aft(x:TV)(T:Y)(bl:Int)(w:World)(ci:Ah w x T)(d5:∀p n c,x.a9=.slice p n c->n<=c)(ex:Hid (Av T=bl)):Calls prog 55 #[x.agg] w (Ar (.int .i64 bl) w):=by
 obtain⟨a0,a1,a2,a3,a4,a5,cy,cA,cB,fQ,fR,fS⟩:=x;obtain⟨cC,ce,bc,d6,cD⟩:=ci.af;obtain⟨ne,dm⟩:∃n,T.af.length=n:=⟨_,rfl⟩;rw[dm]at bc cD;simp only at bc;subst bc;obtain⟨cF,cd,dn,d7,e'⟩:=ci.dec;obtain⟨b0,dq⟩:∃n,T.dec.length=n:=⟨_,rfl⟩;rw[dq]at dn e';simp only at dn;subst dn;have fa:Hid (b0<=cd):=d5 _ _ _ rfl;clear d5;obtain⟨ds,cI,dx,d9,cO⟩:=ci.ah;obtain⟨b9,dy⟩:∃n,T.ah.length=n:=⟨_,rfl⟩;rw[dy]at dx cO;simp only at dx;subst dx;have C:=U (Am.new ci);have fb:=U d6;have d_:=U d7;have fc:=U d9;have d':=U dm;have dz:=U dq;have ea:=U dy;obtain⟨eb,fd⟩:∃B,Hid (r1 T=B):=⟨_,rfl⟩;obtain⟨ec,ej⟩:∃B,Hid (r2 T=B):=⟨_,rfl⟩;obtain⟨ed,ib⟩:∃B,Hid (r3 T=B):=⟨_,rfl⟩;obtain⟨ee,f_⟩:∃B,Hid (r4 T=B):=⟨_,rfl⟩;obtain⟨ef,jp⟩:∃B,Hid (r5 T=B):=⟨_,rfl⟩;obtain⟨B6,iW⟩:∃B,Hid (r6 T=B):=⟨_,rfl⟩;clear ci d6 d7 d9 dm dq dy;simp only[TV.agg];go_enter func55,ntmps55;obtain⟨⟨ac,ad,am,a9,a',ba⟩,⟨bb,bd,be,A,L,F⟩⟩:=C.out.box.load;go_wp2_with fail;refine(As5 _ T eb _ C.out.tab fd).mono ?_;rintro e w1 ⟨rfl,bt⟩;replace C:=U (C.out.step bt);clear bt ac ad am a9 a' ba bb bd be A L F;cases eb with
 | false=>go_wp2;go_ret;exact⟨by rw[<-ex.out,AbB fd.out];rfl,C.out.ab⟩
 | true =>
  obtain⟨⟨ac,ad,am,a9,a',ba⟩,⟨bb,bd,be,A,L,F⟩⟩:=C.out.box.load;go_wp2_with fail;refine(AsS _ T ec _ C.out.tab fd.out ej).mono ?_;rintro e w2 ⟨rfl,bt⟩;replace C:=U (C.out.step bt);clear bt ac ad am a9 a' ba bb bd be A L F;cases ec with
  | false=>go_wp2;go_ret;exact⟨by rw[<-ex.out,AbC fd.out ej.out];rfl,C.out.ab⟩
  | true =>
   obtain⟨⟨ac,ad,am,a9,a',ba⟩,⟨bb,bd,be,A,L,F⟩⟩:=C.out.box.load;go_wp2_with fail;refine(AsV _ T ed _ C.out.tab ib).mono ?_;rintro e w3 ⟨rfl,bt⟩;replace C:=U (C.out.step bt);clear bt ac ad am a9 a' ba bb bd be A L F;cases ed with
   | false=>go_wp2;go_ret;exact⟨Axj,C.out.ab⟩
   | true =>
    obtain⟨⟨ac,ad,am,a9,a',ba⟩,⟨bb,bd,be,A,L,F⟩⟩:=C.out.box.load;go_wp2_with fail;refine(As3 _ T ee _ C.out.tab f_).mono ?_;rintro e fT ⟨rfl,bt⟩;replace C:=U (C.out.step bt);clear bt ac ad am a9 a' ba bb bd be A L F;cases ee with
    | false=>go_wp2;go_ret;exact⟨Aw0,C.out.ab⟩
    | true =>
     obtain⟨⟨ac,ad,am,a9,a',ba⟩,⟨bb,bd,be,A,L,F⟩⟩:=C.out.box.load;go_wp2_with fail;refine(Asv _ T ef _ C.out.tab ej.out jp).mono ?_;rintro e fU ⟨rfl,bt⟩;replace C:=U (C.out.step bt);clear bt ac ad am a9 a' ba bb bd be A L F;cases ef with
     | false=>go_wp2;go_ret;exact⟨AwM,C.out.ab⟩
     | true =>
      obtain⟨⟨ac,ad,am,a9,a',ba⟩,⟨bb,bd,be,A,L,F⟩⟩:=C.out.box.load;go_wp2_with fail;refine(Ase _ T B6 _ C.out.tab fd.out f_.out iW).mono ?_;rintro e w6 ⟨rfl,bt⟩;replace C:=U (C.out.step bt);clear bt ac ad am a9 a' ba bb bd be A L F;cases B6 with
      | false=>go_wp2;go_ret;exact⟨AwD,C.out.ab⟩
      | true =>
       have b':=U (VR fd.out ej.out ib.out f_.out iW.out);have eg:=U (Afm f_.out);have fV:Hid (b0<=256):=by unfold Hid;rw[<-dz.out];exact(Qr fd.out).2.2.1
       have eh:Hid (bl=if r7 T=false then 7 else if r8 T=false then 8 else if r9 T=false then 9 else 0):=by
        unfold Hid;rw[<-ex.out,AbD fd.out ej.out ib.out f_.out jp.out iW.out]
       obtain⟨⟨_,_,_,_,_,_⟩,⟨_,_,_,_,L,_⟩⟩:=C.out.box.load;go_wp2;clear L;go_loopw[40] (λi wr=>∃k:Nat,k<=ne/\i=.int .i64 k/\Hid ((T.af.take k).all (AP T.dec)=true)/\Hid (Am w ⟨a0,a1,a2,a3,a4,a5,cy,cA,cB,.slice cF b0 cd,.slice cC ne ce,.slice ds b9 cI⟩ T wr)) (λi _=>ne-(intOf i).toNat)
       case atStart=>exact⟨0,Au _,rfl,DH,C⟩
       case round=>
        obtain⟨k,ei,rfl,b3,bc⟩:=hrel;by_cases cj:k<ne
        ·have b4:k<T.af.length:=by rw[d'.out];exact cj
         obtain⟨b,ff,rfl,bx⟩:=(fb.out.below bc.out.ab) k b4;have b1:=Fj (AP T.dec) T.af k 0 b4;rw[b3.out,BG]at b1;obtain⟨c,cf⟩:∃c,T.af.getD k 0=c:=⟨_,rfl⟩;rw[cf,Ns b'.out]at b1;rw[cf]at bx;obtain⟨cl,ek⟩:∃cl,Hid (As T.dec c=cl):=⟨_,rfl⟩;rw[ek.out]at b1;have cm:=U b1;have A:=bc.out.at9;clear b1 cf;simp only at A;go_wp2_with fail;refine(Mu _ T.dec c cl _ bc.out.tab.dec ek).mono ?_;rintro e fW ⟨q,m,b5,rfl,el,_,_,em⟩;have en:=U (bc.out.step em);have eo:=U el;clear em A el;cases m with
         | zero =>
          have bs:Hid (bl=7):=by
           have:cl=[]:=Bw eo.out;have fe:r7 T=false:=D4 _ T.af (k+1) (by rw[cm.out,this];rfl);unfold Hid;rw[eh.out,N fe]
          go_wp2;go_ret;rw[bs.out];exact⟨rfl,en.out.ab⟩
         | succ m =>
          have fX:(((m+1:Nat):Int)==0)=false:=Ae;have fg:Hid ((T.af.take (k+1)).all (AP T.dec)=true):=by
           have:cl≠[]:=λh=>by have:=eo.out;rw[h]at this;simp at this
           unfold Hid;rw[cm.out];exact At this
          go_wp2;go_roundw
          case rel=>exact⟨k+1,O,An,fg,en⟩
          case measure=>simp[intOf];omega
        ·obtain rfl:ne=k:=by omega
         have fh:Hid (r7 T=true):=by
          have:=b3.out;rw[AO (BW d'.out)]at this;exact this
         have ep:Hid (bl=if r8 T=false then 8 else if r9 T=false then 9 else 0):=by
          unfold Hid;rw[eh.out,fh.out,V J]
         have A:=bc.out.at9;simp only at A;clear b3;go_wp2;clear A;obtain⟨eq,rfl⟩:∃eq:World,eq=wr:=⟨_,rfl⟩;have fi:=U bc.out;clear bc;go_loopw[54] (λi wr=>∃k:Nat,k<=b0/\i=.int .i64 k/\Hid ((Ck T (T.dec.take k)).Nodup)/\Hid (Am w ⟨a0,a1,a2,a3,a4,a5,cy,cA,cB,.slice cF b0 cd,.slice cC ne ce,.slice ds b9 cI⟩ T wr)) (λi _=>b0-(intOf i).toNat)
         case atStart=>exact⟨0,Au _,rfl,by simp[Hid,Ck],fi⟩
         case round=>
          obtain⟨k,ei,rfl,b3,bc⟩:=hrel;by_cases cj:k<b0
          ·have b4:k<T.dec.length:=by rw[dz.out];exact cj
           obtain⟨b,ff,v,rfl,bx,bv,b6,b5,rfl,b7,ca⟩:=(d_.out.below bc.out.ab) k b4;have c2:=Ow (Jw ej.out).2.2.1 k b4;obtain⟨⟨f,y⟩,cg⟩:∃s,T.dec.getD k Ay=s:=⟨_,rfl⟩;rw[cg]at bx bv b7 ca c2;simp only at bx bv b7 ca c2;obtain⟨m,cb⟩:∃m,y.length=m:=⟨_,rfl⟩;rw[cb]at bv ca;have er:=U cg;have fj:=U c2;have c3:=U cb;have c4:=U (bc.out.step ((Al _ _).alloc (Ac _) (.cells #[.int .i64 f,.slice b6 m b5] 73)));have co:=U (Gi.new wr f (.slice b6 m b5) 73);have es:=U (BE.alloc b7 (.cells #[.int .i64 f,.slice b6 m b5] 73));have A:=c4.out.at9;simp only at A;have fY:(0:Int)<=(k:Int):=O;have fZ:(k:Int)<=(cd:Int):=by have:=fa.out;omega
           have f0:(k:Int)<(b0:Int):=O;clear cg c2 cb b7;go_wp2;clear A bx bv;obtain⟨c5,et⟩:∃c5:World,c5=wr.alloc (.cells #[.int .i64 f,.slice b6 m b5] 73):=⟨_,rfl⟩;rw[<-et]at c4 co es|-;obtain⟨f1,dE⟩:∃q:Nat,q=wr.heap.size:=⟨_,rfl⟩;rw[<-dE]at co;simp only[<-dE];clear et dE bc;go_loopw[64] (λi wr=>∃j:Nat,j<=k/\i=.int .i64 j/\Hid (∀ij,ij<j->Jk T (f,y) (T.dec.getD ij Ay)=false)/\Hid (Below c5.heap.size c5 wr)) (λi _=>k-(intOf i).toNat)
           case atStart=>exact⟨0,Au _,rfl,λij h=>absurd h (FH _),Al _ _⟩
           case round=>
            obtain⟨j,fk,rfl,eu,c6⟩:=hrel;by_cases dF:j<k
            ·have cp:j<T.dec.length:=by omega
             have c7:=U (c4.out.step c6.out);obtain⟨f2,f3,f4,dG,bx,bv,cq,cr,rfl,c8,dH⟩:=(d_.out.below c7.out.ab) j cp;injection dG with dG;injection dG with c9 fl;subst c9;subst fl;have c':=Ow (Jw ej.out).2.2.1 j cp;obtain⟨⟨b2,cc⟩,b8⟩:∃s,T.dec.getD j Ay=s:=⟨_,rfl⟩;rw[b8]at bx bv c8 dH c';simp only at bx bv c8 dH c';obtain⟨mb,dJ⟩:∃m,cc.length=m:=⟨_,rfl⟩;rw[dJ]at bv dH;obtain⟨ev,dK⟩:∃B,AV T f=B:=⟨_,rfl⟩;obtain⟨ew,dL⟩:∃B,AV T b2=B:=⟨_,rfl⟩;have cs:=U b8;have ey:Jk T (f,y) (b2,cc)=(ev&&(ew&&decide (y=cc))):=by simp only[Jk,dK,dL]
             have mK:=U ey;have o6:Hid (Jk T (f,y) (b2,cc)=false->∀ij,ij<j+1->Jk T (f,y) (T.dec.getD ij Ay)=false):=λh ij f5=>by
              by_cases fm:ij<j
              ·exact eu.out ij fm
              ·obtain rfl:ij=j:=by omega
               rw[cs.out];exact h
             have ct:=U (c7.out.step ((Al _ _).alloc (Ac _) (.cells #[.int .i64 b2,.slice cq mb cr] 73)));have jF:=U (c6.out.alloc c6.out.size (.cells #[.int .i64 b2,.slice cq mb cr] 73));have ez:=U (co.out.below jF.out);have dM:=U (Gi.new wr b2 (.slice cq mb cr) 73);have dN:=U (es.out.below jF.out);have dO:=U (BE.alloc c8 (.cells #[.int .i64 b2,.slice cq mb cr] 73));have fn:=U c';have fo:=U dJ;have eA:=U dK;have eB:=U dL;clear b8 c' dJ c8 ey dK dL;go_upto_region 25 with(fail);clear bx bv;obtain⟨W,eC⟩:∃W:World,W=wr.alloc (.cells #[.int .i64 b2,.slice cq mb cr] 73):=⟨_,rfl⟩;rw[<-eC]at ct jF ez dM dN dO|-;obtain⟨f6,dP⟩:∃q:Nat,q=wr.heap.size:=⟨_,rfl⟩;rw[<-dP]at dM;simp only[<-dP];clear eC dP;obtain⟨⟨ac,ad,am,a9,a',ba⟩,⟨bb,bd,be,A,L,F⟩⟩:=ct.out.box.load;obtain⟨u0,u1⟩:=ez.out;obtain⟨fp,fq⟩:=dM.out;simp only at ac ad am a9 a' ba bb bd be A L F;have f7:=λp=>Aj ac p;have f8:=λp=>Aj ad p;have f9:=λp=>Aj am p;have f':=λp=>Aj a9 p;have ga:=λp=>Aj a' p;have gb:=λp=>Aj ba p;have gc:=λp=>Aj bb p;have gd:=λp=>Aj bd p;have ge:=λp=>Aj be p;have gf:=λp=>Aj A p;have gg:=λp=>Aj L p;have gh:=λp=>Aj F p;have gi:=λp=>Aj u0 p;have gj:=λp=>Aj u1 p;have gl:=λp=>Aj fp p;have gm:=λp=>Aj fq p;have dQ:=λp=>Dm (w:=W) (p:=p) λdR dS=>XV T b'.out eg.out 256 _ f dR (b'.out.dp f) (ct.out.step dS).tab;have dT:=λp=>Dm (w:=W) (p:=p) λdR dS=>XV T b'.out eg.out 256 _ b2 dR (b'.out.dp b2) (ct.out.step dS).tab;simp only[TV.agg,eA.out]at dQ;simp only[TV.agg,eB.out]at dT;have mL:=U dQ;have mM:=U dT;clear dQ dT;cases ev with
             | false =>
              exact AAb
             | true =>
              cases ew with
              | false =>
               exact AAb
              | true =>
               have eD:y.length=2:=by
                apply JQ;intro h;have:=Mb (T:=T) (c:=f) (by rw[fj.out];exact h);rw[eA.out]at this;cases this
               have eE:cc.length=2:=by
                apply JQ;intro h;have:=Mb (T:=T) (c:=b2) (by rw[fn.out];exact h);rw[eB.out]at this;cases this
               obtain⟨io,ip,rfl⟩:∃a b,y=[a,b]:=by
                match y,eD with
                | [a,b],_=>exact⟨a,b,rfl⟩
               obtain⟨eF,eG,rfl⟩:∃a b,cc=[a,b]:=by
                match cc,eE with
                | [a,b],_=>exact⟨a,b,rfl⟩
               obtain rfl:2=m:=c3.out;obtain rfl:2=mb:=fo.out;obtain⟨gn,go,rfl,eH⟩:=dN.out 0 J;obtain⟨gp,gq,dU,c9⟩:=dN.out 1 J;injection dU with dU;injection dU with fs ft;subst fs;subst ft;obtain⟨gr,gt,rfl,eI⟩:=dO.out 0 J;obtain⟨gu,gv,dV,eJ⟩:=dO.out 1 J;injection dV with dV;injection dV with fu fv;subst fu;subst fv;simp only[DI,CS,E_]at eH c9 eI eJ;have gx:=λp=>Aj eH p;have gy:=λp=>Aj c9 p;have gz:=λp=>Aj eI p;have gA:=λp=>Aj eJ p;obtain⟨eK,fw⟩:∃D,(io==eF)=D:=⟨_,rfl⟩;obtain⟨eL,fx⟩:∃D,(ip==eG)=D:=⟨_,rfl⟩;have eM:decide (([io,ip]:List Int)=[eF,eG])=(eK&&eL):=by
                rw[<-fw,<-fx,Gd];simp
               have mN:=U eM;clear eM eD eE;cases eK with
               | false =>
                exact Az'
               | true =>
                cases eL with
                | false =>
                 exact Az'
                | true =>
                 have bs:Hid (bl=8):=by
                  have fy:r8 T=false:=ApW b4 dF (by rw[er.out,cs.out,mK.out,mN.out];rfl);unfold Hid;rw[ep.out,N fy]
                 go_wp2_with fail;refine DG Ax Ax ?_
                 repeat (go_big_quiet_step (first
                  | (go_at_call 89;with_reducible exact mL.out _)
                  | (go_at_call 89;with_reducible exact mM.out _)))
                 refine wpQuiet_nil ?_;intro _ e7;obtain⟨pq,e6⟩:=e7;subst e6;have HEq:=U (ct.out.step (Dx W pq));generalize Cf W pq=kF at HEq|-;go_wp2;go_ret;rw[bs.out];exact⟨rfl,HEq.out.ab⟩
            ·obtain rfl:k=j:=by omega
             have d8:Hid ((Ck T (T.dec.take (k+1))).Nodup):=ApZ b4 b3.out (by rw[er.out];exact eu.out);have c7:=U (c4.out.step c6.out);go_wp2;go_roundw
             case rel=>exact⟨k+1,O,An,d8,c7⟩
             case measure=>simp[intOf];omega
          ·obtain rfl:b0=k:=by omega
           have fA:Hid (r8 T=true):=by
            have:=b3.out;rw[AO (BW dz.out)]at this;exact At this
           have eN:Hid (bl=if r9 T=false then 9 else 0):=by
            unfold Hid;rw[ep.out,fA.out,V J]
           have F:=bc.out.bE;simp only at F;clear b3;go_wp2;clear F;obtain⟨eO,rfl⟩:∃eO:World,eO=wr:=⟨_,rfl⟩;have cu:=U bc.out;clear bc;go_loopw[105] (λi wr=>∃k:Nat,k<=b9/\i=.int .i64 k/\Hid ((T.ah.take k).all (Ju T)=true)/\Hid (Am w ⟨a0,a1,a2,a3,a4,a5,cy,cA,cB,.slice cF b0 cd,.slice cC ne ce,.slice ds b9 cI⟩ T wr)) (λi _=>b9-(intOf i).toNat)
           case atStart=>exact⟨0,Au _,rfl,DH,cu⟩
           case round=>
            obtain⟨k,ei,rfl,b3,bc⟩:=hrel;by_cases cj:k<b9
            ·have b4:k<T.ah.length:=by rw[ea.out];exact cj
             obtain⟨b,ff,v,rfl,bx,bv,b6,b5,rfl,b7,ca⟩:=(fc.out.below bc.out.ab) k b4;have b1:=Fj (Ju T) T.ah k Ay b4;rw[b3.out,BG]at b1;obtain⟨⟨f,y⟩,cg⟩:∃s,T.ah.getD k Ay=s:=⟨_,rfl⟩;rw[cg]at bx bv b1 b7 ca;simp only at bx bv b7 ca;have eP:Ju T (f,y)=(plain T f&&y.all (Md T)):=rfl;rw[eP]at b1;obtain⟨m,cb⟩:∃m,y.length=m:=⟨_,rfl⟩;rw[cb]at bv ca;have cm:=U b1;have c3:=U cb;have dW:Hid ((plain T f&&y.all (Md T))=false->bl=9):=λh=>by
              have fB:r9 T=false:=D4 _ T.ah (k+1) (by rw[cm.out];exact h);rw[eN.out,N fB]
             obtain⟨G,eQ⟩:∃G,Hid (Mi T f=G):=⟨_,rfl⟩;obtain⟨da,eR⟩:∃l,Hid (As T.dec f=l):=⟨_,rfl⟩;have cO:plain T f=(!decide (da≠[]) && !G):=by unfold plain;rw[Ns b'.out,eR.out,eQ.out]
             have dX:=U cO;have cu:=U (bc.out.step ((Al _ _).alloc (Ac _) (.cells #[.int .i64 f,.slice b6 m b5] 73)));have co:=U (Gi.new wr f (.slice b6 m b5) 73);have fC:=U (BE.alloc b7 (.cells #[.int .i64 f,.slice b6 m b5] 73));have A:=cu.out.at9;simp only at A;clear cg b1 eP cb b7 cO;go_wp2_with fail;refine(Mu _ T.dec f da _ cu.out.tab.dec eR).mono ?_;rintro e gB ⟨q,n9,gC,rfl,eS,_,_,db⟩;have dc:=U (cu.out.step db);have eT:=U (co.out.below db);have fD:=U (fC.out.below db);have eU:=U eS;clear db A bx bv eS;obtain⟨dY,dZ⟩:=eT.out;cases n9 with
             | succ n9 =>
              have eV:decide ((0:Int)<((n9+1:Nat):Int))=true:=At O;have bs:Hid (bl=9):=dW.out (by
               have:da≠[]:=λh=>by have:=eU.out;rw[h]at this;simp at this
               rw[dX.out,At this];rfl)
              go_wp2;go_ret;rw[bs.out];exact⟨rfl,dc.out.ab⟩
             | zero =>
              have fE:Hid (da=[]):=Bw eU.out;obtain⟨⟨ac,ad,am,a9,a',ba⟩,⟨bb,bd,be,A,L,F⟩⟩:=dc.out.box.load;go_wp2_with fail;refine(AfN _ T f G _ dc.out.tab (Afk ib.out) eQ).mono ?_;rintro e fF ⟨rfl,df⟩;have eW:=U (dc.out.step df);have fG:=U (eT.out.below df);have fH:=U (fD.out.below df);clear df ac ad am a9 a' ba bb bd be A L F dY dZ;cases G with
              | true =>
               have bs:Hid (bl=9):=dW.out (by rw[dX.out];simp);go_wp2;go_ret;rw[bs.out];exact⟨rfl,eW.out.ab⟩
              | false =>
               have fI:Hid (plain T f=true):=by unfold Hid;rw[dX.out,fE.out];rfl
               have fJ:Hid (y.all (Md T)=false->bl=9):=λh=>dW.out (by rw[h,Ib]);obtain⟨dY,dZ⟩:=fG.out;go_wp2;clear dY dZ;obtain⟨wc,rfl⟩:∃wc:World,wc=fF:=⟨_,rfl⟩;go_loopw[125] (λi wr=>∃j:Nat,j<=m/\i=.int .i64 j/\Hid ((y.take j).all (Md T)=true)/\Hid (Am w ⟨a0,a1,a2,a3,a4,a5,cy,cA,cB,.slice cF b0 cd,.slice cC ne ce,.slice (some ⟨b,ff,none⟩) b9 cI⟩ T wr)/\Hid (Aq wr b6 y)) (λi _=>m-(intOf i).toNat)
               case atStart=>exact⟨0,Au _,rfl,DH,eW,fH⟩
               case round=>
                obtain⟨j,fk,rfl,eX,fz,eY⟩:=hrel;by_cases dF:j<m
                ·have cp:j<y.length:=by rw[c3.out];exact dF
                 obtain⟨gD,gE,rfl,eZ⟩:=eY.out j cp;have b8:=Fj (Md T) y j 0 cp;rw[eX.out,BG]at b8;obtain⟨c,cf⟩:∃c,y.getD j 0=c:=⟨_,rfl⟩;rw[cf]at eZ b8;obtain⟨G,e0⟩:∃G,Hid (Mi T c=G):=⟨_,rfl⟩;obtain⟨S,e1⟩:∃S,Hid (Cg c=S):=⟨_,rfl⟩;obtain⟨cv,e2⟩:∃l,Hid (As T.dec c=l):=⟨_,rfl⟩;obtain⟨cx,e3⟩:∃l,Hid (As T.ah c=l):=⟨_,rfl⟩;have cD:Md T c=(!decide (cx≠[])&&(!S&&(!decide (cv≠[]) && !G))):=by
                  unfold Md plain;rw[Anw f_.out,Ns b'.out,e2.out,e3.out,e1.out,e0.out]
                 rw[cD]at b8;have cs:=U b8;have dj:Hid ((!decide (cx≠[])&&(!S&&(!decide (cv≠[]) && !G)))=false->bl=9):=λh=>fJ.out (D4 _ y (j+1) (by rw[cs.out];exact h));have A:=fz.out.at9;simp only at A;clear cf b8 cD;go_wp2_with fail;refine(Mu _ T.dec c cv _ fz.out.tab.dec e2).mono ?_;rintro e gF ⟨gG,d0,gH,rfl,e4,_,_,d1⟩;have dk:=U (fz.out.step d1);have fL:=U (eY.out.below d1);have e5:=U e4;clear d1 A eZ e4;cases d0 with
                 | succ d0 =>
                  have eV:decide ((0:Int)<((d0+1:Nat):Int))=true:=At O;have bs:Hid (bl=9):=dj.out (by
                   have:cv≠[]:=λh=>by have:=e5.out;rw[h]at this;simp at this
                   rw[At this];simp)
                  go_wp2;go_ret;rw[bs.out];exact⟨rfl,dk.out.ab⟩
                 | zero =>
                  have fM:Hid (cv=[]):=Bw e5.out;obtain⟨⟨ac,ad,am,a9,a',ba⟩,⟨bb,bd,be,A,L,F⟩⟩:=dk.out.box.load;go_wp2_with fail;refine(AfN _ T c G _ dk.out.tab (Afk ib.out) e0).mono ?_;rintro e gI ⟨rfl,d2⟩;have k7:=U (dk.out.step d2);have fN:=U (fL.out.below d2);clear d2 ac ad am a9 a' ba bb bd be A L F;cases G with
                  | true =>
                   have bs:Hid (bl=9):=dj.out J;exact AAZ
                  | false =>
                   go_wp2_with fail;refine(Ky c S _ e1).mono ?_;rintro e gJ ⟨rfl,rfl⟩;cases S with
                   | true =>
                    have bs:Hid (bl=9):=dj.out J;exact AAZ
                   | false =>
                    have F:=k7.out.bE;simp only at F;go_wp2_with fail;refine(Mu _ T.ah c cx _ k7.out.tab.ah e3).mono ?_;rintro e gK ⟨gL,d3,gM,rfl,e8,_,_,d4⟩;have e9:=U (k7.out.step d4);have fO:=U (fN.out.below d4);have e_:=U e8;clear d4 F e8;cases d3 with
                    | succ d3 =>
                     have eV:decide ((0:Int)<((d3+1:Nat):Int))=true:=At O;have bs:Hid (bl=9):=dj.out (by
                      have:cx≠[]:=λh=>by have:=e_.out;rw[h]at this;simp at this
                      rw[At this];simp)
                     go_wp2;go_ret;rw[bs.out];exact⟨rfl,e9.out.ab⟩
                    | zero =>
                     have d8:Hid ((y.take (j+1)).all (Md T)=true):=by
                      have:cx=[]:=Bw e_.out;unfold Hid;rw[cs.out,this,fM.out];rfl
                     go_wp2;go_roundw
                     case rel=>exact⟨j+1,O,An,d8,e9,fO⟩
                     case measure=>simp[intOf];omega
                ·obtain rfl:m=j:=by omega
                 have d8:Hid ((T.ah.take (k+1)).all (Ju T)=true):=by
                  have h:=eX.out;rw[AO (BW c3.out)]at h;unfold Hid;rw[cm.out,fI.out,h];rfl
                 exact AiC
            ·obtain rfl:b9=k:=by omega
             have fP:Hid (r9 T=true):=by
              have:=b3.out;rw[AO (BW ea.out)]at this;exact this
             have bs:Hid (bl=0):=by unfold Hid;rw[eN.out,fP.out,V J]
             go_wp2;go_ret;rw[bs.out];exact RI
end Go.Proofs.YtblcoicaeeiojaaGreatDoor
