/- short names of lemmas -/
import Derived.Test.YtblcoicaeeiojaaGreatDoorSOaHdB
import Derived.Deep.Cut
import Derived.BigQuiet
set_option linter.all false
namespace Go.Proofs.YtblcoicaeeiojaaGreatDoor
variable{p:Prop}
def ABE(h:p:=by
 have ln:=λp=>Aj f6 p;have mY:=λp=>Dm (p:=p) λiQ hZ=>Af1 x T fs z iQ (ac.out.tab.below hZ) i5.out b5;simp only[TV.agg]at mY;have m3:=U mY;clear mY hY f6 f7 b4 jn;obtain⟨⟨cf,b8,b',b9,cd,b6⟩,⟨ci,cb,b7,ca,cc,cg⟩⟩:=ac.out.box.load;have iw:=λp=>Aj cf p;have is:=λp=>Aj b8 p;have it:=λp=>Aj b' p;have iA:=λp=>Aj b9 p;have iu:=λp=>Aj cd p;have iz:=λp=>Aj b6 p;have iq:=λp=>Aj ci p;have iB:=λp=>Aj cb p;have iv:=λp=>Aj b7 p;have iy:=λp=>Aj ca p;have ix:=λp=>Aj cc p;have ir:=λp=>Aj cg p;clear cf b8 b' b9 cd b6 ci cb b7 ca cc cg;refine DG (by kernel_rfl) (by kernel_rfl) ?_
 repeat (go_big_quiet_step ((go_at_call 190;with_reducible exact m3.out _)))
 refine wpQuiet_nil ?_;exact Ayu):p:=h
def YJ(h:p:=by go_quiet (first|(go_at_call 127;exact Calls.quiet_of_same (Ua _ _ _ f3))|(go_at_call 79;exact Calls.quiet_of_same (X1 _ _ _ df)));go_wp2_with fail;go_meet;exact⟨true,rfl,by unfold Hid;rw[dx.out,o2.out];simp,Im eU.out _⟩):p:=h
def AvL(h:p:=by refine wpQuiet_nil ?_;intro _ e7;obtain⟨pq,e6⟩:=e7;subst e6;go_wp2_with fail;go_meet;exact⟨rfl,ac.out.step (Dx w1 pq)⟩):p:=h
def Zw(h:p:=by go_quiet (fail);go_wp2_with fail;go_meet;exact⟨true,rfl,Ai4,Im (b1.out.alloc b1.out.size _) _⟩):p:=h
def Ax1(h:p:=by go_quiet (first|(go_at_call 127;exact Calls.quiet_of_same (Ua _ _ _ f3))|(go_at_call 79;exact Calls.quiet_of_same (X1 _ _ _ df)));go_wp2_with fail;go_meet;exact⟨false,rfl,by unfold Hid;rw[dx.out,o2.out];have:=Fc d_;have:=Fc fH;have:=Fc lW;simp;omega,Im eU.out _⟩):p:=h
def Ayb(h:p:=by go_quiet (first|(go_at_call 127;exact Calls.quiet_of_same (Ua _ _ _ f3))|(go_at_call 79;exact Calls.quiet_of_same (X1 _ _ _ df)));go_wp2_with fail;go_meet;exact⟨false,rfl,by unfold Hid;rw[dx.out,o2.out];have:=Fc d_;have:=Fc fH;simp;omega,Im eU.out _⟩):p:=h
def Azf(h:p:=by have dM:Below w.heap.size w eC:=(f'.out.alloc f'.out.size _).grown e8 (by have:=f'.out.size;simp;omega) (by intro k e;cases e;exact dy);have kL:=U i3;have hN:=U dM;clear i3 e8 dM;go_wp2_with fail;go_meet;exact⟨_,_,rfl,by rw[E6];omega,kL,hN⟩):p:=h
def AB_(h:p:=by
 have ad:(x !=y)=true:=by simp[kj]
 have c6:Hid (B=false):=by unfold Hid;rw[<-ef.out];exact Aef xs cy k (by rw[ki,kh];exact kj)
 exact AyR):p:=h
def AAE(h:p:=by go_quiet (fail);go_wp2_with fail;go_meet;exact⟨false,rfl,by unfold Hid;rw[dx.out];have:=Fc fH;have:=Fc iE;have:=Fc lQ;have:=Fc o0;simp;omega,Im (b1.out.alloc b1.out.size _) _⟩):p:=h
def AAU(h:p:=by go_wp2_with fail;refine(Ua f C _ f3).mono ?_;rintro e jD ⟨rfl,rfl⟩;go_wp2_with fail;go_meet;exact⟨C,rfl,b1,dM⟩):p:=h
def Avr(h:p:=by go_quiet (fail);go_wp2_with fail;go_meet;exact⟨true,rfl,by unfold Hid;rw[kf.out,d_,fH,iE];rfl,Im eU.out _⟩):p:=h
def Ahj(h:p:=by go_wp2_with fail;go_meet;exact⟨true,rfl,b1,lV⟩):p:=h
def Avs(h:p:=by go_quiet (fail);go_wp2_with fail;go_meet;exact⟨false,rfl,by unfold Hid;rw[kf.out,d_,fH,iE];rfl,Im eU.out _⟩):p:=h
def Avx(h:p:=by go_quiet (fail);go_wp2_with fail;go_meet;exact⟨true,rfl,Ai4,Im eU.out _⟩):p:=h
def AvO(h:p:=by go_wp2_with fail;go_meet;exact⟨true,rfl,by unfold Hid;have:=b1.out;simp;omega,dM⟩):p:=h
def Ahq(h:p:=by go_wp2_with fail;go_meet;exact⟨_,_,rfl,eN⟩):p:=h
def AvV(h:p:=by go_wp2_with fail;go_meet;exact⟨false,rfl,b1,lV⟩):p:=h
def AwG(h:p:=by go_wp2_with fail;go_meet;exact⟨_,_,rfl,j7,l4,je⟩):p:=h
def AxF(h:p:=by
 go_wp2_with fail;refine DG Ax Ax ?_
 repeat (go_big_quiet_step (first
  | (go_at_call 89;with_reducible exact mL.out _)
  | (go_at_call 89;with_reducible exact mM.out _)))
 refine wpQuiet_nil ?_;intro _ e7;obtain⟨pq,e6⟩:=e7;subst e6;have pK:=U (Dx W pq);generalize Cf W pq=kF at pK|-;have pL:=U (jF.out.trans (pK.out.mono jF.out.size));go_wp2;go_roundw
 case rel=>exact⟨j+1,O,An,ms,pL⟩
 case measure=>simp[intOf];omega):p:=h
def ABx(h:p:=by
 have lp:(z !=1)=true:=by simp[a']
 by_cases be:z=2
 ·subst be;exact ZY
 ·have pf:(z !=2)=true:=by simp[be]
  by_cases eL:z=4
  ·subst eL;exact ZY
  ·have nh:(z !=4)=true:=by simp[eL]
   by_cases cD:z=3
   ·subst cD;exact ZY
   ·have jH:(z !=3)=true:=by simp[cD]
    obtain rfl:V=true:=ABq;clear a' be eL cD;go_wp2_with fail;go_meet;exact C5):p:=h
def ABy(h:p:=by
 obtain⟨eH,f7⟩:∃j,j=m-1:=⟨_,rfl⟩;obtain⟨et,mh,bd,f6⟩:=(dG.out.below ac.out.ab) eH FD;injection bd with bd;injection bd with bd ct _;subst bd;subst ct;obtain⟨fs,hY⟩:∃c,ao.getD eH 0=c:=⟨_,rfl⟩;rw[hY]at f6;obtain⟨z,b5⟩:∃z,Hid (Ep T fs=z):=⟨_,rfl⟩;obtain rfl:R=(z==11):=by
  rw[b4.out];rw[At (show 0<m by exact jn),BG,<-f7,hY,b5.out];by_cases h:z=11<;>simp[h]
 have fu:IntKind.i64.wrap ((m:Int)-1)=(eH:Int):=(AT _ O).trans O;have lp:decide ((0:Int)<(m:Int))=true:=At O;have dz:0<m:=jn;exact AAr):p:=h
def AxK(h:p:=by
 obtain⟨⟨cf,b8,b',b9,cd,b6⟩,⟨ci,cb,b7,ca,cc,cg⟩⟩:=ac.out.box.load;have iw:=λp=>Aj cf p;have is:=λp=>Aj b8 p;have it:=λp=>Aj b' p;have iA:=λp=>Aj b9 p;have iu:=λp=>Aj cd p;have iz:=λp=>Aj b6 p;have iq:=λp=>Aj ci p;have iB:=λp=>Aj cb p;have iv:=λp=>Aj b7 p;have iy:=λp=>Aj ca p;have ix:=λp=>Aj cc p;have ir:=λp=>Aj cg p;clear cf b8 b' b9 cd b6 ci cb b7 ca cc cg;refine DG Ax Ax ?_
 repeat (go_big_quiet_step (first
  | (go_at_call 277;with_reducible exact l5.out _)
  | (go_at_call 276;with_reducible exact l6.out _)))
 refine wpQuiet_nil ?_;intro _ e7;obtain⟨pq,e6⟩:=e7;subst e6;have dF:=U (ac.out.step (Dx w2 pq));generalize Cf w2 pq=jP at dF|-;go_wp2_with fail;exact Zr):p:=h
def AxL(h:p:=by
 obtain⟨k,ba,rfl,ep,dN⟩:=hrel;by_cases ee:k<xs.length
 ·obtain⟨eD,m7,rfl,m8⟩:=(eh.out.below dN) k ee;obtain⟨et,m6,rfl,f6⟩:=(j'.out.below dN) k YN;have hP:k<cy.length:=YN;obtain⟨x,ki⟩:∃x,xs.getD k 0=x:=⟨_,rfl⟩;obtain⟨y,kh⟩:∃y,cy.getD k 0=y:=⟨_,rfl⟩;rw[ki]at m8;rw[kh]at f6;by_cases kj:x=y
  ·exact AzX
  ·exact AB_
 ·exact ACk):p:=h
def ABB(h:p:=by
 have pF:(kH==0)=true:=by simp[pA]
 have fi:Hid (C=true):=by unfold Hid;rw[mD.out,pA];rfl
 clear pA;go_wp2_with fail;refine DG Ax Ax ?_
 repeat (go_big_quiet_step (first
  | (go_at_call 91;with_reducible exact l1.out _)
  | (go_at_call 91;with_reducible exact pI.out _)))
 refine wpQuiet_nil ?_;intro _ e7;obtain⟨pq,e6⟩:=e7;subst e6;have HEq:=U (iR.out.step (Dx eC pq));generalize Cf eC pq=kF at HEq|-;exact AwX):p:=h
def ABC(h:p:=by
 have ev:decide ((0:Int)<(m:Int))=true:=At O;have dz:0<m:=O;have mZ:(0:Int)<=(eH:Int):=O;have m0:(eH:Int)<(n:Int):=O;have bt:(m:Int)-1=(eH:Int):=O;have bd:IntKind.i64.wrap (eH:Int)=(eH:Int):=AT _ O;have ln:=λp=>Aj f6 p;have mY:=λp=>Dm (p:=p) λiQ hZ=>Kv x T fs z iQ (ac.out.tab.below hZ) b5;simp only[TV.agg]at mY;have m3:=U mY;clear mY hY f6 f7 ly;refine DG Ax Ax ?_
 repeat (go_big_quiet_step ((go_at_call 91;with_reducible exact m3.out _)))
 exact AvL):p:=h
def AxN(h:p:=by
 obtain⟨eO,jt⟩:∃eO,Gz l x y=eO:=⟨_,rfl⟩;rw[jt]at eY;have lJ:=U jt;clear jt fV;go_wp2_with fail;go_quiet ((go_at_call 245;exact Calls.quiet_of (cp.out _ (A5 jv.out (Em dy.out _)) x y eO js ju jx jy lJ)));go_wp2;go_roundw
 case rel=>
  first
   | exact⟨i,h,rfl,rfl,kA,O,O,cC,cx,iZ.out,Em dy.out _⟩
   | (repeat apply Exists.intro
      refine⟨?_,rfl⟩
      first|exact⟨i,h,rfl,rfl,kA,O,O,cC,cx,iZ.out,Em dy.out _⟩|exact⟨rfl,rfl,kA,O,O,cC,cx,iZ.out,Em dy.out _⟩)
 case measure=>simp[intOf];omega):p:=h
def AxP(h:p:=by
 have lJ:=U jt;clear jt fV;go_wp2_with fail;go_quiet ((go_at_call 245;exact Calls.quiet_of (cp.out _ (A5 jv.out (Em dy.out _)) x y eO js ju jx jy lJ)));go_wp2;go_roundw
 case rel=>
  first
   | exact⟨h+1,j,An,rfl,O,O,j4,iO,dK,iZ.out,Em dy.out _⟩
   | (repeat apply Exists.intro
      refine⟨?_,rfl⟩
      first|exact⟨h+1,j,An,rfl,O,O,j4,iO,dK,iZ.out,Em dy.out _⟩|exact⟨An,rfl,O,O,j4,iO,dK,iZ.out,Em dy.out _⟩)
 case measure=>simp[intOf];omega):p:=h
def AxQ(h:p:=by
 obtain⟨eO,jt⟩:∃eO,Gz l x y=eO:=⟨_,rfl⟩;rw[jt]at eY;have nL:decide (eO<0)=false:=Ai eY;have lJ:=U jt;clear jt fV;go_wp2_with fail;go_quiet ((go_at_call 245;exact Calls.quiet_of (cp.out _ (A5 jv.out (Em dy.out _)) x y eO js ju jx jy lJ)));go_wp2;go_roundw
 case rel=>first|exact⟨h+1,r,An,rfl,O,O,lF,iO,dK,jw.out,Em dy.out _⟩|(repeat apply Exists.intro;refine⟨?_,rfl⟩;exact⟨h+1,r,An,rfl,O,O,lF,iO,dK,jw.out,Em dy.out _⟩)
 case measure=>simp[intOf];omega):p:=h
def AxR(h:p:=by
 obtain⟨eO,jt⟩:∃eO,Gz l x y=eO:=⟨_,rfl⟩;rw[jt]at eY;have lJ:=U jt;clear jt fV;go_wp2_with fail;go_quiet ((go_at_call 245;exact Calls.quiet_of (cp.out _ (A5 jv.out (Em dy.out _)) x y eO js ju jx jy lJ)));go_wp2;go_roundw
 case rel=>first|exact⟨s,h,rfl,rfl,lE,O,O,cC,cx,jw.out,Em dy.out _⟩|(repeat apply Exists.intro;refine⟨?_,rfl⟩;exact⟨s,h,rfl,rfl,lE,O,O,cC,cx,jw.out,Em dy.out _⟩)
 case measure=>simp[intOf];omega):p:=h
def AxS(h:p:=by refine wpQuiet_nil ?_;intro _ e7;obtain⟨pq,e6⟩:=e7;subst e6;have j5:=Dx eC pq;generalize Cf eC pq=kF at j5|-;have mw:=U (lY.out.below j5);have mz:=U (iR.out.below j5);have mv:=U (my.out.keeps (Ad.av j5) (λk ba e _=>O));clear j5 iw is it iA iu iz iq iB iv iy ix ir mA mx mu;go_wp2_with fail;go_meet;exact⟨true,_,rfl,λe=>absurd e J,mw,mz,mv⟩):p:=h
def ABF(h:p:=by
 have pF:(kH==0)=false:=by simp[pA]
 have fi:Hid (C=decide (lZ<=kH)):=by unfold Hid;rw[mD.out,Ai pA];rfl
 clear pA;go_wp2_with fail;refine DG Ax Ax ?_
 repeat (go_big_quiet_step (first
  | (go_at_call 91;with_reducible exact l1.out _)
  | (go_at_call 91;with_reducible exact pI.out _)))
 exact ABm):p:=h
def ABM(h:p:=by have lp:decide ((0:Int)<(m:Int))=false:=Ai O;have dz:¬0<m:=jn;exact AAj):p:=h
def ABP(h:p:=by have ev:decide ((0:Int)<(m:Int))=false:=Ai O;have dz:¬0<m:=O;clear ly;exact AAt):p:=h
def AyF(h:p:=by
 obtain rfl:j=0:=by omega
 go_wp2_with fail;go_meet;exact⟨_,_,rfl,O,jR,fP⟩):p:=h
def AyR(h:p:=by clear ki kh kj;go_wp2;go_quiet (fail);go_wp2;go_ret;rw[c6.out];exact⟨rfl,EO dN _⟩):p:=h
def AB6(h:p:=by obtain⟨eH,f7⟩:∃j,j+1=m:=⟨m-1,O⟩;obtain⟨et,mh,bd,f6⟩:=(dG.out.below ac.out.ab) eH O;injection bd with bd;injection bd with bd ct _;subst bd;subst ct;obtain⟨fs,hY⟩:∃c,ao.getD eH 0=c:=⟨_,rfl⟩;rw[hY]at f6;obtain⟨z,b5⟩:∃z,Hid (Ao T fs=z):=⟨_,rfl⟩;have pl:V=(z==9):=ABW;subst pl;exact ABC):p:=h
def AB7(h:p:=by
 have l0:=λp=>Dm (w:=eC) (p:=p) λW iH=>Kv x T b kH W (iR.out.step iH).env.tab mH;have pw:=λp=>Dm (w:=eC) (p:=p) λW iH=>Kv x T (Is T.dec a) lZ W (iR.out.step iH).env.tab mE;simp only[TV.agg]at l0 pw;have l1:=U l0;have pI:=U pw;clear l0 pw;by_cases pA:kH=0
 ·exact ABB
 ·exact ABF):p:=h
def AzX(h:p:=by
 have ad:(x !=y)=false:=by simp[kj]
 have c6:Hid (xs.take (k+1)=cy.take (k+1)):=AkA xs cy k ee hP ep.out (by rw[ki,kh,kj]);clear ki kh kj;go_wp2;go_quiet (fail);go_wp2;go_roundw
 case rel=>exact⟨k+1,O,An,c6,EO dN _⟩
 case measure=>simp[intOf];omega):p:=h
def ZY(h:p:=by obtain rfl:V=false:=AA1;go_wp2_with fail;go_meet;exact C5):p:=h
def Az1(h:p:=by
 replace b4:=U b4;go_upto_region 9 with(fail);by_cases jn:0<m
 ·exact ABy
 ·obtain rfl:R=false:=by rw[b4.out,show decide (0<m)=false from Ai jn];rfl
  exact ABM):p:=h
def Az'(h:p:=by have ms:Hid (∀ij,ij<j+1->Jk T (f,[io,ip]) (T.dec.getD ij Ay)=false):=o6.out (by rw[mK.out,mN.out];rfl);exact AxF):p:=h
def AAb(h:p:=by have ms:Hid (∀ij,ij<j+1->Jk T (f,y) (T.dec.getD ij Ay)=false):=o6.out (by rw[mK.out];rfl);exact AxF):p:=h
def AB'(h:p:=by
 have pi:V=false:=by rw[<-dx.out];unfold IK;rw[Ai O];rfl
 subst pi;exact ABP):p:=h
def AAj(h:p:=by
 clear b4 jn;refine DG Ax Ax ?_
 repeat (go_big_quiet_step (fail))
 exact AAX):p:=h
def AAr(h:p:=by have mZ:(0:Int)<=(eH:Int):=O;have m0:(eH:Int)<(n:Int):=O;exact ABE):p:=h
def AAt(h:p:=by
 refine DG Ax Ax ?_
 repeat (go_big_quiet_step (fail))
 exact AvL):p:=h
def ACf(h:p:=by
 have pE:IntKind.i64.wrap (m:Int)=m:=by have:=pJ.out;exact AT _ O
 exact AB7):p:=h
def AAI(h:p:=by
 by_cases a':z=1
 ·subst a';exact ZY
 ·exact ABx):p:=h
def ACh(h:p:=by
 by_cases ly:m=0
 ·exact AB'
 ·exact AB6):p:=h
def ACi(h:p:=by
 have pJ:Hid (m<18):=Hj;have pz:=λp=>Aj py p;clear dM mG mB mC k6 cf b8 b' b9 cd b6 ci cb b7 ca cc cg ev d_ px py;obtain⟨cf,b8,b',b9,cd,b6,ci,cb,b7,ca,cc,cg,ev,d_⟩:=iR.out.cells;have iw:=λp=>Aj cf p;have is:=λp=>Aj b8 p;have it:=λp=>Aj b' p;have iA:=λp=>Aj b9 p;have iu:=λp=>Aj cd p;have iz:=λp=>Aj b6 p;have iq:=λp=>Aj ci p;have iB:=λp=>Aj cb p;have iv:=λp=>Aj b7 p;have iy:=λp=>Aj ca p;have ix:=λp=>Aj cc p;have ir:=λp=>Aj cg p;have kJ:=λp=>Aj ev p;have kI:=λp=>Aj d_ p;have ly:(0:Int)<=(m:Int):=O;have dz:(m:Int)<(m:Int)+1:=O;have pC:IntKind.i64.wrap ((m:Int)+1-1)=m:=by have:=pJ.out;rw[AT _ O];omega
 exact ACf):p:=h
def AAQ(h:p:=by
 have hX:V=Z:=by rw[<-bv.out];simp
 subst hX;exact ACh):p:=h
def AAR(h:p:=by
 have iR:=U (j6.out.step dM);have pH:=U mG;obtain⟨m,rfl⟩:∃m,mF=m+1:=⟨mF-1,by
  have:(F6 T.dec a).length≠0:=λh=>Anb T.dec 256 a (Bw h)
  omega⟩
 obtain⟨pB,pG,rfl,py⟩:=mG m (by rw[mB];omega);have px:(F6 T.dec a).getD m 0=Is T.dec a:=by
  rw[Is,Aao,Ajt,mB];simp
 rw[px]at py;exact ACi):p:=h
end Go.Proofs.YtblcoicaeeiojaaGreatDoor
