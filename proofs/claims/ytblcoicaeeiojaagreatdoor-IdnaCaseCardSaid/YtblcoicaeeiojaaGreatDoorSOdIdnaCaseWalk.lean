/- The walk of IdnaCase (ge -/
import Derived.Test.YtblcoicaeeiojaaGreatDoorSOdPmIdnRB
import Derived.Test.YtblcoicaeeiojaaGreatDoorSOaKeepRaw
import Derived.Test.YtblcoicaeeiojaaGreatDoorSOaPunCap
import Derived.Test.YtblcoicaeeiojaaGreatDoorSOaOthA
set_option linter.all false
set_option maxHeartbeats 8000000
set_option maxRecDepth 100000
open Go.Proofs.Tryz
namespace Go.Proofs.YtblcoicaeeiojaaGreatDoor
open Go.RowKit
def Ao8{A B:ByteArray}(h:Ap A=BN (Ap B)):A.data.toList=B.data.toList.map Gv:=by
 have e:Ap ⟨(B.data.toList.map Gv).toArray⟩=Ap A:=by
  rw[h];unfold Ap BN;simp only[List.toList_toArray,LZ];exact Jc λb _=>WY b
 have:=Aeo e;rw[<-this]
def Aux{T:Y}{A B:ByteArray}(h:Ap A=BN (Ap B)):Bf T A.data.toList=Bf T B.data.toList:=by
 rw[Ao8 h];exact(AgI (Ary T _)).1
def AkQ{X Y:List Int}(h:L4 0 X Y)(s:∀c∈X,¬(65<=c/\c<=90)):BN Y=X:=by
 apply Ve (by rw[QD,h.1]);intro i A k;have b0:i<Y.length:=by rw[h.1];exact k
 have m:X.getD i 0=X[i]:=by simp[k]
 have q:Y.getD i 0=Y[i]:=Hz;have C:=s _ (Ob k);have F:(BN Y)[i]=By Y[i]:=List.getElem_map (f:=By) (l:=Y) (i:=i) (h:=A);rw[F];rcases h.2 i k with e|⟨_,a,b,e⟩
 ·rw[m,q]at e;rw[e,WX C]
 ·rw[m,q]at e;rw[m]at a b;unfold By;rw[N O];omega
def AnL(dn:Option Addr)(dL:Nat)(c6:List Int)(dq:Option Addr)(dM:Nat)(c7:List Int)(dN:Int)(w:World)(dO:Aq w dn c6)(dP:c6.length<=17592186043904)(dQ:Aq w dq c7)(dR:c7.length<=17592186043904)(dS:Bi w):Calls prog 8 #[.slice dn c6.length dL,.slice dq c7.length dM,.int .i64 dN] w (Ar (.bool true) w):=by
 have er:=U dO;have es:=U dP;have et:=U dQ;have eu:=U dR;have dm:=U dS;clear dO dP dQ dR dS;go_enter func8,ntmps8;go_wp2_with fail;refine(O8 dn dL c6 _ er.out es.out).mono ?_;rintro e w1 ⟨⟨a0,a1,a2,a3,a4,a5,ev,ew,ex,ey,ez,eB⟩,T,rfl,b,cy,dT,ds⟩;obtain⟨s,C,F,eC⟩:Ag a0:=b.cat.ae;subst eC;obtain⟨G,L,am,eD⟩:Ag a1:=b.ai.ae;subst eD;obtain⟨a9,a',ba,eE⟩:Ag a2:=b.al.ae;subst eE;obtain⟨bb,bc,bd,eF⟩:Ag a3:=b.ak.ae;subst eF;obtain⟨be,bl,bs,eG⟩:Ag a4:=b.aj.ae;subst eG;obtain⟨bt,bv,bx,eH⟩:Ag a5:=b.ag.ae;subst eH;obtain⟨b0,b1,b2,eI⟩:Ag ev:=b.an.ae;subst eI;obtain⟨b3,b4,b5,eJ⟩:Ag ew:=b.ext.ae;subst eJ;obtain⟨ce,cj,cl,eK⟩:Ag ex:=b.map.ae;subst eK;obtain⟨cm,co,cp,eL⟩:Ag ey:=b.dec.ae;subst eL;obtain⟨cq,cr,cs,eM⟩:Ag ez:=b.af.ae;subst eM;obtain⟨ct,cu,cv,eN⟩:Ag eB:=b.ah.ae;subst eN;have dx:Below w1.heap.size w1 (w1.alloc (.cells (AG ⟨.slice s C F,.slice G L am,.slice a9 a' ba,.slice bb bc bd,.slice be bl bs,.slice bt bv bx,.slice b0 b1 b2,.slice b3 b4 b5,.slice ce cj cl,.slice cm co cp,.slice cq cr cs,.slice ct cu cv⟩) 26)):=(Al _ _).alloc (Ac _) _;have cO:Hid (Ah (w1.alloc (.cells (AG ⟨.slice s C F,.slice G L am,.slice a9 a' ba,.slice bb bc bd,.slice be bl bs,.slice bt bv bx,.slice b0 b1 b2,.slice b3 b4 b5,.slice ce cj cl,.slice cm co cp,.slice cq cr cs,.slice ct cu cv⟩) 26)) ⟨.slice s C F,.slice G L am,.slice a9 a' ba,.slice bb bc bd,.slice be bl bs,.slice bt bv bx,.slice b0 b1 b2,.slice b3 b4 b5,.slice ce cj cl,.slice cm co cp,.slice cq cr cs,.slice ct cu cv⟩ T):=b.below dx;have cB:Hid (AS (w1.alloc (.cells (AG ⟨.slice s C F,.slice G L am,.slice a9 a' ba,.slice bb bc bd,.slice be bl bs,.slice bt bv bx,.slice b0 b1 b2,.slice b3 b4 b5,.slice ce cj cl,.slice cm co cp,.slice cq cr cs,.slice ct cu cv⟩) 26)) w1.heap.size ⟨.slice s C F,.slice G L am,.slice a9 a' ba,.slice bb bc bd,.slice be bl bs,.slice bt bv bx,.slice b0 b1 b2,.slice b3 b4 b5,.slice ce cj cl,.slice cm co cp,.slice cq cr cs,.slice ct cu cv⟩):=AS.new _ _ _;have c8:Hid (Below w.heap.size w (w1.alloc (.cells (AG ⟨.slice s C F,.slice G L am,.slice a9 a' ba,.slice bb bc bd,.slice be bl bs,.slice bt bv bx,.slice b0 b1 b2,.slice b3 b4 b5,.slice ce cj cl,.slice cm co cp,.slice cq cr cs,.slice ct cu cv⟩) 26))):=ds.trans (dx.mono ds.size);have fg:=U cy;have dU:Hid (Du ⟨.slice s C F,.slice G L am,.slice a9 a' ba,.slice bb bc bd,.slice be bl bs,.slice bt bv bx,.slice b0 b1 b2,.slice b3 b4 b5,.slice ce cj cl,.slice cm co cp,.slice cq cr cs,.slice ct cu cv⟩):=dT;clear b cy dT ds dx;simp only[AG]at cO cB c8;go_wp2_with fail;generalize (w1.alloc (.cells #[.slice s C F,.slice G L am,.slice a9 a' ba,.slice bb bc bd,.slice be bl bs,.slice bt bv bx,.slice b0 b1 b2,.slice b3 b4 b5,.slice ce cj cl,.slice cm co cp,.slice cq cr cs,.slice ct cu cv] 26))=W at cO cB c8|-;generalize w1.heap.size=g at cB|-;generalize (⟨.slice s C F,.slice G L am,.slice a9 a' ba,.slice bb bc bd,.slice be bl bs,.slice bt bv bx,.slice b0 b1 b2,.slice b3 b4 b5,.slice ce cj cl,.slice cm co cp,.slice cq cr cs,.slice ct cu cv⟩:TV)=x at cO cB dU;have ac:Hid (J3 w g x T W):=⟨cO.out,cB.out,c8.out⟩;clear cO cB c8;refine(Tu dq dM c7 _ (et.out.below ac.out.ab) eu.out).mono ?_;rintro e wr ⟨S,rfl,eO,ad⟩;replace ac:=U (ac.out.step ad);clear ad;obtain⟨fh,fi,cC,fo,c2⟩:=VT wr S BQ;obtain⟨fj,fk,rfl,fl,_,_⟩:=fo.bytes;have dV:=Be S;rw[dV]at fo cC;have eP:=U fo;have dW:=U (ac.out.step c2);have fm:=U eO;have dX:=SZ fo;rw[Rf]at dX;obtain⟨q,dy⟩:∃X,Hid (It S=X):=⟨_,rfl⟩;have eQ:Hid (Ap q=BN (Ap S)):=by unfold Hid;rw[<-dy.out,QI]
 have dY:q.size=S.size:=by rw[<-dy.out,WW]
 have dZ:=U dY;clear fo c2 dV dY;go_wp2_with fail;refine(T7 S q _ O dy).mono ?_;rintro e w3 ⟨rfl,ad⟩;replace ac:=U (dW.out.step ad);clear ad cC dX dW eP;obtain⟨fn,cx,cC,fo,c2⟩:=VT w3 q (by have:=dZ.out;unfold maxLen;omega);obtain⟨d0,eR,rfl,fp,_,_⟩:=fo.bytes;have dz:=Be q;rw[dz]at fo cC;have c9:=U fo;replace ac:=U (ac.out.step c2);obtain⟨X,cD⟩:∃X,Ap q=X:=⟨_,rfl⟩;obtain⟨m,cy⟩:∃m,q.size=m:=⟨_,rfl⟩;rw[cD,cy]at c9;rw[cy]at cC;have d1:X.length=m:=by rw[<-cD,dz,cy]
 have d2:=U d1;have fq:m<=90:=by have:=dZ.out;omega
 have eS:Hid (∀c∈X,¬(65<=c/\c<=90)):=by
  unfold Hid;rw[<-cD,eQ.out];intro c d3;unfold BN at d3;obtain⟨d,_,rfl⟩:=Cc.1 d3;unfold By;split<;>omega
 have eT:Hid (∀c∈X,0<=c/\c<256):=by unfold Hid;rw[<-cD];exact Xk q
 have dE:=U cD;have eU:=U cy;clear fo c2 dz cD cy d1;obtain⟨eV,dI,eW,eX,eY⟩:=Cp info5;have d4:Hid (∀j u,(X.map (Value.int .u8))[j]? = some u->cx.cell? ((⟨d0,0,none⟩:Addr).add j)=some u):=λj u cA=>by
  rw[Gg]at cA;cases c':X[j]? with
  | none=>rw[c']at cA;cases cA
  | some c =>
   rw[c']at cA;simp only[MW,FI]at cA;subst cA;obtain⟨eZ,_⟩:=LX.1 c';obtain⟨dF,d5,e,_,dG,_,_⟩:=c9.out.dA (k:=j) eZ;injection e with e _;injection e with e;injection e with e;subst e;rw[GI,BY,dG];simp[List.getD,c']
 go_wp2_with (at_builtin;first
  | (refine ID _ rfl _ _ 47 rfl cx.heap.size 5 eV (.int .u8 0) 1 1 underlying47 dI eW eX eY rfl Aw (.slice none 0 0) 0 [] rfl (PF _ _ _ _) ⟨d0, 0, none⟩ m eR (X.map (.int .u8)) rfl (by rw [C6, d2.out]; omega) d4.out (λu e0 => by obtain ⟨c, _, rfl⟩ := Cc.1 e0; rfl) Y5 O (Ac _) ?_
     intro d6 d7 d8 d9 _
     have d_:Below cx.heap.size cx d7:=(Al _ _).grown d9 (Ac _) (λj cA=>by cases cA)
     have dH:d7.ownsRow cx.heap.size 5 1 d6 m (X.map (.int .u8)):=by simpa using d8
     have d':=U dH
     have ea:=U d_
     obtain⟨db,dJ,rfl⟩:∃db dJ,d6=.slice db m dJ:=by
      rcases dH.2 with⟨h,cF⟩|⟨dF,d5,e1,h,_⟩
      ·exact⟨none,0,by rw[h,cF]⟩
      ·exact⟨_,_,h⟩
     clear d8 d9 d_ dH))
 have eb:Hid (L4 0 X X):=⟨rfl,λi _=>.inl rfl⟩;have ec:=c9;have e2:=ac;clear d4 c9 ac cC;go_wp2;go_loopw[31] (λu ed=>∃(t:Nat) (Y:List Int),u=.int .i64 t/\t<=m/\Hid (L4 0 X Y)/\Hid (∀i,t<=i->Y.getD i 0=X.getD i 0)/\Hid (ed.ownsRow cx.heap.size 5 1 (.slice db m dJ) m (Y.map (.int .u8)))/\Hid (Below cx.heap.size cx ed)) (λu _=>m-(intOf u).toNat)
 case atStart=>exact⟨0,X,rfl,Au _,eb,(by unfold Hid;intros;rfl),d',ea⟩
 case round=>
  clear eb d' ea;obtain⟨t,Y,rfl,fs,jQ,c3,fo,eA⟩:=hrel;have ee:Y.length=m:=by rw[jQ.out.1,d2.out]
  by_cases ft:t<m
  ·obtain⟨g,rfl,e3⟩:∃g,db=some ⟨g,0,none⟩/\cx.heap.size<=g:=by
    rcases fo.out.2 with⟨h,cF⟩|⟨dF,d5,e1,h,e4,_⟩
    ·omega
    ·injection h with h;exact⟨dF,h,e4⟩
   have dG:=fo.out.cellAt t O;have fu:=fo.out.frozenAt t;have ef:=fo.out.stored t;obtain⟨c,cI⟩:∃c,X.getD t 0=c:=⟨_,rfl⟩;have eg:(Y.map (Value.int .u8))[t]? = some (.int .u8 c):=by
    have e:=c3.out t (Ac _);rw[cI]at e;have eh:t<Y.length:=O;rw[Gg,CI eh];simp only[List.getD,CI eh,MV]at e;exact KM
   rw[eg]at dG;have fv:=U cI;have mP:Hid (∀i,t+1<=i->Y.getD i 0=X.getD i 0):=λi dI=>c3.out i O;have e5:c<97\/122<c\/(97<=c/\c<=122):=O;have dK:=(ef (.int .u8 (c-32))).1;rw[<-KV]at dK;have e6:=U dK;have e7:=U (eA.out.setCell (p:=⟨g,t,none⟩) e3 (.int .u8 (c-32)));have ei:Hid ((97<=c/\c<=122)->L4 0 X (Y.set t (c-32))):=by
    rintro ⟨h,cF⟩;have:=AkR jQ.out (Au t) (by rw[cI];exact h) (by rw[cI];exact cF);rwa[cI]at this
   have e8:Hid (∀i,t+1<=i->(Y.set t (c-32)).getD i 0=X.getD i 0):=by
    intro i dI;rw[Cz,LY O,<-Cz];exact c3.out i O
   clear cI ef dK eg c3 ee;rcases e5 with h|h|⟨h,cF⟩
   ·have e9:¬97<=c:=by omega
    go_wp2;exact AiH
   ·have e9:97<=c:=by omega
    have fw:¬c<=122:=O;go_wp2;exact AiH
   ·obtain⟨V,fx⟩:∃V,IntKind.i64.wrap (dN+(t:Int))=V:=⟨_,rfl⟩;obtain⟨z,ej,e_,e'⟩:=Fz V 2 O;have fy:IntKind.u8.wrap (c-32)=c-32:=LR;have fa:Hid (L4 0 X (Y.set t (c-32))):=ei.out ⟨h,cF⟩;clear ei;have fb:z=0\/z=1:=O;clear e_ e';rcases fb with rfl|rfl
    ·go_wp2_with (go_at_call 18;refine(Cm V 2 0 _ O O ej).mono ?_;rintro e w' ⟨rfl,rfl⟩);go_roundw
     case rel=>exact⟨t+1,_,An,O,fa,e8,e6,e7⟩
     case measure=>simp[intOf];omega
    ·go_wp2_with (go_at_call 18;refine(Cm V 2 1 _ O O ej).mono ?_;rintro e w' ⟨rfl,rfl⟩);exact AiH
  ·have fz:t=m:=by omega
   have ek:=SY fo.out;have dc:=SZ (ec.out.below eA.out);obtain⟨df,dj⟩:∃R,strOfNums Y=R:=⟨_,rfl⟩;rw[dj]at ek;have el:strOfNums X=q:=by rw[<-dE.out,Rf]
   rw[el]at dc;have em:Ap df=Y:=by rw[<-dj];exact Mo Y (AkP jQ.out eT.out)
   have fc:df.size<=140737488355328:=by rw[<-dj,Et];omega
   have fd:q.size<=140737488355328:=by rw[eU.out];omega
   obtain⟨A,c4,c5,en⟩:∃A K E,Hid (Bf T df.data.toList=(A,K,E)):=⟨_,_,_,rfl⟩;obtain⟨dk,eo⟩:∃X,Hid (strOfNums A=X):=⟨_,rfl⟩;have fe:Hid (Bf T q.data.toList=(A,c4,c5)):=by
    unfold Hid;rw[<-en.out];exact Aux (by rw[em,AkQ jQ.out eS.out,dE.out])
   have fA:(dk.toList==dk.toList)=true:=J;have fB:((c4:Int)==(c4:Int))=true:=J;have fC:(c5==c5)=true:=J;replace ac:=U (e2.out.step eA.out);have ep:=U eA.out;clear dj el em jQ c3 fo eA ee;obtain⟨⟨cf,b8,b',b9,cd,b6⟩,⟨ci,cb,b7,ca,cc,cg⟩⟩:=ac.out.box.load;go_wp2_with fail;refine(Mj x T df dk A c4 c5 _ ac.out.tab (dm.out.below ac.out.ab) fc en eo).mono ?_;rintro e fD ⟨rfl,eq⟩;replace ac:=U (ac.out.step eq);clear dc cf b8 b' b9 cd b6 ci cb b7 ca cc cg;clear ek;have dc:=SZ (ec.out.below (ep.out.trans (eq.mono ep.out.size)));rw[show strOfNums X=q by rw[<-dE.out,Rf]]at dc;obtain⟨⟨cf,b8,b',b9,cd,b6⟩,⟨ci,cb,b7,ca,cc,cg⟩⟩:=ac.out.box.load;go_wp2_with fail;refine(Uc x T q dk A c4 c5 _ ac.out.tab dU.out fd fe eo).mono ?_;rintro e w6 ⟨rfl,ad⟩;exact AAq
end Go.Proofs.YtblcoicaeeiojaaGreatDoor
