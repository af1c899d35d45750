/- table: isComposable. Wha -/
import Derived.Test.YtblcoicaeeiojaaGreatDoorSOaPmTabP
import Derived.Test.YtblcoicaeeiojaaGreatDoorSOaPmRefB
import Derived.Test.YtblcoicaeeiojaaGreatDoorSOaPmTabRC
import Derived.Test.YtblcoicaeeiojaaGreatDoorSOaPmPunRow
import Derived.DeepKeys4
import Derived.Laws.CopyOwn
set_option linter.all false
set_option maxHeartbeats 16000000
set_option maxRecDepth 100000
open Go.Proofs.Tryz
namespace Go.Proofs.YtblcoicaeeiojaaGreatDoor
open Go.RowKit
structure Jf (T:Y):Prop where
 dec:AL 0 1114111 (AC T.dec)=true
 ai:AH 0 T.ai=true
 af:AL 0 1114111 T.af=true
 len:T.dec.length<=256
 fin:∀c,A' T.dec c<=18
 pos:∀c,0<=Ao T c
 ne:∀m∈T.dec,m.2≠[]
theorem Jf.dp{T:Y}(h:Jf T)(c:Int):Dp T.dec 256 c:=X9 h.len (h.fin c)
theorem Jf.has{T:Y}(h:Jf T){c:Int}(b:AP T.dec c=true):As T.dec c≠[]:=by
 have:=Ll b;exact h.ne _ this
def AbZ(x:TV)(T:Y)(f:Int)(v:Value)(y:List Int)(w:World)(e:As T.dec f=y)(k:Bp w v y)(b:y.length≠2):Calls prog 214 #[x.agg,.agg #[.int .i64 f,v]] w (Ar (.bool (AV T f)) w):=by
 have s:Hid (AV T f=false):=Mb (by rw[e];exact b);obtain⟨q,c,rfl,_,A⟩:=k;obtain⟨m,h⟩:∃m,y.length=m:=⟨_,rfl⟩;rw[h]at b A|-;have C:((m:Int) !=2)=true:=Ae;clear e h b;simp only[TV.agg];go_enter func214,ntmps214;go_wp2;go_ret;exact⟨by rw[s.out];rfl,((Al _ _).alloc (Ac _) _).alloc J _⟩
theorem Am.cells{w0 w:World}{x:TV}{T:Y}(h:Am w0 x T w){A B:Prop}(b:A)(c:B):w.cell? ⟨w0.heap.size,0,none⟩=some x.a0/\w.cell? ⟨w0.heap.size,1,none⟩=some x.a1/\w.cell? ⟨w0.heap.size,2,none⟩=some x.a2/\w.cell? ⟨w0.heap.size,3,none⟩=some x.a3/\w.cell? ⟨w0.heap.size,4,none⟩=some x.a4/\w.cell? ⟨w0.heap.size,5,none⟩=some x.a5/\w.cell? ⟨w0.heap.size,6,none⟩=some x.a6/\w.cell? ⟨w0.heap.size,7,none⟩=some x.a7/\w.cell? ⟨w0.heap.size,8,none⟩=some x.a8/\w.cell? ⟨w0.heap.size,9,none⟩=some x.a9/\w.cell? ⟨w0.heap.size,10,none⟩=some x.aB/\w.cell? ⟨w0.heap.size,11,none⟩=some x.ax/\A/\B:=
 ⟨h.aP,h.bP,h.bF,h.aQ,h.aR,h.aV,h.bQ,h.cR,h.at8,h.at9,h.cQ,h.bE,b,c⟩
def AlA(T:Y)(H:Jf T)(k:Nat):∀(x:TV) (f:Int) (v:Value) (y:List Int) (w:World),Dp T.dec k f->As T.dec f=y->Ah w x T->Bp w v y->Calls prog 214 #[x.agg,.agg #[.int .i64 f,v]] w (Ar (.bool (AV T f)) w):=by
 have F:=U H;clear H
 induction k with
 | zero =>
  intro x f v y w b6 cj b7 b8;exact AbZ x T f v y w cj b8 (by rw[<-cj,show As T.dec f=[]from b6];simp)
 | succ k dK =>
  have eh:=U dK;clear dK;intro x f v y w b6 cj b7 b8;by_cases cF:y.length=2
  ·obtain⟨a0,a1,a2,a3,a4,a5,b9,b',ca,eF,cb,cc⟩:=x;obtain⟨cI,cd,cO,dL,ei⟩:=b7.dec;obtain⟨n,c2⟩:∃n,T.dec.length=n:=⟨_,rfl⟩;rw[c2]at cO ei;simp only at cO;subst cO;have ej:=U c2;have ek:=U dL;clear c2 dL;obtain⟨a,b,rfl⟩:∃a b,y=[a,b]:=by
    match y,cF with
    | [a,b],_=>exact⟨a,b,rfl⟩
   have c3:=Qg (F.out.dp f) cj;have dM:Dp T.dec k a:=b6 a Hy;obtain⟨bt,c4⟩:∃bt,AV T f=bt:=⟨_,rfl⟩;obtain⟨dN,dO⟩:∃B,Hid (Kh T f=B):=⟨_,rfl⟩;obtain⟨ce,dP⟩:∃z,Hid (Ao T f=z):=⟨_,rfl⟩;obtain⟨b1,c5⟩:∃z,Hid (Ao T a=z):=⟨_,rfl⟩;obtain⟨bx,c6⟩:∃z,Hid (Ao T b=z):=⟨_,rfl⟩;obtain⟨dQ,dR⟩:∃B,Hid (AP T.dec b=B):=⟨_,rfl⟩;obtain⟨el,c7⟩:∃B,Hid (AP T.dec a=B):=⟨_,rfl⟩;obtain⟨em,cf⟩:∃B,Hid (AV T a=B):=⟨_,rfl⟩;obtain⟨cg,c8⟩:∃z,Hid (Ao T (Is T.dec a)=z):=⟨_,rfl⟩;rw[dO.out,dP.out,c5.out,c6.out,dR.out,c7.out,cf.out,c8.out,c4]at c3;rw[c4];have eG:0<=bx:=by rw[<-c6.out];exact F.out.pos b
   obtain⟨q,c,rfl,c9,_⟩:=b8;have en:=c9 0 J;have eo:=c9 1 J;obtain⟨C,G,rfl,ci⟩:=en;obtain⟨eH,eI,c',da⟩:=eo;injection c' with c';injection c' with ep eq;subst ep;subst eq;simp only[DI,CS]at ci da;have db:Below w.heap.size w ((w.alloc (.cells (AG ⟨a0,a1,a2,a3,a4,a5,b9,b',ca,.slice cI n cd,cb,cc⟩) 26)).alloc (.cells #[.int .i64 f,.slice (some ⟨C,G,none⟩) 2 c] 73)):=((Al _ _).alloc (Ac _) _).alloc J _;have cm:=AN w _ ci;have b2:=(db.cell (p:=⟨C,G+0,none⟩) cm).trans ci;have r1:=(db.cell (p:=⟨C,G+1,none⟩) cm).trans da;simp only[E_]at b2;have dS:=U ((Am.new b7).step ((Al _ _).alloc (Ac _) (.cells #[.int .i64 f,.slice (some ⟨C,G,none⟩) 2 c] 73)));have dT:=U (Gi.new (w.alloc (.cells (AG ⟨a0,a1,a2,a3,a4,a5,b9,b',ca,.slice cI n cd,cb,cc⟩) 26)) f (.slice (some ⟨C,G,none⟩) 2 c) 73);have dU:(w.alloc (.cells (AG ⟨a0,a1,a2,a3,a4,a5,b9,b',ca,.slice cI n cd,cb,cc⟩) 26)).heap.size=w.heap.size+1:=J;rw[dU]at dT;have fj:=U c3;have dV:=U b2;have dW:=U r1;have er:=U dM;have eJ:Hid (C<w.heap.size):=cm;clear c3 c4 dM ci da b2 r1 db dU b6 cj cF c9 b7 cm;simp only[TV.agg];go_enter func214,ntmps214;go_wp2_with fail;refine(AcG _ T f dN _ dS.out.tab F.out.af dO).mono ?_;rintro e w1 ⟨rfl,b3⟩;have dX:=U (dS.out.step b3);have dY:=U (dT.out.below b3);have es:Hid (w1.cell? ⟨C,G,none⟩=some (.int .i64 a)):=(b3.cell (p:=⟨C,G,none⟩) (AN _ _ dV.out)).trans dV.out;have dc:Hid (w1.cell? ⟨C,G+1,none⟩=some (.int .i64 b)):=(b3.cell (p:=⟨C,G+1,none⟩) (AN _ _ dW.out)).trans dW.out;clear b3;cases dN with
   | true =>
    go_wp2;go_ret;exact⟨by rw[fj.out];rfl,dX.out.ab⟩
   | false =>
    obtain⟨df,dj⟩:=dY.out;have b2:=es.out;have r1:=dc.out;go_wp2;go_quiet (fail);generalize fE:World.drewN w1 _=dZ;have L:Below w1.heap.size w1 dZ:=Rx;have dk:=U (dX.out.step L);have et:=U (dY.out.below L);have eL:Hid (dZ.cell? ⟨C,G+1,none⟩=some (.int .i64 b)):=(L.cell (p:=⟨C,G+1,none⟩) (AN _ _ dc.out)).trans dc.out;clear fE L df dj b2 r1;have s:=dk.out.box;simp only[AS]at s;obtain⟨⟨ac,ad,am,a9,a',ba⟩,⟨bb,bc,bd,A,be,bl⟩⟩:=s;obtain⟨df,dj⟩:=et.out;go_wp2_with fail;refine(Hn _ T f ce _ dk.out.tab F.out.ai dP).mono ?_;rintro e w3 ⟨rfl,d0⟩;have co:=U (dk.out.step d0);clear d0 ac ad am a9 a' ba bb bc bd A be bl df dj;by_cases eK:ce=0
    ·have eu:(ce !=0)=false:=by simp[eK]
     have s:=co.out.box;simp only[AS]at s;obtain⟨⟨ac,ad,am,a9,a',ba⟩,⟨bb,bc,bd,A,be,bl⟩⟩:=s;have fh:=U eK;clear eK;go_wp2_with fail;refine(Hn _ T a b1 _ co.out.tab F.out.ai c5).mono ?_;rintro e eM ⟨rfl,d1⟩;have cp:=U (co.out.step d1);clear d1 ac ad am a9 a' ba bb bc bd A be bl;by_cases dE:b1=0
     ·have ev:(b1 !=0)=false:=by simp[dE]
      have s:=cp.out.box;simp only[AS]at s;obtain⟨⟨ac,ad,am,a9,a',ba⟩,⟨bb,bc,bd,A,be,bl⟩⟩:=s;have h7:=U dE;clear dE;go_wp2_with fail;refine(Wr _ T b dQ _ cp.out.tab F.out.dec dR).mono ?_;rintro e eN ⟨rfl,d2⟩;have cq:=U (cp.out.step d2);clear d2 ac ad am a9 a' ba bb bc bd A be bl;cases dQ with
      | true =>
       go_wp2;go_ret;exact⟨by rw[fj.out];simp,cq.out.ab⟩
      | false =>
       have A:=cq.out.at9;simp only at A;go_wp2_with fail;refine(Lm _ T.dec a _ cq.out.tab.dec F.out.dec).mono ?_;rintro e w6 ⟨i,rfl,dI,dm,d3⟩;rw[c7.out]at dm|-;have cr:=U (cq.out.step d3);clear d3 A;cases el with
       | false =>
        have fi:Hid (bt=true):=by
         have cl:cg=b1:=by rw[<-c8.out,AdB (FN c7.out),c5.out]
         exact Ay2
        go_wp2;go_ret;exact⟨RP,cr.out.ab⟩
       | true =>
        obtain⟨cs,d4,d5⟩:=dm rfl;have eO:i<n:=by rw[<-ej.out];exact cs
        obtain⟨dn,dq,eP,rfl,d6,b4,d7,ds,rfl,ct,cu⟩:=(ek.out.below cr.out.ab) i cs;rw[d4]at d6;rw[<-d5]at b4 ct cu;obtain⟨bv,dx⟩:∃bv,As T.dec a=bv:=⟨_,rfl⟩;rw[dx]at b4 ct cu;obtain⟨md,dy⟩:∃m,bv.length=m:=⟨_,rfl⟩;rw[dy]at b4 cu;have d8:=U b4;have ew:=U ct;have cv:=U dx;have dz:=U dy;have eQ:=U cs;clear dm dI cs d4 d5 ct dx dy;have s:=cr.out.box;simp only[AS]at s;obtain⟨⟨ac,ad,am,a9,a',ba⟩,⟨bb,bc,bd,A,be,bl⟩⟩:=s;go_upto_region 9 with(fail);go_still_tail 6,Ax;change wpList _ _ _ _ _ w6.drew;have L:Below w6.heap.size w6 w6.drew:=Bx _;have dF:=U (cr.out.step L);have dG:=U (ew.out.below L);generalize w6.drew=eR at dF dG L|-;have d9:=U L;clear L;go_wp2_with fail;refine(eh.out _ a (.slice d7 md ds) bv _ er.out cv.out dF.out.tab ⟨d7,ds,by rw[dz.out],dG.out,by rw[dz.out];exact cu⟩).mono ?_;rw[cf.out];rintro e cx ⟨rfl,cy⟩;have cA:=U (dF.out.step cy);have ex:=U (dG.out.below cy);have ey:=U (((d9.out.trans (cy.mono d9.out.size)).cell (AN _ _ d8.out)).trans d8.out);clear cy ac ad am a9 a' ba bb bc bd A be bl d6 b4;cases em with
        | false =>
         have fi:Hid (bt=false):=by unfold Hid;rw[fj.out];simp
         go_wp2;go_ret;exact⟨RP,cA.out.ab⟩
        | true =>
         have d_:bv.length=2:=by
          apply JQ;intro h;have:=Mb (T:=T) (c:=a) (by rw[cv.out];exact h);rw[cf.out]at this;cases this
         obtain⟨cB,bs,rfl⟩:∃cB bs,bv=[cB,bs]:=by
          match bv,d_ with
          | [cB,bs],_=>exact⟨cB,bs,rfl⟩
         have cC:=Qg (F.out.dp a) cv.out;rw[cf.out]at cC;have d':AP T.dec bs=false:=by
          cases ez:AP T.dec bs with
          | false=>rfl
          | true=>rw[ez]at cC;simp at cC
         have ea:=AdC (F.out.dp a) cv.out (FN d');have eA:Hid (Ao T bs=cg):=by unfold Hid;rw[<-c8.out,ea]
         obtain rfl:md=2:=dz.out.symm;obtain⟨dH,dJ,rfl,eb⟩:=ex.out 1 J;simp only[DI,CS]at eb;have eB:=ey.out;have ec:=Hn _ T b bx cx.drew (cA.out.step (Bx _)).tab F.out.ai c6;have eC:=U ec;have ed:=U (cA.out.step (Bx cx));have ee:=U eB;have ef:=U eb;have s:=cA.out.box;simp only[AS]at s;obtain⟨⟨ac,ad,am,a9,a',ba⟩,⟨bb,bc,bd,A,be,bl⟩⟩:=s;clear ec d_ cC d' ea;go_wp2_with fail;go_region_held3 (λw'=>w'.cell? ⟨w.heap.size,0,none⟩=some a0/\w'.cell? ⟨w.heap.size,1,none⟩=some a1/\w'.cell? ⟨w.heap.size,2,none⟩=some a2/\w'.cell? ⟨w.heap.size,3,none⟩=some a3/\w'.cell? ⟨w.heap.size,4,none⟩=some a4/\w'.cell? ⟨w.heap.size,5,none⟩=some a5/\w'.cell? ⟨w.heap.size,6,none⟩=some b9/\w'.cell? ⟨w.heap.size,7,none⟩=some b'/\w'.cell? ⟨w.heap.size,8,none⟩=some ca/\w'.cell? ⟨w.heap.size,9,none⟩=some (.slice (some ⟨dn,dq,none⟩) n cd)/\w'.cell? ⟨w.heap.size,10,none⟩=some cb/\w'.cell? ⟨w.heap.size,11,none⟩=some cc/\w'.cell? ⟨dn,dq+i*2+1,none⟩=some (.slice (some ⟨dH,dJ,none⟩) 2 ds)/\w'.cell? ⟨dH,dJ+1,none⟩=some (.int .i64 bs))
          (first
           | go_keep
           | exact(ed.out.step b5).cells ((b5.cell (p:=⟨dn,dq+i*2+1,none⟩) (AN cx _ ee.out)).trans ee.out) ((b5.cell (p:=⟨dH,dJ+1,none⟩) (AN cx _ ef.out)).trans ef.out))
          (first
           | (go_at_call 155;(with_reducible refine eC.out.mono ?_);rintro e eS ⟨rfl,b5⟩))
         all_goals
          have cD:=U (ed.out.step b5);clear b5;by_cases b0:bx=0
          ·have eD:(bx==0)=true:=by simp[b0]
           have fi:Hid (bt=true):=by unfold Hid;rw[fj.out,fh.out,h7.out,b0];rfl
           clear b0;go_wp2;go_ret;exact⟨RP,cD.out.ab⟩
          ·have eD:(bx==0)=false:=by simp[b0]
           have fi:Hid (bt=decide (cg<=bx)):=by unfold Hid;rw[fj.out,fh.out,h7.out,Ai b0];simp
           have s:=cD.out.box;simp only[AS]at s;obtain⟨⟨ac,ad,am,a9,a',ba⟩,⟨bb,bc,bd,A,be,bl⟩⟩:=s;clear b0;go_wp2_with fail;refine(Hn _ T bs cg _ cD.out.tab F.out.ai eA).mono ?_;rintro e eT ⟨rfl,eg⟩;have eE:=U (cD.out.step eg);clear eg ac ad am a9 a' ba bb bc bd A be bl;go_wp2
           all_goals
            go_ret;exact⟨Lo Ay0,eE.out.ab⟩
     ·have ev:(b1 !=0)=true:=by simp[dE]
      have fi:Hid (bt=false):=AhF;clear dE;go_wp2;go_ret;exact⟨RP,cp.out.ab⟩
    ·have eu:(ce !=0)=true:=by simp[eK]
     have fi:Hid (bt=false):=AhG;clear eK;go_wp2;go_ret;exact⟨RP,co.out.ab⟩
  ·exact AbZ x T f v y w cj b8 cF
end Go.Proofs.YtblcoicaeeiojaaGreatDoor
namespace Go.Proofs.YtblcoicaeeiojaaGreatDoor
def Mr{T:Y}(h:r2 T=true):AH 0 T.cat=true/\AH 0 T.ai=true/\AH 0 T.al=true/\AH 0 T.ak=true/\AH 0 T.aj=true/\AH 0 T.ag=true/\AH 0 T.an=true:=by
 simp only[r2,BF,BA,AJ,DQ,Gf]at h;exact⟨h.1.1.1,h.1.2.1.1,h.1.2.2.1.1,h.1.2.2.2.1.1,h.1.2.2.2.2.1.1,h.1.2.2.2.2.2.1.1,h.1.2.2.2.2.2.2.1.1⟩
def Jw{T:Y}(h:r2 T=true):AL 0 1114111 (AC T.ext)=true/\AL 0 1114111 (AC T.map)=true/\AL 0 1114111 (AC T.dec)=true/\AL 0 1114111 (AC T.ah)=true/\AL 0 1114111 T.af=true:=by
 simp only[r2,Cx,Nw,AJ]at h;exact⟨h.2.1.1,h.2.2.1.1,h.2.2.2.1.1,h.2.2.2.2.1.1,h.2.2.2.2.2.1⟩
def Pd{l:List Sp}{c v:Int}(h:val l c=some v):∃s∈l,s.1<=c/\c<=s.2.1/\s.2.2=v:=by
 induction l with
 | nil=>cases h
 | cons s r e =>
  rw[MA]at h;by_cases b:s.1<=c/\c<=s.2.1
  ·rw[N b]at h;injection h with h;exact⟨s,J,b.1,b.2,h⟩
  ·rw[V b]at h;obtain⟨t,k,m⟩:=e h;exact⟨t,by simp[k],m⟩
def Afj{T:Y}(h:r3 T=true)(c:Int):0<=Ao T c:=by
 simp only[r3,AJ,DB,AR,A4]at h;unfold Ao;cases b:val T.ai c with
 | none=>simp
 | some v =>
  obtain⟨s,e,_,_,rfl⟩:=Pd b;have:=(h.2.1 s e).1;exact Ae
def Afo{T:Y}(h:r4 T=true):∀m∈T.dec,m.2≠[]:=by
 simp only[r4,AJ,AR,GB,A4]at h;intro m b c;have:=(h.2.2.1 m b).1.1;rw[c]at this;simp at this
def Afp{T:Y}(h:r4 T=true):∀m∈T.dec,m.2.all AA=true:=by
 simp only[r4,AJ,AR,GB,A4]at h;intro m b;rw[AR];exact(h.2.2.1 m b).2
def T0{T:Y}(h:r6 T=true)(c:Int):A' T.dec c<=18:=by
 simp only[r6,AJ,AR,A4]at h;cases b:AP T.dec c with
 | false=>rw[Re (FN b)];omega
 | true=>exact h.2 _ (Ll b)
def VR{T:Y}(c:r1 T=true)(b:r2 T=true)(e:r3 T=true)(h:r4 T=true)(k:r6 T=true):Jf T:=
 ⟨(Jw b).2.2.1,(Mr b).2.1,(Jw b).2.2.2.2,(Qr c).2.2.1,T0 k,Afj e,Afo h⟩
def AbB{T:Y}(h:r1 T=false):Av T=1:=by simp[Av,h]
def AbC{T:Y}(b:r1 T=true)(h:r2 T=false):Av T=2:=by simp[Av,b,h]
def Ak3{T:Y}(b:r1 T=true)(c:r2 T=true)(h:r3 T=false):Av T=3:=by simp[Av,b,c,h]
def Ak4{T:Y}(b:r1 T=true)(c:r2 T=true)(e:r3 T=true)(h:r4 T=false):Av T=4:=by simp[Av,b,c,e,h]
def Ak5{T:Y}(b:r1 T=true)(c:r2 T=true)(e:r3 T=true)(k:r4 T=true)(h:r5 T=false):Av T=5:=by simp[Av,b,c,e,k,h]
def Ak6{T:Y}(b:r1 T=true)(c:r2 T=true)(e:r3 T=true)(k:r4 T=true)(m:r5 T=true)(h:r6 T=false):Av T=6:=by simp[Av,b,c,e,k,m,h]
def AbD{T:Y}(b:r1 T=true)(c:r2 T=true)(e:r3 T=true)(h:r4 T=true)(k:r5 T=true)(m:r6 T=true):Av T=if r7 T=false then 7 else if r8 T=false then 8 else if r9 T=false then 9 else 0:=by simp[Av,b,c,e,h,k,m]
def Br(T:Y)(c:Int):List Int:=if BK c=[]then F6 T.dec c else BK c
def AQ(T:Y)(l:List Int):List Int:=l.flatMap (Br T)
def Dg(T:Y)(x:Int):Prop:=AA x=true/\As T.dec x=[]/\BK x=[]
def CO{T:Y}(h:Av T=0):r1 T=true/\r2 T=true/\r3 T=true/\r4 T=true/\r6 T=true:=by
 unfold Av at h;split at h
 ·omega
 split at h
 ·omega
 split at h
 ·omega
 split at h
 ·omega
 split at h
 ·omega
 split at h
 ·omega
 rename_i b be cD c k e;exact⟨by simpa using b,N1,MH,by simpa using c,by simpa using e⟩
def IP{c:Int}:BK c=[]↔¬(44032<=c/\c<=55203):=by
 unfold BK;constructor
 ·intro h b;rw[N b]at h;split at h<;>cases h
 ·intro b;rw[V b]
def AlT{c x:Int}(h:x∈BK c):(4352<=x/\x<=4370)\/(4449<=x/\x<=4469)\/(4520<=x/\x<=4546):=by
 unfold BK at h;split at h
 ·rename_i b;split at h
  ·simp only[AX,CT,C7]at h;rcases h with rfl|rfl<;>omega
  ·simp only[AX,CT,C7]at h;rcases h with rfl|rfl|rfl<;>omega
 ·exact Ds
def AlS(c:Int):(BK c).length<=3:=by
 unfold BK;split
 ·split<;>simp
 ·exact J
def Qk{T:Y}(h:Av T=0){x:Int}(c:Bz x=true):As T.dec x=[]:=by
 obtain⟨_,b,_⟩:=CO h;apply JQ;intro e;have k:=Wu e;unfold r2 Cx at b;simp only[AJ,AR]at b;have:=b.2.2.2.1.2 x k;rw[c]at this;cases this
def IR{l:List Mp}{c:Int}(h:As l c≠[]):(c,As l c)∈l:=by
 cases b:AP l c with
 | false=>exact absurd (FN b) h
 | true=>exact Ll b
def V2{T:Y}(h:Av T=0):∀m∈T.dec,m.2.length<=18:=by
 intro m c;have b:=(CO h).2.2.2.1;unfold r4 at b;simp only[AJ,AR]at b;have:=b.2.2.1 m c;unfold GB at this;simp only[AJ,A4]at this;exact this.1.2
def AlW{T:Y}(h:Av T=0)(c:Int):(As T.dec c).length<=18:=by
 by_cases cj:As T.dec c=[]
 ·exact Hy
 ·exact V2 h _ (IR cj)
def Qj{T:Y}(h:Av T=0){c x:Int}(e:x∈As T.dec c):AA x=true/\BK x=[]:=by
 obtain⟨_,_,_,s,k⟩:=CO h;have q:=IR (NF e);have a:=Afp s _ q;rw[AR]at a;refine⟨a x e,?_⟩;unfold r6 at k;simp only[AJ,AR]at k;have b:=k.1 _ q;unfold EH at b;simp only[AJ,AR]at b;have m:=b.2 x e;rw[IP];intro A;have:Cg x=true:=JD.2 A;unfold D9 at m;rw[this]at m;simp at m
def AmO{T:Y}(h:Av T=0){c x:Int}(b:x∈BK c):Dg T x:=by
 have e:=AlT b;refine⟨?_,Qk h (GA.2 O),IP.2 O⟩;unfold AA;simp;omega
def Anc{T:Y}(h:Av T=0)(k:Nat)(c:Int)(m:Dp T.dec k c)(q:AA c=true)(s:BK c=[]):∀x∈Ek T.dec k c,Dg T x:=by
 induction k generalizing c with
 | zero =>
  intro x b;have:x=c:=by simpa[Ek] using b
  subst this;exact⟨q,m,s⟩
 | succ k F =>
  intro x b;by_cases e:As T.dec c=[]
  ·rw[Jo _ e]at b;have:x=c:=by simpa using b
   subst this;exact⟨q,e,s⟩
  ·rw[Ek,V e,Vj]at b;obtain⟨y,A,b⟩:=b;have C:=Qj h A;exact F y (m y A) C.1 C.2 x b
def Ane{l:List Mp}(k:Nat)(c:Int)(h:sz l k c<=18)(m:Dp l k c):(Ek l k c).length=sz l k c:=by
 induction k generalizing c with
 | zero=>rw[Mz _ m];rfl
 | succ k s =>
  by_cases b:As l c=[]
  ·rw[Jo _ b,Mz _ b];rfl
  ·rw[O7 _ b]at h|-;rw[Ek,V b,List.length_flatMap];have e:(As l c).map (λx=>(Ek l k x).length)=(As l c).map (sz l k):=by
    refine Jc λx q=>s x ?_ (m x q);have:=AgA (sz l k) _ x q;omega
   rw[e];omega
def Acm{T:Y}(h:Av T=0):T.dec.length<=256:=by
 obtain⟨b,_⟩:=CO h;unfold r1 C_ Gs at b;simp only[DQ,Gf,AJ,A4,and_true]at b;exact b.2.1.2.2.1
def Nb{T:Y}(h:Av T=0)(c:Int):Dp T.dec 256 c:=X9 (Acm h) (T0 (CO h).2.2.2.2 c)
def AmD{T:Y}(h:Av T=0){c:Int}(e:AA c=true):∀x∈Br T c,Dg T x:=by
 intro x b;unfold Br at b;split at b
 ·rename_i k;exact Anc h 256 c (Nb h c) e k x b
 ·exact AmO h b
def Th{T:Y}(h:Av T=0)(c:Int):1<=(Br T c).length/\(Br T c).length<=18:=by
 unfold Br;split
 ·have b:=T0 (CO h).2.2.2.2 c;have k:=Rd T.dec c;have m:(F6 T.dec c).length=A' T.dec c:=Ane 256 c b (Nb h c);omega
 ·rename_i e;have:=AlS c;have:=KT.2 e;omega
theorem Dg.exp{T:Y}{x:Int}(h:Dg T x):Br T x=[x]:=by
 unfold Br;rw[N h.2.2,Qs h.2.1]
def Ti{T:Y}(h:Av T=0){c:Int}(b:BK c=[])(e:As T.dec c≠[]):Br T c=AQ T (As T.dec c):=by
 unfold AQ;rw[show Br T c=F6 T.dec c by unfold Br;rw[N b],AcR (Nb h c) e,Vf,Vf];congr 1;refine Jc λx k=>?_;unfold Br;rw[N (Qj h k).2]
def Ng{T:Y}{c:Int}(b:BK c=[])(e:As T.dec c=[]):Br T c=[c]:=by
 unfold Br;rw[N b,Qs e]
def M7(T:Y)(a b:List Int):AQ T (a++b)=AQ T a++AQ T b:=by simp[AQ]
def Gp(T:Y)(c:Int)(b:List Int):AQ T (c::b)=Br T c++AQ T b:=by simp[AQ]
def VA(T:Y)(l:List Int)(k:Nat)(b:k<l.length):AQ T (l.take (k+1))=AQ T (l.take k)++Br T (l.getD k 0):=by
 rw[C4 l k b,M7];simp[AQ]
def AaU{T:Y}(h:Av T=0){l:List Int}(e:l.all AA=true):∀x∈AQ T l,Dg T x:=by
 intro x b;rw[AQ,Vj]at b;obtain⟨c,k,b⟩:=b;rw[AR]at e;exact AmD h (e c k) x b
def P7{T:Y}{l:List Int}(b:∀x∈l,Dg T x):AQ T l=l:=by
 induction l with
 | nil=>rfl
 | cons x r c =>
  rw[Gp,(b x J).exp,c λy b0=>b y Hz];rfl
def AmP{T:Y}{l:List Int}(b:∀x∈l,Dg T x):l.all AA=true:=by
 rw[AR];exact λx c=>(b x c).1
def Aj2{T:Y}(h:Av T=0)(l:List Int):l.length<=(AQ T l).length/\(AQ T l).length<=18*l.length:=by
 induction l with
 | nil=>simp[AQ]
 | cons x r b =>
  have:=Th h x;rw[Gp,Bc,BB];omega
def AaW(T:Y)(l:List Int)(k:Nat):(AQ T (l.take k)).length<=(AQ T l).length:=by
 conv=>rhs;rw[<-FG k l]
 rw[M7,Bc];omega
def AeC(k:Int->Int)(a b:List Int):Bh k (Bh k a++b)=Bh k (a++b):=by
 have e:Ee k [] (Bh k a)=Ee k [] a:=by
  rw[AeB k (Bh k a) [] (by simpa using Xn k a),E8];unfold Bh;rw[List.reverse_reverse]
 unfold Bh at e|-;rw[OL,OL,e]
def Aqt(k:Int->Int)(a b:List Int):Bh k (a++Bh k b)=Bh k (a++b):=by
 obtain⟨n,F⟩:∃n,G_ k b<=n:=⟨_,Ac _⟩
 induction n generalizing b with
 | zero =>
  rw[(Aqs k b).2];rw[Wv];intro i dI c;have:=(Yk k b i dI c.1 c.2).2;omega
 | succ n h =>
  by_cases e:BR k b
  ·rw[LA k b e]
  ·rw[Wv]at e;obtain⟨i,dI⟩:=Classical.not_forall.1 e;obtain⟨dI,c⟩:=Classical.not_imp.1 dI;have c:=Classical.not_not.1 c;obtain⟨m,G⟩:=Yk k b i dI c.1 c.2;obtain⟨p,q,_,s,A⟩:=AgC b i dI;have C:Bh k (a++IY b i)=Bh k (a++b):=by
    have:=Xp k (a++p) q c.1 c.2;rw[A]
    conv=>rhs;rw[s]
    simpa using this.symm
   rw[<-m,h (IY b i) O,C]
def AeD(k:Int->Int)(a b:List Int):Bh k (Bh k a++Bh k b)=Bh k (a++b):=by rw[AeC,Aqt]
def Aqv{T:Y}{l:List Int}(b:∀x∈l,Dg T x):∀x∈Bh (Ao T) l,Dg T x:=λx c=>b x ((Xo _ l).mem_iff.1 c)
end Go.Proofs.YtblcoicaeeiojaaGreatDoor
namespace Go.Proofs.YtblcoicaeeiojaaGreatDoor
open Go.RowKit Go.Maps
open Go.WideMaps (ArrKey keyOf_pair)
def AeG:ArrKey prog 161 3 2:=⟨underlying161,Ax,Ax,Ax⟩
def AeH:∃m,prog.types.size=m+1:=⟨prog.types.size-1,by
 have:0<prog.types.size:=If Ax
 omega⟩
def Aq1:laidOutB prog=true:=Ax
def Aq8:(match prog.underlying 161 with|some (.array _ _)|some (.struct _)=>true|_=>false)=true:=Ax
def Aq5:(161:TypeId)<prog.types.size:=If Ax
def Aq0:prog.keyTypeAt 2 161=true:=Ax
def QK:Keyed prog 161:=Keyed.of_law (deep_law_laid Aq1 (m:=2) O Aq5 Aq0 Aq8)
def GX(a b:Int):Lit:=.string (keyBytes [.int .i64 a,.int .i64 b])
def FC(a:Int):Prop:=0<=a/\a<=1114111
def AgZ{a:Int}(h:FC a):(Lit.int .i64 a).wf=true:=WalkArith.wf_i64 (by unfold FC at h;omega)
def TQ{a b:Int}(c:FC a)(e:FC b):keyOf prog 161 (.agg #[.int .i64 a,.int .i64 b])=some (GX a b):=keyOf_pair AeG underlying3 AeH (AgZ c) (AgZ e)
def Aq2{a b c d:Int}(e:FC a)(k:FC b)(m:FC c)(q:FC d)(h:GX a b=GX c d):a=c/\b=d:=by
 have a':=TQ e k;have be:=TQ m q;exact Avm
def EW(y:List Int):Lit:=GX (y.getD 0 0) (y.getD 1 0)
def LJ(l:List (List Int)):DataW Unit:=setOf (.lit (.bool true)) (l.map EW)
def WV(y:List Int):WideAt.IsKeyLit (EW y):=trivial
theorem Abc(k: Lit): ∀ (c: List Lit) (m: DataW Unit), IsMap m->(∀ x ∈ c, WideAt.IsKeyLit x)->
  (k∈c->(c.foldl (λm x=>m.put x (.lit (.bool true))) m).atKey k (.lit (.bool false))=.lit (.bool true))/\
  (k∉c->(c.foldl (λm x=>m.put x (.lit (.bool true))) m).atKey k (.lit (.bool false))=m.atKey k (.lit (.bool false)))
 | [],m,_,_=>⟨λh=>(CT h).elim,λ_=>rfl⟩
 | x::r,m,C,h=>by
  rw[List.foldl_cons];have q:=Abc k r _ (C.put x (.lit (.bool true))) (λy b0=>h y Hz);by_cases e:k=x
  ·subst e;have s:=atKey_put_same C (h k J) (.lit (.bool true)) (.lit (.bool false));refine⟨λ_=>?_,λA=>absurd J A⟩;by_cases F:k∈r
   ·exact q.1 F
   ·rw[q.2 F,s]
  ·have s:(m.put x (.lit (.bool true))).atKey k (.lit (.bool false))=m.atKey k (.lit (.bool false)):=atKey_put_other e _ _;refine⟨λb=>q.1 ?_,λA=>?_⟩
   ·rcases AX.1 b with b|b
    ·exact absurd b e
    ·exact b
   ·rw[q.2 (λb=>A (Sf _ b)),s]
def AtA(l:List (List Int))(k:Lit):(k∈l.map EW->(LJ l).atKey k (.lit (.bool false))=.lit (.bool true))/\(k∉l.map EW->(LJ l).atKey k (.lit (.bool false))=.lit (.bool false)):=by
 have:=Abc k (l.map EW) (.map []) isMap_empty (λx b=>by
  obtain⟨y,_,rfl⟩:=Cc.1 b;exact WV y)
 exact⟨this.1,this.2⟩
def AtB(l:List (List Int))(y:List Int):LJ (l++[y])=(LJ l).put (EW y) (.lit (.bool true)):=by
 rw[LJ,FY,BH,Eg,setOf_snoc];rfl
def Ao1{l:List (List Int)}{a b:Int}(m:∀y∈l,∃c d,y=[c,d]/\FC c/\FC d)(q:FC a)(s:FC b):GX a b∈l.map EW↔[a,b]∈l:=by
 constructor
 ·intro h;obtain⟨y,k,e⟩:=Cc.1 h;obtain⟨c,d,rfl,A,C⟩:=m y k;obtain⟨F,G⟩:=Aq2 A C q s e;rw[<-F,<-G];exact k
 ·intro h;exact Cc.2 ⟨[a,b],h,rfl⟩
def Avh(w:World):(zeroValue 4).run prog w=.ok (.bool false) w:=Ax
def Arl{P:Program}{e:TypeId}(b:P.underlying e=some .bool){v:Value}{z:DataW Unit × List MemPlace}(h:plainElem P e v=some z):∃a,v=.bool a/\z=(.lit (.bool a),[]):=by
 unfold plainElem at h;rw[b]at h;cases v<;>simp at h;exact⟨_,rfl,h.symm⟩
def Ao4{P:Program}{k:TypeId}{w:World}{b n:Nat}{D:DataW Unit}{t e:TypeId}(h:w.ownsMap P k (plainElem P e) b n D)(K:Keyed P k)(C:P.underlying t=some (.map k e))(m:P.underlying e=some .bool)(F:(zeroValue e).run P w=.ok (.bool false) w){q:Value}{s:Lit}(G:keyOf P k q=some s):∃c,(Instr.lookup t (.map (some b)) q false).run P w=.ok (.bool c) w/\D.atKey s (.lit (.bool false))=.lit (.bool c):=by
 obtain⟨v,ad,L,ac⟩:=h.lookup K C F (plainElem_bool m false) G;obtain⟨c,rfl,A⟩:=Arl m ac;simp only[DY]at A;exact⟨c,L,A.1⟩
def Ao5{w:World}{B n:Nat}{l:List (List Int)}{a b:Int}(h:w.ownsMap prog 161 (plainElem prog 4) B n (LJ l))(C:∀y∈l,∃c d,y=[c,d]/\FC c/\FC d)(m:FC a)(q:FC b):(Instr.lookup 178 (.map (some B)) (.agg #[.int .i64 a,.int .i64 b]) false).run prog w=.ok (.bool (decide ([a,b]∈l))) w:=by
 obtain⟨c,F,e⟩:=Ao4 h QK underlying178 underlying4 (Avh w) (TQ m q);have s:=AtA l (GX a b);have A:=Ao1 C m q;rw[F];by_cases k:[a,b]∈l
 ·rw[s.1 (A.2 k)]at e;injection e with e;injection e with e;rw[<-e,At k]
 ·rw[s.2 (λG=>k (A.1 G))]at e;injection e with e;injection e with e;rw[<-e,Ai k]
def AbQ(T:Y)(l:List Mp)(m:Mp):Ck T (l++[m])=Ck T l++if AV T m.1=true then [m.2]else []:=by
 simp only[Ck,Sc,FY,List.filter_cons,List.filter_nil];split<;>simp
def ApX{T:Y}{l:List Mp}(k:Nat)(h:¬(Ck T (l.take k)).Nodup):¬(Ck T l).Nodup:=by
 intro b;apply h;have e:=FG k l;rw[<-e]at b;simp only[Ck,Sc,FY]at b;exact(Sh.1 b).1
def ApY{l:List (List Int)}{y:List Int}(h:l.Nodup)(k:y∉l):(l++[y]).Nodup:=by
 rw[Sh];exact⟨h,J,λa m b c=>by rw[Ch]at c;subst c;exact λe=>k (e▸m)⟩
def Ap1{l:List (List Int)}{y:List Int}(b:y∈l):¬(l++[y]).Nodup:=by
 rw[Sh];intro h;exact h.2.2 y b y J rfl
end Go.Proofs.YtblcoicaeeiojaaGreatDoor
namespace Go.Proofs.YtblcoicaeeiojaaGreatDoor
open Go.RowKit Go.Maps
def Aly{T:Y}(s:∀m∈T.dec,As T.dec m.1=m.2)(A:∀m∈T.dec,m.2.all AA=true){l:List Mp}(e:∀m∈l,m∈T.dec):∀y∈Ck T l,∃c d,y=[c,d]/\FC c/\FC d:=by
 intro y k;simp only[Ck,Cc,JW]at k;obtain⟨m,⟨q,C⟩,rfl⟩:=k;have F:m.2.length=2:=by
  apply JQ;intro h;have:=Mb (T:=T) (c:=m.1) (by rw[s m (e m q)];exact h);rw[C]at this;cases this
 have b:=A m (e m q);obtain⟨f,y⟩:=m
 match y,F,b with
 | [c,d],_,b =>
  simp only[DQ,Gf,AJ,NN]at b;exact⟨c,d,rfl,⟨b.1.1,b.1.2.1⟩,⟨b.2.1.1,b.2.1.2.1⟩⟩
def Xt{w w':World}{B n:Nat}{D:DataW Unit}(h:w.ownsMap prog 161 (plainElem prog 4) B n D)(b:Below w.heap.size w w'):w'.ownsMap prog 161 (plainElem prog 4) B n D:=h.kept (G4 b none) J
def AuG(x:TV)(T:Y)(w:World)(a':Ah w x T)(H:Jf T)(L:∀m∈T.dec,m.2.all AA=true):Calls prog 147 #[x.agg] w (Ar (.bool (r8 T)) w):=by
 obtain⟨a0,a1,a2,a3,a4,a5,bv,bx,b0,d1,b1,b2⟩:=x;obtain⟨pm,b3,c,cl,c7⟩:=a'.dec;obtain⟨n,ba⟩:∃n,T.dec.length=n:=⟨_,rfl⟩;rw[ba]at c c7;simp only at c;subst c;have b4:∀m∈T.dec,As T.dec m.1=m.2:=λm c=>by
  obtain⟨k,b5,rfl⟩:=JU c;have:=Ow H.dec k b5;rw[Cz,CI b5]at this;exact this
 have cm:=U (λl c8=>Aly b4 L (l:=l) c8);have c9:=U (Am.new a');have c':=U (c9.out.step ((Al _ _).alloc (Ac _) (.map #[] 0)));have co:=U (World.ownsMap_made (w.alloc (.cells (AG ⟨a0,a1,a2,a3,a4,a5,bv,bx,b0,.slice pm n b3,b1,b2⟩) 26)) prog 161 (plainElem (H:=Unit) prog 4));have cp:(w.alloc (.cells (AG ⟨a0,a1,a2,a3,a4,a5,bv,bx,b0,.slice pm n b3,b1,b2⟩) 26)).heap.size=w.heap.size+1:=J;rw[cp]at co;have d2:n<=256:=by rw[<-ba];exact H.len
 have da:=U a';have b6:=U H;have cq:=U ba;have db:=U cl;have d3:=U b4;have dc:=@run_makeMap prog;clear a' ba cl L b4 H cp;simp only[TV.agg];go_enter func147,ntmps147;go_wp2;clear dc;go_loopw[11] (λi wr=>∃k:Nat,k<=n/\i=.int .i64 k/\Hid ((Ck T (T.dec.take k)).Nodup)/\Hid (Am w ⟨a0,a1,a2,a3,a4,a5,bv,bx,b0,.slice pm n b3,b1,b2⟩ T wr)/\Hid (wr.ownsMap prog 161 (plainElem prog 4) (w.heap.size+1) k (LJ (Ck T (T.dec.take k))))) (λi _=>n-(intOf i).toNat)
 case atStart=>exact⟨0,Au _,rfl,by simp[Hid,Ck],c',co⟩
 case round=>
  obtain⟨k,b5,rfl,bb,bc,cr⟩:=hrel;by_cases df:k<n
  ·have b7:k<T.dec.length:=by rw[cq.out];exact df
   obtain⟨b,ff,v,rfl,b8,bd,A,q,rfl,be,bl⟩:=(db.out.below bc.out.ab) k b7;have C:Ck T (T.dec.take (k+1))=Ck T (T.dec.take k)++if AV T (T.dec.getD k Ay).1=true then [(T.dec.getD k Ay).2]else []:=by
    rw[KF T.dec k b7,AbQ]
   have ac:=Ow b6.out.dec k b7;have b9:=cm.out (T.dec.take k) λm c=>KW c;have cs:=cm.out (T.dec.take (k+1)) λm c=>KW c;obtain⟨⟨f,y⟩,L⟩:∃s,T.dec.getD k Ay=s:=⟨_,rfl⟩;rw[L]at b8 bd C ac be bl;simp only at b8 bd C ac be bl;obtain⟨F,b'⟩:∃F,Ck T (T.dec.take k)=F:=⟨_,rfl⟩;rw[b']at C bb cr b9;obtain⟨m,bt⟩:∃m,y.length=m:=⟨_,rfl⟩;obtain⟨ca,ct⟩:∃ca,Hid (AV T f=ca):=⟨_,rfl⟩;rw[ct.out]at C;have cb:Below wr.heap.size wr (wr.alloc (.cells #[.int .i64 f,.slice A m q] 73)):=(Al _ _).alloc (Ac _) _;have cc:=U (bc.out.step cb);have dj:=U (Xt cr.out cb);have dk:=U (Gi.new wr f (.slice A m q) 73);have cu:=U (BE.alloc be (.cells #[.int .i64 f,.slice A m q] 73));have cv:Bp (wr.alloc (.cells #[.int .i64 f,.slice A m q] 73)) (.slice A m q) y:=⟨A,q,by rw[bt],cu.out,bl⟩;rw[bt]at bd bl;have cd:=AlA T b6.out 256 _ f _ y _ (b6.out.dp f) ac cc.out.tab cv;rw[ct.out]at cd;have cx:=U cd;have cy:=U C;have d4:=U ac;have dm:=U bt;have d5:=U b';have dn:=U b9;have dq:=U cs;have ad:=cc.out.box;simp only[AS]at ad;obtain⟨⟨ds,dx,dy,dz,dE,dG⟩,⟨dH,dJ,dK,dL,dM,dN⟩⟩:=ad;clear L C ac cb cv cd be bt b' b9 cs;go_wp2_with fail;refine cx.out.mono ?_;rintro e w2 ⟨rfl,am⟩;have cA:=U (cc.out.step am);have cB:=U (Xt dj.out am);have dO:=U (dk.out.below am);have cC:=U (cu.out.below am);clear am ds dx dy dz dE dG dH dJ dK dL dM dN b8 bd cx;cases ca with
   | false =>
    have h:Hid (Ck T (T.dec.take (k+1))=F):=by unfold Hid;rw[cy.out];simp
    go_wp2;go_roundw
    case rel=>exact⟨k+1,O,An,by rw[h.out];exact bb,cA,by rw[h.out];exact cB.out.mono (KY _)⟩
    case measure=>simp[intOf];omega
   | true =>
    have h:Hid (Ck T (T.dec.take (k+1))=F++[y]):=by unfold Hid;rw[cy.out];simp
    obtain⟨a,a9,rfl,cD,cF⟩:=dq.out y (by rw[h.out];simp);obtain rfl:m=2:=dm.out.symm;obtain⟨ce,cf,rfl,cI⟩:=cC.out 0 J;obtain⟨d6,d7,cg,cO⟩:=cC.out 1 J;injection cg with cg;injection cg with dP dQ;subst dP;subst dQ;simp only[DI,CS,E_]at cI cO;obtain⟨dR,dS⟩:=dO.out;have c2:=U cD;have c3:=U cF;clear cD cF;go_upto_region 6 with(fail);go_cut[6] (λv ci=>∃g,v=.pointer (some ⟨g,0,none⟩)/\Hid (ci.cell? ⟨g,0,none⟩=some (.int .i64 a))/\Hid (ci.cell? ⟨g,1,none⟩=some (.int .i64 a9))/\Hid (Below w2.heap.size w2 ci))
    case first=>
     go_region_held3 (λw'=>w'.cell? ⟨wr.heap.size,1,none⟩=some (.slice (some ⟨ce,cf,none⟩) 2 q)/\w'.cell? ⟨ce,cf,none⟩=some (.int .i64 a)/\w'.cell? ⟨ce,cf+1,none⟩=some (.int .i64 a9)) (go_keep) (first|fail)
     all_goals
      go_wp2_with fail;go_meet;refine⟨w2.heap.size,rfl,?_,?_,((Al _ _).alloc (Ac _) _).trans (by exact(Bx (w2.alloc (.cells #[.int .i64 a,.int .i64 a9] 161))).mono J)⟩
      ·unfold Hid;simp[Cy]
      ·unfold Hid;simp[Cy]
    case rest=>
     obtain⟨g,rfl,dT,dU,ad⟩:=hcut;have dF:=U (cA.out.step ad.out);have c4:=U (Xt cB.out ad.out);have cj:=Ao5 c4.out dn.out c2.out c3.out;have dV:=dT.out;have dW:=dU.out;clear dR dS cI cO;by_cases G:[a,a9]∈F
     ·have bs:Hid (r8 T=false):=by
       unfold Hid r8;refine Ai (ApX (k+1) ?_);rw[h.out];exact Ap1 G
      rw[At G]at cj;clear G;exact Awu
     ·have dX:Hid ((Ck T (T.dec.take (k+1))).Nodup):=by
       unfold Hid;rw[h.out];exact ApY bb.out G
      rw[Ai G]at cj;clear G;go_wp2_with (at_mapUpdate;refine Aai _ rfl _ _ _ 178 rfl 161 4 QK underlying178 (plainElem prog 4) (w.heap.size+1) k (LJ F) rfl c4.out BQ _ _ (GX a a9) rfl rfl (TQ c2.out c3.out) (.lit (.bool true)) [] (plainElem_bool underlying4 true) ?_;intro dY c5 c6);have dZ:=U (dF.out.grown da.out c6 (Nat.lt_succ_self _));have d0:Hid (dY.ownsMap prog 161 (plainElem prog 4) (w.heap.size+1) (k+1) (LJ (Ck T (T.dec.take (k+1))))):=by
       unfold Hid;rw[h.out,AtB];exact c5
      clear c5 c6 cj dV dW;go_wp2;go_roundw
      case rel=>exact⟨k+1,O,An,dX,dZ,d0⟩
      case measure=>simp[intOf];omega
  ·obtain rfl:k=n:=by omega
   have h:Hid (r8 T=true):=by
    have:=bb.out;rw[AO (BW cq.out)]at this;exact At this
   go_wp2;go_ret;rw[h.out];exact RI
end Go.Proofs.YtblcoicaeeiojaaGreatDoor
namespace Go.Proofs.YtblcoicaeeiojaaGreatDoor
open Go.RowKit
def AsN(x:TV)(T:Y)(B:Bool)(w:World)(b:Ah w x T)(c:Hid (r1 T=B)):Calls prog 140 #[x.agg] w (Ar (.bool B) w):=c.out▸AsM x T w b
def AnY(x:TV)(T:Y)(B:Bool)(w:World)(b:Ah w x T)(c:Bi w)(e:r1 T=true)(h:Hid (r2 T=B)):Calls prog 141 #[x.agg] w (Ar (.bool B) w):=h.out▸AnX x T w b c e
def AuV(x:TV)(T:Y)(B:Bool)(w:World)(b:Ah w x T)(c:Hid (r3 T=B)):Calls prog 142 #[x.agg] w (Ar (.bool B) w):=c.out▸AuU x T w b
def Atz(x:TV)(T:Y)(B:Bool)(w:World)(b:Ah w x T)(c:Hid (r4 T=B)):Calls prog 143 #[x.agg] w (Ar (.bool B) w):=c.out▸Aty x T w b
def Apv(x:TV)(T:Y)(B:Bool)(w:World)(b:Ah w x T)(c:AH 0 T.ag=true)(e:Hid (r5 T=B)):Calls prog 144 #[x.agg] w (Ar (.bool B) w):=e.out▸Apu x T w b c
def AmT(x:TV)(T:Y)(B:Bool)(w:World)(b:Ah w x T)(c:r1 T=true)(e:r2 T=true)(h:r4 T=true)(k:Hid (r6 T=B)):Calls prog 145 #[x.agg] w (Ar (.bool B) w):=
 k.out▸AmS x T w b (Qr c).2.2.1 (Jw e).2.2.1 (Afo h)
def AmA(x:TV)(T:Y)(B:Bool)(w:World)(b:Ah w x T)(c:r2 T=true)(e:Hid (r7 T=B)):Calls prog 146 #[x.agg] w (Ar (.bool B) w):=e.out▸Amz x T w b (Jw c).2.2.1
def AuH(x:TV)(T:Y)(B:Bool)(w:World)(b:Ah w x T)(H:Jf T)(c:r4 T=true)(e:Hid (r8 T=B)):Calls prog 147 #[x.agg] w (Ar (.bool B) w):=e.out▸AuG x T w b H (Afp c)
def ArB(x:TV)(T:Y)(B:Bool)(w:World)(c:Ah w x T)(b:r2 T=true)(e:Hid (r9 T=B)):Calls prog 148 #[x.agg] w (Ar (.bool B) w):=e.out▸ArA x T w c (Jw b).2.2.1 (Jw b).2.2.2.1 (Mr b).2.2.2.2.2.2
def Ak_(x:TV)(T:Y)(w:World)(a9:Ah w x T)(bc:Bi w):Calls prog 101 #[x.agg] w (Ar (.int .i64 (Av T)) w):=by
 have b:=U (Am.new a9);have am:=U (bc.below (Am.new a9).ab);obtain⟨V,ex⟩:∃V,Hid (Av T=V):=⟨_,rfl⟩;rw[ex.out];obtain⟨bd,fd⟩:∃B,Hid (r1 T=B):=⟨_,rfl⟩;obtain⟨be,ej⟩:∃B,Hid (r2 T=B):=⟨_,rfl⟩;obtain⟨bl,ib⟩:∃B,Hid (r3 T=B):=⟨_,rfl⟩;obtain⟨bs,f_⟩:∃B,Hid (r4 T=B):=⟨_,rfl⟩;obtain⟨bt,jp⟩:∃B,Hid (r5 T=B):=⟨_,rfl⟩;obtain⟨B6,iW⟩:∃B,Hid (r6 T=B):=⟨_,rfl⟩;obtain⟨a',bx⟩:∃B,Hid (r7 T=B):=⟨_,rfl⟩;obtain⟨ba,b0⟩:∃B,Hid (r8 T=B):=⟨_,rfl⟩;obtain⟨bb,b1⟩:∃B,Hid (r9 T=B):=⟨_,rfl⟩;clear a9 bc;simp only[TV.agg];go_enter func101,ntmps101;go_wp2_with fail;refine(AsN x T bd _ b.out.tab fd).mono ?_;rintro e w1 ⟨rfl,c⟩;replace am:=U (am.out.below c);replace b:=U (b.out.step c);clear c;cases bd with
 | false=>go_wp2;go_ret;exact⟨by rw[<-ex.out,AbB fd.out];rfl,b.out.ab⟩
 | true =>
  obtain⟨⟨h,k,m,q,s,A⟩,⟨C,F,G,L,ac,ad⟩⟩:=b.out.box;go_wp2_with fail;refine(AnY x T be _ b.out.tab am.out fd.out ej).mono ?_;rintro e w2 ⟨rfl,c⟩;replace b:=U (b.out.step c);clear c am h k m q s A C F G L ac ad;cases be with
  | false=>go_wp2;go_ret;exact⟨by rw[<-ex.out,AbC fd.out ej.out];rfl,b.out.ab⟩
  | true =>
   obtain⟨⟨h,k,m,q,s,A⟩,⟨C,F,G,L,ac,ad⟩⟩:=b.out.box;go_wp2_with fail;refine(AuV x T bl _ b.out.tab ib).mono ?_;rintro e w3 ⟨rfl,c⟩;replace b:=U (b.out.step c);clear c h k m q s A C F G L ac ad;cases bl with
   | false=>go_wp2;go_ret;exact⟨Axj,b.out.ab⟩
   | true =>
    obtain⟨⟨h,k,m,q,s,A⟩,⟨C,F,G,L,ac,ad⟩⟩:=b.out.box;go_wp2_with fail;refine(Atz x T bs _ b.out.tab f_).mono ?_;rintro e b3 ⟨rfl,c⟩;replace b:=U (b.out.step c);clear c h k m q s A C F G L ac ad;cases bs with
    | false=>go_wp2;go_ret;exact⟨Aw0,b.out.ab⟩
    | true =>
     obtain⟨⟨h,k,m,q,s,A⟩,⟨C,F,G,L,ac,ad⟩⟩:=b.out.box;go_wp2_with fail;refine(Apv x T bt _ b.out.tab (Mr ej.out).2.2.2.2.2.1 jp).mono ?_;rintro e b4 ⟨rfl,c⟩;replace b:=U (b.out.step c);clear c h k m q s A C F G L ac ad;cases bt with
     | false=>go_wp2;go_ret;exact⟨AwM,b.out.ab⟩
     | true =>
      obtain⟨⟨h,k,m,q,s,A⟩,⟨C,F,G,L,ac,ad⟩⟩:=b.out.box;go_wp2_with fail;refine(AmT x T B6 _ b.out.tab fd.out ej.out f_.out iW).mono ?_;rintro e w6 ⟨rfl,c⟩;replace b:=U (b.out.step c);clear c h k m q s A C F G L ac ad;cases B6 with
      | false=>go_wp2;go_ret;exact⟨AwD,b.out.ab⟩
      | true =>
       have b2:=U (VR fd.out ej.out ib.out f_.out iW.out);have bv:Hid (V=if a'=false then 7 else if ba=false then 8 else if bb=false then 9 else 0):=by
        unfold Hid;rw[<-ex.out,AbD fd.out ej.out ib.out f_.out jp.out iW.out,bx.out,b0.out,b1.out]
       obtain⟨⟨h,k,m,q,s,A⟩,⟨C,F,G,L,ac,ad⟩⟩:=b.out.box;go_wp2_with fail;refine(AmA x T a' _ b.out.tab ej.out bx).mono ?_;rintro e b5 ⟨rfl,c⟩;replace b:=U (b.out.step c);clear c h k m q s A C F G L ac ad;cases a' with
       | false=>go_wp2;go_ret;exact⟨KK,b.out.ab⟩
       | true =>
        obtain⟨⟨h,k,m,q,s,A⟩,⟨C,F,G,L,ac,ad⟩⟩:=b.out.box;go_wp2_with fail;refine(AuH x T ba _ b.out.tab b2.out f_.out b0).mono ?_;rintro e b6 ⟨rfl,c⟩;replace b:=U (b.out.step c);clear c h k m q s A C F G L ac ad;cases ba with
        | false=>go_wp2;go_ret;exact⟨KK,b.out.ab⟩
        | true =>
         obtain⟨⟨h,k,m,q,s,A⟩,⟨C,F,G,L,ac,ad⟩⟩:=b.out.box;go_wp2_with fail;refine(ArB x T bb _ b.out.tab ej.out b1).mono ?_;rintro e b7 ⟨rfl,c⟩;replace b:=U (b.out.step c);clear c h k m q s A C F G L ac ad;cases bb with
         | false=>go_wp2;go_ret;exact⟨KK,b.out.ab⟩
         | true=>go_wp2;go_ret;exact⟨KK,b.out.ab⟩
def VQ(x: TV)(T: Y)(V: Int)(w: World)(b: Ah w x T)(c: Bi w)(e: Hid (Av T = V)) :
  Calls prog 101 #[x.agg] w (Ar (.int .i64 V) w):=e.out▸Ak_ x T w b c
def noS(w:World):Cw w (.slice none 0 0) []:=⟨none,0,rfl,λk b=>absurd b (FH _),J⟩
def noI(w:World):Bp w (.slice none 0 0) []:=⟨none,0,rfl,λk b=>absurd b (FH _),J⟩
def AB(T:Y)(l:List Int):Int:=if Av T≠0 then 2 else if 4096<l.length then 7 else if l.all AA then 0 else 3
def Oo(T:Y)(l:List Int):List Int:=if AB T l=0 then l.map (Ao T)else []
def CN{T:Y}{l:List Int}(h:AB T l=0):Av T=0/\l.length<=4096/\l.all AA=true:=by
 unfold AB at h;split at h
 ·exact Ds
 ·split at h
  ·exact Ds
  ·split at h
   ·exact⟨O,O,Pq⟩
   ·exact Ds
def AjV{T:Y}{l:List Int}(h:Av T≠0):AB T l=2:=by unfold AB;rw[N h]
def AjT{T:Y}{l:List Int}(h:Av T=0)(b:4096<l.length):AB T l=7:=by unfold AB;rw[V O,N b]
def AaN{T:Y}{l:List Int}(h:Av T=0)(b:l.length<=4096)(em:l.all AA=false):AB T l=3:=AzC
def P6{T:Y}{l:List Int}(h:Av T=0)(b:l.length<=4096)(em:l.all AA=true):AB T l=0:=AzC
def AbE{T:Y}(h:Av T=0):AH 0 T.ai=true/\r3 T=true:=by
 unfold Av at h;cases b:r1 T with
 | false=>rw[b]at h;simp at h
 | true =>
  cases c:r2 T with
  | false=>rw[b,c]at h;simp at h
  | true =>
   cases e:r3 T with
   | false=>rw[b,c,e]at h;simp at h
   | true=>exact⟨(Mr c).2.1,rfl⟩
def M0(L:List Int)(E:Int)(w:World)(e:Ending)(w':World):Prop:=
 ∃v,e=.returned (.tuple #[v,.int .i64 E])/\Ak w' w.heap.size v L/\Below w.heap.size w w'
def AaT{l:List Int}{q:Int->Bool}{k:Nat}(b:k<l.length)(h:(l.take k).all q=true):(l.take (k+1)).all q=q (l.getD k 0):=by
 rw[Uq l k b,IE,h];simp
def AaV{l:List Int}{q:Int->Bool}(k:Nat)(h:(l.take k).all q=false):l.all q=false:=by
 rw[<-FG k l,IE,h];rfl
theorem AS.row{w w':World}{g:Nat}{x:TV}{row:Option Nat}(h:AS w g x)(b:w.grownBy w' row)(c:∀k,row=some k->g<k):AS w' g x:=by
 obtain⟨⟨bl,a',be,cD,eL,eB⟩,⟨ez,ey,ea,fm,fN,iJ⟩⟩:=h;have fM:∀i v,w.cell? ⟨g,i,none⟩=some v->w'.cell? ⟨g,i,none⟩=some v:=λi v m=>b.cell m (λe=>by have:=c g e.symm;omega);exact UJ
theorem Am.aI{w0 w w':World}{x:TV}{T:Y}{v:Value}{l:List Int}(e:Am w0 x T w)(m:Ah w0 x T)(b:Ak w (w0.heap.size+1) v l)(c:w.grownBy w' v.ownBlock):Am w0 x T w':=by
 have h:Below w0.heap.size w0 w':=L9 e.ab (b.mono (KY _)) (Ac _) c;exact⟨m.below h,e.box.row c (λk q=>b.base k q),h⟩
def Adc(p:Option Addr)(n c:Nat)(B:Bool)(w:World)(b:Hid (decide (n%2=1)=B))(s:n<=17592186043904):Calls prog 242 #[.slice p n c] w λe w'=>e=.returned (.bool B)/\w=w':=by
 have h:((n:Int)).tmod 2=((n%2:Nat):Int):=by rw[Aak O];omega
 have k:((n:Int))%2=((n%2:Nat):Int):=O;have q:((((n%2:Nat):Int))==1)=B:=by rw[<-b.out,Gd];simp;omega
 generalize n%2=m at h q k;clear b;go_enter func242,ntmps242;exact I7
def AbM(x:TV)(T:Y)(p:Option Addr)(cap:Nat)(ao:List Int)(E:Int)(L:List Int)(w:World)(A:Ah w x T)(b4:Bi w)(b5:Aq w p ao)(cf:ao.length<=17592186043904)(cr:Hid (AB T ao=E))(df:Hid (Oo T ao=L)):Calls prog 241 #[x.agg,.slice p ao.length cap] w (M0 L E w):=by
 obtain⟨V,ex⟩:∃V,Hid (Av T=V):=⟨_,rfl⟩;have ac:=U (Am.new A);have cg:=U A;have ci:=U b5;have cj:=U b4;obtain⟨n,C⟩:∃n,ao.length=n:=⟨_,rfl⟩;rw[C]at cf|-;have bb:=U C;clear A b4 b5 C;simp only[TV.agg];go_enter func241,ntmps241;obtain⟨⟨F,G,ad,am,a9,a'⟩,⟨ba,bd,be,bs,bt,bx⟩⟩:=ac.out.box.load;go_wp2_with fail;refine(VQ x T V _ ac.out.tab (cj.out.below ac.out.ab) ex).mono ?_;rintro e w1 ⟨rfl,cC⟩;have b6:Hid (w.heap.size+1<=w1.heap.size):=UB;replace ac:=U (ac.out.step cC);clear cC F G ad am a9 a' ba bd be bs bt bx;by_cases bl:V=0
 ·have cl:(V !=0)=false:=by simp[bl]
  have bv:Hid (Av T=0):=ex.out.trans bl;by_cases fc:4096<n
  ·have cm:decide ((4096:Int)<(n:Int))=true:=At O;have ek:Hid (E=7):=Awt;have fx:Hid (L=[]):=Ahm;clear bl fc;exact AiU
  ·have cm:decide ((4096:Int)<(n:Int))=false:=Ai O;have cO:¬(4096<n):=fc;have lz:n<=4096:=O;have c2:=OZ n O;clear bl fc;go_wp2;go_loopw[6,8,22] (λv _ i wr=>∃k:Nat,k<=n/\i=.int .i64 k/\Hid ((ao.take k).all AA=true)/\Hid (Ak wr (w.heap.size+1) v ((ao.take k).map (Ao T)))/\Hid (Am w x T wr)/\Hid (w1.heap.size<=wr.heap.size)) (λ_ _ i _=>n-(intOf i).toNat)
   case atStart=>exact⟨0,Au _,rfl,rfl,Ak.made w1 (w.heap.size+1) n b6.out O,ac.out.step ((Al _ _).alloc (Ac _) _),DH⟩
   case round=>
    obtain⟨k,c3,rfl,cI,b7,bc,b8⟩:=hrel;by_cases co:k<n
    ·have b0:k<ao.length:=by rw[bb.out];exact co
     obtain⟨b,ff,rfl,cp⟩:=(ci.out.below bc.out.ab) k b0;obtain⟨c,b9⟩:∃c,ao.getD k 0=c:=⟨_,rfl⟩;have b1:=AaT b0 cI.out;have b2:=Uq ao k b0;rw[b9]at cp b1 b2;have b':=U b1;have cq:=U b2;have cs:Hid (((ao.take k).map (Ao T)).length<=4096):=Ai4;obtain⟨z,ca⟩:∃z,Hid (Ao T c=z):=⟨_,rfl⟩;clear b9 b1 b2;go_wp2_with fail;refine(AdF c _).mono ?_;rintro e w2 ⟨m,rfl,s,rfl⟩;by_cases h:m=0
     ·have ct:(m==0)=true:=by simp[h]
      have ek:Hid (E=3):=by unfold Hid;rw[<-cr.out];exact AaN bv.out Ai6 (AaV (k+1) (by rw[b'.out];exact s.1 h))
      have fx:Hid (L=[]):=Ahm;clear s h;exact Av2
     ·have ct:(m==0)=false:=by simp[h]
      have cb:AA c=true:=by
       cases cu:AA c with
       | true=>rfl
       | false=>exact absurd (s.2 cu) h
      have cv:Hid ((ao.take (k+1)).all AA=true):=by unfold Hid;rw[b'.out];exact cb
      obtain⟨⟨F,G,ad,am,a9,a'⟩,⟨ba,bd,be,bs,bt,bx⟩⟩:=bc.out.box.load;clear s h cb;go_wp2_with fail;refine(Hn x T c z _ bc.out.tab (AbE bv.out).1 ca).mono ?_;rintro e w2 ⟨rfl,q⟩;have cx:=U (bc.out.step q);have cc:=U (b7.out.below q);have cd:w.heap.size+1<=w2.heap.size:=Af b6.out (Af b8.out q.size);have cy:=U q.size;clear q F G ad am a9 a' ba bd be bs bt bx;go_wp2_with (at_builtin;(refine Pg (.tmp 29) (.tmp 33) rfl rfl (w.heap.size+1) u6 ((ao.take k).map (Ao T)) rfl cc.out z 1 _ rfl J (by have:=cs.out;omega) cd ?_);intro cA w3 ce b3);have cB:Hid (Ak w3 (w.heap.size+1) cA ((ao.take (k+1)).map (Ao T))):=by
       unfold Hid;rw[cq.out,FY,Aap,ca.out];exact ce
      have cD:Hid (Am w x T w3):=cx.out.aI cg.out cc.out b3;have cF:Hid (w1.heap.size<=w3.heap.size):=Af b8.out (Af cy.out b3.size);clear ce b3 cd;go_wp2;go_roundw
      case rel=>exact⟨k+1,O,An,cv,cB,cD,cF⟩
      case measure=>simp[intOf];omega
    ·obtain rfl:k=n:=by omega
     have ek:Hid (E=0):=AvP;have fx:Hid (L=(ao.take k).map (Ao T)):=by
      unfold Hid;rw[<-df.out];unfold Oo;rw[cr.out,ek.out,N rfl,AO (BW bb.out)]
     go_wp2;go_ret2;rw[ek.out,fx.out];exact⟨_,rfl,b7.out.mono (KY _),bc.out.ab⟩
 ·have cl:(V !=0)=true:=by simp[bl]
  have ek:Hid (E=2):=AwC;have fx:Hid (L=[]):=Ahm;clear bl;exact AiU
def Arm(b:List Int)(i:Nat):EZ b 0 i=i:=by
 cases i with
 | zero=>rfl
 | succ n=>unfold EZ;rw[V O]
def Arj(p:Option Addr)(n cap i P:Nat)(m:List Int)(c:Int)(w:World)(A:Aq w p m)(G:Hid (m.length=n))(bv:n<=17592186043904)(dI:i<n)(a9:Hid (m.getD i 0=c))(a':0<=c)(L:Hid (EZ m c i=P)):Calls prog 267 #[.slice p n cap,.int .i64 i] w λe w'=>e=.returned (.int .i64 P)/\w=w':=by
 have ac:i<m.length:=by rw[G.out];exact dI
 obtain⟨b,ff,rfl,ba⟩:=A i ac;rw[a9.out]at ba;have bb:=U A;clear A ac;by_cases C:c=0
 ·subst C;have bc:Hid (P=i):=by unfold Hid;rw[<-L.out,Arm]
  go_enter func267,ntmps267;go_wp2;go_ret;exact⟨by rw[bc.out];rfl,rfl⟩
 ·have bx:(c==0)=false:=by simp[C]
  have bd:0<c:=O;clear C a';go_enter func267,ntmps267;go_wp2;go_loopw[1] (λv wr=>∃k:Nat,k<=i/\v=.int .i64 k/\Hid (EZ m c k=P)/\w=wr) (λv _=>(intOf v).toNat)
  case atStart=>exact⟨i,Ac _,rfl,L,rfl⟩
  case round=>
   obtain⟨k,b0,rfl,F,rfl⟩:=hrel;by_cases b1:0<k
   ·obtain⟨j,be⟩:∃j:Nat,k=j+1:=⟨k-1,O⟩;subst be;have ad:j<m.length:=by rw[G.out];omega
    obtain⟨b2,b3,bl,bs⟩:=bb.out j ad;cases bl;obtain⟨y,q⟩:∃y,m.getD j 0=y:=⟨_,rfl⟩;rw[q]at bs;have am:Hid (EZ m c (j+1)=if 0<c/\c<y then EZ m c j else j+1):=by
     unfold Hid;conv=>lhs;unfold EZ;rw[q]
    have b4:j<n:=O;clear ad;by_cases s:c<y
    ·have bt:decide (c<y)=true:=At s;have kT:Hid (EZ m c j=P):=by unfold Hid;rw[<-F.out,am.out,N ⟨bd,s⟩]
     clear q;go_wp2;go_roundw
     case rel=>exact⟨j,O,An,kT,trivial⟩
     case measure=>simp[intOf]
    ·have bt:decide (c<y)=false:=Ai s;have kT:Hid (P=j+1):=by unfold Hid;rw[<-F.out,am.out,V (λh=>s h.2)]
     clear q;exact Aw3
   ·obtain rfl:k=0:=by omega
    have kT:Hid (P=0):=by unfold Hid;rw[<-F.out];rfl
    exact Aw3
def IU(xs:List Int)(f t:Nat):List Int:=xs.take (t+1)++((xs.drop t).take (f-t)++xs.drop (f+1))
def Xa(xs:List Int)(f t:Nat)(b:f<xs.length)(c:t<=f):(IU xs f t).length=xs.length:=by simp[IU];omega
def Apx(xs:List Int)(f t:Nat)(c:f<xs.length)(e:t<=f):(IU xs f t).set t (xs.getD f 0)=Lv xs f t:=by
 unfold IU Lv;have b:(xs.take t).length=t:=Ae;rw[Uq xs t O,LV,Vm _ _ O,b];exact J
def AtU(xs:List Int)(L:List Value)(f t:Nat)(cj:f<xs.length)(ep:t<=f)(b:L.take xs.length=xs.map (.int .i64)):(splice L (t+1) (((xs.drop t).take (f-t)).map (.int .i64))).take xs.length=(IU xs f t).map (.int .i64):=by
 obtain⟨R,c⟩:∃R,L=xs.map (.int .i64)++R:=⟨L.drop xs.length,by rw[<-b,FG]⟩;subst c;unfold splice;have h:(((xs.drop t).take (f-t)).map (Value.int .i64)).length=f-t:=Ae;have k:(xs.map (Value.int .i64)).length=xs.length:=J;rw[h,Sl (l₁:=xs.map (Value.int .i64)) O,Vb (l₁:=xs.map (Value.int .i64)) O];have e:(xs.map (Value.int .i64)).take (t+1)++(((xs.drop t).take (f-t)).map (.int .i64)++((xs.map (.int .i64)).drop (t+1+(f-t))++R))=(IU xs f t).map (.int .i64)++R:=by
  unfold IU;rw[show t+1+(f-t)=f+1 by omega];simp[Se,Sd]
 rw[e,Sl Ah5,AO Ah5]
def AfX{w:World}{g:Nat}{b:Array Value}{c:TypeId}{xs:List Int}(h:w.heap[g]? = some (.cells b c (0,0)))(ep:b.toList.take xs.length=xs.map (.int .i64))(k:Nat)(ba:k<xs.length):w.cell? ⟨g,k,none⟩=some (.int .i64 (xs.getD k 0)):=by
 rw[Es w g k b _ (0,0) h];have e:(b.toList.take xs.length)[k]? = (xs.map (Value.int .i64))[k]? := N4;exact Ai8
def AjZ(g a j:Nat):(⟨g,a,none⟩:Addr).add j=⟨g,a+j,none⟩:=by unfold Addr.add;split<;>simp_all
def AlI{w:World}{g:Nat}{xs:List Int}{f t:Nat}(q:f<xs.length)(h:∀k,k<xs.length->w.cell? ⟨g,k,none⟩=some (.int .i64 (xs.getD k 0))):∀(j:Nat) (u:Value),(((xs.drop t).take (f-t)).map (Value.int .i64))[j]? = some u->w.cell? ((⟨g,t,none⟩:Addr).add j)=some u:=by
 intro j u c;rw[AjZ];rw[Gg]at c;cases b:((xs.drop t).take (f-t))[j]? with
 | none=>rw[b]at c;cases c
 | some y =>
  rw[b]at c;simp only[MW,FI]at c;rw[Eu]at b;split at b
  ·rw[MS]at b;obtain⟨e,m⟩:=LX.1 b;rw[h (t+j) e,<-c];simp[List.getD,CI e,m]
  ·cases b
def Aqd(l:List Int):∀v∈l.map (Value.int .i64),v.oneCell'=true:=by
 intro v b;obtain⟨z,_,rfl⟩:=Cc.1 b;rfl
def At0{ops: Array Oper}{o: Oper}{a: Act}{w: World}{K: Act->World->Prop}{Z: Exit->Act->World->Prop}{E: Prop}(cA: o.guard = none)(d s: Operand)
  (ad:o.op=.call { callee:=.builtin .copy,args:=#[d,s],argTypes:=#[22,22]})
  (A C:Option Addr) (c F m G:Nat) (am:a.eval d=.slice A c F) (a9:a.eval s=.slice C m G)
  (g ff:Nat) (q:List Value) (L:w.heap[g]? = some (.cells q.toArray 3 (0,0))) (b:List Value) (a':b.length=Nat.min m c)
  (bb:0<b.length->A=some ⟨g,ff,none⟩/\∃k_,C=some k_/\∀j v,b[j]? = some v->w.cell? (k_.add j)=some v)
  (bc:ff+b.length<=q.length) (bd:∀v∈b,v.oneCell'=true) (B:Nat) (bx:B<=g)
  (h:∀w',Hid (w'.heap[g]? = some (.cells (splice q ff b).toArray 3 (0,0)))->w.grownBy w' (some g)->K (a.put o.dst (goInt b.length)) w') :
  if Region.wanted o (yielded ops a.tmps)=true then Oper.wp prog o a w K Z else E:=by
 have be:Region.wanted o (yielded ops a.tmps)=true:=Pn;rw[N be];obtain⟨b0,dI,b1,bl,b2⟩:=Cp info3;have ba:(prog.info? 3).map (·.size)=some 1:=by rw[dI];simp[bl]
 by_cases bs:b.length=0
 ·obtain rfl:b=[]:=Bw bs;have ac:=run_copy_none (P:=prog) w 22 22 o.type 3 A C c F m G underlying22 ba (by simpa using a'.symm);unfold Oper.wp;simp[execOp,ad,resolve,invoke,builtin,am,a9,ac,Result.andThen];exact h w (show _=_ by simpa[splice] using L) (Qu _ _)
 ·obtain⟨rfl,k_,rfl,bt⟩:=bb O;have ac:=run_copy_row (P:=prog) w 22 22 o.type 3 g ff c F k_ m G q.toArray 3 b underlying22 ba L a' bt (by simpa using bc) bd;unfold Oper.wp;simp[execOp,ad,resolve,invoke,builtin,am,a9,ac,Result.andThen];exact h _ (show _=_ by simpa[splice] using PG w g _ _ 3 _ L) ⟨rfl,rfl,rfl,by simp[World.setRow],λk _ bv=>setRow_other w g k _ (λe=>bv (by rw[e]))⟩
def Avb{ops: Array Oper}{e: List Oper}{o: Oper}{a: Act}{w: World}{Q: Exit->Act->World->Prop}(cA: o.guard = none)(d s: Operand)
  (L:o.op=.call { callee:=.builtin .copy,args:=#[d,s],argTypes:=#[22,22]})
  (k m:Option Addr) (q C A F:Nat) (ac:a.eval d=.slice k q C) (ad:a.eval s=.slice m A F)
  (g ff:Nat) (c:List Value) (am:w.heap[g]? = some (.cells c.toArray 3 (0,0))) (b:List Value) (a9:b.length=Nat.min A q)
  (a':0<b.length->k=some ⟨g,ff,none⟩/\∃k_,m=some k_/\∀j v,b[j]? = some v->w.cell? (k_.add j)=some v)
  (ba:ff+b.length<=c.length) (bb:∀v∈b,v.oneCell'=true) (B:Nat) (bc:B<=g)
  (h:∀w',Hid (w'.heap[g]? = some (.cells (splice c ff b).toArray 3 (0,0)))->w.grownBy w' (some g)->wpList prog ops Q e (a.put o.dst (goInt b.length)) w'):wpList prog ops Q (o::e) a w:=by
 unfold wpList;have G:Region.wanted o (yielded ops a.tmps)=true:=Pn;rw[N G];refine .inl ?_;have:=At0 (ops:=ops) (o:=o) (a:=a) (w:=w) (K:=λbd w'=>wpList prog ops Q e bd w') (Z:=Q) (E:=True) cA d s L k m q C A F ac ad g ff c am b a9 a' ba bb B bc h;rwa[N G]at this
def ApB{w:World}{B g n cap f t:Nat}{xs:List Int}{b:Array Value}(c:w.heap[g]? = some (.cells (splice b.toList (t+1) (((xs.drop t).take (f-t)).map (.int .i64))).toArray 3 (0,0)))(e:xs.length=n)(h:B<=g)(k:n<=cap)(m:cap<=maxLen)(s:b.size=cap)(cj:f<n)(ep:t<=f)(q:b.toList.take n=xs.map (.int .i64)):Ak w B (.slice (some ⟨g,0,none⟩) n cap) (IU xs f t):=by
 subst e;unfold Ak;rw[Xa xs f t cj ep];refine⟨Ah5,.inr ⟨g,cap,_,rfl,h,c,k,m,?_,?_⟩⟩
 ·rw[List.size_toArray,length_splice _ _ _ Ae];simp;omega
 ·rw[Sv,List.toList_toArray];exact AtU xs b.toList f t cj ep q
def Ad_(B:Nat)(v:Value)(xs G:List Int)(f t:Nat)(w:World)(b8:Ak w B v xs)(h:f<xs.length)(L:t<=f)(b9:xs.length<=4194304)(bv:Hid (Lv xs f t=G)):Calls prog 268 #[v,.int .i64 f,.int .i64 t] w λe w'=>e=.returned (.tuple #[])/\Ak w' B v G/\w.grownBy w' v.ownBlock:=by
 obtain⟨b',ca⟩:=b8;rcases ca with⟨rfl,ct⟩|⟨g,cap,ac,rfl,bx,ad,b0,cb,am,A⟩
 ·omega
 ·rw[Sv]at A am;have a9:=λk cc=>AfX ad A k cc;have cd:=a9 f h;obtain⟨X,a'⟩:∃X,xs.getD f 0=X:=⟨_,rfl⟩;rw[a']at cd;obtain⟨ba,bb⟩:∃ba,((xs.drop t).take (f-t)).map (Value.int .i64)=ba:=⟨_,rfl⟩;have bc:=AlI (t:=t) h a9;have bd:=Aqd ((xs.drop t).take (f-t));have be:(((xs.drop t).take (f-t)).map (Value.int .i64)).length=f-t:=Ae;rw[bb]at bc bd be;have ce:=U bb;have cf:=U bc;have cg:=U bd;have bl:=U be;have ci:=U a';have cj:Hid (w.heap[g]? = some (.cells ac.toList.toArray 3 (0,0))):=by simpa[Hid] using ad
  have cl:=U A;have b1:=U am;obtain⟨n,bs⟩:∃n,xs.length=n:=⟨_,rfl⟩;rw[bs]at b0 h b9|-;have s:=U bs;obtain⟨b,b2⟩:∃b,t+1=b:=⟨_,rfl⟩;obtain⟨c,b3⟩:∃c,f+1=c:=⟨_,rfl⟩;have w1:IntKind.i64.wrap ((t:Int)+1)=(b:Int):=H_;have w2:IntKind.i64.wrap ((f:Int)+1)=(c:Int):=H_;have cu:b<=c:=O;have cv:c<=cap:=O;have cx:f<=cap:=O;have cy:¬(cap=t):=O;have C:=U b2;have cm:=U b3;have cA:max (c:Int) 0=(c:Int):=O;have cB:max (f:Int) 0=(f:Int):=O;clear bb bc bd be a' a9 b' ad A am bs b2 b3;go_enter func268,ntmps268;go_upto_region 1 with(fail);go_still_tail 10,Ax;refine Avb (by rfl) (.tmp 16) (.tmp 20) (by rfl) _ _ _ _ _ _ (by rfl) (by rfl) g b ac.toList (by exact cj.out) ba ?c1 ?c2 ?c3 cg.out B bx ?_
  case c1=>rw[bl.out,<-C.out,<-cm.out];simp[Nat.min_def]
  case c2=>
   intro co;rw[bl.out]at co;refine⟨by rw[V (by have:=C.out;omega)],_,rfl,λj u cp=>?_⟩;exact cf.out j u cp
  case c3=>rw[bl.out,RU,b1.out];have:=C.out;omega
  intro m b4 q;have b5:m.heap[g]? = some (.cells (splice ac.toList (t+1) (((xs.drop t).take (f-t)).map (.int .i64))).toArray 3 (0,0)):=by rw[ce.out,C.out];exact b4.out
  have cq:Hid (Ak m B (.slice (some ⟨g,0,none⟩) n cap) (IU xs f t)):=ApB b5 s.out bx b0 cb b1.out h L (by rw[<-s.out];exact cl.out);have bt:(IU xs f t).length=n:=by rw[Xa xs f t (by rw[s.out];exact h) L];exact s.out
  have F:m.ownsRow B 3 1 (.slice (some ⟨g,0,none⟩) n cap) n ((IU xs f t).map (.int .i64)):=by have:=cq.out;unfold Ak at this;rwa[bt]at this
  have b6:=R0 F t O;rw[Gg,CI O,MW]at b6;generalize (IU xs f t)[t]' O=Y at b6;have cC:=MO F t;have b7:=PE F t (.int .i64 X);have cr:Hid (Ak (m.setCell ⟨g,t,none⟩ (.int .i64 X)) B (.slice (some ⟨g,0,none⟩) n cap) G):=by
   unfold Hid;rw[<-bv.out,<-Apx xs f t (by rw[s.out];exact h) L,ci.out];unfold Ak;rw[JV,bt,KV];exact b7.1
  have cs:Hid (w.grownBy (m.setCell ⟨g,t,none⟩ (.int .i64 X)) (some g)):=A5 (show w.grownBy m (some g) from⟨q.os,q.tape,q.output,q.size,q.block⟩) (GU _ _ _ _);clear b4 q b5 F b7 bt bv;generalize (if cap=b then some (⟨g,0,none⟩:Addr)else some ⟨g,b,none⟩)=cD;go_wp2;go_end0;exact⟨rfl,cr.out,cs.out⟩
end Go.Proofs.YtblcoicaeeiojaaGreatDoor
