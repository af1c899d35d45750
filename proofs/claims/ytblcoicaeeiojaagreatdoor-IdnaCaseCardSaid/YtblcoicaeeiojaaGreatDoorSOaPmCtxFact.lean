/- joiner: what the functio -/
import Derived.Test.YtblcoicaeeiojaaGreatDoorSOaPmMapSpec
import Derived.Test.YtblcoicaeeiojaaGreatDoorSOaPmTabRJ
set_option linter.all false
set_option maxHeartbeats 8000000
set_option maxRecDepth 100000
open Go.Proofs.Tryz
namespace Go.Proofs.YtblcoicaeeiojaaGreatDoor
def Jr(T:Y)(l:List Int)(i:Int):Prop:=0<=i/\i<l.length/\AB T l=0
instance (T:Y) (l:List Int) (i:Int):Decidable (Jr T l i):=by unfold Jr;exact inferInstance
def QC(T:Y)(l:List Int)(i:Int):Int:=if Jr T l i then EE (Ed T l i.toNat)else -1
def QU(T:Y)(l:List Int)(i:Int):Int:=if Jr T l i then EE (Kw T l i.toNat)else -1
def QM(T:Y)(l:List Int)(i:Int):Bool:=decide (Jr T l i)&&F' T l i.toNat
def Lj(T:Y)(l:List Int):Int × Int:=if AB T l≠0 then(0,AB T l)else match IL T l l.length 0 with
 | some k=>((k:Int),17)
 | none=>(0,0)
def AdD{T:Y}{l:List Int}{k:Nat}(c:k<l.length)(b:AB T l=0):QC T l k=EE (Ed T l k):=by unfold QC;rw[N ⟨O,O,b⟩,Ef]
def AfM{T:Y}{l:List Int}{k:Nat}(c:k<l.length)(b:AB T l=0):QU T l k=EE (Kw T l k):=by unfold QU;rw[N ⟨O,O,b⟩,Ef]
def AeS{T:Y}{l:List Int}{k:Nat}(c:k<l.length)(b:AB T l=0):QM T l k=F' T l k:=by unfold QM;rw[At (show Jr T l k from⟨O,O,b⟩),Ef];rfl
end Go.Proofs.YtblcoicaeeiojaaGreatDoor
namespace Go.Proofs.YtblcoicaeeiojaaGreatDoor
open Go.RowKit
def KG(k:Nat)(v:Int):Bool:=!(decide (v<0)||decide (NE.getD k 0<v)||decide (v=0)&&(decide (k=1)||decide (k=6)))
def Hw(k:Nat)(l:List Sp):Bool:=l.all λs=>KG k s.2.2
def NR{k:Nat}{k8 dI:Int}{l:List Sp}(b:NE.getD k 0=dI)(c:k8=if k=1\/k=6 then 1 else 0):Hw k l=DB k8 dI l:=by
 unfold Hw DB;congr 1;funext s;rw[Gd];simp only[KG,b,c,N7,Py,Z',L3,AJ,A4];by_cases h:k=1\/k=6
 ·rw[N h];omega
 ·rw[V h];omega
def Afl(T:Y):r3 T=(Hw 0 T.cat&&(Hw 1 T.ai&&(Hw 2 T.al&&(Hw 3 T.ak&&(Hw 4 T.aj&&(Hw 5 T.ag&&Hw 6 T.an)))))):=by
 unfold r3;rw[NR (k:=0) (k8:=0) (dI:=8) rfl rfl,NR (k:=1) (k8:=1) (dI:=254) rfl rfl,NR (k:=2) (k8:=0) (dI:=5) rfl rfl,NR (k:=3) (k8:=0) (dI:=11) rfl rfl,NR (k:=4) (k8:=0) (dI:=60) rfl rfl,NR (k:=5) (k8:=0) (dI:=4) rfl rfl,NR (k:=6) (k8:=1) (dI:=1) rfl rfl]
def AtS{T:Y}(q:(k:Nat)->List Sp->Bool)(h:∀j,j<7->q j ((BF T).getD j [])=true):(q 0 T.cat&&(q 1 T.ai&&(q 2 T.al&&(q 3 T.ak&&(q 4 T.aj&&(q 5 T.ag&&q 6 T.an))))))=true:=by
 have b:q 0 T.cat=true:=h 0 O;have c:q 1 T.ai=true:=h 1 O;have e:q 2 T.al=true:=h 2 O;have m:q 3 T.ak=true:=h 3 O;have s:q 4 T.aj=true:=h 4 O;have A:q 5 T.ag=true:=h 5 O;have C:q 6 T.an=true:=h 6 O;rw[b,c,e,m,s,A,C];rfl
def AtP{T:Y}(q:(k:Nat)->List Sp->Bool){j:Nat}(b:j<7)(h:q j ((BF T).getD j [])=false):(q 0 T.cat&&(q 1 T.ai&&(q 2 T.al&&(q 3 T.ak&&(q 4 T.aj&&(q 5 T.ag&&q 6 T.an))))))=false:=by
 have:j=0\/j=1\/j=2\/j=3\/j=4\/j=5\/j=6:=O;rcases this with rfl|rfl|rfl|rfl|rfl|rfl|rfl
 ·rw[show q 0 T.cat=false from h];simp
 ·rw[show q 1 T.ai=false from h];simp
 ·rw[show q 2 T.al=false from h];simp
 ·rw[show q 3 T.ak=false from h];simp
 ·rw[show q 4 T.aj=false from h];simp
 ·rw[show q 5 T.ag=false from h];simp
 ·rw[show q 6 T.an=false from h];simp
def ApD{w:World}{h:Nat}(dI:Aq w (some ⟨h,0,none⟩) NE)(k:Nat)(c:k<7):w.cell? ⟨h,k,none⟩=some (.int .i64 (NE.getD k 0)):=by
 obtain⟨b,ff,e,m⟩:=dI k c;injection e with e;injection e with q s;subst q;subst s;rwa[BY]at m
def AsU(x:TV)(T:Y)(w:World)(ba:Ah w x T):Calls prog 85 #[x.agg] w (Ar (.bool (r3 T)) w):=by
 have bc:=U (Am.new ba);clear ba;simp only[TV.agg];go_enter func85,ntmps85;go_wp2_with fail;refine(X5 _ T _ bc.out.tab).mono ?_;rintro e w1 ⟨g,h,rfl,bd,be,bl⟩;have b7:=U bd;have b8:=U be;have fI:=U (bc.out.step bl);clear bl bd be;go_wp2;obtain⟨F,rfl⟩:∃F:World,F=w1:=⟨_,rfl⟩;go_loopw[16] (λi wr=>∃k:Nat,k<=7/\i=.int .i64 k/\Hid (∀j,j<k->Hw j ((BF T).getD j [])=true)/\Hid (Below F.heap.size F wr)) (λi _=>7-(intOf i).toNat)
 case atStart=>exact⟨0,O,rfl,λj bt=>absurd bt (FH _),Al _ _⟩
 case round=>
  obtain⟨k,cj,rfl,cI,cC⟩:=hrel;by_cases ac:k<7
  ·obtain⟨p,n,c,l,ad,bv,cl,bx,cm⟩:=(b7.out.below cC.out).at_ (fI.out.step cC.out).tab k ac;have b9:Hid (Hw k l=false->r3 T=false):=λh=>by
    rw[Afl];exact AtP Hw ac (by rw[ad];exact h)
   have kg:=U ad;have b':=U bx;have eu:=U bv;have A:=ApD (b8.out.below cC.out) k ac;have b0:=U A;clear ad bv bx A;have co:(0:Int)<=(k:Int):=O;have cp:(k:Int)<7:=O;go_wp2;obtain⟨q,rfl⟩:∃q:World,q=wr:=⟨_,rfl⟩;go_loopw[23] (λi wr=>∃j:Nat,j<=n/\i=.int .i64 j/\Hid ((l.take j).all (λs=>KG k s.2.2)=true)/\Hid (Below q.heap.size q wr)) (λi _=>n-(intOf i).toNat)
   case atStart=>exact⟨0,Au _,rfl,rfl,Al _ _⟩
   case round=>
    obtain⟨j,bt,rfl,f8,dM⟩:=hrel;by_cases ca:j<n
    ·have b1:j<l.length:=by rw[eu.out];exact ca
     obtain⟨b,ff,rfl,cb,cc,cd⟩:=(b'.out.below dM.out) j b1;have C:=Fj (λs:Sp=>KG k s.2.2) l j A_ b1;rw[f8.out,BG]at C;obtain⟨⟨f,t,v⟩,b2⟩:∃s,l.getD j A_=s:=⟨_,rfl⟩;rw[b2]at cb cc cd C;simp only at C;obtain⟨mk,A⟩:∃m,NE.getD k 0=m:=⟨_,rfl⟩;obtain⟨b3,ce⟩:∃K,((k:Int)==1)=K:=⟨_,rfl⟩;obtain⟨b4,cf⟩:∃K,((k:Int)==6)=K:=⟨_,rfl⟩;have b5:KG k v = !(decide (v<0)||decide (mk<v)||(v==0)&&(b3||b4)):=by
      rw[KG,A,<-ce,<-cf,show decide (k=1)=((k:Int)==1)from Of.2 O,show decide (k=6)=((k:Int)==6)from Of.2 O];rfl
     have G:=(dM.out.cell (p:=⟨h,k,none⟩) (AN q _ b0.out)).trans b0.out;rw[A]at G;have cq:(wr.alloc (.cells #[.int .i64 f,.int .i64 t,.int .i64 v] 66)).cell? ⟨h,k,none⟩=some (.int .i64 mk):=(JR wr _ ⟨h,k,none⟩ (AN wr _ G)).trans G;have b6:=U C;have kf:=U b5;have eU:=U (dM.out.alloc dM.out.size (.cells #[.int .i64 f,.int .i64 t,.int .i64 v] 66));clear b2 C b5 A G;go_upto_region 8 with(fail);go_cut[51] (λcg ci=>∃B:Bool,cg=.bool B/\Hid (B = !KG k v)/\Hid (Below q.heap.size q ci))
     case first=>
      by_cases am:v<0
      ·go_quiet (fail);go_wp2_with fail;go_meet;exact⟨true,rfl,by unfold Hid;rw[kf.out];simp[am],Im eU.out _⟩
      ·have d_:decide (v<0)=false:=Ai am;clear am;by_cases a9:mk<v
       ·go_quiet (fail);go_wp2_with fail;go_meet;exact⟨true,rfl,by unfold Hid;rw[kf.out];simp[a9],Im eU.out _⟩
       ·have fH:decide (mk<v)=false:=Ai a9;clear a9;by_cases L:v=0
        ·have iE:(v==0)=true:=At L;clear L;cases b3 with
         | true =>
          exact Avr
         | false =>
          cases b4 with
          | true =>
           exact Avr
          | false =>
           exact Avs
        ·have iE:(v==0)=false:=Ai L;clear L;exact Avs
     case rest=>
      obtain⟨B,rfl,fT,fP⟩:=hcut;cases B
      ·have bb:Hid ((l.take (j+1)).all (λs=>KG k s.2.2)=true):=by
        unfold Hid;rw[b6.out];have:=fT.out;cases a':KG k v with
        | true=>rfl
        | false=>rw[a']at this;cases this
       exact Ayw
      ·have bs:Hid (r3 T=false):=by
        unfold Hid;apply b9.out;have:=fT.out;exact D4 _ l (j+1) (by
         rw[b6.out]
         cases a':KG k v with
         | true=>rw[a']at this;cases this
         | false=>rfl)
       have eT:=U (fI.out.step cC.out);exact AvF
    ·obtain rfl:j=n:=by omega
     have d8:Hid (∀i,i<k+1->Hw i ((BF T).getD i [])=true):=by
      intro i dI;exact Azk
     exact AyA
  ·obtain rfl:k=7:=by omega
   have dm:Hid (r3 T=true):=by unfold Hid;rw[Afl];exact AtS Hw cI.out
   exact AvS
end Go.Proofs.YtblcoicaeeiojaaGreatDoor
namespace Go.Proofs.YtblcoicaeeiojaaGreatDoor
inductive Rn (T:Y):Int->List Int->List Int->Int->List Int->Prop
 | nil (s:Int) (M:List Int):Rn T s M [] s M
 | mark {s c s':Int} {M r M':List Int}:My T c=false->0<Ao T c->Rn T s (M++[c]) r s' M'->Rn T s M (c::r) s' M'
 | comp {s c p s':Int} {M r M':List Int}:E4 T M c->Db T s c=some p->Rn T p M r s' M'->Rn T s M (c::r) s' M'
theorem Rn.go{T:Y}(h:Av T=0){s c:Int}{M W e:List Int}(m:Rn T s M W c e)(r:List Int):CP T s M (W++r)=CP T c e r:=by
 induction m with
 | nil s M=>rfl
 | mark q k _ b=>rw[CH,Mf (Yd (AeJ h q)) O];exact b
 | comp A k _ b=>rw[CH,Np (AtZ A k)];exact b
theorem Rn.sub{T:Y}{s e:Int}{M W c:List Int}(h:Rn T s M W e c):∀x∈M,x∈c:=by
 induction h with
 | nil s M=>exact λx b3=>b3
 | mark _ _ _ b=>exact λx b3=>b x N3
 | comp _ _ _ b=>exact b
theorem Rn.pos{T:Y}{s k:Int}{M W h:List Int}(m:Rn T s M W k h)(c:∀x∈M,0<Ao T x):∀x∈h,0<Ao T x:=by
 induction m with
 | nil s M=>exact c
 | mark _ q _ e =>
  refine e λx b=>?_;rcases Bg.1 b with b|b
  ·exact c x b
  ·simp at b;subst b;exact q
 | comp _ _ _ e=>exact e c
theorem Rn.snoc{T:Y}{s A c p:Int}{M W b:List Int}(C:Rn T s M W A b)(e:E4 T b c)(h:Db T A c=some p):Rn T s M (W++[c]) p b:=by
 induction C with
 | nil s M=>exact .comp e h (.nil _ _)
 | mark k m _ q=>exact .mark k m (q e h)
 | comp k m _ q=>exact .comp k m (q e h)
def Tp(k:Int->Int)(m:Int):List Int->List Int
 | []=>[m]
 | c::r=>if(c::r).all (λy=>decide (k m<k y))=true then m::c::r else c::Tp k m r
theorem Rn.late{T:Y}{s h m:Int}{M W e:List Int}(k:Rn T s M W h e)(q:∀x∈W,Ao T m<Ao T x)(A:∀x∈e,Ao T x<=Ao T m):Rn T s (M++[m]) W h (e++[m]):=by
 induction k with
 | nil s M=>exact .nil _ _
 | mark G C k F =>
  rename_i s c h M r e;have a:=A c (k.sub c J);have b:=q c J;omega
 | comp G C k F =>
  rename_i s c p h M r e;refine .comp ?_ C (F (λx b3=>q x N3) A);intro x b3;simp at b3;subst b3;exact q c J
theorem Rn.ins{T:Y}{s k m:Int}{M W b:List Int}(h:Rn T s M W k b)(G:My T m=false)(L:0<Ao T m)(q:∀x∈b,Ao T x<=Ao T m):Rn T s M (Tp (Ao T) m W) k (b++[m]):=by
 induction h with
 | nil s M=>exact .mark G L (.nil _ _)
 | mark A C h F =>
  rename_i s c k M r b;have a:=q c (h.sub c J);have e:(c::r).all (λy=>decide (Ao T m<Ao T y))=false:=by
   have:¬Ao T m<Ao T c:=O;simp[this]
  rw[Tp,e,V J];exact .mark A C (F q)
 | comp A C h F =>
  rename_i s c p k M r b;rw[Tp];split
  ·rename_i ac;rw[AR]at ac;exact .mark G L ((Rn.comp A C h).late (λx ad=>by simpa using ac x ad) q)
  ·exact .comp A C (F q)
def Na(T:Y)(l:List Int)(i:Int):Bool:=decide (Jr T l i)&&Gq T l i.toNat
def Ma(T:Y)(l:List Int):Int × Int:=if AB T l≠0 then(0,AB T l)else match Li T l l.length 0 with
 | some k=>((k:Int),18)
 | none=>(0,0)
def Ab8{T:Y}{l:List Int}{k:Nat}(c:k<l.length)(b:AB T l=0):Na T l k=Gq T l k:=by unfold Na;rw[At (show Jr T l k from⟨O,O,b⟩),Ef];rfl
theorem Abd{T:Y}{l:List Int}:∀(d m k:Nat),m<=k->k<m+d->(∀j,m<=j->j<k->Gq T l j=true)->Gq T l k=false->Li T l d m=some k
 | 0,m,k,c,h,_,_=>O
 | d+1,m,k,c,h,dy,b=>by
  rw[Li];by_cases e:m=k
  ·rw[e,N b]
  ·rw[V AiY,Abd d (m+1) k O O (λj s q=>dy j O q) b]
def BJ(l:List Int)(i:Int):Int:=if i<0 then -1 else l.getD i.toNat (-1)
def Abb(l:List Int)(k:Nat):BJ l ((k:Int)-1)=QP l k:=by
 unfold BJ QP;by_cases h:k=0
 ·subst h;rfl
 ·rw[V O,V h,show ((k:Int)-1).toNat=k-1 by omega]
def Aba(l:List Int)(k:Nat):BJ l ((k:Int)+1)=QJ l k:=by
 unfold BJ QJ;rw[V O,show ((k:Int)+1).toNat=k+1 by omega]
def L8{l:List Int}{k:Nat}(h:k<l.length):BJ l k=l.getD k 0:=by
 unfold BJ;rw[V O,Ef];exact Ps
def SM{l:List Int}{i:Int}(h:¬(0<=i/\i<l.length)):BJ l i = -1:=by
 unfold BJ;by_cases b:i<0
 ·rw[N b]
 ·rw[V b,Cz,MT O];rfl
def P8(q:Int->Bool)(l:List Int)(k:Nat)(h:k<l.length):(l.take (k+1)).any q=((l.take k).any q||q (l.getD k 0)):=by
 rw[E9 h,MP];simp[h]
def Aa2{q:Int->Bool}{l:List Int}{k:Nat}(h:k<l.length)(b:q (l.getD k 0)=true):l.any q=true:=JS.2 ⟨l.getD k 0,JM,b⟩
end Go.Proofs.YtblcoicaeeiojaaGreatDoor
namespace Go.Proofs.YtblcoicaeeiojaaGreatDoor
open Go.RowKit
def XZ(c k8 dI:Int)(B:Bool)(w:World)(b:Hid ((decide (k8<=c)&&decide (c<=dI))=B)):Calls prog 192 #[.int .i64 c,.int .i64 k8,.int .i64 dI] w (Ar (.bool B) w):=by
 by_cases h:k8<=c
 ·have e:decide (k8<=c)=true:=At h;obtain rfl:B=decide (c<=dI):=by rw[<-b.out,e,BG]
  clear b;go_enter func192,ntmps192;exact Hx
 ·have e:decide (k8<=c)=false:=Ai h;obtain rfl:B=false:=by rw[<-b.out,e,Bool.false_and]
  clear b;go_enter func192,ntmps192;exact Hx
end Go.Proofs.YtblcoicaeeiojaaGreatDoor
namespace Go.Proofs.YtblcoicaeeiojaaGreatDoor
def Gu(c:Int):Int:=if c=183 then 1 else if c=885 then 2 else if 1523<=c/\c<=1524 then 3 else if c=12539 then 4 else if EQ c=true then 5 else if EB c=true then 6 else 0
def VB{c:Int}:EQ c=true↔1632<=c/\c<=1641:=by simp[EQ]
def V_{c:Int}:EB c=true↔1776<=c/\c<=1785:=by simp[EB]
def Ado{c:Int}:Gu c=5↔EQ c=true:=by
 unfold Gu;constructor
 ·intro h;split at h
  ·omega
  split at h
  ·omega
  split at h
  ·omega
  split at h
  ·omega
  split at h
  ·assumption
  split at h<;>omega
 ·intro h;have b:=VB.1 h;rw[V O,V O,V O,V O,N h]
def Adp{c:Int}:Gu c=6↔EB c=true:=by
 unfold Gu;constructor
 ·intro h;split at h
  ·omega
  split at h
  ·omega
  split at h
  ·omega
  split at h
  ·omega
  split at h
  ·omega
  split at h
  ·assumption
  ·omega
 ·intro h;have b:=V_.1 h;rw[V O,V O,V O,V O,V Awr,N h]
def Atr{T:Y}(b:AH 0 T.aj=true):Ep T (-1)=0:=by
 unfold Ep;rw[AgO b (.inl O)];rfl
def AlJ{T:Y}{l:List Int}{m:Nat}(ac:AH 0 T.aj=true)(am:m<l.length):Gq T l m=(if Gu (l.getD m 0)=1 then decide (BJ l ((m:Int)-1)=108)&&decide (BJ l ((m:Int)+1)=108)else if Gu (l.getD m 0)=2 then decide (Ep T (BJ l ((m:Int)+1))=4)else if Gu (l.getD m 0)=3 then decide (Ep T (BJ l ((m:Int)-1))=11)else if Gu (l.getD m 0)=4 then l.any (DN T)else if Gu (l.getD m 0)=5 then !l.any EB else if Gu (l.getD m 0)=6 then !l.any EQ else true):=by
 have F:=Atr ac;generalize ad:l.getD m 0=c;unfold Gq;simp only[ad];rw[Abb,Aba];obtain⟨k,b⟩:∃k,Gu c=k:=⟨_,rfl⟩;rw[b];unfold Gu at b;by_cases q:c=183
 ·rw[N q]at b;subst b;rw[N q,N rfl]
 rw[V q]at b|-;by_cases s:c=885
 ·rw[N s]at b;subst b;rw[N s,V Aw,N rfl];unfold QJ;by_cases h:m+1<l.length
  ·rw[At h,BG];simp[List.getD,h]
  ·have e:l.getD (m+1) (-1) = -1:=by rw[Cz,MT O];rfl
   rw[Ai h,e,F];rfl
 rw[V s]at b|-;by_cases G:c=1523\/c=1524
 ·rw[N O]at b;subst b;rw[N G,V Aw,V Aw,N rfl];unfold QP;by_cases h:m=0
  ·rw[N h,F,Ai (show ¬0<m by omega)];rfl
  ·rw[V h,At (show 0<m by omega),BG];simp[List.getD,show m-1<l.length by omega]
 rw[V O]at b;rw[V G];by_cases A:c=12539
 ·rw[N A]at b;subst b;rw[N A,V Aw,V Aw,V Aw,N rfl]
 rw[V A]at b|-;cases C:EQ c with
 | true=>rw[C,N rfl]at b;subst b;rfl
 | false=>cases L:EB c with
  | true=>rw[C,L,V J,N rfl]at b;subst b;rfl
  | false=>rw[C,L,V J,V J]at b;subst b;rfl
end Go.Proofs.YtblcoicaeeiojaaGreatDoor
namespace Go.Proofs.YtblcoicaeeiojaaGreatDoor
open Go.RowKit
def Afm{T:Y}(h:r4 T=true):∀m∈T.dec,m.2.length<=18:=λm b=>by
 simp only[r4,AJ]at h;have:=AR.1 h.2.2.1 m b;simp only[GB,AJ,A4]at this;exact this.1.2
def Anw{T:Y}(h:r4 T=true)(c:Int):AP T.ah c=decide (As T.ah c≠[]):=by
 cases b:AP T.ah c with
 | false=>rw[FN b];rfl
 | true =>
  have k:=Ll b;simp only[r4,AJ]at h;have:=AR.1 h.2.2.2 _ k;simp only[GB,AJ,A4]at this;have m:As T.ah c≠[]:=λe=>by rw[e]at this;simp at this
  exact(At m).symm
def Afk{T:Y}(h:r3 T=true):DB 1 1 T.an=true:=by
 simp only[r3,AJ]at h;exact h.2.2.2.2.2.2
def OV{T:Y}(h:r2 T=true):BA T.ag=true:=by
 simp only[r2,BF,DQ,Gf,AJ]at h;exact h.1.2.2.2.2.2.1
def As5(x:TV)(T:Y)(B:Bool)(w:World)(b:Ah w x T)(c:Hid (r1 T=B)):Calls prog 83 #[x.agg] w (Ar (.bool B) w):=c.out▸As4 x T w b
def AsS(x:TV)(T:Y)(B:Bool)(w:World)(b:Ah w x T)(c:r1 T=true)(e:Hid (r2 T=B)):Calls prog 84 #[x.agg] w (Ar (.bool B) w):=e.out▸AsR x T w b c
def AsV(x:TV)(T:Y)(B:Bool)(w:World)(b:Ah w x T)(c:Hid (r3 T=B)):Calls prog 85 #[x.agg] w (Ar (.bool B) w):=c.out▸AsU x T w b
def As3(x:TV)(T:Y)(B:Bool)(w:World)(b:Ah w x T)(c:Hid (r4 T=B)):Calls prog 86 #[x.agg] w (Ar (.bool B) w):=c.out▸As2 x T w b
def Asv(x:TV)(T:Y)(B:Bool)(w:World)(b:Ah w x T)(c:r2 T=true)(e:Hid (r5 T=B)):Calls prog 87 #[x.agg] w (Ar (.bool B) w):=e.out▸Asu x T w b (OV c)
def Ase(x:TV)(T:Y)(B:Bool)(w:World)(b:Ah w x T)(c:r1 T=true)(e:r4 T=true)(h:Hid (r6 T=B)):Calls prog 88 #[x.agg] w (Ar (.bool B) w):=h.out▸Asd x T w b (Afm e) (Qr c).2.2.1
def Jk(T:Y)(a b:Mp):Bool:=AV T a.1&&(AV T b.1&&decide (a.2=b.2))
def ApZ{T:Y}{i:Nat}(dI:i<T.dec.length)(h:(Ck T (T.dec.take i)).Nodup)(s:∀j,j<i->Jk T (T.dec.getD i Ay) (T.dec.getD j Ay)=false):(Ck T (T.dec.take (i+1))).Nodup:=by
 rw[KF T.dec i dI,AbQ];split
 ·rename_i A;rw[Sh];refine⟨h,J,?_⟩;intro y b z c;rw[Ch]at c;subst c;rintro rfl;simp only[Ck,Cc,JW]at b;obtain⟨m,⟨C,k⟩,q⟩:=b;obtain⟨j,F,rfl⟩:=JU C;have G:j<i:=by simp at F;omega
  have:=s j G;have e:(T.dec.take i)[j]=T.dec.getD j Ay:=AxA;rw[e]at k q;rw[Jk,A,k,At q.symm]at this;cases this
 ·exact Co
def ApW{T:Y}{i j:Nat}(dI:i<T.dec.length)(G:j<i)(h:Jk T (T.dec.getD i Ay) (T.dec.getD j Ay)=true):r8 T=false:=by
 simp only[Jk,AJ,A4]at h;obtain⟨m,q,s⟩:=h;have e:T.dec=T.dec.take i++([T.dec.getD i Ay]++T.dec.drop (i+1)):=by
  have:T.dec.getD i Ay=T.dec[i]:=by simp[dI]
  rw[this,Vn,<-EP dI,FG]
 unfold r8;apply Ai;intro c;rw[e]at c;have k:∀a b:List Mp,Ck T (a++b)=Ck T a++Ck T b:=λa b=>by simp[Ck]
 rw[k,k,Sh]at c;have A:(T.dec.getD j Ay).2∈Ck T (T.dec.take i):=by
  simp only[Ck,Cc,JW];refine⟨_,⟨?_,q⟩,rfl⟩;have C:j<(T.dec.take i).length:=Ae;have:T.dec.getD j Ay=(T.dec.take i)[j]:=AxA;rw[this];exact Ob C
 have F:(T.dec.getD i Ay).2∈Ck T [T.dec.getD i Ay]++Ck T (T.dec.drop (i+1)):=by
  apply Vi;simp only[Ck,Cc,JW,Ch];exact⟨_,⟨rfl,m⟩,rfl⟩
 exact c.2.2 _ A _ F s.symm
end Go.Proofs.YtblcoicaeeiojaaGreatDoor
namespace Go.Proofs.YtblcoicaeeiojaaGreatDoor
def BU(T:Y)(l:List Int):List Int:=if Bu T l=0 then Jq T (FQ T l)else []
def Ir(T:Y)(l:List Int):Bool:=decide (Bu T l=0)&&(BU T l==l)
def OJ{T:Y}{l:List Int}(h:Bu T l=0):BU T l=Jq T (FQ T l):=N h
def Xf{T:Y}{l:List Int}(h:Bu T l≠0):BU T l=[]:=V h
def ApU{T:Y}{l:List Int}(h:Bu T l=0):BR (Ao T) (FQ T l):=by rw[Ly h];exact Xn _ _
def Aej{T:Y}{l:List Int}(h:Bu T l=0):SB T (FQ T l) (BU T l):=by
 rw[OJ h];exact ApO (QH h) _ (ApU h) (Xj h)
def Xg(T:Y)(l:List Int):(BU T l).length<=4096:=by
 by_cases h:Bu T l=0
 ·exact Af (Aej h).len (Xi T l)
 ·rw[Xf h];simp
def ApQ(T:Y)(l:List Int):(BU T l).length<=(FQ T l).length:=by
 by_cases h:Bu T l=0
 ·exact(Aej h).len
 ·rw[Xf h];simp
def Aoh{T:Y}{l:List Int}(h:Ir T l=true):Bu T l=0/\BU T l=l:=by
 unfold Ir at h;exact Co
def Uo{T:Y}(h:Av T=0):Dg T 46/\Ao T 46=0:=⟨⟨Aw,Qk h Aw,Aw⟩,AbP h Aw⟩
def At5{T:Y}(h:Av T=0):My T 46=false:=by
 cases b:My T 46 with
 | false=>rfl
 | true =>
  unfold My at b;simp only[Ic,A4,JS,AJ]at b;rcases b with b|b|⟨m,e,A,k,_⟩
  ·exact absurd b Aw
  ·exact absurd b Aw
  ·have q:(46:Int)∈As T.dec m.1:=by
    rw[Ov h e,<-k];have:1<m.2.length:=O;simp[this]
   have c:=VZ h q;have s:D9 46=true:=Aw;rw[s]at c;cases c
def At4{T:Y}(h:Av T=0)(c:Int):Db T 46 c=none:=by
 cases k:Db T 46 c with
 | none=>rfl
 | some p =>
  rcases TP h k with⟨m,_⟩|⟨cj,_⟩
  ·exfalso;rcases m with⟨b,_⟩|⟨b,_⟩<;>exact absurd b Aw
  ·have e:=VZ h (c:=p) (x:=46) Hy;have q:D9 46=true:=Aw;rw[q]at e;cases e
def Anq{T:Y}(h:Av T=0)(A B:List Int)(s:Int)(M:List Int):CP T s M (A++46::B)=CP T s M A++CP T 46 [] B:=by
 induction A generalizing s M with
 | nil=>rw[Cv,Mg (Yd (AeJ h (At5 h))) (Uo h).2];rfl
 | cons c r k =>
  rw[CH];cases b:FU T s M c with
  | some p=>rw[Np b,Np b,k]
  | none =>
   by_cases e:Ao T c=0
   ·rw[Mg b e,Mg b e,k];simp
   ·rw[Mf b e,Mf b e,k]
def Ann{T:Y}(h:Av T=0)(A B M:List Int):El T M (A++46::B)=El T M A++CP T 46 [] B:=by
 induction A generalizing M with
 | nil =>
  have e:El T M (46::B)=if Ao T 46=0 then M++CP T 46 [] B else El T (M++[46]) B:=rfl;rw[Cv,e,N (Uo h).2];rfl
 | cons c r k =>
  rw[CH,El,El];by_cases b:Ao T c=0
  ·rw[N b,N b,Anq h];simp
  ·rw[V b,V b,k]
def Ano{T:Y}(h:Av T=0)(B M:List Int):CP T 46 M B=46::El T M B:=by
 induction B generalizing M with
 | nil=>rfl
 | cons c r k =>
  have e:FU T 46 M c=none:=Yd (At4 h c);by_cases b:Ao T c=0
  ·rw[Mg e b,El,N b];rfl
  ·rw[Mf e b,El,V b,k]
def ApR{T:Y}{a b:List Int}(c:Bu T a=0)(k:Bu T b=0)(m:Bu T (a++[46]++b)=0):BU T (a++[46]++b)=BU T a++[46]++BU T b:=by
 have h:=QH c;have e:FQ T (a++[46]++b)=FQ T a++46::FQ T b:=by
  rw[Ly m,Ly c,Ly k,M7,M7,<-Aqu _ (Uo h).2];congr 1;have:AQ T [46]=[46]:=by rw[P7];intro x q;simp at q;subst q;exact(Uo h).1
  rw[this];simp
 rw[OJ m,OJ c,OJ k,e];unfold Jq;rw[Ann h,Ano h];exact J
end Go.Proofs.YtblcoicaeeiojaaGreatDoor
namespace Go.Proofs.YtblcoicaeeiojaaGreatDoor
open Go.RowKit Go.Maps
open Go.WideMaps (keyOf_pair)
def GF(a:Int):Prop:=(Lit.int .i64 a).wf=true
def Pf{a:Int}(h:0<=a/\a<=1114111):GF a:=WalkArith.wf_i64 O
def TR{a b:Int}(c:GF a)(e:GF b):keyOf prog 161 (.agg #[.int .i64 a,.int .i64 b])=some (GX a b):=keyOf_pair AeG underlying3 AeH c e
def Aq3{a b c d:Int}(e:GF a)(k:GF b)(m:GF c)(q:GF d)(h:GX a b=GX c d):a=c/\b=d:=by
 have a':=TR e k;have be:=TR m q;exact Avm
def OU(m:DataW Unit)(l:List Mp):DataW Unit:=l.foldl (λm x=>m.put (EW x.2) (.lit (.int .i64 x.1))) m
def Iy(T:Y)(l:List Mp):DataW Unit:=OU (.map []) (l.filter λm=>AV T m.1)
def Af8(T:Y)(l:List Mp):List Lit:=(l.filter λm=>AV T m.1).map λm=>.int .i64 (m.2.getD 1 0)
def Jz(T:Y)(l:List Mp):DataW Unit:=setOf (.lit (.bool true)) (Af8 T l)
theorem XR(k:Lit):∀(l:List Mp) (m:DataW Unit),IsMap m->(∀x∈l,EW x.2≠k)->has (OU m l) k=has m k/\∀z,(OU m l).atKey k z=m.atKey k z
 | [],m,_,_=>⟨rfl,λ_=>rfl⟩
 | x::r,m,q,h=>by
  have b:k≠EW x.2:=λe=>h x J e.symm;have c:=XR k r (m.put (EW x.2) (.lit (.int .i64 x.1))) (q.put _ _) (λy b0=>h y Hz);refine⟨c.1.trans (has_put_other b _),λz=>(c.2 z).trans (atKey_put_other b _ _)⟩
theorem Afg(x:Mp):∀(l:List Mp) (m:DataW Unit),IsMap m->x∈l->(∀y∈l,EW y.2=EW x.2->y=x)->has (OU m l) (EW x.2)=true/\∀z,(OU m l).atKey (EW x.2) z=.lit (.int .i64 x.1)
 | [],_,_,c,_=>by cases c
 | y::r,m,b,c,k=>by
  by_cases h:x∈r
  ·exact Afg x r _ (b.put _ _) h (λz b5=>k z JL)
  ·have e:x=y:=by
    rcases AX.1 c with e|e
    ·exact e
    ·exact absurd e h
   subst e;have q:=XR (EW x.2) r (m.put (EW x.2) (.lit (.int .i64 x.1))) (b.put _ _) (λy b0 e=>h (by rw[<-k y Hz e];exact b0));exact⟨q.1.trans (has_put_same b (WV _) _),λz=>(q.2 z).trans (atKey_put_same b (WV _) _ _)⟩
def VS{T:Y}(h:Av T=0){m:Mp}(s:m∈T.dec)(A:AV T m.1=true):∃a b,m.2=[a,b]/\FC a/\FC b:=by
 obtain⟨a,b,cj,_⟩:=SX h A;have e:=Ov h s;rw[cj]at e;have C:=Qj h (c:=m.1) (x:=a) Hy;have F:=Qj h (c:=m.1) (x:=b) Hy;have k:=NN.1 C.1;have q:=NN.1 F.1;exact⟨a,b,e.symm,⟨k.1,k.2.1⟩,⟨q.1,q.2.1⟩⟩
def Alz{T:Y}(h:Av T=0){m c:Mp}(q:m∈T.dec)(s:AV T m.1=true)(C:c∈T.dec)(F:AV T c.1=true)(e:m.2=c.2):m=c:=by
 obtain⟨a,b,A,_⟩:=VS h q s;have G:=AeI h s ((Ov h q).trans A);have k:=AeI h F ((Ov h C).trans (e.symm.trans A));rw[G]at k;injection k with k;exact L2 k e
def IZ(T:Y)(a b:Int):Int × Bool:=match T.dec.find? (λm=>decide (m.2=[a,b])&&AV T m.1) with
 | some m=>(m.1,true)
 | none=>(0,false)
def Au8{T:Y}(h:Av T=0){a b:Int}(am:GF a)(a9:GF b):has (Iy T T.dec) (GX a b)=(IZ T a b).2/\(Iy T T.dec).atKey (GX a b) (.lit (.int .i64 0))=.lit (.int .i64 (IZ T a b).1):=by
 have A:∀m∈T.dec.filter (λm=>AV T m.1),EW m.2=GX a b->m.2=[a,b]:=by
  intro m q e;obtain⟨q,a'⟩:=JW.1 q;obtain⟨c,d,ba,bb,bc⟩:=VS h q a';rw[ba]at e|-;obtain⟨bd,be⟩:=Aq3 (Pf bb) (Pf bc) am a9 e;rw[bd,be]
 unfold IZ;cases s:T.dec.find? λm=>decide (m.2=[a,b])&&AV T m.1 with
 | none =>
  have bl:=List.find?_eq_none.1 s;have:=XR (GX a b) (T.dec.filter λm=>AV T m.1) (.map []) isMap_empty (λx C e=>by
   have F:=JW.1 C
   exact bl x F.1 (by simp[A x C e,F.2]))
  exact⟨this.1.trans rfl,(this.2 _).trans rfl⟩
 | some m =>
  have k:=List.find?_some s;have G:=Aaq s;simp only[AJ,A4]at k;have L:EW m.2=GX a b:=by rw[k.1];rfl
  have:=Afg m (T.dec.filter λm=>AV T m.1) (.map []) isMap_empty (JW.2 ⟨G,k.2⟩) (λy ac e=>by
   have ad:=JW.1 ac
   exact Alz h ad.1 ad.2 G k.2 ((A y ac (e.trans L)).trans k.1.symm))
  rw[L]at this;exact⟨this.1,this.2 _⟩
def Au7(T:Y)(l:List Mp)(m:Mp):Iy T (l++[m])=if AV T m.1=true then(Iy T l).put (EW m.2) (.lit (.int .i64 m.1))else Iy T l:=by
 unfold Iy OU;rw[Sc,List.foldl_append];by_cases b:AV T m.1=true
 ·rw[N b,show [m].filter (λm=>AV T m.1)=[m] by simp[b]];rfl
 ·rw[V b,show [m].filter (λm=>AV T m.1)=[] by simp[b]];rfl
def Ats(T:Y)(l:List Mp)(m:Mp):Jz T (l++[m])=if AV T m.1=true then(Jz T l).put (.int .i64 (m.2.getD 1 0)) (.lit (.bool true))else Jz T l:=by
 unfold Jz Af8;rw[Sc,FY];by_cases b:AV T m.1=true
 ·rw[N b,show [m].filter (λm=>AV T m.1)=[m] by simp[b],BH,Eg,setOf_snoc]
 ·rw[V b,show [m].filter (λm=>AV T m.1)=[] by simp[b],Eg,E8]
def OO{P:Program}{k:TypeId}{R:Value->Option (DataW Unit × List MemPlace)}{w w':World}{B n:Nat}{D:DataW Unit}(h:w.ownsMap P k R B n D)(b:Below w.heap.size w w'):w'.ownsMap P k R B n D:=h.kept (G4 b none) J
def Avi(w:World):(zeroValue 3).run prog w=.ok (.int .i64 0) w:=Ax
def An_:Keyed prog 3:=int_keyed underlying3
structure Jh (T:Y) (B C:Nat) (w:World):Prop where
 whole:∃n,w.ownsMap prog 161 (plainElem prog 3) B n (Iy T T.dec)
 sec:∃n,w.ownsMap prog 3 (plainElem prog 4) C n (Jz T T.dec)
theorem Jh.below{T:Y}{B c:Nat}{w w':World}(h:Jh T B c w)(e:Below w.heap.size w w'):Jh T B c w':=
 ⟨let ⟨n,b⟩:=h.whole;⟨n,OO b e⟩,let ⟨n,b⟩:=h.sec;⟨n,OO b e⟩⟩
theorem Jh.look{T:Y}{B s:Nat}{w:World}(h:Jh T B s w)(A:Av T=0){a b:Int}(m:GF a)(q:GF b):(Instr.lookup 147 (.map (some B)) (.agg #[.int .i64 a,.int .i64 b]) true).run prog w=.ok (.tuple #[.int .i64 (IZ T a b).1,.bool (IZ T a b).2]) w:=by
 obtain⟨n,C⟩:=h.whole;obtain⟨v,ad,F,G⟩:=C.look_ok QK underlying147 (Avi w) (plainElem_int underlying3 Aw) (TR m q);obtain⟨c,rfl,k,am⟩:=plainElem_int_inv underlying3 G;simp only[DY]at k;obtain⟨L,ac⟩:=Au8 A m q;rw[F,L];rw[ac]at k;have e:=k.1;injection e with e;injection e with _ e;rw[e]
end Go.Proofs.YtblcoicaeeiojaaGreatDoor
namespace Go.Proofs.YtblcoicaeeiojaaGreatDoor
def IS(l:List Int):Bool:=decide (BJ l 0≠45)&&decide (BJ l ((l.length:Int)-1)≠45) && !(decide (BJ l 2=45)&&decide (BJ l 3=45))
def FA(T:Y)(c:Int):Bool:=decide (c≠46)&&(decide (AM T c=1)||decide (AM T c=4))
def Cn(T:Y)(l:List Int):Int:=
 if AB T l≠0 then AB T l else if l=[]then 10 else if Ir T l=false then 13 else if IS l=false then 14
 else if Jj T (l.getD 0 0)=2 then 15 else if l.all (FA T)=false then 16 else if(Lj T l).2≠0 then(Lj T l).2 else(Ma T l).2
def MB{T:Y}{l:List Int}(h:Cn T l=0):AB T l=0/\l≠[]/\Ir T l=true/\Jj T (l.getD 0 0)≠2/\l.all (FA T)=true:=by
 unfold Cn at h;by_cases a':AB T l=0
 ·rw[V O]at h;by_cases b:l=[]
  ·rw[N b]at h;omega
  ·rw[V b]at h;cases e:Ir T l with
   | false=>rw[N e]at h;omega
   | true =>
    rw[V (by rw[e];simp)]at h;cases k:IS l with
    | false=>rw[N k]at h;omega
    | true =>
     rw[V (by rw[k];simp)]at h;by_cases c:Jj T (l.getD 0 0)=2
     ·rw[N c]at h;omega
     ·rw[V c]at h;cases m:l.all (FA T) with
      | false=>rw[N m]at h;omega
      | true=>exact⟨a',b,rfl,c,rfl⟩
 ·exact LQ
def Uz(l:List Int):Bool:=
 if 4<=l.length/\l.getD 2 0=45/\l.getD 3 0=45 then false else decide (l.length=0)||(decide (l.getD 0 0≠45)&&decide (l.getD (l.length-1) 0≠45))
def VI{l:List Int}{k:Nat}(h:¬k<l.length):BJ l k = -1:=SM (λb=>h O)
def AnB(l:List Int):IS l=Uz l:=by
 unfold IS Uz;by_cases s:l.length=0
 ·have c:BJ l 0 = -1:=VI (k:=0) O;have e:BJ l ((l.length:Int)-1) = -1:=SM (λb=>O);have m:BJ l 2 = -1:=VI (k:=2) O;rw[c,e,m,V (λh=>O),s];rfl
 ·have c:BJ l 0=l.getD 0 0:=L8 (k:=0) O;have e:BJ l ((l.length:Int)-1)=l.getD (l.length-1) 0:=by
   have:=L8 (l:=l) (k:=l.length-1) O;rw[<-this];congr 1;omega
  rw[c,e,Ai s,FE];by_cases A:4<=l.length
  ·have m:BJ l 2=l.getD 2 0:=L8 (k:=2) O;have q:BJ l 3=l.getD 3 0:=L8 (k:=3) O;rw[m,q];by_cases h:l.getD 2 0=45/\l.getD 3 0=45
   ·rw[N ⟨A,h.1,h.2⟩,At h.1,At h.2];simp
   ·rw[V (λb=>h b.2)];have:(decide (l.getD 2 0=45)&&decide (l.getD 3 0=45))=false:=by
     rw[Z'];by_cases C:l.getD 2 0=45
     ·exact .inr (Ai (λF=>h ⟨C,F⟩))
     ·exact .inl (Ai C)
    rw[this];simp
  ·have q:BJ l 3 = -1:=VI (k:=3) O;rw[q,V (λb=>A b.1)];simp
end Go.Proofs.YtblcoicaeeiojaaGreatDoor
