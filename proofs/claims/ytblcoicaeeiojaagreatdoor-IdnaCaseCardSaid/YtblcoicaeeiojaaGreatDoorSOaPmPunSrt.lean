/- puny: plain mathematics: -/
import Derived.Test.YtblcoicaeeiojaaGreatDoorSOaPmPunSpec
import Derived.Laws.BytesArg
import Derived.Sort.LotA
set_option linter.all false
namespace Go.Proofs.YtblcoicaeeiojaaGreatDoor
def Cj(c:Int):Bool:=decide (c<128)
def C8(l:List Int):List Bool:=l.map Cj
def Bm(l:List Int):List Int:=AW l (C8 l)
def DM(P:List Int):List Int:=P++(if P=[]then []else [45])
def Dk(l:List Int):List Int × Int:=
 if 256<l.length then([],7)else if l.all BO=false then([],3)
 else(DM (Bm l)++Fy l (l.length-(Bm l).length) (C8 l) 128 0 72 true,0)
def F7(s:List Int):Nat->Nat
 | 0=>0
 | k+1=>if 1<=k/\s.getD k 0=45 then k else F7 s k
def CZ(s:List Int):Nat:=F7 s s.length
def Gr(s:List Int):List Int × Int:=
 if 2048<s.length then([],7)else if((s.take (CZ s)).any λc=>decide (127<c))=true then([],12)
 else En s.length (s.take (CZ s)) 128 0 72 true (s.drop (if CZ s=0 then 0 else CZ s+1))
theorem Qv(s:List Int):∀k,F7 s k=0\/(1<=F7 s k/\F7 s k<k/\s.getD (F7 s k) 0=45)
 | 0 => .inl rfl
 | k+1=>by
  rw[F7];split
  ·rename_i h;exact .inr ⟨h.1,O,h.2⟩
  ·rcases Qv s k with h|h
   ·exact .inl h
   ·exact .inr ⟨h.1,O,h.2.2⟩
theorem TX(b:Nat):∀(k j v:Nat),v<10^k->(Dn b j v).length<=k+1
 | 0,j,v,h=>by
  have:=Ix b j;rw[Dn,dif_pos O];simp
 | k+1,j,v,h=>by
  have c:=Ix b j;rw[Dn];split
  ·exact J
  ·rename_i e;have m:(v-BV b j)/(36-BV b j)<=v/10:=
    Af (Nat.div_le_div_left O O) (Nat.div_le_div_right O)
   have q:v/10<10^k:=by
    rw[Sm O];rw[Nat.pow_succ]at h;exact h
   have:=TX b k (j+1) ((v-BV b j)/(36-BV b j)) O;exact Ae
theorem XC(l:List Int):∀(f:Nat) (F:List Bool) (n:Int) (i b:Nat) (first:Bool),∀c∈Fy l f F n i b first,(97<=c/\c<=122)\/(48<=c/\c<=57)
 | 0,F,n,i,b,first,c,h=>by rw[Fy]at h;cases h
 | f+1,F,n,i,b,first,c,h=>by
  rw[Fy]at h;cases e:Dy l F l.length with
  | none=>rw[e]at h;cases h
  | some a =>
   rw[e]at h;simp only at h;rcases Bg.1 h with h|h
   ·obtain⟨d,k,rfl⟩:=Cc.1 h;exact Ard (AbR b _ 0 (AbS _ _ _) d k)
   ·exact XC l f _ _ _ _ _ c h
def LH{c:Int}(h:BO c=true):0<=c/\c<=1114111:=by
 unfold BO at h;simp only[AJ,A4]at h;exact⟨h.1.1,h.1.2⟩
def Ye{l:List Int}(e:∀c∈l,BO c=true)(k:l.length<=256){F:List Bool}{n:Int}{i a:Nat}(hF:F.length=l.length)(m:0<=n)(q:(AW l F).length<=256)(b:a<l.length):FV l F n i a<=286326783:=by
 have s:=TT l F hF b;have A:=LH (e (l.getD a 0) (by simp[b]));unfold FV;have C:(l.getD a 0-n)*((AW l F).length+1:Nat)<=1114111*257:=by
  have h:((AW l F).length+1:Nat)<=(257:Int):=O
  calc (l.getD a 0-n)*((AW l F).length+1:Nat)<=1114111*((AW l F).length+1:Nat):=Aaj O O
   _<=1114111*257:=Int.mul_le_mul_of_nonneg_left h O
 omega
theorem Ks:∀(l:List Int) (F:List Bool),(AW l F).length<=l.length
 | [],F=>by cases F<;>simp[AW]
 | c::l,[]=>by simp[AW]
 | c::l,b::F=>by rw[AW];have:=Ks l F;split<;>simp<;>omega
theorem AeR(l:List Int)(e:∀c∈l,BO c=true)(h:l.length<=256):∀(f:Nat) (F:List Bool) (n:Int) (i b:Nat) (first:Bool),F.length=l.length->0<=n->(Fy l f F n i b first).length<=10*f
 | 0,F,n,i,b,first,hF,k=>by rw[Fy];simp
 | f+1,F,n,i,b,first,hF,k=>by
  rw[Fy];cases q:Dy l F l.length with
  | none=>simp
  | some a =>
   have m:=NC l F _ a q;have s:=Ye e h hF k (Af (Ks l F) h) m.lt (i:=i);have A:=TX b 9 0 (FV l F n i a) O;have C:=AeR l e h f (F.set a true) (l.getD a 0) (Bv l F a+1) (Fi (FV l F n i a) ((AW l F).length+1) first) false UM (LH (e _ (by simp[m.lt]))).1;rw[Bc,C6];omega
def Qc(l:List Int)(a:Nat)(h:a<l.length):(C8 l).getD a true=Cj (l.getD a 0):=by
 unfold C8;simp[List.getD,h]
def Abl(l:List Int):PV l (C8 l) 128 0:=by
 intro a c b;rw[Qc l a c]at b;unfold Cj at b;rw[L3]at b;by_cases e:(128:Int)=l.getD a 0
 ·exact .inr ⟨e,Au _⟩
 ·exact .inl O
theorem TW:∀(l:List Int) (F:List Bool) (c:Int),c∈AW l F->c∈l
 | [],F,c,h=>by cases F<;>simp[AW]at h
 | x::l,[],c,h=>by simp[AW]at h
 | x::l,b::F,c,h=>by
  rw[AW]at h;split at h
  ·rcases AX.1 h with rfl|h
   ·exact J
   ·exact Sf _ (TW l F c h)
  ·exact Sf _ (TW l F c h)
theorem VJ:∀(l:List Int),∀c∈Bm l,c<128
 | [],c,h=>by simp[Bm,C8,AW]at h
 | x::l,c,h=>by
  have b:=VJ l c;unfold Bm C8 at h b;rw[BH,AW]at h;split at h
  ·rename_i e;rcases AX.1 h with rfl|h
   ·unfold Cj at e;exact If e
   ·exact b h
  ·exact b h
inductive Vt:List Int->List Int->Prop
 | nil:Vt [] []
 | cons {c d:Int} {s t:List Int} (h:Fp c=Fp d) (r:Vt s t):Vt (c::s) (d::t)
def By(c:Int):Int:=if 65<=c/\c<=90 then c+32 else c
def BN(s:List Int):List Int:=s.map By
def FX:List Int:=[120,110,45,45]
def Ft(s:List Int):Bool:=decide (4<=s.length)&&(BN (s.take 4)==FX)
def D5(l:List Int):Bool:=l.all λc=>decide (0<=c)&&decide (c<=127)
def Fv(s:List Int):List Int × Int:=if 63<s.length then([],11) else(s,0)
def AE(l:List Int):List Int × Int:=
 if l=[] then([],10)else if D5 l=true then Fv l else if(Dk l).2≠0 then([],(Dk l).2)else Fv (FX++(Dk l).1)
def QR(s:List Int)(y:List Int × Int):List Int × Int:=
 if y.2≠0 then([],y.2)else if D5 y.1=true\/(AE y.1).2≠0\/(AE y.1).1≠BN s then([],12) else(y.1,0)
def Jv(s:List Int):List Int × Int:=
 if s=[] then([],10)else if(s.any λc=>decide (127<c))=true then([],12)else if 63<s.length then([],11)
 else if Ft s=false then(s,0)else QR s (Gr (BN (s.drop 4)))
def WX{c:Int}(h:¬(65<=c/\c<=90)):By c=c:=V h
def QD(s:List Int):(BN s).length=s.length:=by unfold BN;simp
def Akt{l:List Int}{c:Int}(h:c∈Bm l):c∈l:=TW l _ c h
theorem AeN:∀(f:Nat) (P:List Int) (n:Int) (i b:Nat) (first:Bool) (s out:List Int) (e:Int),En f P n i b first s=(out,e)->(e=0/\out.length<=P.length+s.length)\/(out=[]/\(e=12\/e=8))
 | f,P,n,i,b,first,[],out,e,h=>by
  have F:P=out/\0=e:=by
   cases f<;>(rw[En]at h;injection h with k q;exact⟨k,q⟩)
  exact .inl ⟨F.2.symm,by rw[F.1];simp⟩
 | 0,P,n,i,b,first,c::s,out,e,h=>by rw[En]at h;injection h with k q;exact .inr ⟨k.symm,.inl q.symm⟩
 | f+1,P,n,i,b,first,c::s,out,e,h=>by
  rw[En]at h;cases C:Gb b 0 (c::s) with
  | none=>rw[C]at h;simp only at h;injection h with k q;exact .inr ⟨k.symm,.inl q.symm⟩
  | some X =>
   obtain⟨D,r⟩:=X;rw[C]at h;simp only at h;obtain⟨_,_,A,L,ac⟩:=Yp b (c::s) 0 D r C;split at h
   ·injection h with k q;exact .inr ⟨k.symm,.inr q.symm⟩
   ·split at h
    ·injection h with k q;exact .inr ⟨k.symm,.inl q.symm⟩
    ·obtain⟨⟨m,j⟩,G⟩:∃y,KC P n i (DA b 0 D)=y:=⟨_,rfl⟩;rw[G]at h;have ad:j<=P.length:=by
      have:j=(DA b 0 D+i)%(P.length+1):=by have:=congrArg Prod.snd G;exact this.symm
      have:=Od (DA b 0 D+i) (show P.length+1>0 by omega);omega
     rcases AeN f (Do P m j) m (j+1) _ false r out e h with⟨k,q⟩|k
     ·refine .inl ⟨k,?_⟩;have am:(Do P m j).length=P.length+1:=by unfold Do;simp;omega
      have a9:(c::s).length=A.length+r.length:=by rw[L];simp
      have:0<A.length:=KT.2 ac;omega
     ·exact .inr k
def VY{L out:List Int}{e:Int}(h:Gr L=(out,e)):out.length<=2048/\((e=0/\L.length<=2048)\/(out=[]/\(e=12\/e=8\/(e=7/\2048<L.length)))):=by
 unfold Gr at h;split at h
 ·rename_i k;injection h with b c;exact⟨by rw[<-b];simp,.inr ⟨b.symm,.inr (.inr ⟨c.symm,k⟩)⟩⟩
 ·split at h
  ·injection h with b c;exact⟨by rw[<-b];simp,.inr ⟨b.symm,.inl c.symm⟩⟩
  ·rename_i k _;rcases AeN _ _ _ _ _ _ _ _ _ h with⟨b,c⟩|⟨b,c⟩
   ·refine⟨?_,.inl ⟨b,O⟩⟩;have:=Qv L L.length;have m:(L.take (CZ L)).length<=CZ L:=Ae;have q:(L.drop (if CZ L=0 then 0 else CZ L+1)).length<=L.length-CZ L:=by simp;split<;>omega
    have s:CZ L<=L.length:=by unfold CZ;omega
    omega
   ·exact⟨by rw[b];simp,.inr ⟨b,by rcases c with c|c;exact .inl c;exact .inr (.inl c)⟩⟩
def zz(v:Int):Int:=if 0<=v then 2*v else -2*v-1
def p7:Nat->Int
 | 0=>1
 | k+1=>128*p7 k
def Ap(s:ByteArray):List Int:=s.data.toList.map λb=>(b.toNat:Int)
def Be(s:ByteArray):(Ap s).length=s.size:=by simp[Ap]
def Xk(s:ByteArray):∀x∈Ap s,0<=x/\x<256:=by
 intro x c;obtain⟨b,_,rfl⟩:=Cc.1 c;have:=b.toNat_lt;omega
def Mo(l:List Int)(h:∀x∈l,0<=x/\x<256):Ap (strOfNums l)=l:=by
 induction l with
 | nil=>rfl
 | cons x r c =>
  have e:=h x J;have b:=c λy b0=>h y Hz;simp only[Ap,strOfNums,BH]at b|-;rw[b];congr 1;simp only[Aay];omega
end Go.Proofs.YtblcoicaeeiojaaGreatDoor
namespace Go.Proofs.YtblcoicaeeiojaaGreatDoor
open Go.Sort
def Fu(l:List Int)(x:Int):Int:=l.getD x.toNat 0
def AK(l:List Int)(x y:Int):Bool:=decide (Fu l x<Fu l y)||(decide (Fu l x=Fu l y)&&decide (x<y))
def QE(l:List Int)(x y:Int):Bool:=decide (Fu l x<Fu l y)
def Ls{l:List Int}{x y:Int}:AK l x y=true↔Fu l x<Fu l y\/(Fu l x=Fu l y/\x<y):=by unfold AK;simp
def Tz{l:List Int}{x y:Int}:AK l x y=false↔Fu l y<Fu l x\/(Fu l x=Fu l y/\y<=x):=by
 rw[<-I8,Ls];omega
def OH(l:List Int):SWO (AK l) where
 irrefl x:=by rw[Tz];omega
 trans x y z b c:=by rw[Ls]at *;omega
 ntrans x y z b c:=by rw[Tz]at *;omega
def W5{l:List Int}{x y:Int}(h:AK l x y=true):AK l y x=false:=by rw[Ls]at h;rw[Tz];omega
def WZ{l:List Int}{x y:Int}(h:y<x):QE l x y=AK l x y:=by
 rw[Gd,Ls];unfold QE;simp;omega
def Gz(l:List Int)(x y:Int):Int:=if Fu l x<Fu l y then -1 else if Fu l y<Fu l x then 1 else 0
def Xz{l:List Int}{x y:Int}:Gz l x y<0↔QE l x y=true:=by
 unfold Gz QE;simp only[A4];exact Aia
def BL(s m e:Nat)(d:Nat->Int)(k:Nat):Int:=
 if s<=k/\k<s+(e-m)then d (k+(m-s))else if s+(e-m)<=k/\k<e then d (k-(e-m))else d k
def I2(a b n:Nat)(d:Nat->Int)(k:Nat):Int:=
 if a<=k/\k<a+n then d (k-a+b)else if b<=k/\k<b+n then d (k-b+a)else d k
def AsE{m i j:Nat}{d:Nat->Int}(dI:i<=m)(b:j<i)(k:Nat):BL (m-i) m (m+j) d k=BL (m-(i-j)) m (m+j) (I2 (m-i) m j d) k:=Ahh
def AsF{m i j:Nat}{d:Nat->Int}(dI:i<=m)(b:i<j)(k:Nat):BL (m-i) m (m+j) d k=BL (m-i) m (m+(j-i)) (I2 (m-i) (m+j-i) i d) k:=Ahh
def AsD{m i:Nat}{d:Nat->Int}(dI:i<=m)(k:Nat):BL (m-i) m (m+i) d k=I2 (m-i) m i d k:=Ahh
def X3{s m e:Nat}{d:Nat->Int}(h:s=m\/m=e)(k:Nat):BL s m e d k=d k:=by
 unfold BL
 repeat' split
 all_goals first
  | rfl
  | (exfalso;omega)
  | rfl
  | (congr 1<;>omega)
def AfV{s m e:Nat}{d hQ:Nat->Int}(h:∀k,d k=hQ k)(k:Nat):BL s m e d k=BL s m e hQ k:=by
 unfold BL;simp only[h]
def AfW{lt:Int->Int->Bool}{a s m e b:Nat}{d hQ:Array Int}(has:a<=s)(a':s<=m)(ba:m<=e)(bb:e<=b)(F:∀k,hQ[k]! = BL s m e (λk=>d[k]!) k)(A:SortedIn lt a m d)(C:SortedIn lt m b d)(ac:∀i j,a<=i->i<s->m<=j->j<e->lt d[j]! d[i]! = false)(ad:∀i j,s<=i->i<m->m<=j->j<e->lt d[i]! d[j]! = false)(am:∀i j,s<=i->i<m->e<=j->j<b->lt d[j]! d[i]! = false)(a9:∀i j,a<=i->i<s->e<=j->j<b->lt d[j]! d[i]! = false):SortedIn lt a b hQ:=by
 intro p q bc bd be;rw[F,F];unfold BL;by_cases G:s<=p/\p<s+(e-m)
 ·rw[N G];by_cases h:s<=q/\q<s+(e-m)
  ·rw[N h];exact C _ _ O O O
  ·rw[V h];by_cases c:s+(e-m)<=q/\q<e
   ·rw[N c];exact ad _ _ O O O O
   ·rw[V c];exact C _ _ O O O
 ·rw[V G];by_cases L:s+(e-m)<=p/\p<e
  ·rw[N L];by_cases h:s<=q/\q<s+(e-m)
   ·omega
   ·rw[V h];by_cases c:s+(e-m)<=q/\q<e
    ·rw[N c];exact A _ _ O O O
    ·rw[V c];exact am _ _ O O O O
  ·rw[V L];by_cases bl:p<s
   ·by_cases h:s<=q/\q<s+(e-m)
    ·rw[N h];exact ac _ _ O O O O
    ·rw[V h];by_cases c:s+(e-m)<=q/\q<e
     ·rw[N c];exact A _ _ O O O
     ·rw[V c];by_cases bs:q<s
      ·exact A _ _ O O O
      ·exact a9 _ _ O O O O
   ·by_cases h:s<=q/\q<s+(e-m)
    ·omega
    ·rw[V h];by_cases c:s+(e-m)<=q/\q<e
     ·omega
     ·rw[V c];exact C _ _ O O O
structure DS (l:List Int) (a m b:Nat) (d:Array Int):Prop where
 am:a<=m
 mb:m<=b
 size:b<=d.size
 left:SortedIn (AK l) a m d
 right:SortedIn (AK l) m b d
 aX:∀i j,a<=i->i<m->m<=j->j<b->d[i]! < d[j]!
theorem DS.cmp{l:List Int}{a m b:Nat}{d:Array Int}(h:DS l a m b d){i j:Nat}(c:a<=i)(e:i<m)(k:m<=j)(q:j<b):(Gz l d[j]! d[i]! < 0)↔AK l d[j]! d[i]! = true:=by
 rw[Xz,WZ (h.aX i j c e k q)]
theorem DS.de{l:List Int}{a m b i:Nat}{d hQ:Array Int}(h:DS l a m b d)(ad:m=a+1)(dI:m<=i)(A:i<=b)(C:m<i->AK l d[i-1]! d[a]! = true)(F:i<b->AK l d[i]! d[a]! = false)(G:∀k,hQ[k]! = BL a m i (λk=>d[k]!) k):SortedIn (AK l) a b hQ:=by
 have c:=OH l;refine AfW (Ac a) h.am dI A G h.left h.right (λ_ _ _ _ _ _=>O) (λx j L ac q s=>?_) (λx j L ac q s=>?_) (λ_ _ _ _ _ _=>O)
 ·obtain rfl:x=a:=by omega
  have:=W5 (C O);by_cases e:j=i-1
  ·rw[e];exact this
  ·exact c.ntrans _ _ _ this (h.right _ _ q O O)
 ·obtain rfl:x=a:=by omega
  have:=F O;by_cases e:j=i
  ·rw[e];exact this
  ·exact c.ntrans _ _ _ (h.right _ _ dI O s) this
theorem DS.dg{l:List Int}{a m b i:Nat}{d hQ:Array Int}(h:DS l a m b d)(ad:b=m+1)(dI:a<=i)(A:i<=m)(C:a<i->AK l d[m]! d[i-1]! = false)(F:i<m->AK l d[m]! d[i]! = true)(G:∀k,hQ[k]! = BL i m b (λk=>d[k]!) k):SortedIn (AK l) a b hQ:=by
 have c:=OH l;refine AfW dI A h.mb (Ac b) G h.left h.right (λx j q s L ac=>?_) (λx j q s L ac=>?_) (λ_ _ _ _ _ _=>O) (λ_ _ _ _ _ _=>O)
 ·obtain rfl:j=m:=by omega
  have:=C O;by_cases e:x=i-1
  ·rw[e];exact this
  ·exact c.ntrans _ _ _ this (h.left _ _ q O O)
 ·obtain rfl:j=m:=by omega
  have:=W5 (F O);by_cases e:x=i
  ·rw[e];exact this
  ·exact c.ntrans _ _ _ (h.left _ _ dI O s) this
def KE(a m b:Nat):Nat × Nat:=if(a+b)/2<m then((a+b)/2+m-b,(a+b)/2) else(a,m)
theorem DS.cY{l:List Int}{a m b s:Nat}{d hQ:Array Int}(h:DS l a m b d)(b9:a+2<=m)(b':m+2<=b)(b0:(KE a m b).1<=s)(b1:s<=(KE a m b).2)(am:(KE a m b).1<s->AK l d[(a+b)/2+m-1-(s-1)]! d[s-1]! = false)(a9:s<(KE a m b).2->AK l d[(a+b)/2+m-1-s]! d[s]! = true)(b2:hQ.size=d.size)(ga:∀k,hQ[k]! = BL s m ((a+b)/2+m-s) (λk=>d[k]!) k):DS l a s ((a+b)/2) hQ/\DS l ((a+b)/2) ((a+b)/2+m-s) b hQ/\∀i j,a<=i->i<(a+b)/2->(a+b)/2<=j->j<b->AK l hQ[j]! hQ[i]! = false:=by
 have a':=OH l;obtain⟨c,be⟩:∃c,(a+b)/2=c:=⟨_,rfl⟩;obtain⟨ba,bb,F⟩:∃ba bb,KE a m b=(ba,bb):=⟨_,_,rfl⟩;rw[F]at b0 b1 am a9;simp only at b0 b1 am a9;have ca:(c<m/\ba=c+m-b/\bb=c)\/(m<=c/\ba=a/\bb=m):=by
  unfold KE at F;rw[be]at F;split at F
  ·left;injection F with q A;omega
  ·right;injection F with q A;omega
 have cb:a+2<=c/\c+2<=b:=O;have cc:2*c<=a+b/\a+b<=2*c+1:=O;rw[be]at ga am a9|-;clear be F;have has:a<=s:=O;have cd:s<=m:=O;have b3:s<=c:=O;obtain⟨e,b4⟩:∃e,c+m-s=e:=⟨_,rfl⟩;rw[b4]at ga|-;have b5:m<=e:=O;have b6:c<=e:=O;have b7:e<=b:=O;have ce:s+(e-m)=c:=O;have bc:∀k,k<s->hQ[k]! = d[k]! := λk b8=>AzD;have bd:∀k,s<=k->k<c->hQ[k]! = d[k+(m-s)]! := λk q A=>by rw[ga];unfold BL;rw[N O]
 have L:∀k,c<=k->k<e->hQ[k]! = d[k-(e-m)]! := λk q A=>by rw[ga];unfold BL;rw[V O,N O]
 have ac:∀k,e<=k->hQ[k]! = d[k]! := λk b8=>AzD;refine⟨⟨has,b3,by rw[b2];have:=h.size;omega,?_,?_,?_⟩,⟨b6,b7,by rw[b2];exact h.size,?_,?_,?_⟩,?_⟩
 ·intro i j q A C;rw[bc i O,bc j C];exact h.left i j q A O
 ·intro i j q A C;rw[bd i q O,bd j O C];exact h.right _ _ O O O
 ·intro i j q A C G;rw[bc i A,bd j C G];exact h.aX _ _ q O O O
 ·intro i j q A C;rw[L i q O,L j O C];exact h.left _ _ O O O
 ·intro i j q A C;rw[ac i q,ac j O];exact h.right _ _ O A C
 ·intro i j q A C G;rw[L i q A,ac j C];exact h.aX _ _ O O O G
 ·intro i j q A C G;by_cases dI:i<s
  ·rw[bc i dI];by_cases bl:j<e
   ·rw[L j C bl];exact h.left _ _ q O O
   ·rw[ac j O];have bs:=am O;rw[show c+m-1-(s-1)=e by omega]at bs;have ad:AK l d[j]! d[s-1]! = false:=by
     by_cases bt:j=e
     ·rw[bt];exact bs
     ·exact a'.ntrans _ _ _ (h.right e j b5 O G) bs
    by_cases bv:i=s-1
    ·rw[bv];exact ad
    ·exact a'.ntrans _ _ _ ad (h.left i (s-1) q O O)
  ·rw[bd i O A];by_cases bl:j<e
   ·rw[L j C bl];have bx:=W5 (a9 O);rw[show c+m-1-s=e-1 by omega]at bx;have ad:AK l d[j-(e-m)]! d[e-1]! = false:=by
     by_cases bt:j-(e-m)=s
     ·rw[bt];exact bx
     ·exact a'.ntrans _ _ _ (h.left s (j-(e-m)) O O O) bx
    by_cases bv:i+(m-s)=e-1
    ·rw[bv];exact ad
    ·exact a'.ntrans _ _ _ ad (h.right _ _ O O O)
   ·rw[ac j O];exact h.right _ _ O O G
def Anu{lt:Int->Int->Bool}{a c b:Nat}{d e k:Array Int}(L:b<=d.size)(bb:a<=c)(bc:c<=b)(ac:∀i j,a<=i->i<c->c<=j->j<b->lt d[j]! d[i]! = false)(s:PermIn a c d e)(ad:SortedIn lt a c e)(F:PermIn c b e k)(am:SortedIn lt c b k):SortedIn lt a b k:=by
 have A:∀i,i<c->k[i]! = e[i]! := λi dI=>F.2.1 i (.inl dI);have a9:∀j,c<=j->e[j]! = d[j]! := λj h=>s.2.1 j (.inr h);intro i j m q G;by_cases h:j<c
 ·rw[A i O,A j h];exact ad i j m q h
 ·by_cases dI:i<c
  ·rw[A i dI];have a':∀j,c<=j->j<b->∀i,a<=i->i<c->lt d[j]! e[i]! = false:=λj h C=>
    permIn_all d e a c (λx=>lt d[j]! x=false) O s (λi m q=>ac i j m q h C)
   have ba:=permIn_all e k c b (λy=>lt y e[i]! = false) (by rw[s.1];exact L) F (λj h C=>by rw[a9 j h];exact a' j h C i m dI);exact ba j O G
  ·exact am i j O q G
def SortedIn.mono{lt:Int->Int->Bool}{a b c e:Nat}{d:Array Int}(h:SortedIn lt a b d)(m:a<=c)(q:e<=b):SortedIn lt c e d:=λi j s k A=>h i j O k O
def SortedIn.congr{lt:Int->Int->Bool}{a b:Nat}{d hQ:Array Int}(h:SortedIn lt a b d)(c:∀k,a<=k->k<b->hQ[k]! = d[k]!):SortedIn lt a b hQ:=λi j e q m=>by rw[c i e O,c j O m];exact h i j e q m
def Fm(x:Int):List Int->Nat
 | []=>0
 | c::r=>(if c<=x then 1 else 0)+Fm x r
def Kr(l:List Int)(a:Nat):Nat:=Fm (l.getD a 0) (l.take a)
theorem AbT(x:Int):∀(s t:List Int),Fm x (s++t)=Fm x s+Fm x t
 | [],t=>by simp[Fm]
 | c::s,t=>by rw[CH,Fm,Fm,AbT x s t];omega
theorem AbU(x:Int):∀(s:List Int),Fm x s<=s.length
 | []=>by simp[Fm]
 | c::s=>by have:=AbU x s;rw[Fm];simp;split<;>omega
def Aq'(l:List Int)(a:Nat):Kr l a<=a:=Af (AbU _ _) Ae
def LK(l:List Int)(P:Nat)(n:Int)(i a:Nat):Int:=(l.getD a 0-n)*((P:Int)+1)+Kr l a-i
def Kg(l:List Int):List Nat->Nat->Int->Nat->Nat->Bool->List Int
 | [],_,_,_,_,_=>[]
 | a::r,P,n,i,b,first=>(Dn b 0 (LK l P n i a).toNat).map CE++Kg l r (P+1) (l.getD a 0) (Kr l a+1) (Fi (LK l P n i a).toNat (P+1) first) false
def Oj(l:List Int):List Nat->Nat->Int->Nat->Prop
 | [],_,_,_=>True
 | a::r,P,n,i=>a<l.length/\n<=l.getD a 0/\Kr l a<=P/\0<=LK l P n i a/\LK l P n i a<=2147483647/\Oj l r (P+1) (l.getD a 0) (Kr l a+1)
def At2{x n:Int}{P b V i:Nat}(h:(x-n)*((P:Int)+1)+b-i=V)(A:n<=x)(C:b<=P):n+(((V+i)/(P+1):Nat):Int)=x/\(V+i)%(P+1)=b:=by
 obtain⟨q,e⟩:∃q:Nat,x-n=q:=⟨(x-n).toNat,O⟩;rw[e]at h;have c:V+i=q*(P+1)+b:=by
  have k:(q:Int)*((P:Int)+1)=((q*(P+1):Nat):Int):=by rw[KS];rfl
  rw[k]at h;omega
 have m:(V+i)/(P+1)=q:=by rw[c,Ss,Nat.mul_add_div O,Nat.div_eq_of_lt O];omega
 have s:(V+i)%(P+1)=b:=by rw[c,Ss,Nat.mul_add_mod,Nat.mod_eq_of_lt O]
 exact⟨by rw[m];omega,s⟩
theorem AeV(x:Int):∀(L:List Int) (G:List Bool),G.length=L.length->(∀j,j<L.length->(G.getD j true=true↔L.getD j 0<=x))->(AW L G).length=Fm x L
 | [],G,_,_=>by cases G<;>simp[AW,Fm]
 | c::L,[],h,_=>E5
 | c::L,b::G,h,q=>by
  have m:=q 0 J;simp at m;have s:=AeV x L G Co (λj ed=>by have:=q (j+1) Zv;simpa using this);rw[AW,Fm];by_cases k:b=true
  ·rw[N k,N (m.1 k),BB,s];omega
  ·rw[V k,V (λe=>k (m.2 e)),s];omega
def Ml(l:List Int)(a:Nat):Fu l (a:Int)=l.getD a 0:=by unfold Fu;simp
def Ara{l:List Int}{F:List Bool}{a:Nat}(hF:F.length=l.length)(A:a<l.length)(e:∀j,j<a->F.getD j true=true->AK l j a=true)(k:∀j,j<a->F.getD j true=false->AK l a j=true):Bv l F a=Kr l a:=by
 unfold Bv Kr;refine AeV _ _ _ RF (λj m=>?_);have b:j<a:=by simp at m;omega
 have q:(F.take a).getD j true=F.getD j true:=by simp[List.getD,b]
 have s:(l.take a).getD j 0=l.getD j 0:=by simp[List.getD,b]
 rw[q,s];cases c:F.getD j true with
 | true =>
  have:=Ls.1 (e j b c);rw[Ml,Ml]at this;exact⟨λ_=>O,λ_=>rfl⟩
 | false =>
  have:=Ls.1 (k j b c);rw[Ml,Ml]at this;exact⟨λh=>Ds,λh=>O⟩
theorem AcC(l: List Int)(ac: ∀ c ∈ l, BO c = true)(ad: l.length<=256): ∀ (I: List Nat) (F: List Bool) (n: Int) (i b: Nat) (first: Bool),
  F.length=l.length->PV l F n i->0<=n->i<=(AW l F).length->
  (∀a,a∈I↔a<l.length/\F.getD a true=false)->I.Pairwise (λx y:Nat=>AK l x y=true)->
  (∀j,j<l.length->F.getD j true=true->∀a∈I,AK l j a=true)->
  Fy l I.length F n i b first=Kg l I (AW l F).length n i b first/\Oj l I (AW l F).length n i/\(AW l F).length+I.length=l.length
 | [],F,n,i,b,first,hF,bd,be,dI,q,bl,am=>by
  refine⟨rfl,trivial,?_⟩;have:AW l F=l:=XF l F hF (λk ba=>by
   cases A:F.getD k true with
   | true=>rfl
   | false=>have:=(q k).2 ⟨ba,A⟩;cases this)
  rw[this];simp
 | a::r,F,n,i,b,first,hF,bd,be,dI,q,bl,am=>by
  obtain⟨a9,b1⟩:=Aas.1 bl;obtain⟨m,bs⟩:=(q a).1 J;have bt:∀k,k<l.length->F.getD k true=false->k≠a->AK l a k=true:=λk ba a' s=>by
   have:=(q k).2 ⟨ba,a'⟩;rcases AX.1 this with e|e
   ·exact absurd e s
   ·exact a9 k e
  have bv:SC l F l.length a:=⟨m,bs,λk ba a'=>by
   by_cases e:k=a
   ·subst e;exact⟨N_ _,λ_=>Ac _⟩
   ·have:=Ls.1 (bt k ba a' e)
    rw[Ml,Ml]at this
    exact⟨O,λ_=>O⟩⟩
  have G:Bv l F a=Kr l a:=Ara hF m (λj L A=>am j O A a J) (λj L A=>bt j O A O);obtain⟨bx,b2,b4⟩:=AaQ hF bv bd;have L:=TT l F hF m;obtain⟨_,b0⟩:=Afd hF m bs;obtain⟨_,b5⟩:=Agr (P:=AW l F) (v:=FV l F n i a) bx L b4 dI rfl;have b7:=Ye ac ad hF be (Af (Ks l F) ad) m (i:=i);have bb:LK l (AW l F).length n i a=(FV l F n i a:Nat):=by
   rw[b5,G];unfold LK;congr 3
  have b6:=LH (ac (l.getD a 0) (by simp[m]));have bc:=AcC l ac ad r (F.set a true) (l.getD a 0) (Bv l F a+1) (Fi (FV l F n i a) ((AW l F).length+1) first) false UM b2 b6.1 (by rw[b0];omega)
   (λk=>by
    constructor
    ·intro ba
     obtain⟨C,h⟩:=(q k).1 Gc
     have s:a≠k:=λe=>by
      subst e
      have:=a9 a ba
      rw[(OH l).irrefl]at this;cases this
     exact⟨C,by rw[No F a k true s];exact h⟩
    ·rintro ⟨C,h⟩
     have s:a≠k:=λe=>by subst e;rw[OA F a true O]at h;cases h
     rw[No F a k true s]at h
     rcases AX.1 ((q k).2 ⟨C,h⟩)with e|e
     ·exact absurd e.symm s
     ·exact e)
   b1
   (λk C h x b3=>by
    by_cases e:a=k
    ·subst e;exact a9 x b3
    ·rw[No F a k true e]at h
     exact am k C h x N3)
  rw[b0,G]at bc;refine⟨?_,⟨m,bx,by rw[<-G];exact L,by rw[bb];omega,by rw[bb];omega,bc.2.1⟩,by rw[BB];omega⟩;rw[BB,Fy,AoR bv];simp only;rw[Kg,bb,Ef,G,bc.1]
def Ame(l:List Int)(I:List Nat)(h:l.all BO=true)(A:l.length<=256)(k:∀a,a∈I↔a<l.length/\Cj (l.getD a 0)=false)(C:I.Pairwise (λx y:Nat=>AK l x y=true)):Dk l=(DM (Bm l)++Kg l I (Bm l).length 128 0 72 true,0)/\Oj l I (Bm l).length 128 0/\(Bm l).length+I.length=l.length:=by
 have F:(C8 l).length=l.length:=by unfold C8;simp
 obtain⟨m,q,s⟩:=AcC l (AR.1 h) A I (C8 l) 128 0 72 true F (Abl l) O (Au _)
  (λa=>by
   rw[k]
   constructor
   ·rintro ⟨b,c⟩;exact⟨b,by rw[Qc l a b];exact c⟩
   ·rintro ⟨b,c⟩;exact⟨b,by rw[<-Qc l a b];exact c⟩)
  C
  (λj G e a L=>by
   obtain⟨b,c⟩:=(k a).1 L
   rw[Qc l j G]at e
   unfold Cj at e c
   rw[Ls,Ml,Ml]
   have ac:=If e
   have ad:=Fc c
   left;omega)
 have e:(Bm l)=AW l (C8 l):=rfl;rw[<-e]at m q s;refine⟨?_,q,s⟩;unfold Dk;rw[V O,V (by rw[h];simp),<-m];congr 4;omega
def C3(l:List Int):Nat->List Int
 | 0=>[]
 | k+1=>if Cj (l.getD k 0)=true then C3 l k else C3 l k++[(k:Int)]
theorem OM(l:List Int):∀(k:Nat) (x:Int),x∈C3 l k↔∃a:Nat,a<k/\x=a/\Cj (l.getD a 0)=false
 | 0,x=>by simp[C3]
 | k+1,x=>by
  rw[C3];have q:=OM l k x;by_cases h:Cj (l.getD k 0)=true
  ·rw[N h,q];constructor
   ·rintro ⟨a,m,c,b⟩;exact⟨a,O,c,b⟩
   ·rintro ⟨a,m,c,b⟩;have:a≠k:=λe=>by rw[e,h]at b;cases b
    exact⟨a,O,c,b⟩
  ·rw[V h,Bg,q,Ch];constructor
   ·rintro (⟨a,m,c,b⟩|e)
    ·exact⟨a,O,c,b⟩
    ·exact⟨k,O,e,by simpa using h⟩
   ·rintro ⟨a,m,c,b⟩;by_cases e:a=k
    ·right;rw[c,e]
    ·left;exact⟨a,O,c,b⟩
theorem TN(l:List Int):∀(k:Nat),(C3 l k).Pairwise (· < ·)
 | 0=>List.Pairwise.nil
 | k+1=>by
  rw[C3];split
  ·exact TN l k
  ·rw[Vl];refine⟨TN l k,Aav _ _,λx b y c=>?_⟩;obtain⟨a,e,h,_⟩:=(OM l k x).1 b;simp at c;omega
theorem Xq(l:List Int):∀(k:Nat),(C3 l k).length<=k
 | 0=>by simp[C3]
 | k+1=>by have:=Xq l k;rw[C3];split<;>simp<;>omega
def AtO(l:List Int){d hQ:Array Int}(ad:d.toList=C3 l l.length)(m:PermIn 0 d.size d hQ)(am:SortedIn (AK l) 0 d.size hQ):∃I:List Nat,hQ.toList=I.map (λa:Nat=>(a:Int))/\(∀a,a∈I↔a<l.length/\Cj (l.getD a 0)=false)/\I.Pairwise (λx y:Nat=>AK l x y=true):=by
 have q:hQ.toList.Perm (C3 l l.length):=by
  have:=m.2.2;rw[<-ad];rw[Array.extract_eq_self_of_le (by rw[m.1];exact Ac _),Array.extract_eq_self_of_le (Ac _)]at this;exact this
 have A:∀x∈hQ.toList,∃a:Nat,a<l.length/\x=a/\Cj (l.getD a 0)=false:=λx c=>(OM l _ x).1 (q.mem_iff.1 c);have a9:hQ.toList.Nodup:=q.nodup_iff.2 ((TN l l.length).imp (λh=>Int.ne_of_lt h));have C:hQ.toList.Pairwise (λx y=>AK l x y=true):=by
  rw[Aat];intro i j dI ed F;have a':i<hQ.size:=Iz;have G:j<hQ.size:=Zv;have b:=am i j (Au _) F (by rw[<-m.1];exact G);rw[JZ hQ i a',JZ hQ j G]at b;have L:hQ.toList[i]≠hQ.toList[j]:=Aat.1 a9 i j dI ed F;simp only[Array.getElem_toList]at L|-;have:=Tz.1 b;rw[Ls];have bc:¬hQ[i]=hQ[j]:=L;omega
 have ac:hQ.toList=(hQ.toList.map Int.toNat).map (λa:Nat=>(a:Int)):=by
  rw[LZ]
  conv=>lhs;rw[<-List.map_id hQ.toList]
  apply Jc;intro x c;obtain⟨a,_,e,_⟩:=A x c;simp[e]
 refine⟨hQ.toList.map Int.toNat,ac,λa=>?_,?_⟩
 ·constructor
  ·intro ba;obtain⟨x,c,e⟩:=Cc.1 ba;obtain⟨k,b,s,bb⟩:=A x c;rw[s]at e;simp at e;subst e;exact⟨b,bb⟩
  ·rintro ⟨b,s⟩;refine Cc.2 ⟨(a:Int),q.mem_iff.2 ((OM l _ _).2 ⟨a,b,rfl,s⟩),J⟩
 ·rw[ac]at C;exact Aau.1 C
end Go.Proofs.YtblcoicaeeiojaaGreatDoor
namespace Go.Proofs.YtblcoicaeeiojaaGreatDoor
def XI(s:ByteArray)(j:Nat)(h:j<s.size):(Ap s).drop j=(s[j].toNat:Int)::(Ap s).drop (j+1):=by
 have b:j<(Ap s).length:=by rw[Be];exact h
 rw[EP b];congr 1;simp[Ap];rfl
def Kt(s:ByteArray)(j:Nat)(h:j<s.size):(Ap s).getD j 0=(s[j].toNat:Int):=by
 have b:j<(Ap s).length:=by rw[Be];exact h
 rw[Cz,CI b,MV];simp[Ap];rfl
def JB(b:Nat):Nat->List Int->Option Nat
 | _,[]=>none
 | j,c::r=>match Fp c with
  | none=>none
  | some d=>if d<BV b j then some (j+1)else JB b (j+1) r
theorem Uh(b:Nat):∀(s:List Int) (j:Nat),JB b j s=match Gb b j s with|none=>none|some (D,_)=>some (j+D.length)
 | [],j=>rfl
 | c::r,j=>by
  rw[JB,Gb];cases Fp c with
  | none=>rfl
  | some d =>
   simp only;split
   ·rfl
   ·rw[Uh b r (j+1)];cases Gb b (j+1) r with
    | none=>rfl
    | some X=>obtain⟨D,q⟩:=X;simp;omega
theorem Rh(b: Nat): ∀ (s: List Int) (j: Nat) (D: List Nat) (r: List Int), Gb b j s = some (D, r)->
  1<=D.length/\D.length<=s.length/\r=s.drop D.length/\∀k,k<D.length->Fp (s.getD k 0)=some (D.getD k 0)
 | [],j,D,r,h=>Ds
 | c::s,j,D,r,h=>by
  rw[Gb]at h;cases e:Fp c with
  | none=>rw[e]at h;cases h
  | some d =>
   rw[e]at h;simp only at h;split at h
   ·injection h with h;injection h with m A;subst m;subst A;refine⟨J,J,J,λk ba=>?_⟩;have:k=0:=YW;subst this;simpa using e
   ·cases C:Gb b (j+1) s with
    | none=>rw[C]at h;cases h
    | some X =>
     obtain⟨F,q⟩:=X;rw[C]at h;injection h with h;injection h with m A;subst m;subst A;obtain⟨ad,G,L,ac⟩:=Rh b s (j+1) F q C;refine⟨J,by simpa using G,by simpa using L,λk ba=>?_⟩;cases k with
     | zero=>simpa using e
     | succ k=>simpa using ac k KL
def ArN(b:Nat)(D:List Nat)(k:Nat)(h:k<D.length):DA b k (D.drop k)=D.getD k 0+(36-BV b k)*DA b (k+1) (D.drop (k+1)):=by
 rw[EP h,DA];exact Ps
def Jy(b:Nat)(L:List Int):Nat × Nat × Int:=match Gb b 0 L with
 | none=>(0,0,12)
 | some (D,_)=>if 2147483647<DA b 0 D then(0,0,8) else(DA b 0 D,D.length,0)
structure Ii (b:Nat) (D:List Nat) (k:Nat) (S W:Nat):Prop where
 sum:S+W*DA b k (D.drop k)=DA b 0 D
 pos:1<=W
theorem Ii.start(b:Nat)(D:List Nat):Ii b D 0 0 1:=⟨J,O⟩
theorem Ii.step{b:Nat}{D:List Nat}{k S W:Nat}(h:Ii b D k S W)(c:k<D.length):Ii b D (k+1) (S+D.getD k 0*W) (W*(36-BV b k)) where
 sum:=by
  rw[<-h.sum,ArN b D k c,Nat.mul_add,Sr,Ss (D.getD k 0) W];omega
 pos:=by
  have e:=h.pos;have m:=(Ix b k).2;exact Nat.mul_pos e O
theorem Ii.done{b:Nat}{D:List Nat}{S W:Nat}(h:Ii b D D.length S W):S=DA b 0 D:=by
 have:=h.sum;rw[G0 (Ac _)]at this;simpa[DA] using this
theorem Ii.le{b:Nat}{D:List Nat}{k S W:Nat}(h:Ii b D k S W)(c:k<D.length):S+D.getD k 0*W<=DA b 0 D:=by
 have:=(h.step c).sum;omega
structure MZ (S W Sk Wk:Nat):Prop where
 sum:Sk=S
 w:Wk=min W 2147483648
 small:S<=2147483647
theorem MZ.over{S W c b d:Nat}(h:MZ S W c b)(q:1<=W)(e:(2147483647-c)/b<d):2147483647<S+d*W:=by
 obtain⟨k,s,A⟩:=h;subst k;have m:1<=b:=O;have C:2147483647-c<d*b:=(Sm m).1 e;have F:d*b<=d*W:=Su d O;omega
theorem MZ.next{S W c b d f:Nat}(h:MZ S W c b)(ac:1<=W)(k:1<=f)(ad:f<=36)(am:¬(2147483647-c)/b<d):MZ (S+d*W) (W*f) (c+d*b) (if 2147483647/f<b then 2147483648 else b*f)/\c+d*b<=2147483647:=by
 obtain⟨s,A,a9⟩:=h;subst s;have C:1<=b:=O;have a':d*b<=2147483647-c:=by
  have:d<=(2147483647-c)/b:=O;exact(Nat.le_div_iff_mul_le C).1 this
 have m:d*W=d*b:=by
  rcases Ie W 2147483648 with F|F
  ·rw[A,K_ O]
  ·have G:d=0:=by
    rcases Nat.eq_zero_or_pos d with e|e
    ·exact e
    ·have:1*b<=d*b:=JX b e;omega
   subst G;simp
 refine⟨⟨by rw[m],?_,by rw[m];omega⟩,O⟩;split
 ·rename_i q;have:2147483647<b*f:=(Sm k).1 q;have ba:b*f<=W*f:=JX f O;omega
 ·rename_i q;have L:b*f<=2147483647:=(Nat.le_div_iff_mul_le k).1 O;have bb:W<2147483648:=by
   have:b*1<=b*f:=Su b k;omega
  have:b=W:=O;rw[this]at L|-;omega
structure PZ (S W Sk Wk:Nat):Prop where
 sum:Sk=min S 2147483648
 w:Wk=min W 2147483648
theorem PZ.next{S W m b d f:Nat}(h:PZ S W m b)(s:1<=W)(q:1<=f)(A:d<36):PZ (S+d*W) (W*f) (min 2147483648 (m+d*b)) (min 2147483648 (b*f)):=by
 obtain⟨C,F⟩:=h;constructor
 ·rcases Ie W 2147483648 with c|c
  ·have:b=W:=by omega
   rw[this];omega
  ·have k:b=2147483648:=by omega
   rw[k];rcases Nat.eq_zero_or_pos d with e|e
   ·subst e;simp;omega
   ·have a1:1*2147483648<=d*2147483648:=JX _ e;have a2:d*2147483648<=d*W:=Su d c;omega
 ·rcases Ie W 2147483648 with c|c
  ·have:b=W:=by omega
   rw[this];omega
  ·have k:b=2147483648:=by omega
   rw[k];have a1:2147483648*1<=2147483648*f:=Su _ q;have a2:2147483648*f<=W*f:=JX f c;omega
end Go.Proofs.YtblcoicaeeiojaaGreatDoor
