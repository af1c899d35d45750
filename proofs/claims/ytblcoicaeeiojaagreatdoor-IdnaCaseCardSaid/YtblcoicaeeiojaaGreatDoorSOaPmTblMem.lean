/- The tables that keep.Tab -/
import Derived.Test.YtblcoicaeeiojaaGreatDoorSOaPmOrdB
set_option linter.all false
set_option maxHeartbeats 4000000
open Go.Proofs.Tryz
namespace Go.Proofs.YtblcoicaeeiojaaGreatDoor
def DP:List Int:=[173,183,769,776,803,837,885,945,946,947,1072,1488,1523,1576,1577,1632,1776,2381,7680,7681,7682,7683,7684,8204,8205,12539,19968,128512]
def Bn(k:Nat):Int:=DP.getD k 1114112
theorem TZ:∀k,k<28->Bn k+1<=Bn (k+1):=by decide +kernel
theorem XL:∀k,k<28->Bn k∈DP:=by decide +kernel
theorem XK:∀k,k<28->0<=Bn k/\Bn k<=1114111:=by decide +kernel
theorem Ae0:∀c∈DP,Bz c=false:=by decide +kernel
structure BD (k:Nat) (hi:Int) (L:List Sp):Prop where
 ay:AH 0 L=true
 fin:ends 0 L<=Bn k
 len:L.length<=k
 mem:∀s∈L,s.1=s.2.1/\s.1∈DP/\1<=s.2.2/\s.2.2<=hi
theorem BD.nil(dI:Int):BD 0 dI []:=⟨rfl,Aw,Ac _,J⟩
theorem BD.skip{k:Nat}{dI:Int}{L:List Sp}(h:BD k dI L)(b:k<28):BD (k+1) dI L:=
 ⟨h.ay,by have:=TZ k b;have:=h.fin;omega,Zp,h.mem⟩
theorem BD.snoc{k:Nat}{dI v:Int}{L:List Sp}(h:BD k dI L)(c:k<28)(e:1<=v)(m:v<=dI):BD (k+1) dI (L++[(Bn k,Bn k,v)]):=by
 refine⟨?_,?_,?_,?_⟩
 ·rw[SK];have:=XK k c;exact⟨h.ay,h.fin,N_ _,this.2⟩
 ·rw[V8];exact TZ k c
 ·exact Ry
 ·intro s b;rcases Bg.1 b with b|b
  ·exact h.mem s b
  ·simp only[Ch]at b;subst b;exact⟨rfl,XL k c,e,m⟩
def Ct(L:List Sp)(s:Sp)(v:Int):List Sp:=if 0<v then L++[(s.1,s.2.1,v)]else L
theorem BD.add{k:Nat}{dI v:Int}{L:List Sp}(h:BD k dI L)(b:k<28)(c:v<=dI)(z:Int):BD (k+1) dI (Ct L (Bn k,Bn k,z) v):=by
 unfold Ct;split
 ·exact h.snoc b O c
 ·exact h.skip b
theorem BD.cZ{k:Nat}{dI c v:Int}{L:List Sp}(h:BD k dI L)(b:val L c=some v):c∈DP:=by
 obtain⟨s,m,A,C,_⟩:=Pd b;obtain⟨e,q,_⟩:=h.mem s m;have:s.1=c:=O;rw[<-this];exact q
theorem BD.none{k:Nat}{dI c:Int}{L:List Sp}(h:BD k dI L)(b:c∉DP):val L c=none:=by
 cases e:val L c with
 | none=>rfl
 | some v=>exact absurd (h.cZ e) b
theorem BD.aU{k:Nat}{dI:Int}{L:List Sp}(h:BD k dI L):BA L=true:=by
 unfold Go.Proofs.YtblcoicaeeiojaaGreatDoor.BA;rw[h.ay,BG,AR];intro s b;obtain⟨e,c,_⟩:=h.mem s b;have:=Ae0 s.1 c;unfold Bz at this;rw[<-e,this];rfl
theorem BD.aL{k:Nat}{dI k8:Int}{L:List Sp}(h:BD k dI L)(c:k8<=1):DB k8 dI L=true:=by
 unfold DB;rw[AR];intro s b;obtain⟨_,_,e,m⟩:=h.mem s b;simp only[AJ,A4];omega
theorem AgP{k8:Int}{L:List Sp}(c:AH k8 L=true){s:Sp}(b:s∈L):val L s.1=some s.2.2:=by
 induction L generalizing k8 with
 | nil=>cases b
 | cons t r e =>
  rw[Ji]at c;rw[MA];rcases AX.1 b with rfl|b
  ·rw[N O]
  ·have:=Lh c.2.2.2 b;rw[V O];exact e c.2.2.2 b
def Ht:List Int:=[769,776,803,837,945]
def Nt(j:Nat)(a:Int):Prop:=a=97\/a=98\/∃i:Nat,i<j/\a=7680+i
def Rj(j:Nat)(tl:List Int):Prop:=∃a,Nt j a/\(tl=[a]\/∃b∈Ht,tl=[a,b])
structure Ff (k:Nat) (D:List Mp) (E:List Int):Prop where
 len:D.length<=k
 bh:E.length<=k
 ay:AL 0 1114111 (AC D)=true
 fin:BT 0 (AC D)<=7680+k
 br:AL 0 1114111 E=true
 bI:BT 0 E<=7680+k
 mem:∀m∈D,∃j:Nat,j<k/\m.1=7680+j/\Rj j m.2
 af:∀c∈E,AP D c=true
 dup:D.Pairwise λa b=>a.2=b.2->b.1∈E
theorem Ff.nil:Ff 0 [] []:=⟨Ac _,Ac _,rfl,Aw,rfl,Aw,J,J,List.Pairwise.nil⟩
theorem Ff.skip{k:Nat}{D:List Mp}{E:List Int}(h:Ff k D E):Ff (k+1) D E:=
 ⟨Zp,by have:=h.bh;omega,h.ay,by have:=h.fin;omega,h.br,by have:=h.bI;omega,λm er=>AzA,h.af,h.dup⟩
theorem Oz(D:List Mp)(m:Mp):AC (D++[m])=AC D++[m.1]:=by simp[AC]
theorem AcX(D:List Mp)(m:Mp)(c:Int):AP (D++[m]) c=(AP D c||decide (m.1=c)):=by simp[AP]
theorem Ff.snoc{k:Nat}{D:List Mp}{E:List Int}{tl:List Int}{B:Bool}(h:Ff k D E)(L:k<5)(A:Rj k tl)(C:B=false->∀d∈D,d.2≠tl):Ff (k+1) (D++[(7680+(k:Int),tl)]) (if B then E++[7680+(k:Int)]else E):=by
 refine⟨?_,?_,?_,?_,?_,?_,?_,?_,?_⟩
 ·exact Ry
 ·have:=h.bh;split<;>simp<;>omega
 ·rw[Oz,L7];exact⟨h.ay,h.fin,MI⟩
 ·rw[Oz,Me];simp only;omega
 ·split
  ·rw[L7];exact⟨h.br,h.bI,O⟩
  ·exact h.br
 ·split
  ·rw[Me];omega
  ·have:=h.bI;omega
 ·intro m er;rcases Bg.1 er with er|er
  ·exact AzA
  ·simp only[Ch]at er;subst er;exact⟨k,O,rfl,A⟩
 ·intro c q;rw[AcX,Ic,A4];split at q
  ·rcases Bg.1 q with q|q
   ·exact .inl (h.af c q)
   ·simp only[Ch]at q;exact .inr q.symm
  ·exact .inl (h.af c q)
 ·rw[Vl];refine⟨?_,Aav _ _,?_⟩
  ·refine h.dup.imp ?_;intro a b F e;have:=F e;split
   ·exact Vi _ this
   ·exact this
  ·intro a G b s e;simp only[Ch]at s;subst s;cases B with
   | false=>exact absurd e (C rfl a G)
   | true=>simp
theorem V0{k:Nat}{D:List Mp}{E:List Int}(h:Ff k D E){c:Int}(s:c<7680):AP D c=false:=by
 cases b:AP D c with
 | false=>rfl
 | true =>
  obtain⟨m,q,e⟩:=Nr.1 b;obtain⟨j,_,A,_⟩:=h.mem m q;omega
theorem Ad6:∀b∈Ht,b<7680/\AA b=true/\D9 b=false:=by decide +kernel
theorem Nt.facts{j:Nat}{a:Int}(h:Nt j a)(b:j<5):AA a=true/\D9 a=false:=by
 rcases h with rfl|rfl|⟨i,dI,rfl⟩
 ·decide
 ·decide
 ·have:i=0\/i=1\/i=2\/i=3\/i=4:=by omega
  rcases this with rfl|rfl|rfl|rfl|rfl<;>decide +kernel
theorem Rj.facts{j:Nat}{tl:List Int}(h:Rj j tl)(k:j<5):1<=tl.length/\tl.length<=2/\tl.all AA=true/\(tl.all λc=>!D9 c)=true:=by
 obtain⟨a,m,q⟩:=h;have e:=m.facts k;rcases q with rfl|⟨b,s,rfl⟩
 ·simp[e]
 ·have:=Ad6 b s;simp[e,this]
theorem Ya{k:Nat}{D:List Mp}{E:List Int}(h:Ff k D E){c:Int}(b:c<7680):A' D c=1:=Re (FN (V0 h b))
theorem AlX{k:Nat}{D:List Mp}{E:List Int}(h:Ff k D E)(am:k<=5)(j:Nat):A' D (7680+j)<=j+2:=by
 induction j using Nat.strongRecOn with
 | ind j s =>
  by_cases c:As D (7680+j)=[]
  ·rw[Re c];omega
  ·have A:D.length<=256:=by have:=h.len;omega
   rw[X_ A c]
   have C:AP D (7680+j)=true:=by
    cases m:AP D (7680+j) with
    | true=>rfl
    | false=>exact absurd (FN m) c
   obtain⟨F,a9,G,q⟩:=h.mem _ (Ll C)
   simp only at G q
   obtain rfl:j=F:=by omega
   obtain⟨a,L,ac⟩:=q
   have a':A' D a<=j+1:=by
    rcases L with rfl|rfl|⟨i,dI,rfl⟩
    ·rw[Ya h (by omega)];omega
    ·rw[Ya h (by omega)];omega
    ·have:=s i dI;omega
   rcases ac with e|⟨b,m,e⟩
   ·rw[e];simp;omega
   ·have ad:=Ya h (Ad6 b m).1
    rw[e];simp[ad];omega
theorem Alv{T:Y}{c:Int}(h:AV T c=true):c∉T.af:=by
 intro e;unfold AV at h;rw[Jl]at h;split at h
 ·rename_i a b _;have:Kh T c=true:=by simpa[Kh] using e
  rw[this]at h;exact E5
 ·exact Ds
theorem Ff.r8{k:Nat}{T:Y}(h:Ff k T.dec T.af):r8 T=true:=by
 unfold Go.Proofs.YtblcoicaeeiojaaGreatDoor.r8 Ck;rw[A4,List.Nodup,Aau];have c:(T.dec.filter λm=>AV T m.1).Pairwise λa b=>a.2=b.2->b.1∈T.af:=h.dup.filter _;refine c.imp_of_mem ?_;intro a b _ q s e;have A:=(JW.1 q).2;exact Alv A (s e)
def Lt(tl:List Int):Prop:=∃a∈([97,98,99]:List Int),tl=[a]\/tl=[a,46]
structure Gj (k:Nat) (M:List Mp) (S:List Sp):Prop where
 sp:BD k 4 S
 len:M.length<=k
 ay:AL 0 1114111 (AC M)=true
 fin:BT 0 (AC M)<=Bn k
 mem:∀m∈M,(m.1,m.1,3)∈S/\m.1∈DP/\Lt m.2
 bq:D7 3 S=M.length
 back:∀s∈S,s.2.2=3->AP M s.1=true
theorem Gj.nil:Gj 0 [] []:=⟨BD.nil _,Ac _,rfl,Aw,J,rfl,J⟩
theorem Gj.plain{k:Nat}{M:List Mp}{S:List Sp}{v:Int}(h:Gj k M S)(e:k<28)(C:v<=4)(q:v≠3)(z:Int):Gj (k+1) M (Ct S (Bn k,Bn k,z) v):=by
 refine⟨h.sp.add e C z,Zp,h.ay,by have:=h.fin;have:=TZ k e;omega,?_,?_,?_⟩
 ·intro m F;obtain⟨A,G⟩:=h.mem m F;refine⟨?_,G⟩;unfold Ct;split
  ·exact Vi _ A
  ·exact A
 ·unfold Ct;split
  ·rw[SW,V q,h.bq];omega
  ·exact h.bq
 ·intro s b c;unfold Ct at b;split at b
  ·rcases Bg.1 b with b|b
   ·exact h.back s b c
   ·simp only[Ch]at b;subst b;exact absurd c q
  ·exact h.back s b c
theorem Gj.more{k:Nat}{M:List Mp}{S:List Sp}{tl:List Int}(h:Gj k M S)(e:k<28)(q:Lt tl)(z:Int):Gj (k+1) (M++[(Bn k,tl)]) (Ct S (Bn k,Bn k,z) 3):=by
 have A:=XK k e;refine⟨h.sp.add e O z,Ry,?_,?_,?_,?_,?_⟩
 ·rw[Oz,L7];exact⟨h.ay,h.fin,A.2⟩
 ·rw[Oz,Me];exact TZ k e
 ·intro m c;unfold Ct;rw[N O];rcases Bg.1 c with c|c
  ·obtain⟨C,F⟩:=h.mem m c;exact⟨Vi _ C,F⟩
  ·simp only[Ch]at c;subst c;exact⟨J,XL k e,q⟩
 ·unfold Ct;rw[N O,SW,h.bq];simp only[Bc,BB,Gh,if_true];omega
 ·intro s b G;rw[AcX,Ic,A4];unfold Ct at b;rw[N O]at b;rcases Bg.1 b with b|b
  ·exact .inl (h.back s b G)
  ·simp only[Ch]at b;subst b;exact .inr rfl
def GY:List Mp:=[(48,[111]),(109,[114,110]),(945,[97]),(1072,[97]),(1632,[111,803])]
def OS(k:Nat):Int:=(GY.map (·.1)).getD k 1114112
structure GQ (k:Nat) (I:List Sp) (P:List Mp):Prop where
 len:P.length<=k
 ay:AL 0 1114111 (AC P)=true
 fin:BT 0 (AC P)<=OS k
 mem:∀m∈P,m∈GY/\(val I m.1).isSome=false/\(val I (m.2.getLastD 0)).isSome=false
theorem Ae8:∀k,k<5->OS k+1<=OS (k+1):=by decide +kernel
theorem XO:∀k,k<5->GY.getD k (0,[])∈GY/\(GY.getD k (0,[])).1=OS k/\0<=OS k/\OS k<=1114111:=by decide +kernel
theorem QO:∀m∈GY,m.1<7680/\NL m.1=false/\1<=m.2.length/\m.2.length<=2:=by decide +kernel
theorem Ae9:∀m∈GY,∀c∈m.2,c<7680/\AA c=true/\Cg c=false/\(c=m.2.getLastD 0\/c∉DP)/\∀n∈GY,n.1≠c:=by decide +kernel
theorem GQ.nil(I:List Sp):GQ 0 I []:=⟨Ac _,rfl,Aw,J⟩
theorem GQ.skip{k:Nat}{I:List Sp}{P:List Mp}(h:GQ k I P)(b:k<5):GQ (k+1) I P:=
 ⟨Zp,h.ay,by have:=h.fin;have:=Ae8 k b;omega,h.mem⟩
theorem GQ.snoc{k:Nat}{I:List Sp}{P:List Mp}(h:GQ k I P)(c:k<5)(q:(val I (GY.getD k (0,[])).1).isSome=false)(s:(val I ((GY.getD k (0,[])).2.getLastD 0)).isSome=false):GQ (k+1) I (P++[GY.getD k (0,[])]):=by
 obtain⟨A,e,F,C⟩:=XO k c;refine⟨Ry,?_,?_,?_⟩
 ·rw[Oz,L7,e];exact⟨h.ay,h.fin,C⟩
 ·rw[Oz,Me,e];exact Ae8 k c
 ·intro m b;rcases Bg.1 b with b|b
  ·exact h.mem m b
  ·rw[Ch]at b;subst b;exact⟨A,q,s⟩
structure BZ (T:Y):Prop where
 cat:BD 28 8 T.cat
 ai:BD 28 254 T.ai
 al:BD 28 5 T.al
 ak:BD 28 11 T.ak
 aj:BD 28 60 T.aj
 an:BD 28 1 T.an
 map:Gj 28 T.map T.ag
 dec:Ff 5 T.dec T.af
 ah:GQ 5 T.an T.ah
 ext:T.ext=[]\/T.ext=[(12539,[7,8])]
theorem BZ.r2{T:Y}(h:BZ T):r2 T=true:=by
 have q:(AC T.dec).all (λc=>!Bz c)=true:=by
  rw[AR];intro c b;simp only[AC,Cc]at b;obtain⟨m,k,rfl⟩:=b;obtain⟨j,L,s,_⟩:=h.dec.mem m k;have:j=0\/j=1\/j=2\/j=3\/j=4:=O;rw[s];rcases this with rfl|rfl|rfl|rfl|rfl<;>decide +kernel
 have A:Cx T.af=true:=by
  unfold Cx;rw[h.dec.br,BG,AR];intro c b;obtain⟨m,k,rfl⟩:=Nr.1 (h.dec.af c b);exact AR.1 q m.1 (by simp only[AC,Cc];exact⟨m,k,rfl⟩)
 have k:Cx (AC T.map)=true:=by
  unfold Cx;rw[h.map.ay,BG,AR];intro c b;simp only[AC,Cc]at b;obtain⟨m,k,rfl⟩:=b;rw[Ae0 _ (h.map.mem m k).2.1];rfl
 have C:Nw (AC T.ah)=true:=by
  unfold Nw;rw[h.ah.ay,BG,AR];intro c b;simp only[AC,Cc]at b;obtain⟨m,k,rfl⟩:=b;rw[(QO _ (h.ah.mem m k).1).2.1];rfl
 have F:Cx (AC T.ext)=true:=by
  rcases h.ext with e|e<;>rw[e]<;>decide +kernel
 have G:Cx (AC T.dec)=true:=by unfold Cx;rw[h.dec.ay,q];rfl
 unfold Go.Proofs.YtblcoicaeeiojaaGreatDoor.r2 BF;simp only[DQ,Gf,h.cat.aU,h.ai.aU,h.al.aU,h.ak.aU,h.aj.aU,h.an.aU,h.map.sp.aU,A,k,C,F,G,Bool.and_self]
theorem Lt.facts{tl:List Int}(h:Lt tl):1<=tl.length/\tl.length<=2/\∀c∈tl,AA c=true/\F4 c=1/\c∉DP:=by
 obtain⟨a,b,e⟩:=h;simp only[AX,CT,C7]at b;rcases b with rfl|rfl|rfl<;>rcases e with rfl|rfl<;>decide +kernel
theorem BZ.check{T:Y}(h:BZ T):Av T=0:=by
 have ad:r1 T=true:=by
  have a1:=h.cat.len;have a2:=h.ai.len;have a3:=h.al.len;have a4:=h.ak.len;have a5:=h.aj.len;have bx:=h.an.len;have b0:=h.map.sp.len;have b1:=h.map.len;have b2:=h.dec.len;have b3:=h.ah.len;have b4:=h.dec.bh;have b5:T.ext.length<=1:=by rcases h.ext with e|e<;>rw[e]<;>simp
  unfold r1 BF C_ GS Gs;simp only[DQ,Gf,AJ,A4,and_true];omega
 have am:r3 T=true:=by
  unfold r3;rw[h.cat.aL O,h.ai.aL O,h.al.aL O,h.ak.aL O,h.aj.aL O,h.map.sp.aL O,h.an.aL O];rfl
 have a9:r4 T=true:=by
  unfold r4;simp only[AJ];refine⟨?_,?_,?_,?_⟩
  ·rcases h.ext with e|e<;>rw[e]<;>decide +kernel
  ·rw[AR];intro m b;obtain⟨k,q,A⟩:=(h.map.mem m b).2.2.facts;unfold GB;simp only[AJ,A4,AR];exact⟨⟨k,O⟩,λc s=>(A c s).1⟩
  ·rw[AR];intro m b;obtain⟨j,F,_,G⟩:=h.dec.mem m b;obtain⟨k,q,A,_⟩:=G.facts F;unfold GB;rw[A];simp only[AJ,A4,and_true];omega
  ·rw[AR];intro m b;have C:=(h.ah.mem m b).1;obtain⟨_,_,k,q⟩:=QO m C;unfold GB;simp only[AJ,A4,AR];exact⟨⟨k,O⟩,λc s=>(Ae9 m C c s).2.1⟩
 have a':r5 T=true:=by
  unfold r5;rw[AJ,A4,AR];refine⟨λm b=>?_,h.map.bq⟩;obtain⟨k,q,A⟩:=h.map.mem m b;unfold Gw;rw[AJ,A4,AR];have e:=AgP h.map.sp.ay k;simp only at e;refine⟨by unfold AM;rw[e];rfl,λc s=>?_⟩;obtain⟨_,L,ba⟩:=A.facts.2.2 c s;unfold Hu AM;rw[h.map.sp.none ba];simp[L]
 have bb:r6 T=true:=by
  unfold r6;rw[AJ,AR,AR];refine⟨λm b=>?_,λm b=>?_⟩
  ·obtain⟨j,F,_,G⟩:=h.dec.mem m b;obtain⟨_,q,_,bc⟩:=G.facts F;unfold EH;rw[bc,At q];rfl
  ·obtain⟨j,F,e,_⟩:=h.dec.mem m b;have:=AlX h.dec (Ac _) j;rw[A4,e];omega
 have bd:r7 T=true:=by
  unfold r7;rw[AR];exact h.dec.af
 have be:r9 T=true:=by
  unfold r9;rw[AR];intro m b;obtain⟨C,k,q⟩:=h.ah.mem m b;unfold Ju plain Mi;rw[V0 h.dec (QO m C).1,k];simp only[Bool.not_false,BG,AR];intro c s;obtain⟨L,_,bl,bs,bt⟩:=Ae9 m C c s;have ac:AP T.ah c=false:=by
   cases bv:AP T.ah c with
   | false=>rfl
   | true =>
    obtain⟨n,ac,e⟩:=Nr.1 bv;exact absurd e (bt n (h.ah.mem n ac).1)
  have dI:(val T.an c).isSome=false:=by
   rcases bs with e|e
   ·rw[e];exact q
   ·rw[h.an.none e];rfl
  rw[ac,bl,V0 h.dec L,dI];rfl
 simp[Av,ad,h.r2,am,a9,a',bb,bd,h.dec.r8,be]
end Go.Proofs.YtblcoicaeeiojaaGreatDoor
namespace Go.Proofs.YtblcoicaeeiojaaGreatDoor
open Go.RowKit
structure Ad (w w':World) (R:Nat->Prop):Prop where
 os:w'.os=w.os
 tape:w'.tape=w.tape
 output:w'.output=w.output
 size:w.heap.size<=w'.heap.size
 block:∀k,k<w.heap.size->¬R k->w'.heap[k]? = w.heap[k]?
theorem Ad.refl(w:World)(R:Nat->Prop):Ad w w R:=⟨rfl,rfl,rfl,Ac _,λ_ _ _=>rfl⟩
theorem Ad.aC{w w':World}{row:Option Nat}(h:w.grownBy w' row):Ad w w' (λk=>row=some k):=⟨h.os,h.tape,h.output,h.size,λk b c=>h.block k b (λe=>c e.symm)⟩
theorem Ad.av{w w':World}{B:Nat}(h:Below B w w'):Ad w w' (λk=>B<=k):=⟨h.os,h.tape,h.output,h.size,λk b c=>h.block k O⟩
theorem Ad.aq{w w':World}{R Q:Nat->Prop}(h:Ad w w' R)(c:∀k,k<w.heap.size->R k->Q k):Ad w w' Q:=⟨h.os,h.tape,h.output,h.size,λk b m=>h.block k b (λe=>m (c k b e))⟩
theorem Ad.trans{w w1 w2:World}{R Q S:Nat->Prop}(h:Ad w w1 R)(k:Ad w1 w2 Q)(q:∀b,b<w.heap.size->R b->S b)(s:∀b,b<w.heap.size->Q b->S b):Ad w w2 S:=
 ⟨k.os.trans h.os,k.tape.trans h.tape,k.output.trans h.output,Af h.size k.size,λb c m=>(k.block b (Ci c h.size) (λe=>m (s b c e))).trans (h.block b c (λe=>m (q b c e)))⟩
theorem Ad.below{B:Nat}{w w':World}{R:Nat->Prop}(h:Ad w w' R)(c:B<=w.heap.size)(b:∀k,k<w.heap.size->R k->B<=k):Below B w w':=
 ⟨h.os,h.tape,h.output,h.size,λk m=>h.block k O (λe=>by have:=b k O e;omega)⟩
theorem Ad.cell{w w':World}{R:Nat->Prop}(h:Ad w w' R){a:Addr}{v:Value}(b:w.cell? a=some v)(c:¬R a.block):w'.cell? a=some v:=
 (World.cell?_of_block (h.block a.block (AN w a b) c)).trans b
theorem Ad.alloc(w:World)(o:Obj):Ad w (w.alloc o) (λ_=>False):=⟨rfl,rfl,rfl,J,λk b _=>Aaf _ _ _ b⟩
theorem Ad.store(w:World)(g o:Nat)(v:Value):Ad w (w.setCell ⟨g,o,none⟩ v) (λk=>k=g):=⟨rfl,rfl,rfl,Aic,λk c b=>MN _ _ _ _ b⟩
theorem Ad.owns{w w':World}{R:Nat->Prop}{B:Nat}{e:TypeId}{z:Nat}{v:Value}{n:Nat}{xs:List Value}(h:Ad w w' R)(q:w.ownsRow B e z v n xs)(s:∀k,v.ownBlock=some k->¬R k):w'.ownsRow B e z v n xs:=by
 obtain⟨A,b⟩:=q;refine⟨A,?_⟩;rcases b with b|⟨g,cap,C,rfl,F,c,r⟩
 ·exact .inl b
 ·refine .inr ⟨g,cap,C,rfl,F,?_,r⟩;have m:g<w.heap.size:=by
   rcases Ie g w.heap.size with m|G
   ·exact m
   ·rw[Pw G]at c;cases c
  rw[h.block g m (s g rfl),c]
theorem Bd.lt{w:World}{g:Nat}{r:List Int}(h:Bd w g r):g<w.heap.size:=by
 obtain⟨_,_,_,_,_,_,_,b,_⟩:=h;exact AN w _ b
theorem Bd.keeps{w w':World}{R:Nat->Prop}{g:Nat}{r:List Int}(h:Bd w g r)(c:Ad w w' R)(m:∀b,b<=g->¬R b):Bd w' g r:=by
 obtain⟨ao,i,p,cap,C,F,G,s,L,ac,ad,A⟩:=h;have am:=AN w _ s;refine⟨ao,i,p,cap,C,F,G,c.cell s (m g (Ac _)),c.cell L (m g (Ac _)),?_,?_,A⟩
 ·exact(EN (c.block g am (m g (Ac _)))).trans ac
 ·intro k q;obtain⟨b,ff,e,a9⟩:=ad k q;have a':=A (by intro e;rw[e]at q;simp at q) b ff e;exact⟨b,ff,e,c.cell a9 (m b O)⟩
def GN(w:World)(P:Nat->Prop)(v:Value):Prop:=∀b ff n c,v=.slice (some ⟨b,ff,none⟩) n c->P b/\b<w.heap.size
theorem GN.nil(w:World)(P:Nat->Prop)(n c:Nat):GN w P (.slice none n c):=by intro b ff n c e;cases e
theorem GN.size{w w':World}{P:Nat->Prop}{v:Value}(h:GN w P v)(k:w.heap.size<=w'.heap.size):GN w' P v:=λb ff n c e=>⟨(h b ff n c e).1,Ci (h b ff n c e).2 k⟩
theorem GN.aq{w:World}{P Q:Nat->Prop}{v:Value}(h:GN w P v)(k:∀b,b<w.heap.size->P b->Q b):GN w Q v:=λb ff n c e=>⟨k b (h b ff n c e).2 (h b ff n c e).1,(h b ff n c e).2⟩
def Di(w:World)(P:Nat->Prop)(v:Value)(l:List Mp):Prop:=
 ∃p c,v=.slice p l.length c/\GN w P v/\l.length<=17592186043904/\∀k,k<l.length->∃b ff u,p=some ⟨b,ff,none⟩/\w.cell? ⟨b,ff+k*2,none⟩=some (.int .i64 (l.getD k Ay).1)/\w.cell? ⟨b,ff+k*2+1,none⟩=some u/\Bp w u (l.getD k Ay).2/\GN w P u
def CU(w:World)(P:Nat->Prop)(v:Value)(l:List Int):Prop:=Bp w v l/\GN w P v
def FK(w:World)(P:Nat->Prop)(v:Value)(l:List Sp):Prop:=Cw w v l/\GN w P v
theorem Bp.keeps{w w':World}{P R:Nat->Prop}{v:Value}{l:List Int}(h:Bp w v l)(q:GN w P v)(s:Ad w w' R)(A:∀k,k<w.heap.size->R k->¬P k):Bp w' v l:=by
 obtain⟨p,c,rfl,C,F⟩:=h;refine⟨p,c,rfl,λk G=>?_,F⟩;obtain⟨b,ff,rfl,L⟩:=C k G;have m:=q b ff _ _ rfl;exact⟨b,ff,rfl,s.cell L λe=>A b m.2 e m.1⟩
theorem CU.keeps{w w':World}{P R:Nat->Prop}{v:Value}{l:List Int}(h:CU w P v l)(b:Ad w w' R)(c:∀k,k<w.heap.size->R k->¬P k):CU w' P v l:=⟨h.1.keeps h.2 b c,h.2.size b.size⟩
theorem FK.keeps{w w':World}{P R:Nat->Prop}{v:Value}{l:List Sp}(h:FK w P v l)(m:Ad w w' R)(C:∀k,k<w.heap.size->R k->¬P k):FK w' P v l:=by
 obtain⟨⟨p,c,rfl,F,G⟩,s⟩:=h;refine⟨⟨p,c,rfl,λk L=>?_,G⟩,s.size m.size⟩;obtain⟨b,ff,rfl,ac,ad,am⟩:=F k L;have A:=s b ff _ _ rfl;have q:¬R b:=λe=>C b A.2 e A.1;exact⟨b,ff,rfl,m.cell ac q,m.cell ad q,m.cell am q⟩
theorem Di.keeps{w w':World}{P R:Nat->Prop}{v:Value}{l:List Mp}(h:Di w P v l)(m:Ad w w' R)(q:∀k,k<w.heap.size->R k->¬P k):Di w' P v l:=by
 obtain⟨p,c,rfl,s,G,L⟩:=h;refine⟨p,c,rfl,s.size m.size,G,λk ac=>?_⟩;obtain⟨b,ff,u,rfl,ad,am,a9,A⟩:=L k ac;have C:=s b ff _ _ rfl;have F:¬R b:=λe=>q b C.2 e C.1;exact⟨b,ff,u,rfl,m.cell ad F,m.cell am F,a9.keeps A m q,A.size m.size⟩
theorem CU.aq{w:World}{P Q:Nat->Prop}{v:Value}{l:List Int}(h:CU w P v l)(c:∀b,b<w.heap.size->P b->Q b):CU w Q v l:=⟨h.1,h.2.aq c⟩
theorem FK.aq{w:World}{P Q:Nat->Prop}{v:Value}{l:List Sp}(h:FK w P v l)(c:∀b,b<w.heap.size->P b->Q b):FK w Q v l:=⟨h.1,h.2.aq c⟩
theorem Di.aq{w:World}{P Q:Nat->Prop}{v:Value}{l:List Mp}(h:Di w P v l)(m:∀b,b<w.heap.size->P b->Q b):Di w Q v l:=by
 obtain⟨p,c,rfl,q,s,A⟩:=h;refine⟨p,c,rfl,q.aq m,s,λk C=>?_⟩;obtain⟨b,ff,u,e,F,G,L,ac⟩:=A k C;exact⟨b,ff,u,e,F,G,L,ac.aq m⟩
theorem Di.bf{w:World}{P:Nat->Prop}{v:Value}{l:List Mp}(h:Di w P v l):DK w v l:=by
 obtain⟨p,c,rfl,G,m,q⟩:=h;refine⟨p,c,rfl,λk s=>?_,m⟩;obtain⟨b,ff,u,e,A,C,F,L⟩:=q k s;exact⟨b,ff,u,e,A,C,F⟩
theorem Di.nil(w:World)(P:Nat->Prop):Di w P (.slice none 0 0) []:=⟨none,0,rfl,GN.nil _ _ _ _,J,λk b=>absurd b (FH _)⟩
theorem CU.nil(w:World)(P:Nat->Prop):CU w P (.slice none 0 0) []:=⟨noI w,GN.nil _ _ _ _⟩
theorem FK.nil(w:World)(P:Nat->Prop):FK w P (.slice none 0 0) []:=⟨noS w,GN.nil _ _ _ _⟩
def BI(w:World)(g:Nat)(f:Nat->Value):Prop:=∀i,i<12->w.cell? ⟨g,i,none⟩=some (f i)/\w.frozen? ⟨g,i,none⟩=false
structure Dv (w:World) (P:Nat->Prop) (f:Nat->Value) (S:Nat->List Sp) (E M D R:List Mp) (X:List Int):Prop where
 sp:∀i,i<7->FK w P (f i) (S i)
 ext:Di w P (f 7) E
 map:Di w P (f 8) M
 dec:Di w P (f 9) D
 af:CU w P (f 10) X
 ah:Di w P (f 11) R
section
variable {w w':World} {P Q R:Nat->Prop} {f:Nat->Value} {S:Nat->List Sp} {E M D Z:List Mp} {X:List Int}
theorem Dv.keeps(h:Dv w P f S E M D Z X)(b:Ad w w' R)(c:∀k,k<w.heap.size->R k->¬P k):Dv w' P f S E M D Z X:=
 ⟨λi dI=>(h.sp i dI).keeps b c,h.ext.keeps b c,h.map.keeps b c,h.dec.keeps b c,h.af.keeps b c,h.ah.keeps b c⟩
theorem Dv.aq(h:Dv w P f S E M D Z X)(c:∀b,b<w.heap.size->P b->Q b):Dv w Q f S E M D Z X:=
 ⟨λi dI=>(h.sp i dI).aq c,h.ext.aq c,h.map.aq c,h.dec.aq c,h.af.aq c,h.ah.aq c⟩
theorem Dv.below(h:Dv w P f S E M D Z X)(b:Below w.heap.size w w'):Dv w' P f S E M D Z X:=
 h.keeps (Ad.av b) (λk c e=>O)
abbrev Yq(S:Nat->List Sp)(E M D R:List Mp)(X:List Int):Y:=⟨S 0,S 1,S 2,S 3,S 4,S 5,S 6,E,M,D,X,R⟩
abbrev I1(f:Nat->Value):TV:=⟨f 0,f 1,f 2,f 3,f 4,f 5,f 6,f 7,f 8,f 9,f 10,f 11⟩
theorem Dv.tab(h:Dv w P f S E M D Z X):Ah w (I1 f) (Yq S E M D Z X):=
 ⟨(h.sp 0 O).1,(h.sp 1 O).1,(h.sp 2 O).1,(h.sp 3 O).1,(h.sp 4 O).1,(h.sp 5 O).1,(h.sp 6 O).1,h.ext.bf,h.map.bf,h.dec.bf,h.af.1,h.ah.bf⟩
end
theorem BI.box{w:World}{g:Nat}{f:Nat->Value}(h:BI w g f):AS w g (I1 f):=
 ⟨⟨(h 0 O).1,(h 1 O).1,(h 2 O).1,(h 3 O).1,(h 4 O).1,(h 5 O).1⟩,⟨(h 6 O).1,(h 7 O).1,(h 8 O).1,(h 9 O).1,(h 10 O).1,(h 11 O).1⟩⟩
theorem BI.lt{w:World}{g:Nat}{f:Nat->Value}(h:BI w g f):g<w.heap.size:=AN w _ (h 0 O).1
theorem BI.keeps{w w':World}{R:Nat->Prop}{g:Nat}{f:Nat->Value}(h:BI w g f)(b:Ad w w' R)(c:¬R g):BI w' g f:=by
 intro i dI;obtain⟨e,k⟩:=h i dI;exact⟨b.cell e c,(EN (a:=⟨g,i,none⟩) (b.block g h.lt c)).trans k⟩
theorem BI.below{w w':World}{g:Nat}{f:Nat->Value}(h:BI w g f)(b:Below w.heap.size w w'):BI w' g f:=h.keeps (Ad.av b) (Nat.not_le_of_lt h.lt)
def AD{A:Type}(f:Nat->A)(i:Nat)(v:A):Nat->A:=λj=>if j=i then v else f j
theorem EJ{A:Type}(f:Nat->A)(i:Nat)(v:A):AD f i v i=v:=by simp[AD]
theorem EI{A:Type}(f:Nat->A){i j:Nat}(v:A)(h:j≠i):AD f i v j=f j:=by simp[AD,h]
structure Cr (w w':World) (g i:Nat) (v:Value):Prop where
 cell:w'.cell? ⟨g,i,none⟩=some v
 ar:Ad w w' (λk=>k=g)
 bu:∀j,w'.frozen? ⟨g,j,none⟩=w.frozen? ⟨g,j,none⟩
 rest:∀j,j≠i->w'.cell? ⟨g,j,none⟩=w.cell? ⟨g,j,none⟩
theorem BI.aA{w w':World}{g i:Nat}{f:Nat->Value}{v:Value}(h:BI w g f)(b:Cr w w' g i v):BI w' g (AD f i v):=by
 intro j c;obtain⟨k,m⟩:=h j c;refine⟨?_,(b.bu j).trans m⟩;by_cases e:j=i
 ·subst e;rw[EJ];exact b.cell
 ·rw[EI _ _ e,b.rest j e];exact k
theorem Cr.store(w:World)(g i:Nat)(v u:Value)(b:w.cell? ⟨g,i,none⟩=some u):Cr w (w.setCell ⟨g,i,none⟩ v) g i v:=
 ⟨E7 _ _ _ b,Ad.store w g i v,λj=>DC _ _ _ _,λj c=>AY _ _ _ _ (by intro e;cases e;exact c rfl)⟩
theorem Cr.same(w:World)(g i:Nat)(v:Value)(h:w.cell? ⟨g,i,none⟩=some v){w':World}(b:Below w.heap.size w w'):Cr w w' g i v:=by
 have c:=AN w _ h;refine⟨(b.cell (p:=⟨g,i,none⟩) c).trans h,(Ad.av b).aq (λk m e=>O),λj=>b.frozen (p:=⟨g,j,none⟩) c,λj _=>b.cell (p:=⟨g,j,none⟩) c⟩
theorem Cr.behind{w w1 w':World}{g i:Nat}{v:Value}{R:Nat->Prop}(c:Cr w1 w' g i v)(h:Ad w w1 R)(m:∀k,k<w.heap.size->¬R k)(q:g<w.heap.size):Cr w w' g i v:=by
 have s:=h.block g q (m g q);refine⟨c.cell,h.trans c.ar (λb A e=>absurd e (m b A)) (λb A e=>e),λj=>(c.bu j).trans (EN (a:=⟨g,j,none⟩) s),λj C=>(c.rest j C).trans (World.cell?_of_block (a:=⟨g,j,none⟩) s)⟩
theorem Cr.ahead{w w1 w':World}{g i:Nat}{v:Value}(c:Cr w w1 g i v)(k:Below w1.heap.size w1 w')(q:g<w.heap.size):Cr w w' g i v:=by
 have m:g<w1.heap.size:=Ci q c.ar.size;refine⟨(k.cell (p:=⟨g,i,none⟩) m).trans c.cell,c.ar.trans (Ad.av k) (λb h e=>e) (λb h e=>by have:=c.ar.size;omega),λj=>(k.frozen (p:=⟨g,j,none⟩) m).trans (c.bu j),λj s=>(k.cell (p:=⟨g,j,none⟩) m).trans (c.rest j s)⟩
theorem Dv.dv{w w':World}{P:Nat->Prop}{g i:Nat}{f:Nat->Value}{S:Nat->List Sp}{E M D R:List Mp}{X:List Int}{v:Value}{L:List Sp}(h:Dv w P f S E M D R X)(dI:i<7)(c:Ad w w' (λk=>k=g))(m:¬P g)(q:FK w' P v L):Dv w' P (AD f i v) (AD S i L) E M D R X:=by
 have b:=h.keeps c (λk _ e=>by subst e;exact m);refine⟨λj s=>?_,?_,?_,?_,?_,?_⟩
 ·by_cases e:j=i
  ·subst e;rw[EJ,EJ];exact q
  ·rw[EI _ _ e,EI _ _ e];exact b.sp j s
 ·rw[EI _ _ O];exact b.ext
 ·rw[EI _ _ O];exact b.map
 ·rw[EI _ _ O];exact b.dec
 ·rw[EI _ _ O];exact b.af
 ·rw[EI _ _ O];exact b.ah
end Go.Proofs.YtblcoicaeeiojaaGreatDoor
namespace Go.Proofs.YtblcoicaeeiojaaGreatDoor
open Go.RowKit
structure FJ (u:Nat->Int):Prop where
 cat:0<=u 0/\u 0<=8
 ai:0<=u 1/\u 1<=254
 al:0<=u 2/\u 2<=5
 ak:0<=u 3/\u 3<=11
 aj:0<=u 4/\u 4<=60
 ag:u 5=0\/u 5=1\/u 5=2\/u 5=4
def Aga(a b c d e f:Int):Nat->Int:=λi=>[a,b,c,d,e,f].getD i 0
abbrev Agb(u:Nat->Int):Value:=.agg #[.int .i64 (u 0),.int .i64 (u 1),.int .i64 (u 2),.int .i64 (u 3),.int .i64 (u 4),.int .i64 (u 5)]
def AaM(w:World)(e:Ending)(w':World):Prop:=∃u,FJ u/\e=.returned (Agb u)/\Below w.heap.size w w'
theorem AtE(a b c d e f:Int)(w w':World)(k:Below w.heap.size w w')(h:0<=a/\a<=8/\0<=b/\b<=254/\0<=c/\c<=5/\0<=d/\d<=11/\0<=e/\e<=60/\(f=0\/f=1\/f=2\/f=4)):AaM w (.returned (.agg #[.int .i64 a,.int .i64 b,.int .i64 c,.int .i64 d,.int .i64 e,.int .i64 f])) w':=by
 refine⟨Aga a b c d e f,⟨?_,?_,?_,?_,?_,?_⟩,rfl,k⟩<;>simp only[Aga,DI,CS]<;>omega
theorem Da(g: Nat)(r: List Int)(n v: Int)(w: World)(b: Bd w g r)(c: 1<=n)(e: n<=1073741824)(h: Hid (AZ r n = v)) :
  Calls prog 30 #[.pointer (some ⟨g,0,none⟩),.int .i64 n] w (Vx g v r.tail w):=h.out▸Aeh g r n w b c e
theorem AuI(c:Int)(w:World)(b:c∈DP):Calls prog 32 #[.int .i64 c] w (AaM w):=by
 simp only[DP,AX,CT,C7]at b;rcases b with rfl|rfl|rfl|rfl|rfl|rfl|rfl|rfl|rfl|rfl|rfl|rfl|rfl|rfl|rfl|rfl|rfl|rfl|rfl|rfl|rfl|rfl|rfl|rfl|rfl|rfl|rfl|rfl
 all_goals
  go_enter func32,ntmps32;go_wp2;refine FF (R3 rfl _ _ w.heap.size _ _ _ _ rfl (IC _ _) underlying62 rfl Ax) rfl ?_;exact AtE _ _ _ _ _ _ _ _ (by first|exact((Al _ _).alloc (Ac _) _)|exact((Al _ _).alloc (Ac _) _).setCell (Ac _) _|trace_state) O
def Ajy(g:Nat)(ao:List Int)(w:World)(e:Ending)(w':World):Prop:=
 ∃v r,e=.returned (.int .i64 v)/\v∈ao/\Bd w' g r/\w.grownBy w' (some g)
theorem Wo(l:List Int)(k:Nat)(h:k<l.length):l.getD k 0∈l:=JM
theorem On(g:Nat)(r:List Int)(b:Nat)(ff n cap:Nat)(ao:List Int)(w:World)(am:Bd w g r)(a9:Aq w (some ⟨b,ff,none⟩) ao)(a':ao.length=n)(ba:0<n)(b3:n<=1000)(ad:b≠g):Calls prog 33 #[.pointer (some ⟨g,0,none⟩),.slice (some ⟨b,ff,none⟩) n cap] w (Ajy g ao w):=by
 obtain⟨x,C⟩:∃x,AZ r 3=x:=⟨_,rfl⟩;obtain⟨bt,bv⟩:=DO r 3 O;rw[C]at bt bv;have bb:=U C;have bc:=U am;have bd:=U a9;have s:=U a';clear C am a9 a';by_cases b4:0<x
 ·go_enter func33,ntmps33;go_wp2_with fail;refine(Da g r 3 x _ bc.out O O bb).mono ?_;rintro e w1 ⟨rfl,h,c⟩;obtain⟨mI,mJ,F,A⟩:=(bd.out.grown c AhJ) 0 (by rw[s.out];exact ba);cases F;have k:=U (Wo ao 0 (by rw[s.out];exact ba));obtain⟨y,m⟩:∃y,ao.getD 0 0=y:=⟨_,rfl⟩;rw[m]at A k;simp only[E_]at A;have G:=U h;have L:=U c;clear h c m;go_wp2;go_ret;exact⟨y,_,rfl,k.out,G.out,L.out⟩
 ·obtain⟨q,be⟩:∃q:Nat,AZ r.tail n=q:=⟨(AZ r.tail n).toNat,by have:=DO r.tail n O;omega⟩;have bl:q<n:=by have:=DO r.tail n O;omega
  have bx:=U be;clear be;go_enter func33,ntmps33;go_wp2_with fail;refine(Da g r 3 x _ bc.out O O bb).mono ?_;rintro e w1 ⟨rfl,h,c⟩;have b0:=U (bd.out.grown c AhJ);have G:=U h;have L:=U c;clear h c;go_wp2_with fail;refine(Da g r.tail n q _ G.out O O bx).mono ?_;rintro e w2 ⟨rfl,bs,ac⟩;obtain⟨mI,mJ,F,A⟩:=(b0.out.grown ac AhJ) q (by rw[s.out];exact bl);cases F;have k:=U (Wo ao q (by rw[s.out];exact bl));obtain⟨y,m⟩:∃y,ao.getD q 0=y:=⟨_,rfl⟩;rw[m]at A k;have b1:=U bs;have b2:=U (A5 L.out ac);clear bs ac m;go_wp2;go_ret;exact⟨y,_,rfl,k.out,b1.out,b2.out⟩
end Go.Proofs.YtblcoicaeeiojaaGreatDoor
