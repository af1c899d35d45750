/- keep.Other: copies of ro -/
import Derived.Test.YtblcoicaeeiojaaGreatDoorSOaTblJ
set_option linter.all false
open Go.Proofs.Tryz
namespace Go.Proofs.YtblcoicaeeiojaaGreatDoor
open Go.RowKit
structure D2 (n:Nat) (T:Y):Prop where
 cat:T.cat.length<=n
 ai:T.ai.length<=n
 al:T.al.length<=n
 ak:T.ak.length<=n
 aj:T.aj.length<=n
 ag:T.ag.length<=n
 an:T.an.length<=n
 ext:T.ext.length<=n
 map:T.map.length<=n
 dec:T.dec.length<=n
 af:T.af.length<=n
 ah:T.ah.length<=n
theorem D2.aq{n m:Nat}{T:Y}(h:D2 n T)(b:n<=m):D2 m T:=
 ⟨Af h.1 b,Af h.2 b,Af h.3 b,Af h.4 b,Af h.5 b,Af h.6 b,Af h.7 b,Af h.8 b,Af h.9 b,Af h.10 b,Af h.11 b,Af h.12 b⟩
theorem AmM{T:Y}(h:r1 T=true):D2 256 T:=by
 simp only[r1,BF,C_,DQ,Gf,JP,GS,Gs,AJ,A4]at h;obtain⟨⟨b,c,e,k,m,q,s⟩,⟨A,C,F,G⟩,L⟩:=h;exact⟨b,c,e,k,m,q,s,A,C,F,L,G⟩
def Gk(w:World)(p:Option Addr)(Q:List Mq):Prop:=
 ∀k,k<Q.length->∃b ff q,p=some ⟨b,ff,none⟩/\Q[k]? = some q/\w.cell? ⟨b,ff+k*2,none⟩=some (.int .i64 q.1.1)/\w.cell? ⟨b,ff+k*2+1,none⟩=some q.2/\q.2.oneCell'=true
theorem Ala{A:Type}(n:Nat)(P:Nat->A->Prop)(h:∀k,k<n->∃v,P k v):∃b:List A,b.length=n/\∀k,k<n->∃v,b[k]? = some v/\P k v:=by
 induction n with
 | zero=>exact⟨[],rfl,λk c=>absurd c (FH _)⟩
 | succ n q =>
  obtain⟨b,e,s⟩:=q λk c=>h k O;obtain⟨v,C⟩:=h n O;refine⟨b++[v],by simp[e],λk c=>?_⟩;rcases Ie k n with m|m
  ·obtain⟨u,F,G⟩:=s k m;exact⟨u,by rw[MR O];exact F,G⟩
  ·obtain rfl:k=n:=by omega
   exact⟨v,by simp[e],C⟩
theorem Lu{w:World}{p:Option Addr}{l:List Mp}(h:J6 w p l):∃Q:List Mq,Q.map (·.1)=l/\Gk w p Q/\∀q∈Q,Bp w q.2 q.1.2:=by
 obtain⟨ad,a9,L⟩:=Ala (A:=Mq) l.length (λk q=>q.1=l.getD k Ay/\∃b ff,p=some ⟨b,ff,none⟩/\w.cell? ⟨b,ff+k*2,none⟩=some (.int .i64 (l.getD k Ay).1)/\w.cell? ⟨b,ff+k*2+1,none⟩=some q.2/\Bp w q.2 (l.getD k Ay).2)
  (λk c=>by obtain⟨b,ff,v,e,F,G,m⟩:=h k c;exact⟨(l.getD k Ay,v),rfl,b,ff,e,F,G,m⟩)
 refine⟨ad,?_,?_,?_⟩
 ·apply R_;intro k;rw[Gg];rcases Ie k l.length with c|c
  ·obtain⟨q,s,C,_⟩:=L k c;rw[s,MW,C,Cz,CI c];rfl
  ·rw[MT O,MT O];rfl
 ·intro k c;obtain⟨q,s,C,b,ff,e,F,G,m⟩:=L k O;exact⟨b,ff,q,e,s,by rw[C];exact F,G,by obtain⟨_,_,e,_⟩:=m;rw[e];rfl⟩
 ·intro q s;obtain⟨k,c⟩:=List.mem_iff_getElem?.1 s;have am:k<l.length:=by
   have:=(LX.1 c).1;omega
  obtain⟨a',ac,C,b,ff,e,F,G,m⟩:=L k am;rw[c]at ac;cases ac;rw[C];exact m
theorem Gk.cells{w:World}{k_:Addr}{Q:List Mq}(h:Gk w (some k_) Q):∀j u,(CV Q)[j]? = some u->w.cell? (k_.add j)=some u:=by
 intro j u c;have L:j<Q.length*2:=by
  have:=(LX.1 c).1;rwa[Abw]at this
 have F:j/2<Q.length:=O;obtain⟨b,ff,q,e,G,m,s,_⟩:=h (j/2) F;obtain⟨A,C⟩:=VN Q (j/2) q G;simp only[FI]at e;subst e;rw[GI];have k:j%2=0\/j%2=1:=O;rcases k with k|k
 ·have e:j/2*2=j:=by omega
  rw[e]at m A;rw[m,<-c,A]
 ·have e:j/2*2+1=j:=by omega
  rw[Vo,e]at s;rw[e]at C;rw[s,<-c,C]
theorem AkX(Q:List Mq)(h:∀q∈Q,q.2.oneCell'=true):∀u∈CV Q,u.oneCell'=true:=by
 induction Q with
 | nil=>intro u b;cases b
 | cons s r c =>
  intro u b;simp only[CV,AX]at b;rcases b with rfl|rfl|b
  ·rfl
  ·exact h s J
  ·exact c (λq e=>h q (by simp[e])) u b
theorem Gk.one{w:World}{p:Option Addr}{Q:List Mq}(h:Gk w p Q):∀q∈Q,q.2.oneCell'=true:=by
 intro q s;obtain⟨k,c⟩:=List.mem_iff_getElem?.1 s;obtain⟨b,ff,C,e,m,F,G,A⟩:=h k ((LX.1 c).1);rw[c]at m;cases m;exact A
abbrev CK(w:World)(B:Nat)(v:Value)(Q:List Mq):Prop:=w.ownsRow B 73 2 v Q.length (CV Q)
theorem Ahb{w: World}{o: Oper}{a: Act}{K: Act->World->Prop}{Z: Exit->Act->World->Prop}(s x: Operand)
  (cq:o.op=.call { callee:=.builtin .append,args:=#[s,x],argTypes:=#[24,24]})
  (base:Nat) (v:Value) (Q:List Mq) (b2:a.eval s=v) (cm:CK w base v Q)
  (p:Option Addr) (m c:Nat) (Y:List Mq) (A:Y.length=m) (b3:a.eval x=.slice p m c) (k:Gk w p Y)
  (a9:Q.length+Y.length<=1099511627776) (C:base<=w.heap.size)
  (h:∀b w',CK w' base b (Q++Y)->w.grownBy w' v.ownBlock->K (a.put o.dst b) w'):o.wp prog a w K Z:=by
 subst A;obtain⟨q,dI,F,G,L⟩:=Cp infoMap;cases p with
 | none =>
  have ac:Y=[]:=by
   cases Y with
   | nil=>rfl
   | cons y r=>obtain⟨_,_,_,e,_⟩:=k 0 J;cases e
  subst ac;have ga:=Af4 (P:=prog) base 24 o.type 73 q 2 underlying24 dI v Q.length _ c cm;exact AvC
 | some k_ =>
  refine wp_append_own w s x 24 cq base 73 q _ 2 32 underlying24 dI F G L rfl Aw v Q.length _ b2 cm k_ Y.length c (CV Y) b3 (Abw _) k.cells (AkX Y k.one) BQ O C ?_;intro b w' ad am _;exact h b w' (by unfold CK;rw[Bc,Abv];exact ad) am
theorem KJ{w: World}{ops: Array Oper}{b: List Oper}{o: Oper}{a: Act}{Z: Exit->Act->World->Prop}(s x: Operand)
  (k:o.op=.call { callee:=.builtin .append,args:=#[s,x],argTypes:=#[24,24]})
  (q:Region.wanted o (yielded ops a.tmps)=true)
  (base:Nat) (v:Value) (Q:List Mq) (A:a.eval s=v) (C:CK w base v Q)
  (p:Option Addr) (m c:Nat) (Y:List Mq) (F:Y.length=m) (G:a.eval x=.slice p m c) (L:Gk w p Y)
  (ac:Q.length+Y.length<=1099511627776) (ad:base<=w.heap.size)
  (h:∀e w',CK w' base e (Q++Y)->w.grownBy w' v.ownBlock->wpList prog ops Z b (a.put o.dst e) w'):wpList prog ops Z (o::b) a w:=by
 unfold wpList;rw[N q];exact .inl (Ahb s x k base v Q A C p m c Y F G L ac ad h)
theorem Agq{w: World}{ops: Array Oper}{o: Oper}{a: Act}{K: Act->World->Prop}{Z: Exit->Act->World->Prop}{E: Prop}(cA: o.guard = none)(s x: Operand)
  (e:o.op=.call { callee:=.builtin .append,args:=#[s,x],argTypes:=#[24,24]})
  (base:Nat) (v:Value) (Q:List Mq) (k:a.eval s=v) (q:CK w base v Q)
  (p:Option Addr) (m c:Nat) (Y:List Mq) (A:Y.length=m) (C:a.eval x=.slice p m c) (F:Gk w p Y)
  (G:Q.length+Y.length<=1099511627776) (L:base<=w.heap.size)
  (h:∀b w',CK w' base b (Q++Y)->w.grownBy w' v.ownBlock->K (a.put o.dst b) w') :
  if Region.wanted o (yielded ops a.tmps)=true then Oper.wp prog o a w K Z else E:=by
 have ac:Region.wanted o (yielded ops a.tmps)=true:=Pn;rw[N ac];exact Ahb s x e base v Q k q p m c Y A C F G L h
theorem CK.nil(w:World)(B:Nat):CK w B (.slice none 0 0) []:=PF _ _ _ _
theorem CK.slice{w:World}{B:Nat}{v:Value}{Q:List Mq}(h:CK w B v Q):∃p c,v=.slice p Q.length c:=by
 rcases h.2 with⟨rfl,b⟩|⟨g,cap,e,rfl,_⟩
 ·exact⟨none,0,by rw[b]⟩
 ·exact⟨_,cap,rfl⟩
theorem CK.bf{w:World}{B:Nat}{v:Value}{Q:List Mq}(h:CK w B v Q)(C:∀q∈Q,Bp w q.2 q.1.2)(F:Q.length<=17592186043904):DK w v (Q.map (·.1)):=by
 obtain⟨p,c,m⟩:=h.slice;refine⟨p,c,by rw[m];simp,λk ba=>?_,by simpa using F⟩;have G:k<Q.length:=KL;rcases h.2 with⟨rfl,bc⟩|⟨g,cap,L,e,bd,ac,be,bl,bs,ad⟩
 ·omega
 ·obtain⟨q,b⟩:∃q,Q[k]? = some q:=⟨_,CI G⟩;obtain⟨am,a9⟩:=VN Q k q b;have s:∀j u,j<Q.length*2->(CV Q)[j]? = some u->w.cell? ⟨g,j,none⟩=some u:=by
   intro j u a' A;rw[Es w g j L _ (0,0) ac];rw[<-ad,Eu,N a']at A;simpa using A
  have bb:(Q.map (·.1)).getD k Ay=q.1:=by rw[Cz,Gg,b];rfl
  rw[bb];rw[m]at e;injection e with e _ _;exact⟨g,0,q.2,e,by simpa using s _ _ O am,by simpa using s _ _ O a9,C q (List.mem_of_getElem? b)⟩
theorem Aq.keeps{w w':World}{R:Nat->Prop}{p:Option Addr}{l:List Int}(h:Aq w p l)(c:Ad w w' R)(m:∀b ff,p=some ⟨b,ff,none⟩->¬R b):Aq w' p l:=by
 intro k q;obtain⟨b,ff,e,s⟩:=h k q;exact⟨b,ff,e,c.cell s (m b ff e)⟩
def Ip(x:TV):Nat->Value
 | 0=>x.a0
 | 1=>x.a1
 | 2=>x.a2
 | 3=>x.a3
 | 4=>x.a4
 | 5=>x.a5
 | 6=>x.a6
 | 7=>x.a7
 | 8=>x.a8
 | 9=>x.a9
 | 10=>x.aB
 | _=>x.ax
theorem BI.of(w:World)(x:TV)(t:TypeId):BI (w.alloc (.cells (AG x) t)) w.heap.size (Ip x):=by
 intro i dI;have:i=0\/i=1\/i=2\/i=3\/i=4\/i=5\/i=6\/i=7\/i=8\/i=9\/i=10\/i=11:=O;rcases this with rfl|rfl|rfl|rfl|rfl|rfl|rfl|rfl|rfl|rfl|rfl|rfl<;>simp[Cy,Ip]
structure Gl (w:World) (g rb n:Nat) (x:TV) (wx:World) (x':TV) (T':Y):Prop where
 box:AS wx g x'
 au:BI wx rb (λ_=>.slice none 0 0)
 tab:∀wz,Ad wx wz (λb=>b=rb)->Ah wz x' T'
 ab:Below w.heap.size w wx
 cW:D2 (n+2) T'
 cap:(∀p n c,x.a9=.slice p n c->n<=c)->∀p n c,x'.a9=.slice p n c->n<=c
structure BS (w W:World) (tb g rb:Nat) (x:TV):Prop where
 c_:BI W tb (Ip x)
 bp:BI W g (Ip x)
 au:BI W rb (λ_=>.slice none 0 0)
 ab:Below w.heap.size w W
 gw:w.heap.size<=g
 rw:w.heap.size<=rb
 ne:g≠rb
 nt:tb≠rb/\tb≠g
theorem BS.new(w:World)(x:TV)(t:TypeId):BS w (((w.alloc (.cells (AG x) t)).alloc (.cells DW t)).alloc (.cells (AG x) t)) w.heap.size (w.heap.size+1+1) (w.heap.size+1) x:=by
 have m:=(Al w.heap.size w).alloc (Ac _) (.cells (AG x) t);have c:(w.alloc (.cells (AG x) t)).heap.size=w.heap.size+1:=J;have e:((w.alloc (.cells (AG x) t)).alloc (.cells DW t)).heap.size=w.heap.size+1+1:=J;have k:=(Al (w.alloc (.cells (AG x) t)).heap.size (w.alloc (.cells (AG x) t))).alloc (Ac _) (.cells DW t);have b:=(Al ((w.alloc (.cells (AG x) t)).alloc (.cells DW t)).heap.size ((w.alloc (.cells (AG x) t)).alloc (.cells DW t))).alloc (Ac _) (.cells (AG x) t);refine⟨((BI.of w x t).below k).below b,?_,?_,?_,O,O,O,O⟩
 ·have h:=BI.of ((w.alloc (.cells (AG x) t)).alloc (.cells DW t)) x t;rw[e]at h;exact h
 ·have h:=(BI.new (w.alloc (.cells (AG x) t)) t).below b;rw[c]at h;exact h
 ·exact(m.trans (k.mono (by rw[c];omega))).trans (b.mono (by rw[e];omega))
section
variable {w W w3:World} {tb g rb i n:Nat} {x:TV} {T T':Y} {v:Value}
theorem BS.aH(c:BS w W tb g rb x)(dI:i<12):W.cell? ⟨tb,i,none⟩=some (Ip x i):=(c.c_ i dI).1
theorem BS.aG(c:BS w W tb g rb x)(b:Ad W w3 (λ_=>False))(dI:i<12):w3.cell? ⟨g,i,none⟩=some (Ip x i)/\w3.frozen? ⟨g,i,none⟩=false:=
 (c.bp.keeps b (λe=>e)) i dI
theorem BS.aJ(c:BS w W tb g rb x)(m:Ah w x T)(q:Ad W w3 (λ_=>False)):∀h,Ad w3 h (λb=>b=g\/b=rb)->Ah h x T:=by
 intro h s;have k:Below w.heap.size w w3:=c.ab.trans (q.below c.ab.size (λ_ _ e=>e.elim));have A:=k.trans (s.below k.size (λb _ e=>by have:=c.gw;have:=c.rw;omega));exact m.below A
theorem BS.dd(c:BS w W tb g rb x)(q:Ad W w3 (λ_=>False)){u:Value}{l:List Int}(h:Bp w u l):∀k,Ad w3 k (λb=>b=g\/b=rb)->Bp k u l:=by
 intro k s;have m:Below w.heap.size w w3:=c.ab.trans (q.below c.ab.size (λ_ _ e=>e.elim));have A:=m.trans (s.below m.size (λb _ e=>by have:=c.gw;have:=c.rw;omega));exact h.below A
theorem BS.fin(c:BS w W tb g rb x)(dI:i<12)(m:Ad W w3 (λ_=>False))(A:∀h,Ad w3 h (λb=>b=g\/b=rb)->Ah h (I1 (AD (Ip x) i v)) T')(C:D2 (n+2) T')(F:(∀p n c,x.a9=.slice p n c->n<=c)->∀p n c,(I1 (AD (Ip x) i v)).a9=.slice p n c->n<=c):Gl w g rb n x (w3.setCell ⟨g,i,none⟩ v) (I1 (AD (Ip x) i v)) T':=by
 have q:=c.bp.keeps m (λe=>e);have k:=Cr.store w3 g i v _ (q i dI).1;refine⟨(q.aA k).box,(c.au.keeps m (λe=>e)).keeps k.ar (λe=>c.ne e.symm),λh G=>A h ?_,?_,C,F⟩
 ·exact k.ar.trans G (λb _ e=>.inl e) (λb _ e=>.inr e)
 ·have s:Below w.heap.size w w3:=c.ab.trans (m.below c.ab.size (λ_ _ e=>e.elim));exact s.trans (k.ar.below s.size (λb _ e=>Aie))
theorem BS.lt(c:BS w W tb g rb x):g<W.heap.size/\rb<W.heap.size:=⟨c.bp.lt,c.au.lt⟩
theorem BS.bN(c:BS w W tb g rb x){B:Nat}{L:List Sp}(cq:A6 w3 B v L)(h:W.heap.size<=B)(cl:L.length<=17592186043904):∀da,Ad w3 da (λb=>b=g\/b=rb)->Cw da v L:=by
 intro da b5;exact AvE
theorem BS.ints(c:BS w W tb g rb x){B:Nat}{L:List Int}(cq:Ak w3 B v L)(q:W.heap.size<=B)(cl:L.length<=17592186043904):∀h,Ad w3 h (λb=>b=g\/b=rb)->Bp h v L:=by
 intro h m;have s:=c.lt;have ld:Ak h B v L:=m.owns cq (λk ba e=>Ai3);exact AzB
def IF(W w3:World)(q:Mq):Prop:=∃b ff n c,q.2=.slice (some ⟨b,ff,none⟩) n c/\W.heap.size<=b/\Bp w3 q.2 q.1.2
theorem BS.maps(c:BS w W tb g rb x){B:Nat}{Q Y:List Mq}(ba:Ad W w3 (λ_=>False))(cq:CK w3 B v (Q++Y))(a':W.heap.size<=B)(C:∀q∈Q,Bp w q.2 q.1.2)(F:∀q∈Y,IF W w3 q)(G:(Q++Y).length<=17592186043904):∀h,Ad w3 h (λb=>b=g\/b=rb)->DK h v (Q.map (·.1)++Y.map (·.1)):=by
 intro h s;have bb:=c.lt;have L:CK h B v (Q++Y):=s.owns cq (λk ba e=>Ai3);rw[<-FY];refine L.bf (λq m=>?_) G;rcases Bg.1 m with m|m
 ·exact c.dd ba (C q m) h s
 ·obtain⟨b,ff,n,ac,e,bc,p,bd,A,ad,am⟩:=F q m;rw[e]at A;cases A;exact⟨_,ac,e,ad.keeps s (λbe bl a9=>by cases a9;omega),am⟩
end
theorem Lx{W w2 w3:World}{row:Option Nat}{b ff c:Nat}{f:Int}{L:List Int}(h:Aq w2 (some ⟨b,ff,none⟩) L)(G:L.length<=1000)(m:w2.grownBy w3 row)(q:∀k,row=some k->k<b)(s:W.heap.size<=b){n:Nat}(A:n=L.length):IF W w3 ((f,L),.slice (some ⟨b,ff,none⟩) n c):=by
 subst A;refine⟨b,ff,_,c,rfl,s,_,c,rfl,?_,MI⟩;intro k C;obtain⟨ac,ad,e,F⟩:=h k C;cases e;exact⟨b,ff,rfl,m.cell F (λe=>by have:=q b e.symm;omega)⟩
theorem ApI(W:World)(f:Int)(L:List Int)(u:Value)(b:TypeId)(c:u.oneCell'=true){g:Nat}(e:g=W.heap.size):Gk (W.alloc (.cells #[.int .i64 f,u] b)) (some ⟨g,0,none⟩) [((f,L),u)]:=by
 subst e;intro k ba;obtain rfl:k=0:=IA;refine⟨_,_,_,rfl,rfl,?_,?_,c⟩<;>simp[Cy]
theorem Aeb(W:World)(f c:Int)(L e:List Int)(u b:Value)(h:TypeId)(m:u.oneCell'=true)(q:b.oneCell'=true){g:Nat}(s:g=W.heap.size):Gk (W.alloc (.cells #[.int .i64 f,u,.int .i64 c,b] h)) (some ⟨g,0,none⟩) [((f,L),u),((c,e),b)]:=by
 subst s;intro k ba;have A:k=0\/k=1:=IA;rcases A with rfl|rfl
 ·refine⟨_,_,_,rfl,rfl,?_,?_,m⟩<;>simp[Cy]
 ·refine⟨_,_,_,rfl,rfl,?_,?_,q⟩<;>simp[Cy]
theorem Ph{W: World}{ops: Array Oper}{b: List Oper}{o: Oper}{a: Act}{Z: Exit->Act->World->Prop}(s x: Operand)
  (k:o.op=.call { callee:=.builtin .append,args:=#[s,x],argTypes:=#[24,24]})
  (m:Region.wanted o (yielded ops a.tmps)=true)
  (base:Nat) (v:Value) (Q:List Mq) (q:a.eval s=v) (A:CK W base v Q)
  (f:Int) (L:List Int) (u:Value) (c g:Nat) (C:a.eval x=.slice (some ⟨g,0,none⟩) 1 c) (F:g=W.heap.size) (G:u.oneCell'=true)
  (ac:Q.length<=1000000) (ad:base<=W.heap.size)
  (h:∀e w',CK w' base e (Q++[((f,L),u)])->(W.alloc (.cells #[.int .i64 f,u] 73)).grownBy w' v.ownBlock->wpList prog ops Z b (a.put o.dst e) w'):wpList prog ops Z (o::b) a (W.alloc (.cells #[.int .i64 f,u] 73)):=
 KJ s x k m base v Q q (CG A _) _ 1 c [((f,L),u)] rfl C (ApI W f L u _ G F) Ae Ae h
theorem Ag_{W: World}{ops: Array Oper}{m: List Oper}{o: Oper}{a: Act}{Z: Exit->Act->World->Prop}(s x: Operand)
  (A:o.op=.call { callee:=.builtin .append,args:=#[s,x],argTypes:=#[24,24]})
  (C:Region.wanted o (yielded ops a.tmps)=true)
  (base:Nat) (v:Value) (Q:List Mq) (F:a.eval s=v) (G:CK W base v Q)
  (f:Int) (L:List Int) (u:Value) (e:Int) (k:List Int) (b:Value) (c g:Nat) (ac:a.eval x=.slice (some ⟨g,0,none⟩) 2 c) (ad:g=W.heap.size) (am:u.oneCell'=true) (a9:b.oneCell'=true)
  (a':Q.length<=1000000) (ba:base<=W.heap.size)
  (h:∀q w',CK w' base q (Q++[((f,L),u),((e,k),b)])->(W.alloc (.cells #[.int .i64 f,u,.int .i64 e,b] 73)).grownBy w' v.ownBlock->wpList prog ops Z m (a.put o.dst q) w'):wpList prog ops Z (o::m) a (W.alloc (.cells #[.int .i64 f,u,.int .i64 e,b] 73)):=
 KJ s x A C base v Q F (CG G _) _ 2 c [((f,L),u),((e,k),b)] rfl ac (Aeb W f e L k u b _ am a9 ad) Ae Ae h
theorem Gk.below{w w':World}{p:Option Addr}{Q:List Mq}(h:Gk w p Q)(c:Below w.heap.size w w'):Gk w' p Q:=by
 intro k A;obtain⟨b,ff,q,e,C,m,F,G⟩:=h k A;have s:=AN w _ m;exact⟨b,ff,q,e,C,(c.cell (p:=⟨b,ff+k*2,none⟩) s).trans m,(c.cell (p:=⟨b,ff+k*2+1,none⟩) s).trans F,G⟩
theorem Jp(w:World)(b:Array Value)(t:TypeId)(ff:Nat)(L:List Int){g:Nat}(c:g=w.heap.size)(h:∀k,k<L.length->b[ff+k]? = some (.int .i64 (L.getD k 0))):Aq (w.alloc (.cells b t)) (some ⟨g,ff,none⟩) L:=by
 subst c;intro k e;refine⟨_,_,rfl,?_⟩;rw[Cy];exact h k e
theorem WJ(w:World):Ad w w (λ_=>False):=Ad.refl _ _
theorem ka1(w:World)(a:Obj):Ad w (w.alloc a) (λ_=>False):=Ad.alloc _ _
theorem Tr(w:World)(a b:Obj):Ad w ((w.alloc a).alloc b) (λ_=>False):=(Ad.alloc w a).trans (Ad.alloc _ b) (λ_ _ e=>e) (λ_ _ e=>e)
theorem Qy(w:World)(a b c:Obj):Ad w (((w.alloc a).alloc b).alloc c) (λ_=>False):=(Tr w a b).trans (Ad.alloc _ c) (λ_ _ e=>e) (λ_ _ e=>e)
theorem IT{W w1 w2 w3:World}{e:TypeId}{z n:Nat}{v:Value}{xs:List Value}(c:Ad W w1 (λ_=>False))(h:w1.ownsRow W.heap.size e z v n xs)(k:Ad w1 w2 (λ_=>False))(m:w2.grownBy w3 v.ownBlock):Ad W w3 (λ_=>False):=
 (c.trans k (λ_ _ e=>e) (λ_ _ e=>e)).trans (Ad.aC m) (λ_ _ e=>e) (λb q e=>by have:=Bs h b e;omega)
theorem AoD{W w3:World}{o:Obj}{n c ff:Nat}(b:(W.alloc o).drew.grownBy w3 (Value.ownBlock (.slice (some ⟨W.heap.size,ff,none⟩) n c))):Ad W w3 (λ_=>False):=by
 have h:=Ad.aC b;refine⟨h.os,h.tape,h.output,Af J h.size,λk m _=>?_⟩;have q:=h.block k (by show k<(W.alloc o).heap.size;simp;omega) (by intro e;simp[Value.ownBlock]at e;omega);rw[q];exact Aaf _ _ _ m
theorem BS.bS{w W h:World}{tb g rb i n:Nat}{x:TV}{T':Y}{v:Value}(c:BS w W tb g rb x)(q:BI h g (AD (Ip x) i v))(k:Ad W h (λb=>b=g))(s:∀m,Ad h m (λb=>b=rb)->Ah m (I1 (AD (Ip x) i v)) T')(A:D2 (n+2) T')(C:(∀p n c,x.a9=.slice p n c->n<=c)->∀p n c,(I1 (AD (Ip x) i v)).a9=.slice p n c->n<=c):Gl w g rb n x h (I1 (AD (Ip x) i v)) T':=
 ⟨q.box,c.au.keeps k (λe=>c.ne e.symm),s,c.ab.trans (k.below c.ab.size (λb _ e=>Aie)),A,C⟩
theorem BS.bX{w W h:World}{tb g rb:Nat}{x:TV}{T:Y}(c:BS w W tb g rb x)(q:Ah w x T)(s:Ad W h (λb=>b=g)):∀k,Ad h k (λb=>b=rb)->Ah k x T:=by
 intro k A;have m:Below w.heap.size w h:=c.ab.trans (s.below c.ab.size (λb _ e=>Aie));have C:=m.trans (A.below m.size (λb _ e=>by have:=c.rw;omega));exact q.below C
theorem BS.ch{w W h:World}{tb g rb:Nat}{x:TV}{v:Value}(c:BS w W tb g rb x){B:Nat}{L:List Sp}(cq:A6 h B v L)(m:W.heap.size<=B)(cl:L.length<=17592186043904):∀da,Ad h da (λb=>b=rb)->Cw da v L:=by
 intro da b5;exact AvE
def NO(L:List Sp)(z:Nat)(y:Int):List Sp:=L.set z ((L.getD z A_).1,(L.getD z A_).2.1,y)
theorem AkZ(L:List Sp)(z:Nat)(b:z<L.length)(y:Int):(D6 L).set (z*3+2) (.int .i64 y)=D6 (NO L z y):=by
 induction L generalizing z with
 | nil=>simp at b
 | cons s r c =>
  cases z with
  | zero=>simp[NO,D6]
  | succ z =>
   have h:=c z (by simpa using b);rw[show (z+1)*3+2=z*3+2+1+1+1 by omega];simp only[NO,D6,Si,CS]at h|-;rw[h]
theorem A6.bL{w:World}{B g n cap:Nat}{L:List Sp}(h:A6 w B (.slice (some ⟨g,0,none⟩) n cap) L)(b:n=L.length)(z:Nat)(c:z<L.length)(y:Int):A6 (w.setCell ⟨g,z*3+2,none⟩ (.int .i64 y)) B (.slice (some ⟨g,0,none⟩) n cap) (NO L z y):=by
 subst b;unfold A6 at h|-;rw[<-AkZ L z c y];have e:(Proofs.YtblcoicaeeiojaaGreatDoor.NO L z y).length=L.length:=by simp[Proofs.YtblcoicaeeiojaaGreatDoor.NO]
 rw[e];exact(PE h _ _).1
theorem A6.cU{w:World}{B n cap:Nat}{p:Option Addr}{L:List Sp}(h:A6 w B (.slice p n cap) L)(z:Nat)(k:z<L.length):∃g,p=some ⟨g,0,none⟩/\B<=g/\w.cell? ⟨g,z*3+2,none⟩=some (.int .i64 (L.getD z A_).2.2)/\w.frozen? ⟨g,z*3+2,none⟩=false:=by
 have m:=h.lt;obtain⟨q,F,e,s⟩:=h.ap;cases e;obtain⟨b,ff,rfl,G,ac,c⟩:=s z k;have A:ff=0:=AvT;subst A;have:=m b rfl;simp only[BY]at c;have C:=MO (g:=b) (cap:=cap) (n:=L.length) h;exact⟨b,rfl,this.1,c,C _⟩
theorem Cm(v n q: Int)(w: World)(b: 1<=n)(c: n<=1125899906842624)(h: Hid (Dc v n = q)) :
  Calls prog 18 #[.int .i64 v,.int .i64 n] w λe w'=>e=.returned (.int .i64 q)/\w=w':=h.out▸AeT v n w b c
theorem Fz(v n:Int)(h:1<=n):∃z,Hid (Dc v n=z)/\0<=z/\z<n:=⟨_,rfl,XE v n h⟩
def G2(x:TV)(n:Nat)(w:World)(e:Ending)(w':World):Prop:=
 ∃(b:TV) (T':Y),e=.returned b.agg/\Ah w' b T'/\D2 (n+2) T'/\((∀p n c,x.a9=.slice p n c->n<=c)->∀p n c,b.a9=.slice p n c->n<=c)/\Below w.heap.size w w'
end Go.Proofs.YtblcoicaeeiojaaGreatDoor
