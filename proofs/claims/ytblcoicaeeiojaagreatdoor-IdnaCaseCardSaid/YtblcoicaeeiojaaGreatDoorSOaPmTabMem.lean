/- Tables in memory. Append -/
import Derived.Test.YtblcoicaeeiojaaGreatDoorSOaPmSplD
set_option linter.all false
set_option maxHeartbeats 4000000
set_option maxRecDepth 100000
open Go.Proofs.Tryz
namespace Go.Proofs.YtblcoicaeeiojaaGreatDoor
open Go.RowKit
abbrev Ay:Mp:=(0,[])
def Bp(w:World)(v:Value)(l:List Int):Prop:=∃p c,v=.slice p l.length c/\Aq w p l/\l.length<=17592186043904
def Cw(w:World)(v:Value)(l:List Sp):Prop:=∃p c,v=.slice p l.length c/\Cs w p l/\l.length<=17592186043904
def J6(w:World)(p:Option Addr)(l:List Mp):Prop:=
 ∀k,k<l.length->∃b ff v,p=some ⟨b,ff,none⟩/\w.cell? ⟨b,ff+k*2,none⟩=some (.int .i64 (l.getD k Ay).1)/\w.cell? ⟨b,ff+k*2+1,none⟩=some v/\Bp w v (l.getD k Ay).2
def DK(w:World)(v:Value)(l:List Mp):Prop:=∃p c,v=.slice p l.length c/\J6 w p l/\l.length<=17592186043904
theorem Bp.below{w w':World}{v:Value}{l:List Int}(h:Bp w v l)(ad:Below w.heap.size w w'):Bp w' v l:=Ahu
theorem Cw.below{w w':World}{v:Value}{l:List Sp}(h:Cw w v l)(ad:Below w.heap.size w w'):Cw w' v l:=Ahu
theorem J6.below{w w':World}{p:Option Addr}{l:List Mp}(h:J6 w p l)(c:Below w.heap.size w w'):J6 w' p l:=by
 intro k s;obtain⟨b,ff,v,e,m,A,C⟩:=h k s;have q:=AN w _ m;exact⟨b,ff,v,e,(c.cell (p:=⟨b,ff+k*2,none⟩) q).trans m,(c.cell (p:=⟨b,ff+k*2+1,none⟩) q).trans A,C.below c⟩
theorem DK.below{w w':World}{v:Value}{l:List Mp}(h:DK w v l)(ad:Below w.heap.size w w'):DK w' v l:=Ahu
structure TV where
 a0:Value
 a1:Value
 a2:Value
 a3:Value
 a4:Value
 a5:Value
 a6:Value
 a7:Value
 a8:Value
 a9:Value
 aB:Value
 ax:Value
abbrev TV.agg(x:TV):Value:=.agg #[x.a0,x.a1,x.a2,x.a3,x.a4,x.a5,x.a6,x.a7,x.a8,x.a9,x.aB,x.ax]
structure Ah (w:World) (x:TV) (T:Y):Prop where
 cat:Cw w x.a0 T.cat
 ai:Cw w x.a1 T.ai
 al:Cw w x.a2 T.al
 ak:Cw w x.a3 T.ak
 aj:Cw w x.a4 T.aj
 ag:Cw w x.a5 T.ag
 an:Cw w x.a6 T.an
 ext:DK w x.a7 T.ext
 map:DK w x.a8 T.map
 dec:DK w x.a9 T.dec
 af:Bp w x.aB T.af
 ah:DK w x.ax T.ah
theorem Ah.below{w w':World}{x:TV}{T:Y}(h:Ah w x T)(b:Below w.heap.size w w'):Ah w' x T:=
 ⟨h.cat.below b,h.ai.below b,h.al.below b,h.ak.below b,h.aj.below b,h.ag.below b,h.an.below b,h.ext.below b,h.map.below b,h.dec.below b,h.af.below b,h.ah.below b⟩
theorem Ah.alloc{w:World}{x:TV}{T:Y}(h:Ah w x T)(o:Obj):Ah (w.alloc o) x T:=h.below ((Al _ _).alloc (Ac _) o)
def AS(w:World)(g:Nat)(x:TV):Prop:=
 (w.cell? ⟨g,0,none⟩=some x.a0/\w.cell? ⟨g,1,none⟩=some x.a1/\w.cell? ⟨g,2,none⟩=some x.a2/\w.cell? ⟨g,3,none⟩=some x.a3/\w.cell? ⟨g,4,none⟩=some x.a4/\w.cell? ⟨g,5,none⟩=some x.a5)/\
 (w.cell? ⟨g,6,none⟩=some x.a6/\w.cell? ⟨g,7,none⟩=some x.a7/\w.cell? ⟨g,8,none⟩=some x.a8/\w.cell? ⟨g,9,none⟩=some x.a9/\w.cell? ⟨g,10,none⟩=some x.aB/\w.cell? ⟨g,11,none⟩=some x.ax)
abbrev AG(x:TV):Array Value:=#[x.a0,x.a1,x.a2,x.a3,x.a4,x.a5,x.a6,x.a7,x.a8,x.a9,x.aB,x.ax]
theorem AS.new(w:World)(x:TV)(t:TypeId):AS (w.alloc (.cells (AG x) t)) w.heap.size x:=by
 refine⟨⟨?_,?_,?_,?_,?_,?_⟩,⟨?_,?_,?_,?_,?_,?_⟩⟩<;>simp[Cy]
theorem AS.below{w w':World}{g:Nat}{x:TV}(h:AS w g x)(c:Below w.heap.size w w'):AS w' g x:=by
 obtain⟨⟨bl,a',be,cD,eL,eB⟩,⟨ez,ey,ea,fm,fN,iJ⟩⟩:=h;have fM:∀i v,w.cell? ⟨g,i,none⟩=some v->w'.cell? ⟨g,i,none⟩=some v:=λi v b=>(c.cell (p:=⟨g,i,none⟩) (AN w _ b)).trans b;exact UJ
def Gi(w:World)(g:Nat)(f:Int)(v:Value):Prop:=w.cell? ⟨g,0,none⟩=some (.int .i64 f)/\w.cell? ⟨g,1,none⟩=some v
theorem Gi.new(w:World)(f:Int)(v:Value)(t:TypeId):Gi (w.alloc (.cells #[.int .i64 f,v] t)) w.heap.size f v:=by
 refine⟨?_,?_⟩<;>simp[Cy]
theorem Gi.below{w w':World}{g:Nat}{f:Int}{v:Value}(h:Gi w g f v)(b:Below w.heap.size w w'):Gi w' g f v:=by
 obtain⟨c,e⟩:=h;exact⟨(b.cell (p:=⟨g,0,none⟩) (AN w _ c)).trans c,(b.cell (p:=⟨g,1,none⟩) (AN w _ e)).trans e⟩
def TF(l:List Mp)(k:Nat)(h:k<l.length):l.getD k Ay∈l:=JM
def KF(l:List Mp)(k:Nat)(h:k<l.length):l.take (k+1)=l.take k++[l.getD k Ay]:=by
 rw[E9 h];simp[h]
def Bi(w:World):Prop:=
 (w.cell? ⟨0,0,none⟩=some (.int .i64 0)/\w.cell? ⟨0,1,none⟩=some (.int .i64 127)/\w.cell? ⟨0,2,none⟩=some (.int .i64 4352)/\w.cell? ⟨0,3,none⟩=some (.int .i64 4370)/\w.cell? ⟨0,4,none⟩=some (.int .i64 4449)/\w.cell? ⟨0,5,none⟩=some (.int .i64 4469))/\
 (w.cell? ⟨0,6,none⟩=some (.int .i64 4520)/\w.cell? ⟨0,7,none⟩=some (.int .i64 4546)/\w.cell? ⟨0,8,none⟩=some (.int .i64 44032)/\w.cell? ⟨0,9,none⟩=some (.int .i64 55203)/\w.cell? ⟨0,10,none⟩=some (.int .i64 55296)/\w.cell? ⟨0,11,none⟩=some (.int .i64 57343))
theorem Bi.below{w w':World}(h:Bi w)(c:Below w.heap.size w w'):Bi w':=by
 obtain⟨⟨bl,a',be,cD,eL,eB⟩,⟨ez,ey,ea,fm,fN,iJ⟩⟩:=h;have fM:∀i v,w.cell? ⟨0,i,none⟩=some v->w'.cell? ⟨0,i,none⟩=some v:=λi v b=>(c.cell (p:=⟨0,i,none⟩) (AN w _ b)).trans b;exact UJ
def Ar(v:Value)(w:World)(e:Ending)(w':World):Prop:=e=.returned v/\Below w.heap.size w w'
def V5(w:World)(n:Nat):Below w.heap.size w (w.drewN n):=⟨rfl,rfl,rfl,Ac _,λ_ _=>rfl⟩
def Xl(w:World)(z:Int)(b:TypeId):Aq (w.alloc (.cells #[.int .i64 z] b)) (some ⟨w.heap.size,0,none⟩) [z]:=by
 intro k ba;obtain rfl:k=0:=IA;refine⟨_,_,rfl,?_⟩;exact EL
def Pg{W: World}{ops: Array Oper}{e: List Oper}{o: Oper}{a: Act}{Q: Exit->Act->World->Prop}(s x: Operand)
  (k:o.op=.call { callee:=.builtin .append,args:=#[s,x],argTypes:=#[22,22]})
  (m:Region.wanted o (yielded ops a.tmps)=true)
  (base:Nat) (v:Value) (xs:List Int) (q:a.eval s=v) (A:Ak W base v xs)
  (z:Int) (c g:Nat) (C:a.eval x=.slice (some ⟨g,0,none⟩) 1 c) (F:g=W.heap.size)
  (L:xs.length<=1099511627775) (ac:base<=W.heap.size)
  (h:∀b w',Ak w' base b (xs++[z])->W.grownBy w' v.ownBlock->wpList prog ops Q e (a.put o.dst b) w'):wpList prog ops Q (o::e) a (W.alloc (.cells #[.int .i64 z] 3)):=by
 subst F;refine De s x k m base v xs q (CG A _) _ 1 c [z] rfl C (Xl W z _) Ae Ae ?_;intro b w' G be;refine h b w' G ?_;have co:=GJ W (.cells #[.int .i64 z] 3) v.ownBlock;exact Avy
theorem Ak.base{w:World}{B:Nat}{v:Value}{l:List Int}(h:Ak w B v l):∀k,v.ownBlock=some k->B<=k:=λk b=>(Bs h k b).1
theorem Ak.alloc{w:World}{B:Nat}{v:Value}{l:List Int}(h:Ak w B v l)(o:Obj):Ak (w.alloc o) B v l:=CG h o
theorem Ak.mono{w:World}{B b:Nat}{v:Value}{l:List Int}(h:Ak w B v l)(c:b<=B):Ak w b v l:=Iv h c
def L9{B:Nat}{a W w1:World}{v:Value}{l:List Int}(h:Below B a W)(b:Ak W B v l)(c:B<=a.heap.size)(e:W.grownBy w1 v.ownBlock):Below B a w1:=
 h.grown e (Af c h.size) b.base
abbrev NM:Value:=.agg #[.int .i64 0,.int .i64 127,.int .i64 4352,.int .i64 4370,.int .i64 4449,.int .i64 4469,.int .i64 4520,.int .i64 4546,.int .i64 44032,.int .i64 55203,.int .i64 55296,.int .i64 57343]
def Kx:List (Int × Int):=[(0,127),(4352,4370),(4449,4469),(4520,4546),(44032,55203),(55296,57343)]
def Hq(f t:Int)(r:Int × Int):Bool:=GW f t r.1 r.2
def As8(f t:Int):Eo f t=Kx.any (Hq f t):=by
 simp[Eo,Kx,Hq]
def As9(k:Nat)(b:k<6)(w:World):(Instr.index 204 NM (.int .i64 k)).run prog w=.ok (.agg #[.int .i64 (Kx.getD k (0,0)).1,.int .i64 (Kx.getD k (0,0)).2]) w:=by
 have h:k=0\/k=1\/k=2\/k=3\/k=4\/k=5:=O;rcases h with rfl|rfl|rfl|rfl|rfl|rfl
 ·exact(show (Instr.index 204 NM (.int .i64 0)).run prog w=.ok (.agg #[.int .i64 0,.int .i64 127]) w by kernel_rfl)
 ·exact(show (Instr.index 204 NM (.int .i64 1)).run prog w=.ok (.agg #[.int .i64 4352,.int .i64 4370]) w by kernel_rfl)
 ·exact(show (Instr.index 204 NM (.int .i64 2)).run prog w=.ok (.agg #[.int .i64 4449,.int .i64 4469]) w by kernel_rfl)
 ·exact(show (Instr.index 204 NM (.int .i64 3)).run prog w=.ok (.agg #[.int .i64 4520,.int .i64 4546]) w by kernel_rfl)
 ·exact(show (Instr.index 204 NM (.int .i64 4)).run prog w=.ok (.agg #[.int .i64 44032,.int .i64 55203]) w by kernel_rfl)
 ·exact(show (Instr.index 204 NM (.int .i64 5)).run prog w=.ok (.agg #[.int .i64 55296,.int .i64 57343]) w by kernel_rfl)
def SG{b:Type}(p:b->Bool)(l:List b)(k:Nat)(d:b)(ba:k<l.length):(l.take (k+1)).any p=((l.take k).any p||p (l.getD k d)):=by
 rw[E9 ba,MP,MQ,List.any_nil,U6];exact Gc
def SF{b:Type}(p:b->Bool)(l:List b)(k:Nat)(h:(l.take k).any p=true):l.any p=true:=by
 rw[JS]at h|-;obtain⟨x,c,e⟩:=h;exact⟨x,KW c,e⟩
def Fj{b:Type}(p:b->Bool)(l:List b)(k:Nat)(d:b)(ba:k<l.length):(l.take (k+1)).all p=((l.take k).all p&&p (l.getD k d)):=by
 rw[E9 ba,IE,DQ,Gf,JP];exact Gc
def D4{b:Type}(p:b->Bool)(l:List b)(k:Nat)(h:(l.take k).all p=false):l.all p=false:=by
 rw[<-I8,AR]at h|-;exact λc=>h λx e=>c x (KW e)
def AlC(f t:Int)(w:World)(F:Bi w):Calls prog 199 #[.int .i64 f,.int .i64 t] w (Ar (.bool (Eo f t)) w):=by
 have m:=U (As8 f t);obtain⟨⟨G,c,be,L,ac,am⟩,⟨a9,a',ba,bc,bd,bl⟩⟩:=F;go_enter func199,ntmps199;go_wp2;go_loopw[8] (λi wr=>∃k:Nat,k<=6/\i=.int .i64 k/\Hid ((Kx.take k).any (Hq f t)=false)/\Hid (Below w.heap.size w wr)) (λi _=>6-(intOf i).toNat)
 case atStart=>exact⟨0,O,rfl,rfl,Al _ _⟩
 case round=>
  clear G c be L ac am a9 a' ba bc bd bl;obtain⟨k,bs,rfl,q,ad⟩:=hrel;by_cases s:k<6
  ·have A:=As9 k s;have e:=SG (Hq f t) Kx k (0,0) (by simpa[Kx] using s);rw[q.out,FE]at e;obtain⟨⟨a,b⟩,C⟩:∃r,Kx.getD k (0,0)=r:=⟨_,rfl⟩;rw[C]at A e;simp only[Hq,GW]at e;simp only at A;have h:=U e;clear e C;by_cases c:f<=b
   ·by_cases be:a<=t
    ·have dm:Hid (Eo f t=true):=by
      unfold Hid;rw[m.out];exact SF _ _ (k+1) (by rw[h.out];simp[c,be])
     go_wp2;go_ret;rw[dm.out];exact⟨rfl,ad.out.alloc ad.out.size _⟩
    ·have bb:Hid ((Kx.take (k+1)).any (Hq f t)=false):=by unfold Hid;rw[h.out];simp[be]
     exact AAC
   ·have bb:Hid ((Kx.take (k+1)).any (Hq f t)=false):=by unfold Hid;rw[h.out];simp[c]
    have fH:decide (f<=b)=false:=Ai c;exact AiB
  ·obtain rfl:k=6:=by omega
   have dm:Hid (Eo f t=false):=by unfold Hid;rw[m.out];exact q.out
   exact Ahw
def Ab0(f t: Int)(B: Bool)(w: World)(b: Bi w)(c: Hid (Eo f t = B)) :
  Calls prog 199 #[.int .i64 f,.int .i64 t] w (Ar (.bool B) w):=c.out▸AlC f t w b
def Ade(c:Int)(w:World)(b:Bi w):Calls prog 202 #[.int .i64 c] w (Ar (.bool (Bz c)) w):=by
 have m:=U b;obtain⟨B,h⟩:∃B,Hid (Eo c c=B):=⟨_,rfl⟩;have q:Hid (Bz c=B):=h;clear b;go_enter func202,ntmps202;go_wp2_with fail;refine(Ab0 c c B _ m.out h).mono ?_;rintro e w1 ⟨rfl,k⟩;have s:=U k;clear k;go_wp2;go_ret;rw[q.out];exact⟨rfl,s.out⟩
def Aoc(c:Int)(B:Bool)(w:World)(b:Bi w)(e:Hid (Bz c=B)):Calls prog 202 #[.int .i64 c] w (Ar (.bool B) w):=e.out▸Ade c w b
def AdM(c:Int)(w:World):Calls prog 254 #[.int .i64 c] w λe w'=>e=.returned (.bool (F_ c))/\w=w':=by
 by_cases b:97<=c
 ·by_cases h:c<=122
  ·have b1:Hid (F_ c=true):=Ty.2 ⟨b,h⟩;exact AiL
  ·have b1:Hid (F_ c=false):=by unfold Hid F_;simp[h]
   have k:decide (c<=122)=false:=Ai h;exact AiL
 ·have b1:Hid (F_ c=false):=by unfold Hid F_;simp[b]
  have k:decide (97<=c)=false:=Ai b;exact AiL
def Adb(c:Int)(w:World):Calls prog 279 #[.int .i64 c] w λe w'=>e=.returned (.bool false)/\w=w':=by
 have h:(c !=c)=false:=J;go_enter func279,ntmps279;exact I7
def G5(a b:Int):Int:=if a<b then -1 else if b<a then 1 else 0
def Aln(a b:Int)(w:World):Calls prog 246 #[.int .i64 a,.int .i64 b] w λe w'=>e=.returned (.int .i64 (G5 a b))/\w=w':=by
 by_cases c:a<b
 ·have cp:Hid (G5 a b = -1):=by unfold Hid G5;rw[N c]
  exact AiF
 ·by_cases h:b<a
  ·have cp:Hid (G5 a b=1):=by unfold Hid G5;rw[V c,N h]
   exact AiF
  ·have cp:Hid (G5 a b=0):=by unfold Hid G5;rw[V c,V h]
   exact AiF
def Alo(a b z:Int)(w:World)(c:Hid (G5 a b=z)):Calls prog 246 #[.int .i64 a,.int .i64 b] w λe w'=>e=.returned (.int .i64 z)/\w=w':=c.out▸Aln a b w
def SS(f:Int)(v:Value)(c z:Int)(w:World)(b:Hid (G5 f c=z)):Calls prog 262 #[.agg #[.int .i64 f,v],.int .i64 c] w (Ar (.int .i64 z) w):=by
 go_enter func262,ntmps262;go_wp2_with (go_at_call 246;refine(Alo _ _ _ _ b).mono ?_;rintro e w' ⟨rfl,rfl⟩);go_ret;exact ZX
def AaC(l:List Mp)(c:Int)(w:World)(e:Ending)(w':World):Prop:=
 ∃i:Nat,e=.returned (.tuple #[.int .i64 i,.bool (AP l c)])/\i<=l.length/\(AP l c=true->i<l.length/\(l.getD i Ay).1=c/\As l c=(l.getD i Ay).2)/\Below w.heap.size w w'
def AcQ(l:List Mp)(k:Nat):(AC l).getD k 0=(l.getD k Ay).1:=by
 simp only[AC,Cz,Gg];cases l[k]? <;> rfl
def Wi(l:List Mp):(AC l).length=l.length:=by simp[AC]
def Am9(l:List Mp)(k:Nat):AC (l.take k)=(AC l).take k:=by simp[AC]
def Anv(l:List Mp)(c:Int):AP l c=(AC l).contains c:=by
 rw[Gd,Nr,PJ];simp[AC]
def Qo(l:List Int)(k:Nat)(h:k<l.length):l.drop k=l.getD k 0::l.drop (k+1):=by
 rw[EP h];simp[h]
def Ac7{l:List Int}{k8 dI c:Int}(k:AL k8 dI l=true)(m:Nat)(e:m<l.length)(h:l.getD m 0<c):∀s∈l.take (m+1),s<c:=by
 intro s b;rw[C4 l m e]at b;rcases Bg.1 b with b|b
 ·have:=(VD k m e).1 s b;omega
 ·rw[Ch]at b;subst b;exact h
def Ac6{l:List Int}{k8 dI c:Int}(k:AL k8 dI l=true)(m:Nat)(e:m<l.length)(h:c<=l.getD m 0):∀s∈l.drop m,c<=s:=by
 intro s b;rw[Qo l m e]at b;rcases AX.1 b with rfl|b
 ·exact h
 ·have:=(VD k m e).2 s b;omega
def Ad7{l:List Int}{k8 dI c:Int}(m:AL k8 dI l=true)(r:Nat)(q:∀s∈l.take r,s<c)(A:∀s∈l.drop r,c<=s):(r=l.length->l.contains c=false)/\(r<l.length->c<l.getD r 0->l.contains c=false)/\(r<l.length->l.getD r 0=c->l.contains c=true):=by
 have b:c∈l↔c∈l.drop r:=by
  constructor
  ·intro h;rw[<-FG r l]at h;rcases Bg.1 h with h|h
   ·have:=q c h;omega
   ·exact h
  ·exact Aar
 refine⟨λh=>?_,λh e=>?_,λh e=>?_⟩
 ·rw[<-I8,PJ,b,h,Vd];simp
 ·rw[<-I8,PJ,b,Qo l r h,AX];rintro (k|k)
  ·omega
  ·have:=(VD m r h).2 c k;omega
 ·rw[PJ,b,Qo l r h,e];simp
def Ow{l:List Mp}{k8 dI:Int}(c:AL k8 dI (AC l)=true)(k:Nat)(h:k<l.length):As l (l.getD k Ay).1=(l.getD k Ay).2:=by
 have b:=Akh c;clear c
 induction l generalizing k with
 | nil=>simp at h
 | cons m r s =>
  simp only[AC,BH,Vk]at b;cases k with
  | zero=>simp[As]
  | succ k =>
   have q:k<r.length:=Co;have e:((m::r).getD (k+1) Ay)=r.getD k Ay:=J;rw[e,As,V]
   ·exact s k q b.2
   ·intro A;apply b.1;rw[A];exact List.mem_map_of_mem (TF r k q)
def AkJ(p:Option Addr)(n bx:Nat)(l:List Mp)(c:Int)(w:World)(F:l.length=n)(b6:n<=17592186043904)(ba:J6 w p l)(bb:AL 0 1114111 (AC l)=true):Calls prog 261 #[.slice p n bx,.int .i64 c,.func (.func 262) #[] #[]] w (AaC l c w):=by
 have bc:=U ba;have cF:=U F;have q:=U bb;have A:Hid ((AC l).length=n):=(Wi l).trans F;clear ba F bb;go_enter func261,ntmps261;go_wp2;go_loopw[9,10] (λx y wr=>∃a b:Nat,a<=b/\b<=n/\x=.int .i64 a/\y=.int .i64 b/\Hid (∀s∈(AC l).take a,s<c)/\Hid (∀s∈(AC l).drop b,c<=s)/\Hid (Below w.heap.size w wr)) (λx y _=>(intOf y-intOf x).toNat)
 case atStart=>
  refine⟨0,n,Au _,Ac _,rfl,rfl,DH,?_,Al _ _⟩;unfold Hid;rw[G0 (BW A.out)];simp
 case round=>
  obtain⟨a,b,b7,lT,rfl,rfl,a',be,ad⟩:=hrel;by_cases b8:a<b
  ·obtain⟨m,b0⟩:∃m:Nat,m=(a+b)/2:=⟨_,rfl⟩;have b9:a<=m:=O;have b':m<b:=O;have b1:m<l.length:=LP;have bd:m<(AC l).length:=by rw[A.out];omega
   have ca:((a:Int)+(b:Int))/2=(m:Int):=O;obtain⟨g,ff,v,rfl,G,b2,_⟩:=(bc.out.below ad.out) m b1;obtain⟨f,k⟩:∃f,(l.getD m Ay).1=f:=⟨_,rfl⟩;rw[k]at G;have c6:Hid ((AC l).getD m 0=f):=(AcQ l m).trans k;clear k b0;obtain⟨z,h⟩:∃z,Hid (G5 f c=z):=⟨_,rfl⟩;by_cases ii:f<c
   ·have bl:z<0:=by rw[<-h.out,G5,N ii];omega
    have i2:Hid (∀s∈(AC l).take (m+1),s<c):=Ac7 q.out m bd Ah';have b3:decide (z<0)=true:=At bl;go_wp2_with fail;refine(SS f v c z _ h).mono ?_;exact Aya
   ·have bl:0<=z:=by rw[<-h.out,G5,V ii];split<;>omega
    have hM:Hid (∀s∈(AC l).drop m,c<=s):=Ac6 q.out m bd Ain;have b3:decide (z<0)=false:=Ai O;go_wp2_with fail;refine(SS f v c z _ h).mono ?_;exact Ayc
  ·obtain rfl:a=b:=by omega
   obtain⟨jc,fL,ec⟩:=Ad7 q.out a a'.out be.out;rw[A.out]at jc fL ec;rw[<-Anv]at jc fL ec;by_cases C:a<n
   ·have L:a<l.length:=by rw[cF.out];exact C
    obtain⟨g,ff,v,rfl,G,b2,_⟩:=(bc.out.below ad.out) a L;have bs:c<=(AC l).getD a 0:=be.out _ (by rw[Qo _ a (by rw[A.out];exact C)];simp);have ac:=Ow q.out a L;rw[AcQ]at fL ec bs;obtain⟨f,k⟩:∃f,(l.getD a Ay).1=f:=⟨_,rfl⟩;rw[k]at G fL ec bs ac;have c6:=U k;have b4:=U ac;clear k jc ac;obtain⟨z,h⟩:∃z,Hid (G5 f c=z):=⟨_,rfl⟩;by_cases am:c<f
    ·have b5:(z==0)=false:=by rw[<-h.out,G5,V O,N am];rfl
     have bv:=U (fL C am);clear fL ec;go_wp2_with fail;refine(SS f v c z _ h).mono ?_;exact Avj
    ·have b5:(z==0)=true:=by rw[<-h.out,G5,V O,V am];rfl
     have a9:f=c:=O;have bv:=U (ec C a9);have bt:=U a9;clear fL ec a9;go_wp2_with fail;refine(SS f v c z _ h).mono ?_;rintro e w2 ⟨rfl,dK⟩;have cx:=U (ad.out.trans (dK.mono ad.out.size));clear dK;go_wp2;go_ret2;exact⟨a,KK,LP,λ_=>⟨L,by rw[c6.out,bt.out],by rw[<-bt.out];exact b4.out⟩,cx.out⟩
   ·exact AyM
def Lm(b:Value)(l:List Mp)(c:Int)(w:World)(m:DK w b l)(h:AL 0 1114111 (AC l)=true):Calls prog 216 #[b,.int .i64 c] w (AaC l c w):=by
 obtain⟨p,q,rfl,k,s⟩:=m;have A:=U k;have C:=U h;clear k h;go_enter func216,ntmps216;go_wp2_with fail;refine(AkJ p l.length q l c _ rfl s A.out C.out).mono ?_;exact AvN
end Go.Proofs.YtblcoicaeeiojaaGreatDoor
namespace Go.Proofs.YtblcoicaeeiojaaGreatDoor
abbrev Lr(l:List Mp)(i:Nat):Int:=(l.getD i Ay).1
def Fg(l:List Mp)(S b:List Int):Prop:=
 b.length=S.length/\∀i,i<S.length->(S.getD i 0≠0->b.getD i 0=S.getD i 0)/\(S.getD i 0=0->b.getD i 0=0\/b.getD i 0=A' l (Lr l i))
def Kn(l:List Mp)(S:List Int)(c:Int):Prop:=
 ∀i,i<S.length->S.getD i 0≠0->S.getD i 0=A' l (Lr l i)\/(S.getD i 0=19/\Gm l (Lr l i) c)
def Hi:List Int->Nat
 | []=>0
 | z::r=>(if z=0 then 1 else 0)+Hi r
theorem Fg.refl(l:List Mp)(S:List Int):Fg l S S:=⟨rfl,λ_ _=>⟨λ_=>rfl,λh=>.inl h⟩⟩
def AtF(l:List Mp)(c:Int):(A' l c:Int)≠0:=by have:=Rd l c;omega
theorem Fg.trans{l:List Mp}{A B c:List Int}(h:Fg l A B)(k:Fg l B c):Fg l A c:=by
 refine⟨k.1.trans h.1,λi dI=>?_⟩;have m:=h.2 i dI;have b:=k.2 i (by rw[h.1];exact dI);refine⟨λq=>?_,λs=>?_⟩
 ·have e:=m.1 q;rw[b.1 (by rw[e];exact q),e]
 ·rcases m.2 s with e|e
  ·exact b.2 e
  ·exact .inr ((b.1 (by rw[e];exact AtF _ _)).trans e)
theorem Ahe:∀(A B:List Int),B.length=A.length->(∀i,i<A.length->A.getD i 0≠0->B.getD i 0≠0)->Hi B<=Hi A
 | [],B,c,_=>by
  have:B=[]:=Bw c;subst this;exact Ac _
 | a::A,[],c,_=>by simp at c
 | a::A,b::B,c,h=>by
  have k:=h 0 J;have q:=Ahe A B (by simpa using c) λi dI m=>by
   have:=h (i+1) Iz;simp only[CS]at this;exact this m
  simp only[DI]at k;simp only[Hi];by_cases e:a=0
  ·rw[N e];split<;>omega
  ·rw[V e,V (k e)];omega
theorem Fg.dD{l:List Mp}{A B:List Int}(h:Fg l A B):Hi B<=Hi A:=
 Ahe A B h.1 λi dI b=>by rw[(h.2 i dI).1 b];exact b
theorem Ahf:∀(A:List Int) (i:Nat) (v:Int),i<A.length->A.getD i 0=0->v≠0->Hi (A.set i v)+1=Hi A
 | [],_,_,dI,_,_=>by simp at dI
 | a::A,0,v,_,b,c=>by
  simp only[DI]at b;simp only[Sj,Hi,N b,V c];omega
 | a::A,i+1,v,dI,b,c=>by
  have:=Ahf A i v Iz (by simpa using b) c;simp only[Si,Hi];omega
def Tl(A:List Int)(i j:Nat)(v:Int)(dI:i<A.length):(A.set i v).getD j 0=if j=i then v else A.getD j 0:=by
 simp only[Cz,List.getElem?_set];by_cases h:i=j
 ·subst h;simp[dI]
 ·rw[V h,V (λe=>h e.symm)]
theorem Kn.part{l:List Mp}{S q:List Int}{c d:Int}{i:Nat}(G:Kn l S c)(dI:i<S.length)(L:Lr l i=c)(s:d∈As l c)(A:Fg l (S.set i 19) q):Kn l q d:=by
 intro j C ac;have F:j<S.length:=by rw[A.1,JV]at C;exact C
 have b:=A.2 j (by rw[JV];exact F);rw[Tl S i j 19 dI]at b;by_cases k:j=i
 ·rw[N k]at b;have e:=b.1 O;rw[e,k,L];exact .inr ⟨rfl,.one s⟩
 ·rw[V k]at b;by_cases m:S.getD j 0=0
  ·rcases b.2 m with e|e
   ·exact absurd e ac
   ·exact .inl e
  ·have e:=b.1 m;rw[e];rcases G j F m with h|h
   ·exact .inl h
   ·exact .inr ⟨h.1,h.2.snoc s⟩
theorem Fg.done{l:List Mp}{S b:List Int}{i:Nat}{v:Int}(dI:i<S.length)(q:S.getD i 0=0)(e:Fg l (S.set i 19) b)(s:v=A' l (Lr l i)):Fg l S (b.set i v):=by
 have k:b.length=S.length:=by rw[e.1,JV]
 refine⟨by rw[JV,k],λj A=>?_⟩;have c:=e.2 j (by rw[JV];exact A);rw[Tl S i j 19 dI]at c;rw[Tl b i j v (by rw[k];exact dI)];by_cases m:j=i
 ·subst m;rw[N rfl];exact⟨λh=>absurd q h,λ_=>.inr s⟩
 ·rw[V m]at c|-;exact c
theorem Kn.found{l:List Mp}{S:List Int}{c:Int}{i:Nat}(e:Kn l S c)(dI:i<S.length)(b:Lr l i=c)(k:S.getD i 0≠0):S.getD i 0=A' l c:=by
 rcases e i dI k with h|h
 ·rw[h,b]
 ·rw[h.1];have:=h.2;rw[b]at this;rw[AtG this];rfl
def Rg(l:List Mp)(y:List Int):Nat:=(y.map (A' l)).sum
def At8(l:List Mp)(y:List Int)(d:Int):Rg l (y++[d])=Rg l y+A' l d:=by simp[Rg]
end Go.Proofs.YtblcoicaeeiojaaGreatDoor
namespace Go.Proofs.YtblcoicaeeiojaaGreatDoor
open Go.RowKit
def Ho(f t c:Int):Int:=if t<c then -1 else if c<f then 1 else 0
def Alp(f t v c:Int)(w:World):Calls prog 282 #[.agg #[.int .i64 f,.int .i64 t,.int .i64 v],.int .i64 c] w (Ar (.int .i64 (Ho f t c)) w):=by
 by_cases b:t<c
 ·have cp:Hid (Ho f t c = -1):=by unfold Hid Ho;rw[N b]
  exact AiM
 ·by_cases e:c<f
  ·have cp:Hid (Ho f t c=1):=by unfold Hid Ho;rw[V b,N e]
   exact AiM
  ·have cp:Hid (Ho f t c=0):=by unfold Hid Ho;rw[V b,V e]
   exact AiM
def SV(f t v c z: Int)(w: World)(b: Hid (Ho f t c = z)) :
  Calls prog 282 #[.agg #[.int .i64 f,.int .i64 t,.int .i64 v],.int .i64 c] w (Ar (.int .i64 z) w):=b.out▸Alp f t v c w
def AaD(l:List Sp)(c:Int)(w:World)(e:Ending)(w':World):Prop:=
 ∃i:Nat,e=.returned (.tuple #[.int .i64 i,.bool (val l c).isSome])/\i<=l.length/\((val l c).isSome=true->i<l.length/\val l c=some (l.getD i A_).2.2)/\Below w.heap.size w w'
def AtT{l:List Sp}{k8 c:Int}(k:AH k8 l=true)(m:Nat)(e:m<l.length)(h:(l.getD m A_).2.1<c):∀s∈l.take (m+1),s.2.1<c:=by
 intro s b;rw[JE l m e]at b;rcases Bg.1 b with b|b
 ·have:=(SJ k m e).1 s b;have:=Lh k (Nn l m e);omega
 ·rw[Ch]at b;subst b;exact h
def AtQ{l:List Sp}{k8 c:Int}(e:AH k8 l=true)(m:Nat)(k:m<l.length)(h:c<=(l.getD m A_).2.1):∀s∈l.drop m,c<=s.2.1:=by
 intro s b;rw[Nd l m k]at b;rcases AX.1 b with rfl|b
 ·exact h
 ·have:=(SJ e m k).2 s b;have:=Lh e (Aar b);omega
def AuO{l:List Sp}{c:Int}(k:AH 0 l=true)(r:Nat)(b:∀s∈l.take r,s.2.1<c)(m:∀s∈l.drop r,c<=s.2.1):(r=l.length->val l c=none)/\(r<l.length->c<(l.getD r A_).1->val l c=none)/\(r<l.length->(l.getD r A_).1<=c->val l c=some (l.getD r A_).2.2):=by
 refine⟨λh=>?_,λh e=>?_,λh e=>?_⟩
 ·rw[Yt r b,h,Vd];rfl
 ·rw[Yt r b];have:=Akn r k;rw[Nd l r h,Ji]at this;rw[Nd l r h,MA,V O];exact AgO this.2.2.2 (.inl O)
 ·rw[Yt r b,Nd l r h,MA,N ⟨e,m _ (by rw[Nd l r h];simp)⟩]
def AkK(p:Option Addr)(n bd:Nat)(l:List Sp)(c:Int)(w:World)(ac:l.length=n)(bx:n<=17592186043904)(am:Cs w p l)(a9:AH 0 l=true):Calls prog 281 #[.slice p n bd,.int .i64 c,.func (.func 282) #[] #[]] w (AaD l c w):=by
 have ba:=U am;have cF:=U ac;have F:=U a9;clear am ac a9;go_enter func281,ntmps281;go_wp2;go_loopw[9,10] (λx y wr=>∃a b:Nat,a<=b/\b<=n/\x=.int .i64 a/\y=.int .i64 b/\Hid (∀s∈l.take a,s.2.1<c)/\Hid (∀s∈l.drop b,c<=s.2.1)/\Hid (Below w.heap.size w wr)) (λx y _=>(intOf y-intOf x).toNat)
 case atStart=>
  refine⟨0,n,Au _,Ac _,rfl,rfl,DH,?_,Al _ _⟩;unfold Hid;rw[G0 (BW cF.out)];simp
 case round=>
  obtain⟨a,b,b0,lT,rfl,rfl,a',be,ad⟩:=hrel;by_cases b1:a<b
  ·obtain⟨m,bl⟩:∃m:Nat,m=(a+b)/2:=⟨_,rfl⟩;have b2:a<=m:=O;have b3:m<b:=O;have G:m<l.length:=LP;have b4:((a:Int)+(b:Int))/2=(m:Int):=O;obtain⟨g,ff,rfl,q,A,C⟩:=(ba.out.below ad.out) m G;obtain⟨⟨f,t,v⟩,k⟩:∃s,l.getD m A_=s:=⟨_,rfl⟩;rw[k]at q A C;have c6:=U k;clear k bl;obtain⟨z,h⟩:∃z,Hid (Ho f t c=z):=⟨_,rfl⟩;by_cases ii:t<c
   ·have bb:z<0:=by rw[<-h.out,Ho,N ii];omega
    have i2:Hid (∀s∈l.take (m+1),s.2.1<c):=AtT F.out m G Ah';have bs:decide (z<0)=true:=At bb;go_wp2_with fail;refine(SV f t v c z _ h).mono ?_;exact Aya
   ·have bb:0<=z:=by rw[<-h.out,Ho,V ii];split<;>omega
    have hM:Hid (∀s∈l.drop m,c<=s.2.1):=AtQ F.out m G (by rw[c6.out];simp only;omega);have bs:decide (z<0)=false:=Ai O;go_wp2_with fail;refine(SV f t v c z _ h).mono ?_;exact Ayc
  ·obtain rfl:a=b:=by omega
   obtain⟨jc,fL,ec⟩:=AuO F.out a a'.out be.out;rw[cF.out]at jc fL ec;by_cases hP:a<n
   ·obtain⟨g,ff,rfl,q,A,C⟩:=(ba.out.below ad.out) a Zk;have bc:c<=(l.getD a A_).2.1:=be.out _ (by rw[Nd l a Zk];simp);obtain⟨⟨f,t,v⟩,k⟩:∃s,l.getD a A_=s:=⟨_,rfl⟩;rw[k]at q A C fL ec bc;simp only at q A C fL ec bc;have c6:=U k;clear k jc;obtain⟨z,h⟩:∃z,Hid (Ho f t c=z):=⟨_,rfl⟩;by_cases L:c<f
    ·have bt:(z==0)=false:=by rw[<-h.out,Ho,V O,N L];rfl
     have bv:=U (fL hP L);clear fL ec;go_wp2_with fail;refine(SV f t v c z _ h).mono ?_;exact Avj
    ·have bt:(z==0)=true:=by rw[<-h.out,Ho,V O,V L];rfl
     have bv:=U (ec hP O);clear fL ec;go_wp2_with fail;refine(SV f t v c z _ h).mono ?_;rintro e w2 ⟨rfl,dK⟩;have cx:=U (ad.out.trans (dK.mono ad.out.size));clear dK;go_wp2;go_ret2;exact⟨a,KK,LP,λ_=>⟨Zk,by rw[bv.out,c6.out]⟩,cx.out⟩
   ·exact AyM
def We(b:Value)(l:List Sp)(c:Int)(w:World)(m:Cw w b l)(h:AH 0 l=true):Calls prog 263 #[b,.int .i64 c] w (AaD l c w):=by
 obtain⟨p,q,rfl,k,s⟩:=m;have A:=U k;have C:=U h;clear k h;go_enter func263,ntmps263;go_wp2_with fail;refine(AkK p l.length q l c _ rfl s A.out C.out).mono ?_;exact AvN
def AuT(A:Value)(l:List Sp)(c d:Int)(w:World)(ad:Cw w A l)(C:AH 0 l=true):Calls prog 220 #[A,.int .i64 c,.int .i64 d] w (Ar (.int .i64 ((val l c).getD d)) w):=by
 obtain⟨p,F,rfl,G,L⟩:=ad;have q:=U G;have ac:=U C;clear G C;cases h:val l c with
 | none =>
  have s:=U h;clear h;go_enter func220,ntmps220;go_wp2_with fail;refine(We _ l c _ ⟨p,F,rfl,q.out,L⟩ ac.out).mono ?_;rintro e w1 ⟨i,rfl,dI,k,b⟩;rw[s.out];have b1:=U b;clear b k;simp only[Option.isSome_none];exact ML
 | some z =>
  have s:=U h;clear h;go_enter func220,ntmps220;go_wp2_with fail;refine(We _ l c _ ⟨p,F,rfl,q.out,L⟩ ac.out).mono ?_;rintro e w1 ⟨i,rfl,dI,k,b⟩;rw[s.out]at k|-;obtain⟨am,m⟩:=k rfl;obtain⟨g,ff,rfl,a9,a',ba⟩:=(q.out.below b) i am;injection m with m;rw[<-m]at ba;have b1:=U b;clear b a9 a' m;simp only[PT];exact ML
def Pe(b: Value)(l: List Sp)(c d z: Int)(w: World)(e: Cw w b l)(h: AH 0 l = true)(k: Hid ((val l c).getD d = z)) :
  Calls prog 220 #[b,.int .i64 c,.int .i64 d] w (Ar (.int .i64 z) w):=k.out▸AuT b l c d w e h
def AdJ(a b:Int)(B:Bool)(w:World)(c:Hid (decide (a<b)=B)):Calls prog 293 #[.int .i64 a,.int .i64 b] w λe w'=>e=.returned (.bool B)/\w=w':=by
 have h:=c.out;go_enter func293,ntmps293;go_wp2_with (go_at_call 279;refine(Adb _ _).mono ?_;rintro e w' ⟨rfl,rfl⟩);go_ret;exact⟨by rw[<-h];rfl,rfl⟩
def Atg(c:Int)(w:World):Calls prog 294 #[.int .i64 c] w λe w'=>e=.returned (.bool false)/\w=w':=by
 have h:(c !=c)=false:=J;go_enter func294,ntmps294;exact I7
def AjB(l:List Int)(c:Int)(w:World)(e:Ending)(w':World):Prop:=
 ∃i:Nat,e=.returned (.tuple #[.int .i64 i,.bool (l.contains c)])/\w=w'
def AkI(p:Option Addr)(n bc:Nat)(l:List Int)(c:Int)(w:World)(ad:l.length=n)(b2:n<=17592186043904)(am:Aq w p l)(a9:AL 0 1114111 l=true):Calls prog 280 #[.slice p n bc,.int .i64 c] w (AjB l c w):=by
 have a':=U am;have cF:=U ad;have C:=U a9;clear am ad a9;go_enter func280,ntmps280;go_wp2;go_loop[7,8] (λx y=>∃a b:Nat,a<=b/\b<=n/\x=.int .i64 a/\y=.int .i64 b/\Hid (∀s∈l.take a,s<c)/\Hid (∀s∈l.drop b,c<=s)) (λx y=>(intOf y-intOf x).toNat)
 case atStart=>
  refine⟨0,n,Au _,Ac _,rfl,rfl,DH,?_⟩;unfold Hid;rw[G0 (BW cF.out)];simp
 case round=>
  obtain⟨a,b,b3,bd,rfl,rfl,ba,F⟩:=hrel;by_cases b4:a<b
  ·obtain⟨m,be⟩:∃m:Nat,m=(a+b)/2:=⟨_,rfl⟩;have b5:a<=m:=O;have b6:m<b:=O;have G:m<l.length:=LP;have b7:((a:Int)+(b:Int))/2=(m:Int):=O;obtain⟨g,ff,rfl,L⟩:=a'.out m G;obtain⟨f,h⟩:∃f,l.getD m 0=f:=⟨_,rfl⟩;rw[h]at L;have c6:=U h;clear h be;by_cases ii:f<c
   ·have ac:Hid (decide (f<c)=true):=At ii;have bl:Hid (∀s∈l.take (m+1),s<c):=Ac7 C.out m G Ah';go_wp2_with fail;refine(AdJ f c true _ ac).mono ?_;rintro e w2 ⟨rfl,rfl⟩;go_wp2;go_round
    case rel=>exact⟨m+1,b,O,bd,An,rfl,bl,F⟩
    case measure=>simp[intOf];omega
   ·have ac:Hid (decide (f<c)=false):=Ai ii;have bs:Hid (∀s∈l.drop m,c<=s):=Ac6 C.out m G Ain;go_wp2_with fail;refine(AdJ f c false _ ac).mono ?_;rintro e w2 ⟨rfl,rfl⟩;go_wp2;go_round
    case rel=>exact⟨a,m,O,O,rfl,rfl,ba,bs⟩
    case measure=>simp[intOf];omega
  ·obtain rfl:a=b:=by omega
   obtain⟨A,k,q⟩:=Ad7 C.out a ba.out F.out;rw[cF.out]at A k q;by_cases hP:a<n
   ·have bt:a<l.length:=by rw[cF.out];exact hP
    obtain⟨g,ff,rfl,L⟩:=a'.out a bt;have bx:c<=l.getD a 0:=F.out _ (by rw[Qo _ a Zk];simp);obtain⟨f,h⟩:∃f,l.getD a 0=f:=⟨_,rfl⟩;rw[h]at L k q bx;clear h A;by_cases b0:c<f
    ·have b1:(f==c)=false:=by simp;omega
     have bv:=U (k hP b0);clear k q;exact AyJ
    ·have bb:f=c:=by omega
     have b1:(f==c)=true:=Ae;have bv:=U (q hP bb);clear k q bb;exact AyJ
   ·have bv:=U (A O);clear A k q;go_wp2;go_ret2;exact⟨a,KK,rfl⟩
def Hn(x:TV)(T:Y)(c z:Int)(w:World)(b:Ah w x T)(h:AH 0 T.ai=true)(m:Hid (Ao T c=z)):Calls prog 155 #[x.agg,.int .i64 c] w (Ar (.int .i64 z) w):=by
 obtain⟨a0,a1,a2,a3,a4,a5,A,C,F,G,L,ac⟩:=x;have q:=U b;have s:=U h;clear b h;simp only[TV.agg];go_enter func155,ntmps155;go_wp2_with fail;refine(Pe a1 T.ai c 0 z _ ((q.out.alloc _).ai) s.out m).mono ?_;rintro e w1 ⟨rfl,k⟩;have b1:=U (((Al w.heap.size w).alloc (Ac _) _).trans (k.mono J));clear k;exact ML
def Wr(x:TV)(T:Y)(c:Int)(B:Bool)(w:World)(b:Ah w x T)(h:AL 0 1114111 (AC T.dec)=true)(ef:Hid (AP T.dec c=B)):Calls prog 213 #[x.agg,.int .i64 c] w (Ar (.bool B) w):=by
 obtain⟨a0,a1,a2,a3,a4,a5,C,F,G,m,L,ac⟩:=x;have q:=U b;have s:=U h;clear b h;simp only[TV.agg];go_enter func213,ntmps213;go_wp2_with fail;refine(Lm m T.dec c _ ((q.out.alloc _).dec) s.out).mono ?_;rintro e w1 ⟨i,rfl,dI,_,k⟩;have A:=U (((Al w.heap.size w).alloc (Ac _) _).trans (k.mono J));clear k;go_wp2;go_ret;exact⟨Zq,A.out⟩
def AcG(x:TV)(T:Y)(c:Int)(B:Bool)(w:World)(b:Ah w x T)(h:AL 0 1114111 T.af=true)(s:Hid (Kh T c=B)):Calls prog 259 #[x.agg,.int .i64 c] w (Ar (.bool B) w):=by
 obtain⟨a0,a1,a2,a3,a4,a5,A,C,F,G,a',L⟩:=x;obtain⟨p,k,m,q,ac⟩:=b.af;simp only at m;subst m;have ad:=U (BE.alloc q (.cells #[a0,a1,a2,a3,a4,a5,A,C,F,G,.slice p T.af.length k,L] 26));have am:=U h;clear b h q;simp only[TV.agg];go_enter func259,ntmps259;go_wp2_with fail;refine(AkI p T.af.length k T.af c _ rfl ac ad.out am.out).mono ?_;rintro e w1 ⟨i,rfl,rfl⟩;have a9:Hid (T.af.contains c=B):=s;rw[a9.out];go_wp2;go_ret;exact ZX
end Go.Proofs.YtblcoicaeeiojaaGreatDoor
