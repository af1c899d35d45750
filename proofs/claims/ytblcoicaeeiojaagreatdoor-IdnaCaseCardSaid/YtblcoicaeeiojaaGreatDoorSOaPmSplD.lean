/- Slices of spans in memor -/
import Derived.Test.YtblcoicaeeiojaaGreatDoorSOaPmUtfSpec2
import Derived.Test.YtblcoicaeeiojaaGreatDoorSOaHdC
import Derived.Deep.DeepCutAuto
import Derived.Deep.RegionHeld3
import Derived.Deep.AppendLies
import Derived.StillTailTactics
import Derived.Lib.Zigzag
import Derived.PlainAid
set_option linter.all false
set_option maxHeartbeats 4000000
set_option maxRecDepth 100000
open Go.Proofs.Tryz
namespace Go.Proofs.YtblcoicaeeiojaaGreatDoor
open Go.RowKit
def infoSpan:(prog.info? 66).map (λi=>(i.zero,i.size,i.bytes))=some (some (.agg #[.int .i64 0,.int .i64 0,.int .i64 0]),3,24):=Ax
abbrev A_:Sp:=(0,0,0)
abbrev NP(s:Sp):Value:=.agg #[.int .i64 s.1,.int .i64 s.2.1,.int .i64 s.2.2]
def D6:List Sp->List Value
 | []=>[]
 | s::r => .int .i64 s.1 :: .int .i64 s.2.1 :: .int .i64 s.2.2::D6 r
def SP(l:List Sp):(D6 l).length=l.length*3:=by
 induction l with
 | nil=>rfl
 | cons s r b=>simp only[D6,BB,b];omega
def VO(a b:List Sp):D6 (a++b)=D6 a++D6 b:=by
 induction a with
 | nil=>rfl
 | cons s r c=>simp[D6,c]
def Abx(l:List Sp)(k:Nat)(h:k<l.length):(D6 l)[k*3]? = some (.int .i64 (l.getD k A_).1)/\(D6 l)[k*3+1]? = some (.int .i64 (l.getD k A_).2.1)/\(D6 l)[k*3+2]? = some (.int .i64 (l.getD k A_).2.2):=by
 induction l generalizing k with
 | nil=>simp at h
 | cons s r b =>
  cases k with
  | zero=>simp[D6]
  | succ k =>
   have:=b k Co;rw[show (k+1)*3=k*3+1+1+1 by omega];simpa[D6] using this
def Cs(w:World)(p:Option Addr)(l:List Sp):Prop:=
 ∀k,k<l.length->∃b ff,p=some ⟨b,ff,none⟩/\w.cell? ⟨b,ff+k*3,none⟩=some (.int .i64 (l.getD k A_).1)/\w.cell? ⟨b,ff+k*3+1,none⟩=some (.int .i64 (l.getD k A_).2.1)/\
  w.cell? ⟨b,ff+k*3+2,none⟩=some (.int .i64 (l.getD k A_).2.2)
theorem Cs.below{w w':World}{p:Option Addr}{l:List Sp}(h:Cs w p l)(c:Below w.heap.size w w'):Cs w' p l:=by
 intro k s;obtain⟨b,ff,e,q,A,C⟩:=h k s;have m:=AN w _ q;exact⟨b,ff,e,(c.cell (p:=⟨b,ff+k*3,none⟩) m).trans q,(c.cell (p:=⟨b,ff+k*3+1,none⟩) m).trans A,(c.cell (p:=⟨b,ff+k*3+2,none⟩) m).trans C⟩
theorem Cs.alloc{w:World}{p:Option Addr}{l:List Sp}(h:Cs w p l)(o:Obj):Cs (w.alloc o) p l:=
 h.below ((Al _ _).alloc (Ac _) o)
def A6(w:World)(B:Nat)(v:Value)(l:List Sp):Prop:=w.ownsRow B 66 3 v l.length (D6 l)
theorem A6.nil(w:World)(B:Nat):A6 w B (.slice none 0 0) []:=PF _ _ _ _
theorem A6.below{w w':World}{B:Nat}{v:Value}{l:List Sp}(h:A6 w B v l)(b:Below w.heap.size w w'):A6 w' B v l:=Kq h b
theorem A6.mono{w:World}{B b:Nat}{v:Value}{l:List Sp}(h:A6 w B v l)(c:b<=B):A6 w b v l:=Iv h c
theorem A6.ap{w:World}{B:Nat}{v:Value}{l:List Sp}(h:A6 w B v l):∃p cap,v=.slice p l.length cap/\Cs w p l:=by
 obtain⟨ac,e⟩:=h;rcases e with⟨rfl,m⟩|⟨g,cap,q,rfl,ad,s,am,a9,a',A⟩
 ·have:l=[]:=Bw m;subst this;exact⟨none,0,rfl,λk ba=>I4⟩
 ·refine⟨_,cap,rfl,λk ba=>⟨g,0,rfl,?_⟩⟩;have b:∀j v,j<l.length*3->(D6 l)[j]? = some v->w.cell? ⟨g,j,none⟩=some v:=by
   intro j v C c;rw[Es w g j q _ (0,0) s];rw[<-A,Eu,N C]at c;simpa using c
  obtain⟨F,G,L⟩:=Abx l k ba;refine⟨?_,?_,?_⟩
  ·rw[BY];exact b _ _ O F
  ·rw[BY];exact b _ _ O G
  ·rw[BY];exact b _ _ O L
def JE(l:List Sp)(k:Nat)(h:k<l.length):l.take (k+1)=l.take k++[l.getD k A_]:=by
 rw[E9 h];simp[h]
def Nd(l:List Sp)(k:Nat)(h:k<l.length):l.drop k=l.getD k A_::l.drop (k+1):=by
 rw[EP h];simp[h]
def Nn(l:List Sp)(k:Nat)(h:k<l.length):l.getD k A_∈l:=JM
def SK(k8:Int)(a:List Sp)(s:Sp):AH k8 (a++[s])=true↔AH k8 a=true/\ends k8 a<=s.1/\s.1<=s.2.1/\s.2.1<=1114111:=by
 rw[P_,Ji];simp[AH]
def Akq{k8:Int}{l:List Sp}(k:Nat)(h:AH k8 (l.take k)=false):AH k8 l=false:=by
 cases b:AH k8 l with
 | false=>rfl
 | true =>
  rw[<-FG k l,P_]at b;rw[b.1]at h;cases h
def GC(l:List Sp):Bool:=decide (l.length<=256)&&AH 0 l
def Aa9{l:List Sp}(h:AH 0 l=true)(k:Nat)(b:k<l.length):0<=(l.getD k A_).1/\(l.getD k A_).1<=(l.getD k A_).2.1/\(l.getD k A_).2.1<=1114111:=by
 have:=Lh h (Nn l k b);omega
def Aoe(p:Option Addr)(n c:Nat)(l:List Sp)(w:World)(L:l.length=n)(a':n<=maxLen)(ac:Cs w p l):Calls prog 252 #[.slice p n c] w λe w'=>e=.returned (.bool (GC l))/\Below w.heap.size w w':=by
 unfold maxLen at a';have ba:=U ac;have q:=U L;clear ac L;by_cases b2:256<n
 ·have bv:Hid (GC l=false):=by unfold Hid GC;rw[q.out,Ai O];rfl
  go_enter func252,ntmps252;exact Axq
 ·go_enter func252,ntmps252;go_wp2;go_loopw[3,11] (λv i wr=>∃k:Nat,k<=n/\i=.int .i64 k/\(∃e:Int,0<=e/\e<=1114112/\v=.int .i64 e/\Hid (ends 0 (l.take k)=e))/\Hid (AH 0 (l.take k)=true)/\Below w.heap.size w wr) (λ_ i _=>n-(intOf i).toNat)
  case atStart=>exact⟨0,Au _,rfl,⟨0,O,O,rfl,rfl⟩,rfl,Al _ _⟩
  case round=>
   obtain⟨k,b3,rfl,⟨e,b4,b5,rfl,ad⟩,am,m⟩:=hrel;by_cases bb:k<n
   ·have A:k<l.length:=by rw[q.out];exact bb
    obtain⟨b,ff,rfl,bc,bd,be⟩:=(ba.out.below m) k A;have b1:=U m;obtain⟨⟨f,t,v⟩,C⟩:∃s,l.getD k A_=s:=⟨_,rfl⟩;rw[C]at bc bd be;have F:=U C;clear C m;by_cases G:e<=f/\f<=t/\t<=1114111
    ·obtain⟨bl,bs,bt⟩:=G;have bx:Hid (AH 0 (l.take (k+1))=true):=by
      unfold Hid;rw[JE l k A,SK,F.out,ad.out];exact⟨am.out,bl,bs,bt⟩
     have b0:Hid (ends 0 (l.take (k+1))=t+1):=by
      unfold Hid;rw[JE l k A,V8,F.out];rfl
     go_wp2;go_roundw
     case rel=>exact⟨k+1,O,An,⟨t+1,O,O,rfl,b0⟩,bx,b1.out.alloc b1.out.size _⟩
     case measure=>simp[intOf];omega
    ·have a9:=U G;have bv:Hid (GC l=false):=by
      unfold Hid GC;rw[Akq (k+1),Ib];rw[<-I8,JE l k A,SK,F.out,ad.out];exact λh=>a9.out h.2
     clear G;go_wp2
     all_goals first
      | (exfalso;have:=a9.out;omega)
      | (go_ret;rw[bv.out];exact⟨rfl,b1.out.alloc b1.out.size _⟩)
   ·obtain rfl:k=n:=by omega
    have bv:Hid (GC l=true):=by
     unfold Hid GC;have:=am.out;rw[AO (BW q.out)]at this;rw[this,q.out,At O];rfl
    have b1:=U m;clear m;go_wp2;go_ret;rw[bv.out];exact U4
def Af5{P: Program}(t e: TypeId)(i: TypeInfo)(z: Value)(ep: P.underlying t = some (.slice e))(dI: P.info? e = some i)(b5: i.zero = some z)
  (kz ky:IntKind) (n c:Nat) (b:n<=c) (k:i.bytes*c<=281474976710656) (m:c<=9223372036854775807) (w:World) :
  (Instr.makeSlice t (.int kz (n:Int)) (.int ky (c:Int))).run P w=.ok (.slice (some ⟨w.heap.size,0,none⟩) n c) (w.alloc (.cells (madeCells z.cells (c*i.size)) e)):=Aye
def AdR(c:Nat):Obj:=.cells (madeCells (Value.cells (.agg #[.int .i64 0,.int .i64 0,.int .i64 0])) (c*3)) 66
theorem A6.made(w:World)(B c:Nat)(b:B<=w.heap.size)(e:c<=4194304):A6 (w.alloc (AdR c)) B (.slice (some ⟨w.heap.size,0,none⟩) 0 c) []:=by
 unfold A6 AdR;exact World.ownsRow_made w _ c b BQ (R5 _ _)
def Ak1(l:List Sp):∀u∈D6 l,u.oneCell'=true:=by
 induction l with
 | nil=>intro u b;cases b
 | cons s r c =>
  intro u b;simp only[D6,AX]at b;rcases b with rfl|rfl|rfl|b
  ·rfl
  ·rfl
  ·rfl
  ·exact c u b
def AtR(w:World)(row:Option Nat):w.grownBy w row:=⟨rfl,rfl,rfl,Ac _,λ_ _ _=>rfl⟩
def Af4{P:Program}{w:World}(base:Nat)(t h e:TypeId)(i:TypeInfo)(size:Nat)(b:P.underlying t=some (.slice e))(dI:P.info? e=some i)(v:Value)(n:Nat)(xs:List Value)(c:Nat)(k:w.ownsRow base e size v n xs):(Builtin.append_ #[t,t] h #[v,.slice none 0 c]).run P w=.ok v w:=by
 rcases k.2 with⟨rfl,rfl⟩|⟨g,cap,q,rfl,_,_,m,_⟩
 ·simp[Builtin.append_,Aah b,sizeOf,typeInfo,dI,Builtin.lenOf,Builtin.firstCells]
 ·simp[Builtin.append_,Aah b,sizeOf,typeInfo,dI,Builtin.lenOf,Builtin.firstCells,m,storeCells]
theorem Cs.cells{w:World}{k_:Addr}{l:List Sp}(h:Cs w (some k_) l):∀j u,(D6 l)[j]? = some u->w.cell? (k_.add j)=some u:=by
 intro j u c;have L:j<l.length*3:=by
  have:=(LX.1 c).1;rwa[SP]at this
 have m:j/3<l.length:=O;obtain⟨b,ff,e,q,s,A⟩:=h (j/3) m;obtain⟨C,F,G⟩:=Abx l (j/3) m;simp only[FI]at e;subst e;rw[GI];have k:j%3=0\/j%3=1\/j%3=2:=O;rcases k with k|k|k
 ·have e:j/3*3=j:=by omega
  rw[e]at q C;rw[q,<-c,C]
 ·have e:j/3*3+1=j:=by omega
  rw[Vo,e]at s;rw[e]at F;rw[s,<-c,F]
 ·have e:j/3*3+2=j:=by omega
  rw[Vo,e]at A;rw[e]at G;rw[A,<-c,G]
def Yx{w: World}{o: Oper}{a: Act}{K: Act->World->Prop}{Q: Exit->Act->World->Prop}(s x: Operand)
  (cq:o.op=.call { callee:=.builtin .append,args:=#[s,x],argTypes:=#[23,23]})
  (base:Nat) (v:Value) (xs:List Sp) (b2:a.eval s=v) (cm:A6 w base v xs)
  (p:Option Addr) (m c:Nat) (cy:List Sp) (q:cy.length=m) (b3:a.eval x=.slice p m c) (e9:Cs w p cy)
  (am:xs.length+cy.length<=1099511627776) (A:base<=w.heap.size)
  (h:∀b w',A6 w' base b (xs++cy)->w.grownBy w' v.ownBlock->K (a.put o.dst b) w'):o.wp prog a w K Q:=by
 subst q;obtain⟨k,dI,C,F,G⟩:=Cp infoSpan;cases p with
 | none =>
  have L:cy=[]:=AiK;subst L;have ga:=Af4 (P:=prog) base 23 o.type 66 k 3 underlying23 dI v xs.length _ c cm;exact AvC
 | some k_ =>
  refine wp_append_own w s x 23 cq base 66 k _ 3 24 underlying23 dI C F G rfl Aw v xs.length _ b2 cm k_ cy.length c (D6 cy) b3 (SP _) e9.cells (Ak1 cy) BQ O A ?_;intro b w' ac ad _;exact h b w' (by unfold A6;rw[Bc,VO];exact ac) ad
def Yw{w: World}{ops: Array Oper}{e: List Oper}{o: Oper}{a: Act}{Q: Exit->Act->World->Prop}(s x: Operand)
  (q:o.op=.call { callee:=.builtin .append,args:=#[s,x],argTypes:=#[23,23]})
  (A:Region.wanted o (yielded ops a.tmps)=true)
  (base:Nat) (v:Value) (xs:List Sp) (C:a.eval s=v) (F:A6 w base v xs)
  (p:Option Addr) (m c:Nat) (b:List Sp) (G:b.length=m) (L:a.eval x=.slice p m c) (ac:Cs w p b)
  (ad:xs.length+b.length<=1099511627776) (am:base<=w.heap.size)
  (h:∀k w',A6 w' base k (xs++b)->w.grownBy w' v.ownBlock->wpList prog ops Q e (a.put o.dst k) w'):wpList prog ops Q (o::e) a w:=by
 unfold wpList;rw[N A];exact .inl (Yx s x q base v xs C F p m c b G L ac ad am h)
def Xm(w:World)(f t v:Int)(b:TypeId):Cs (w.alloc (.cells #[.int .i64 f,.int .i64 t,.int .i64 v] b)) (some ⟨w.heap.size,0,none⟩) [(f,t,v)]:=by
 intro k ba;obtain rfl:k=0:=IA;refine⟨_,_,rfl,?_,?_,?_⟩<;>simp[Cy]
def Ave{W: World}{o: Oper}{a: Act}{K: Act->World->Prop}{Q: Exit->Act->World->Prop}(s x: Operand)
  (e:o.op=.call { callee:=.builtin .append,args:=#[s,x],argTypes:=#[23,23]})
  (base:Nat) (v:Value) (xs:List Sp) (k:a.eval s=v) (m:A6 W base v xs)
  (y:Sp) (c g:Nat) (q:a.eval x=.slice (some ⟨g,0,none⟩) 1 c) (A:g=W.heap.size)
  (F:xs.length<=1099511627775) (G:base<=W.heap.size)
  (h:∀b w',A6 w' base b (xs++[y])->W.grownBy w' v.ownBlock->K (a.put o.dst b) w'):o.wp prog a (W.alloc (.cells #[.int .i64 y.1,.int .i64 y.2.1,.int .i64 y.2.2] 66)) K Q:=by
 subst A;refine Yx s x e base v xs k (CG m _) _ 1 c [y] rfl q (Xm W y.1 y.2.1 y.2.2 _) Ae Ae ?_;intro b w' C be;refine h b w' C ?_;have co:=GJ W (.cells #[.int .i64 y.1,.int .i64 y.2.1,.int .i64 y.2.2] 66) v.ownBlock;exact Avy
def Aha{W: World}{ops: Array Oper}{b: List Oper}{o: Oper}{a: Act}{Q: Exit->Act->World->Prop}(s x: Operand)
  (k:o.op=.call { callee:=.builtin .append,args:=#[s,x],argTypes:=#[23,23]})
  (m:Region.wanted o (yielded ops a.tmps)=true)
  (base:Nat) (v:Value) (xs:List Sp) (q:a.eval s=v) (A:A6 W base v xs)
  (y:Sp) (c g:Nat) (C:a.eval x=.slice (some ⟨g,0,none⟩) 1 c) (F:g=W.heap.size)
  (G:xs.length<=1099511627775) (L:base<=W.heap.size)
  (h:∀e w',A6 w' base e (xs++[y])->W.grownBy w' v.ownBlock->wpList prog ops Q b (a.put o.dst e) w'):wpList prog ops Q (o::b) a (W.alloc (.cells #[.int .i64 y.1,.int .i64 y.2.1,.int .i64 y.2.2] 66)):=by
 unfold wpList;rw[N m];exact .inl (Ave s x k base v xs q A y c g C F G L h)
def AkY(i:List Sp)(p:Sp)(t:Int):(D6 (i++[p])).set (i.length*3+1) (.int .i64 t)=D6 (i++[(p.1,t,p.2.2)]):=by
 rw[VO,VO,Vm _ _ (by rw[SP];omega)];congr 1;rw[SP,show i.length*3+1-i.length*3=1 by omega];rfl
theorem A6.last{w:World}{B:Nat}{v:Value}{i:List Sp}{p:Sp}(h:A6 w B v (i++[p])):∃g cap,v=.slice (some ⟨g,0,none⟩) (i.length+1) cap/\B<=g/\g<w.heap.size/\w.cell? ⟨g,i.length*3,none⟩=some (.int .i64 p.1)/\w.cell? ⟨g,i.length*3+1,none⟩=some (.int .i64 p.2.1)/\w.cell? ⟨g,i.length*3+2,none⟩=some (.int .i64 p.2.2)/\w.frozen? ⟨g,i.length*3+1,none⟩=false:=by
 have m:=h.lt;obtain⟨q,cap,rfl,s⟩:=h.ap;obtain⟨b,ff,rfl,c,e,k⟩:=s i.length J;have A:ff=0:=AvT;subst A;have C:(i++[p]).getD i.length A_=p:=J;rw[C]at c e k;have:=m b rfl;simp only[BY]at c e k;have F:=MO (g:=b) (cap:=cap) (n:=(i++[p]).length) h;exact⟨b,cap,J,this.1,this.2,c,e,k,F _⟩
theorem A6.b_{w:World}{B:Nat}{i:List Sp}{p:Sp}{g n cap:Nat}(h:A6 w B (.slice (some ⟨g,0,none⟩) n cap) (i++[p]))(b:n=i.length+1)(t:Int):A6 (w.setCell ⟨g,i.length*3+1,none⟩ (.int .i64 t)) B (.slice (some ⟨g,0,none⟩) n cap) (i++[(p.1,t,p.2.2)]):=by
 subst b;unfold A6 at h|-;rw[<-AkY];simp only[Bc,BB,Gh]at h|-;exact(PE h _ _).1
theorem A6.drewN{w:World}{B:Nat}{v:Value}{l:List Sp}(h:A6 w B v l)(n:Nat):A6 (w.drewN n) B v l:=h
theorem A6.alloc{w:World}{B:Nat}{v:Value}{l:List Sp}(h:A6 w B v l)(o:Obj):A6 (w.alloc o) B v l:=CG h o
theorem Cs.drewN{w:World}{p:Option Addr}{l:List Sp}(h:Cs w p l)(n:Nat):Cs (w.drewN n) p l:=h
theorem A6.base{w:World}{B:Nat}{v:Value}{l:List Sp}(h:A6 w B v l):∀k,v.ownBlock=some k->B<=k:=λk b=>(Bs h k b).1
def Im{B:Nat}{a w:World}(h:Below B a w)(n:Nat):Below B a (w.drewN n):=⟨h.os,h.tape,h.output,h.size,h.block⟩
def DZ(w:World)(g:Nat)(f t v:Int):Prop:=
 w.cell? ⟨g,0,none⟩=some (.int .i64 f)/\w.cell? ⟨g,1,none⟩=some (.int .i64 t)/\w.cell? ⟨g,2,none⟩=some (.int .i64 v)/\w.frozen? ⟨g,0,none⟩=false/\g<w.heap.size
theorem DZ.new(w:World)(f t v:Int)(b:TypeId):DZ (w.alloc (.cells #[.int .i64 f,.int .i64 t,.int .i64 v] b)) w.heap.size f t v:=by
 refine⟨?_,?_,?_,?_,?_⟩<;>simp[Cy]
theorem DZ.drewN{w:World}{g:Nat}{f t v:Int}(h:DZ w g f t v)(n:Nat):DZ (w.drewN n) g f t v:=h
theorem DZ.grown{w w':World}{g:Nat}{f t v:Int}{row:Option Nat}(h:DZ w g f t v)(b:w.grownBy w' row)(c:row≠some g):DZ w' g f t v:=by
 obtain⟨k,m,q,s,e⟩:=h;exact⟨b.cell k (JY c),b.cell m (JY c),b.cell q (JY c),(EN (b.block g e (JY c))).trans s,Ci e b.size⟩
theorem DZ.set{w:World}{g:Nat}{f t v:Int}(h:DZ w g f t v)(x:Int):DZ (w.setCell ⟨g,0,none⟩ (.int .i64 x)) g x t v:=by
 obtain⟨b,c,e,k,m⟩:=h;exact⟨E7 _ _ _ b,(AY _ _ _ _ J).trans c,(AY _ _ _ _ J).trans e,(DC _ _ _ _).trans k,by simpa[World.setCell] using m⟩
def Uk(w:World)(g o:Nat)(v:Value):w.grownBy (w.setCell ⟨g,o,none⟩ v) (some g):=
 ⟨rfl,rfl,rfl,J,λk _ b=>heap_setCell_other w ⟨g,o,none⟩ k v (λe=>b (by simp[e]))⟩
theorem A6.store{w:World}{B g:Nat}{v:Value}{l:List Sp}(h:A6 w B v l)(b:v.ownBlock≠some g)(o:Nat)(u:Value):A6 (w.setCell ⟨g,o,none⟩ u) B v l:=
 N8 h (Uk w g o u) (.inr b)
theorem DR.start(w:World)(B:Nat)(c:B<=w.heap.size):DR (w.alloc (.cells #[.slice none 0 0] 22)) B (.slice (some ⟨w.heap.size,0,none⟩) 1 1) [[]] [.slice none 0 0] where
 own:=N9 w #[.slice none 0 0] 1 c BQ rfl
 len:=rfl
 aT:=λk ba=>by
  have:k=0:=YW;subst this;exact D3.nil _ _
 off:=λk b ba h=>by
  have:k=0:=YW;subst this;exact Ds
def Nm{b:Type}(l r:List b)(k:Nat)(d:b)(h:k<l.length):(l++r).getD k d=l.getD k d:=by
 simp[List.getD,MR h]
def Nl{b:Type}(l:List b)(x d:b):(l++[x]).getD l.length d=x:=by
 simp[List.getD]
def O6{b:Type}(l:List b)(i k:Nat)(x d:b)(h:i≠k):(l.set i x).getD k d=l.getD k d:=by
 simp[List.getD,LY h]
def O5{b:Type}(l:List b)(i:Nat)(x d:b)(h:i<l.length):(l.set i x).getD i d=x:=Ps
theorem DR.push{w w1 A:World}{B:Nat}{u C:Value}{L:List (List Int)}{F:List Value}(h:DR w B u L F)(G:w.grownBy w1 none)(cq:A.ownsRow B 22 1 C (L.length+1) (F++[.slice none 0 0]))(ac:w1.grownBy A u.ownBlock)(s:C.ownBlock=u.ownBlock\/C.ownBlock=some w1.heap.size):DR A B C (L++[[]]) (F++[.slice none 0 0]):=by
 have ad:∀k,k<L.length->D3 A B (F.getD k (.slice none 0 0)) (L.getD k []):=λk q=>
  ((h.aT k q).kept G (λb _ e=>by cases e)).kept ac (λb c=>h.off k b q c)
 refine⟨MF,Zz,λk q=>?_,λk b q c=>?_⟩
 ·by_cases e:k=L.length
  ·subst e;rw[Nl,<-h.len,Nl];exact D3.nil _ _
  ·have m:k<L.length:=by simp at q;omega
   rw[Nm _ _ _ _ m,Nm _ _ _ _ (by rw[h.len];exact m)];exact ad k m
 ·by_cases e:k=L.length
  ·subst e;rw[<-h.len,Nl]at c;cases c
  ·have m:k<L.length:=by simp at q;omega
   rw[Nm _ _ _ _ (by rw[h.len];exact m)]at c;rcases s with s|s
   ·rw[s];exact h.off k b m c
   ·rw[s];intro am;cases am;have a9:=((h.aT k m).lt c).2;have a':=G.size;omega
theorem DR.put{w w6:World}{B g cap n:Nat}{v6:Value}{D:List (List Int)}{m x:List Int}{c:List Value}(h:DR w B (.slice (some ⟨g,0,none⟩) n cap) (D++[m]) c)(C:Ak w6 w.heap.size v6 x)(A:w.grownBy w6 none)(ef:B<=w.heap.size):DR (w6.setCell ⟨g,D.length,none⟩ v6) B (.slice (some ⟨g,0,none⟩) n cap) (D++[x]) (c.set D.length v6):=by
 have i':g<w.heap.size:=(Bs h.own g rfl).2;have F:c.length=D.length+1:=by have:=h.len;simpa using this
 have G:w6.ownsRow B 22 1 (.slice (some ⟨g,0,none⟩) n cap) (D++[m]).length c:=N8 h.own A Zj;have L:n=(D++[m]).length:=Awn;subst L;have jC:=G.stored D.length v6;have lO:=D3.bj C;refine⟨by simpa using jC.1,by simp[F],λk q=>?_,λk b q ad=>?_⟩
 ·by_cases e:k=D.length
  ·subst e;rw[Nl,O5 _ _ _ _ O];exact AyG
  ·have s:k<D.length:=by simp at q;omega
   have a':=h.aT k Ae;rw[Nm _ _ _ _ s]at a';rw[Nm _ _ _ _ s,O6 _ _ _ _ _ O];refine(a'.kept A (λb _ bd=>by cases bd)).kept jC.2 (λb ad bd=>?_);cases bd;exact h.off k g Ae ad rfl
 ·by_cases e:k=D.length
  ·exact AyB
  ·have s:k<D.length:=by simp at q;omega
   rw[O6 _ _ _ _ _ O]at ad;exact h.off k b Ae ad
def AcW{a b c:World}{row:Option Nat}(h:a.grownBy b none)(k:b.grownBy c row)(m:∀j,row=some j->a.heap.size<=j):a.grownBy c none:=
 ⟨k.os.trans h.os,k.tape.trans h.tape,k.output.trans h.output,Af h.size k.size,λi dI q=>(k.block i (Ci dI h.size) (λe=>by have:=m i e.symm;omega)).trans (h.block i dI q)⟩
def Ac_(w:World)(c:Int):Aq (w.alloc (.cells #[.int .i64 c] 3)) (some ⟨w.heap.size,0,none⟩) [c]:=by
 intro k ba;exact AiW
def AaI(L:List (List Int))(w:World)(e:Ending)(w':World):Prop:=
 ∃g cap,e=.returned (.slice (some ⟨g,0,none⟩) L.length cap)/\DJ w' w.heap.size g cap L/\Below w.heap.size w w'
def Ass(p:Option Addr)(n cap:Nat)(l:List Int)(w:World)(b8:Aq w p l)(bx:Hid (l.length=n))(df:n<=1099511627776):Calls prog 57 #[.slice p n cap] w (AaI (AU l) w):=by
 have cp:=U b8;clear b8;obtain⟨cq,dI,cr,cs,ct⟩:=Cp info22;have b9:=U (DR.start w w.heap.size (Ac _));have b':=U ((Al w.heap.size w).alloc (Ac _) (.cells #[.slice none 0 0] 22));go_enter func57,ntmps57;go_wp2;go_loopw[3,10] (λu i wr=>∃(k:Nat) (D:List (List Int)) (m:List Int) (G:List Value),k<=n/\i=.int .i64 k/\D.length<=k/\m.length<=k/\Hid (Ce D m (l.drop k)=AU l)/\Hid (DR wr w.heap.size u (D++[m]) G)/\Hid (Below w.heap.size w wr)) (λ_ i _=>n-(intOf i).toNat)
 case atStart=>exact⟨0,[],[],_,Au _,rfl,Ac _,Ac _,rfl,b9,b'⟩
 case round=>
  clear b9 b';obtain⟨k,D,m,G,dj,rfl,cu,cv,hcut,ad,b0⟩:=hrel;obtain⟨g,b1,rfl,ca,cx⟩:=ad.out.opened J;have b2:(D++[m]).length=D.length+1:=J;rw[b2]at ad|-;obtain⟨h,s⟩:∃h,D.length=h:=⟨_,rfl⟩;have hR:=U s;have A:=U ad.out;have b3:=ad.out.own;rw[b2,s]at b3;have be:=U b3;have am:=U b0.out;have fb:=U b0.out.size;rw[s]at cu A|-;clear ad b0 b2 b3;by_cases cy:k<n
  ·have a9:k<l.length:=by rw[bx.out];exact cy
   obtain⟨b,ff,rfl,cA⟩:=(cp.out.below am.out) k a9;obtain⟨c,a'⟩:∃c,l.getD k 0=c:=⟨_,rfl⟩;rw[a']at cA;by_cases e:c=46
   ·subst e;have b4:Hid (Ce (D++[m]) [] (l.drop (k+1))=AU l):=by unfold Hid;rw[<-Ab' a9 a'];exact hcut.out
    clear a' a9 hcut s;go_wp2_with (at_builtin;refine R7 _ rfl _ _ 53 rfl w.heap.size 22 cq (.slice none 0 0) 1 24 underlying53 dI cr cs ct rfl Aw (.slice (some ⟨g,0,none⟩) (h+1) b1) (h+1) G rfl (CG be.out (.cells #[.slice none 0 0] 22)) ⟨_,0,none⟩ 1 1 [.slice none 0 0] rfl rfl (IB _ _ _) UC BQ O MM ?_;intro v5 L ba C _ cb);have cB:Hid (DR L w.heap.size v5 ((D++[m])++[[]]) (G++[.slice none 0 0])):=
     A.out.push (GJ _ _ _) (by rw[show (D++[m]).length=h+1 by simp[hR.out]];exact ba) C cb
    have cC:Hid (Below w.heap.size w L):=(am.out.alloc am.out.size _).grown C MM (by rintro j ⟨⟩;exact ca);clear ba C cb be A;go_wp2;go_roundw
    case rel=>exact⟨k+1,D++[m],[],_,O,An,by simp[hR.out];omega,J,b4,cB,cC⟩
    case measure=>simp[intOf];omega
   ·have dk:(c==46)=false:=by simp[e]
    have b4:Hid (Ce D (m++[c]) (l.drop (k+1))=AU l):=by unfold Hid;rw[<-Ace a9 a' e];exact hcut.out
    have cc:=A.out.aT h (by rw[<-s];simp);rw[<-s,Nl,s]at cc;have cd:=R0 be.out h O;have ce:G.length=h+1:=by have:=A.out.len;rw[<-s];simpa using this
    have cf:=MO be.out h;obtain⟨q,b5,cg,cD,ci,_⟩:=cc;have b6:wr.cell? ⟨g,h,none⟩=some (.slice q m.length b5):=by
     rw[cd,<-cg];simp[List.getD,ce]
    obtain⟨bl,b7⟩:∃bl,m.length=bl:=⟨_,rfl⟩;rw[b7]at b6 cv;have bs:=U b7;have cF:=U ci;have dm:IntKind.i64.wrap ((h:Int)+1-1)=h:=H_;have cI:=U cx;have cO:=U cf;clear a' a9 hcut cd cg cD ci b7 ce s e cf;go_wp2_with (at_builtin;first
     | (refine De (.const (.slice none 0 0)) (.tmp 27) rfl rfl wr.heap.size (.slice none 0 0) [] (by rfl) (Ak.nil _ _) q bl b5 m bs.out (by rfl) cF.out (by rw [bs.out]; simp; omega) (Ac _) ?_
        intro v5 L ba C
        have cj:=U ba
        have c2:=U C
        have c3:=U C.size)
     | (refine De (.tmp 28) (.tmp 30) rfl rfl wr.heap.size v5 ([] ++ m) (by rfl) (CG cj.out _) (some ⟨L.heap.size, 0, none⟩) 1 1 [c] rfl (by rfl) (Ac_ L c) (by simp only [Cv, PM]; rw [bs.out]; omega) (by have := c3.out; simp; omega) ?_
        intro v6 w6 bt cl
        obtain⟨bb,bc,rfl,_,_⟩:=Ac8 bt
        obtain⟨F,cm⟩:∃F,(([]++m)++[c]).length=F:=⟨_,rfl⟩
        rw[cm]at bt|-
        have c4:=U bt
        clear cm
        have bv:Hid (wr.grownBy w6 none):=AcW (c2.out.trans (GJ L _ none)) cl (λj c5=>(Bs cj.out j c5).1)
        have c6:w6.cell? ⟨g,h,none⟩=some (.slice q bl b5):=bv.out.cell b6 J
        have c7:w6.frozen? ⟨g,h,none⟩=false:=(EN (bv.out.block g cI.out J)).trans cO.out
        clear bt cl ba C))
    have c8:Hid (DR (w6.setCell ⟨g,h,none⟩ (.slice bb F bc)) w.heap.size (.slice (some ⟨g,0,none⟩) (h+1) b1) (D++[m++[c]]) (G.set h (.slice bb F bc))):=by
     have:=A.out.put (x:=m++[c]) (v6:=.slice bb F bc) (w6:=w6) (by simpa using c4.out) bv.out fb.out;rw[hR.out]at this;exact this
    have c9:Hid (Below w.heap.size w (w6.setCell ⟨g,h,none⟩ (.slice bb F bc))):=
     (am.out.grown bv.out fb.out Zg).setCell (p:=⟨g,h,none⟩) ca (.slice bb F bc)
    clear c6 c7 b6;go_roundw
    case rel=>exact⟨k+1,D,m++[c],_,O,An,by rw[hR.out];omega,by simp;rw[bs.out];omega,b4,c8,c9⟩
    case measure=>simp[intOf];omega
  ·obtain rfl:k=n:=by omega
   have ac:Hid (D++[m]=AU l):=by
    have:=hcut.out;rwa[Aca H6]at this
   obtain⟨dn,dq,e,co⟩:=A.out.new J;injection e with bd c' da;injection bd with bd;injection bd with bd;subst bd;subst da;have db:=U co;have dc:Hid ((AU l).length=h+1):=Axy;clear hcut c' co s;go_wp2;go_ret;refine⟨g,b1,by rw[dc.out];rfl,?_,am.out⟩;rw[<-ac.out];exact db.out
end Go.Proofs.YtblcoicaeeiojaaGreatDoor
namespace Go.Proofs.YtblcoicaeeiojaaGreatDoor
def AuP{l:List Sp}{c:Int}(h:∀s∈l,¬(s.1<=c/\c<=s.2.1)):val l c=none:=by
 induction l with
 | nil=>rfl
 | cons s r b =>
  rw[MA,V (h s J)];exact b λt e=>h t (by simp[e])
def Yt{l:List Sp}{c:Int}(k:Nat)(h:∀s∈l.take k,s.2.1<c):val l c=val (l.drop k) c:=by
 have e:=Ys (l.take k) (l.drop k) c;rw[FG]at e;rw[e,AuP (λs b m=>by have:=h s b;omega)];rfl
def Akn{l:List Sp}(k:Nat)(h:AH 0 l=true):AH 0 (l.drop k)=true:=by
 rw[<-FG k l,P_]at h;have b:=Tf h.1;exact Akr h.2 O
def SL{l:List Sp}(k:Nat)(h:AH 0 l=true):AH 0 (l.take k)=true:=by
 rw[<-FG k l,P_]at h;exact h.1
def SJ{k8:Int}{l:List Sp}(h:AH k8 l=true)(k:Nat)(ba:k<l.length):(∀s∈l.take k,s.2.1<(l.getD k A_).1)/\∀s∈l.drop (k+1),(l.getD k A_).2.1<s.1:=by
 induction l generalizing k8 k with
 | nil=>simp at ba
 | cons t r c =>
  rw[Ji]at h;cases k with
  | zero =>
   refine⟨J,λs b2=>?_⟩;have:=Lh h.2.2.2 (s:=s) RD;exact Ae
  | succ k =>
   have b:k<r.length:=KL;have:=c h.2.2.2 k b;refine⟨λs b2=>?_,λs b2=>?_⟩
   ·rw[Jd]at b2;rcases AX.1 b2 with rfl|b2
    ·have:=Lh h.2.2.2 (Nn r k b);simp only[CS];omega
    ·simpa using this.1 s b2
   ·simpa using this.2 s RD
def VK(c:Int):List Sp->List Sp
 | []=>[]
 | s::r=>if s.1<c then(s.1,min s.2.1 (c-1),s.2.2)::VK c r else VK c r
def Vz(c:Int):List Sp->List Sp
 | []=>[]
 | s::r=>if c<s.2.1 then(max s.1 (c+1),s.2.1,s.2.2)::Vz c r else Vz c r
def AoU(l:List Sp):List Sp × Int:=if 256<l.length then([],7) else(l,0)
def Ar6(l:List Sp)(f t:Int)(b:List Sp):List Sp × Int:=
 if GC l=false then([],1)else if f<0\/t<f\/1114111<t then([],3)else AoU (Aor (VK f l++b++Vz t l))
def AAV(l:List Sp)(f t v:Int):List Sp × Int:=Ar6 l f t [(f,t,v)]
end Go.Proofs.YtblcoicaeeiojaaGreatDoor
namespace Go.Proofs.YtblcoicaeeiojaaGreatDoor
open Go.RowKit
theorem WH:∀(L:List (List Int)) (k:Nat),(A7 (L.take k)).length<=(A7 L).length
 | [],k=>J
 | x::t,0=>by simp[A7]
 | x::t,k+1=>by
  rw[Jd];by_cases h:t.take k=[]
  ·rw[h];cases t with
   | nil=>exact Ac _
   | cons y r=>rw[Hb x (t:=y::r) J];simp[A7]
  ·have b:t≠[]:=λe=>h (by rw[e];simp);have:=WH t k;rw[Hb x h,Hb x b];exact Ae
def AaG(X:List Int)(w:World)(e:Ending)(w':World):Prop:=∃v,e=.returned v/\Ak w' w.heap.size v X/\Below w.heap.size w w'
def Asn(p:Option Addr)(n cap:Nat)(L:List (List Int))(X:List Int)(w:World)(h:Ey w p L)(bx:Hid (L.length=n))(m:n<=1099511627776)(eE:Hid (A7 L=X))(cl:Hid (X.length<=1099511627776)):Calls prog 70 #[.slice p n cap] w (AaG X w):=by
 have dG:=U h;clear h;go_enter func70,ntmps70;exact AAS
def WA(p:Option Addr)(n c:Nat)(l:List Sp)(b:Bool)(w:World)(h:Hid (l.length=n))(k:n<=maxLen)(m:Cs w p l)(q:Hid (GC l=b)):Calls prog 252 #[.slice p n c] w λe w'=>e=.returned (.bool b)/\Below w.heap.size w w':=by
 have:=Aoe p n c l w h.out k m;rw[q.out]at this;exact this
def AuR{l:List Sp}(h:GC l=true):AH 0 l=true:=by
 simp only[GC,AJ]at h;exact h.2
def AuS{l:List Sp}(h:GC l=true):l.length<=256:=by
 simp only[GC,AJ,A4]at h;exact h.1
def FL(l:List Sp)(k8 dI:Int):Bool:=GC l&&l.all λs=>decide (k8<=s.1)&&decide (s.2.1<=dI)
def Ak8{l:List Sp}(c:AH 0 l=true)(m:Nat)(C:l.length=m+1)(k8 dI:Int):(l.all λs=>decide (k8<=s.1)&&decide (s.2.1<=dI))=(decide (k8<=(l.getD 0 A_).1)&&decide ((l.getD m A_).2.1<=dI)):=by
 rw[Gd,AR];simp only[AJ,A4];constructor
 ·intro h;exact⟨(h _ (Nn l 0 O)).1,(h _ (Nn l m O)).2⟩
 ·rintro ⟨q,A⟩ s b;have e:=Nd l 0 O;have F:=Lh c (Nn l 0 O);have G:=Lh c (Nn l m O);have k:=JE l m O;rw[AO O]at k;constructor
  ·rw[List.drop_zero]at e;rw[e]at b;rcases AX.1 b with rfl|b
   ·exact q
   ·have:=(SJ c 0 O).2 s b;omega
  ·rw[k]at b;rcases Bg.1 b with b|b
   ·have:=(SJ c m O).1 s b;omega
   ·rw[Ch]at b;subst b;exact A
def Ak7(p:Option Addr)(n c:Nat)(l:List Sp)(k8 dI:Int)(w:World)(ad:l.length=n)(q:n<=maxLen)(am:Cs w p l):Calls prog 196 #[.slice p n c,.int .i64 k8,.int .i64 dI] w λe w'=>e=.returned (.bool (FL l k8 dI))/\Below w.heap.size w w':=by
 have h:=U am;have cF:=U ad;clear am ad;cases b:GC l with
 | false =>
  have bs:Hid (FL l k8 dI=false):=by unfold Hid FL;rw[b];rfl
  have k:=U b;clear b;go_enter func196,ntmps196;go_wp2_with fail;refine(WA p n c l false _ cF q h.out k).mono ?_;exact AyS
 | true =>
  have b4:n<=256:=by rw[<-cF.out];exact AuS b
  have A:=AuR b;have k:=U b;by_cases C:n=0
  ·have bs:Hid (FL l k8 dI=true):=by
    unfold Hid FL;rw[b,Bw (cF.out.trans C)];rfl
   subst C;clear b A;go_enter func196,ntmps196;go_wp2_with fail;refine(WA p 0 c l true _ cF q h.out k).mono ?_;exact AyS
  ·obtain⟨m,rfl⟩:∃m,n=m+1:=⟨n-1,O⟩;have a9:=Ak8 A m cF.out k8 dI;have bs:Hid (FL l k8 dI=(decide (k8<=(l.getD 0 A_).1)&&decide ((l.getD m A_).2.1<=dI))):=by
    unfold Hid FL;rw[b,a9];rfl
   obtain⟨⟨f,b5,b6⟩,F⟩:∃s,l.getD 0 A_=s:=⟨_,rfl⟩;obtain⟨⟨b7,t,b8⟩,G⟩:∃s,l.getD m A_=s:=⟨_,rfl⟩;rw[F,G]at bs;have bd:=U F;have be:=U G;clear b A a9 F G C;go_enter func196,ntmps196;go_wp2_with fail;refine(WA p (m+1) c l true _ cF q h.out k).mono ?_;rintro e w1 ⟨rfl,cC⟩;have b1:=U cC;have a':=U (h.out.below cC);clear cC;obtain⟨g,ff,rfl,ba,bl,bt⟩:=a'.out 0 LP;obtain⟨b9,b',L,bv,bb,bx⟩:=a'.out m LP;injection L with L;injection L with b0 b2;subst b0;subst b2;rw[bd.out]at ba;rw[be.out]at bb;simp only[Nat.zero_mul,E_]at ba;simp only at bb;clear bl bt bv bx;have ca:((m:Int)+1==0)=false:=Ae;by_cases ac:k8<=f
   ·by_cases bc:t<=dI
    ·have lP:Hid (FL l k8 dI=true):=by unfold Hid;rw[bs.out];simp[ac,bc]
     exact AiS
    ·have lP:Hid (FL l k8 dI=false):=by unfold Hid;rw[bs.out];simp[ac,bc]
     have b3:decide (t<=dI)=false:=Ae;exact AiS
   ·have lP:Hid (FL l k8 dI=false):=by unfold Hid;rw[bs.out];simp[ac]
    have b3:decide (k8<=f)=false:=Ae;exact AiS
def AbF(p:Option Addr)(n c:Nat)(l:List Sp)(k8 dI:Int)(B:Bool)(w:World)(b:Hid (l.length=n))(h:n<=maxLen)(k:Cs w p l)(m:Hid (FL l k8 dI=B)):Calls prog 196 #[.slice p n c,.int .i64 k8,.int .i64 dI] w λe w'=>e=.returned (.bool B)/\Below w.heap.size w w':=by
 have:=Ak7 p n c l k8 dI w b.out h k;rw[m.out]at this;exact this
def Gx(l:List Sp)(k8 dI:Int):Bool:=AH 0 l&&l.all λs=>decide (k8<=s.1)&&decide (s.2.1<=dI)
def AbA(l:List Sp)(k8 dI:Int):FL l k8 dI=(decide (l.length<=256)&&Gx l k8 dI):=by
 simp only[FL,GC,Gx,Bool.and_assoc]
def Aeq(a:List Sp)(s:Sp)(k8 dI:Int):Gx (a++[s]) k8 dI=true↔Gx a k8 dI=true/\¬(s.1<ends 0 a\/s.2.1<s.1\/1114111<s.2.1\/s.1<k8\/dI<s.2.1):=by
 simp only[Gx,AJ,SK,IE,DQ,Gf,JP,A4];constructor
 ·rintro ⟨⟨b,h⟩,c,e⟩;exact⟨⟨b,c⟩,O⟩
 ·rintro ⟨⟨b,c⟩,e⟩;exact⟨⟨b,O⟩,c,O,O⟩
def Ap7{l:List Sp}{k8 dI:Int}(k:Nat)(h:Gx (l.take k) k8 dI=false):Gx l k8 dI=false:=by
 cases b:Gx l k8 dI with
 | false=>rfl
 | true =>
  have e:=FG k l;simp only[Gx,AJ]at b;rw[<-e,P_,IE,AJ]at b;have:Gx (l.take k) k8 dI=true:=by simp only[Gx,AJ];exact⟨b.1.1,b.2.1⟩
  rw[this]at h;cases h
def Amn(l:List Sp)(j:Nat)(h:j<l.length):ends 0 (l.take (j+1))=(l.getD j A_).2.1+1:=by
 rw[JE l j h,V8];rfl
def ArU(p:Option Addr)(n c:Nat)(l:List Sp)(k8 dI:Int)(w:World)(bb:l.length=n)(b4:n<=maxLen)(bc:Cs w p l):Calls prog 125 #[.slice p n c,.int .i64 k8,.int .i64 dI] w λe w'=>e=.returned (.bool (FL l k8 dI))/\Below w.heap.size w w':=by
 unfold maxLen at b4;have bd:=U bc;have cF:=U bb;clear bc bb;by_cases ce:256<n
 ·have bv:Hid (FL l k8 dI=false):=by unfold Hid;rw[AbA,cF.out,Ai O];rfl
  go_enter func125,ntmps125;exact Axq
 ·have be:Hid (FL l k8 dI=Gx l k8 dI):=by unfold Hid;rw[AbA,cF.out,At O];rfl
  go_enter func125,ntmps125;go_wp2;go_loopw[14] (λi wr=>∃k:Nat,k<=n/\i=.int .i64 k/\Hid (Gx (l.take k) k8 dI=true)/\Below w.heap.size w wr) (λi _=>n-(intOf i).toNat)
  case atStart=>exact⟨0,Au _,rfl,rfl,Al _ _⟩
  case round=>
   obtain⟨k,cf,rfl,m,q⟩:=hrel;by_cases b5:k<n
   ·have F:k<l.length:=by rw[cF.out];exact b5
    obtain⟨b,ff,rfl,b6,b7,b8⟩:=(bd.out.below q) k F;have b1:=U q;obtain⟨⟨f,t,v⟩,G⟩:∃s,l.getD k A_=s:=⟨_,rfl⟩;rw[G]at b6 b7 b8;have bl:=U G;clear G q;go_upto_region 6 with(fail);go_cut[60] (λb9 b'=>∃B:Bool,b9=.bool B/\Hid (B=true↔(f<ends 0 (l.take k)\/t<f\/1114111<t\/f<k8\/dI<t))/\Hid (Below w.heap.size w b'))
    case first=>
     have L:Hid (0<=ends 0 (l.take k)):=by
      have:=m.out;simp only[Gx,AJ]at this;have A:=Tf this.1;exact Hj
     by_cases bs:f<0
     ·go_quiet (fail);go_wp2_with fail;go_meet;exact⟨true,rfl,by unfold Hid;have:=L.out;simp;omega,Im (b1.out.alloc b1.out.size _) _⟩
     ·have ca:decide (f<0)=false:=Ai bs;clear bs;by_cases A:t<f
      ·exact Zw
      ·have fH:decide (t<f)=false:=Ai A;by_cases ac:1114111<t
       ·exact Zw
       ·have iE:decide (1114111<t)=false:=Ai ac;by_cases ad:f<k8
        ·exact Zw
        ·have lQ:decide (f<k8)=false:=Ai ad;by_cases am:dI<t
         ·exact Zw
         ·have o0:decide (dI<t)=false:=Ai am;have cg:0<=f:=by have:=Fc ca;omega
          cases k with
          | zero =>
           have dx:Hid (ends 0 (l.take 0)=0):=rfl;clear L A ac ad am;exact AAE
          | succ j =>
           have bt:j<l.length:=O;obtain⟨ci,cj,a9,bx,C,b0⟩:=(bd.out.below b1.out) j bt;injection a9 with a9;injection a9 with cb cc;subst cb;subst cc;have dx:=U (Amn l j bt);obtain⟨⟨cl,a',cm⟩,b2⟩:∃s,l.getD j A_=s:=⟨_,rfl⟩;rw[b2]at bx C b0 dx;simp only at bx C b0;have co:(wr.alloc (.cells #[.int .i64 f,.int .i64 t,.int .i64 v] 66)).cell? ⟨b,ff+j*3+1,none⟩=some (.int .i64 a'):=(JR wr _ ⟨b,ff+j*3+1,none⟩ (AN wr _ C)).trans C;have cp:(0:Int)<(j:Int)+1:=O;have cq:(0:Int)<=(j:Int):=O;have cr:(j:Int)<(n:Int):=O;have cs:IntKind.i64.wrap ((j:Int)+1-1)=j:=H_;have ct:IntKind.i64.wrap (j:Int)=j:=AT _ O;clear b2 L A ac ad am;by_cases cd:f<=a'
           ·go_quiet (fail);go_wp2_with fail;go_meet;exact⟨true,rfl,by unfold Hid;rw[dx.out];simp;omega,Im (b1.out.alloc b1.out.size _) _⟩
           ·have cu:decide (f<=a')=false:=Ai cd;exact AAE
    case rest=>
     obtain⟨B,rfl,fT,b3⟩:=hcut;cases B
     ·have ba:Hid (Gx (l.take (k+1)) k8 dI=true):=by
       unfold Hid;rw[JE l k F,Aeq,bl.out];exact⟨m.out,λh=>AhQ⟩
      clear fT m;go_wp2;go_roundw
      case rel=>exact⟨k+1,O,An,ba,b3.out⟩
      case measure=>simp[intOf];omega
     ·have ba:Hid (Gx l k8 dI=false):=by
       unfold Hid;apply Ap7 (k+1);rw[<-I8,JE l k F,Aeq,bl.out];exact λh=>h.2 (fT.out.1 rfl)
      clear fT m;go_wp2;go_ret;rw[be.out,ba.out];exact⟨rfl,b3.out⟩
   ·obtain rfl:k=n:=by omega
    have bv:Hid (Gx l k8 dI=true):=by
     unfold Hid;have:=m.out;exact Y9
    have b1:=U q;clear q m;go_wp2;go_ret;rw[be.out,bv.out];exact U4
def ArV(p:Option Addr)(n c:Nat)(l:List Sp)(k8 dI:Int)(B:Bool)(w:World)(b:Hid (l.length=n))(h:n<=maxLen)(k:Cs w p l)(m:Hid (FL l k8 dI=B)):Calls prog 125 #[.slice p n c,.int .i64 k8,.int .i64 dI] w λe w'=>e=.returned (.bool B)/\Below w.heap.size w w':=by
 have:=ArU p n c l k8 dI w b.out h k;rw[m.out]at this;exact this
def Wn(L:List ByteArray)(k:Nat)(h:k<L.length):(L.map ByteArray.size).getD k 0=(L.getD k ByteArray.empty).size:=Ps
theorem AbI:∀(k:Nat) (L:List Nat) (i:Nat),i<L.length->(∀j,j<i->1<=L.getD j 0/\L.getD j 0<=63)->L.getD i 0=0\/63<L.getD i 0->IM k L=some (k+i,if L.getD i 0=0 then 10 else 11)
 | k,[],i,h,_,_=>E5
 | k,m::r,0,h,_,b=>by
  simp only[DI]at b|-;rw[IM];rcases b with e|e
  ·rw[N e,N e];rfl
  ·rw[V O,N e,V O];rfl
 | k,m::r,i+1,h,dy,b=>by
  have c:=dy 0 O;simp only[DI]at c;rw[IM,V O,V O];have q:=AbI (k+1) r i Co (λj s=>Azq) (by simpa only[CS] using b);rw[q];simp only[CS];rw[show k+1+i=k+(i+1) by omega]
def AbG{L:List Nat}{i:Nat}(h:i<L.length)(b:∀j,j<i->1<=L.getD j 0/\L.getD j 0<=63)(c:L.getD i 0=0\/63<L.getD i 0):CW L=(i,if L.getD i 0=0 then 10 else 11):=by
 unfold CW;rw[V (by intro e;rw[e]at h;simp at h),AbI 0 L i h b c];exact J
def AbH{L:List Nat}(c:L≠[])(e:∀j,j<L.length->1<=L.getD j 0/\L.getD j 0<=63):CW L=if 127<L.length\/253<L.sum+(L.length-1) then(0,11) else(0,0):=by
 unfold CW;rw[V c,Qd 0 L (λn h=>by
  obtain⟨j,b,rfl⟩:=JU h
  have:=e j b
  simpa[List.getD,b] using this)]
def AgB(L:List Nat)(k:Nat)(h:k<L.length):(L.take (k+1)).sum=(L.take k).sum+L.getD k 0:=by
 rw[E9 h,List.sum_append];simp[h]
def Yc(p:Option Addr)(n cap K:Nat)(E:Int)(L:List ByteArray)(w:World)(q:IJ w p L)(bx:Hid (L.length=n))(bv:n<=17592186043904)(cr:Hid (CW (L.map ByteArray.size)=(K,E))):Calls prog 22 #[.slice p n cap] w λe w'=>e=.returned (.tuple #[.int .i64 K,.int .i64 E])/\w'=w:=by
 have F:=U q;clear q;by_cases bl:n=0
 ·have G:L=[]:=Bw Zc;have s:=cr.out;rw[G]at s;injection s with bt bd;subst bt;subst bd;subst bl;clear cr;go_enter func22,ntmps22;exact Pt
 have b0:((n:Int)==0)=false:=Ae;have A:L≠[]:=λe=>bl Y';have ac:=U A;have b1:1<=n:=O;obtain⟨c,C⟩:∃c,n-1=c:=⟨_,rfl⟩;have b2:(n:Int)-1=(c:Int):=O;have ad:=U C;clear bl A C;go_enter func22,ntmps22;go_wp2;go_loopw[4,15] (λu i wr=>∃(k t:Nat),k<=n/\i=.int .i64 k/\u=.int .i64 t/\t<=n+63*k/\Hid (t=c+((L.map ByteArray.size).take k).sum)/\Hid (∀j,j<k->1<=(L.map ByteArray.size).getD j 0/\(L.map ByteArray.size).getD j 0<=63)/\wr=w) (λ_ i _=>n-(intOf i).toNat)
 case atStart=>exact⟨0,c,Au _,rfl,An,O,DH,λj m=>O,rfl⟩
 case round=>
  obtain⟨k,t,b4,rfl,rfl,b5,h,dy,rfl⟩:=hrel;by_cases am:k<n
  ·have dJ:k<L.length:=by rw[bx.out];exact am
   obtain⟨b,ff,rfl,a9⟩:=F.out k dJ;obtain⟨x,b3⟩:∃x,L.getD k ByteArray.empty=x:=⟨_,rfl⟩;rw[b3]at a9;have jb:=Wn L k dJ;rw[b3]at jb;have f9:k<(L.map ByteArray.size).length:=by simpa using dJ
   by_cases jE:x.size=0
   ·exact AAx
   ·have d_:=Agd x jE;by_cases lR:63<x.size
    ·have eX:Hid (K=k/\E=11):=Avz;exact AiD
    ·have ba:Hid (t+x.size=c+((L.map ByteArray.size).take (k+1)).sum):=by unfold Hid;rw[AgB _ _ f9,jb,h.out];omega
     have bb:Hid (∀j,j<k+1->1<=(L.map ByteArray.size).getD j 0/\(L.map ByteArray.size).getD j 0<=63):=λj m=>Ay7;clear jb f9 dJ b3 jE h dy;go_wp2;go_roundw
     case rel=>exact⟨k+1,t+x.size,O,An,An,O,ba,bb,Dr⟩
     case measure=>simp[intOf];omega
  ·obtain rfl:k=n:=by omega
   have eX:Hid ((127<k\/253<t)/\K=0/\E=11\/¬(127<k\/253<t)/\K=0/\E=0):=by
    have a':=cr.out;have bc:=h.out;rw[AO (by simp[bx.out])]at bc;rw[AbH (by simpa using ac.out) (λj m=>dy.out j (by simpa[bx.out] using m)),C6,bx.out]at a';have b6:=ad.out;exact Ax7
   rcases eX.out with⟨cB,bt,bd⟩|⟨cB,bt,bd⟩
   ·subst bt;subst bd;clear cr eX h dy;by_cases be:127<k
    ·clear cB;exact Pt
    ·have bs:253<t:=by omega
     clear cB;exact Pt
   ·subst bt;subst bd;have be:¬127<k:=O;have bs:¬253<t:=O;clear cr eX h dy cB;exact Pt
def AjH(S:ByteArray)(E:Int)(w:World)(e:Ending)(w':World):Prop:=e=.returned (.tuple #[.string S,.int .i64 E])/\w'=w
def Aee(L:List ByteArray)(k:Nat):(Fw (L.take k)).size<=(Fw L).size:=by
 unfold Fw;rw[Et,Et,Se];exact WH _ k
def Asx(p:Option Addr)(n cap:Nat)(S:ByteArray)(E:Int)(L:List ByteArray)(w:World)(ad:IJ w p L)(bx:Hid (L.length=n))(am:n<=17592186043904)(A:Hid (OI L=(S,E))):Calls prog 50 #[.slice p n cap] w (AjH S E w):=by
 obtain⟨K,F,h⟩:∃K F,CW (L.map ByteArray.size)=(K,F):=⟨_,_,rfl⟩;have a9:=U h;have C:=U ad;have c:=A.out;unfold OI at c;rw[h]at c;simp only at c;clear ad;by_cases hF:F=0
 ·subst hF;rw[V J]at c;injection c with q G;subst G;have c6:=U q;have ba:=SR (by rw[h]:(CW (L.map ByteArray.size)).2=0);have bb:(Fw L).size<=253:=by
   rw[Xe];have:=ba.2.2.2;exact GG
  have be:=U bb;clear A h ba bb q;go_enter func50,ntmps50;go_wp2_with (go_at_call 22;refine(Yc p n cap K 0 L _ C.out bx am a9).mono ?_;rintro e bc ⟨rfl,rfl⟩);go_loopw[6,19] (λu i wr=>∃(k:Nat) (T:ByteArray),k<=n/\i=.int .i64 k/\u=.string T/\T.size<=253/\Hid (Fw (L.take k)=T)/\wr=bc) (λ_ i _=>n-(intOf i).toNat)
  case atStart=>exact⟨0,ByteArray.mk #[],Au _,rfl,rfl,Aw,by simp[Hid,Xd];rfl,Dr⟩
  case round=>
   obtain⟨k,T,b1,rfl,rfl,b2,ih,rfl⟩:=hrel;by_cases bs:k<n
   ·have s:k<L.length:=by rw[bx.out];exact bs
    obtain⟨b,ff,rfl,bt⟩:=C.out k s;obtain⟨x,m⟩:∃x,L.getD k ByteArray.empty=x:=⟨_,rfl⟩;rw[m]at bt;have cu:=Aed (L.take k) x;rw[<-m,<-Up L k s,ih.out,m]at cu;have eJ:=Af (Aee L (k+1)) be.out;by_cases bl:k=0
    ·have d8:Hid (Fw (L.take (k+1))=T++x):=Aze;have i1:Hid ((T++x).size<=253):=YQ;have ac:Hid (T.size+x.size<=253):=Axr;have bv:=ac.out;have bd:¬0<k:=O;have b3:decide (0<k)=false:=Ai bd;clear bl cu eJ m s ih;go_wp2;go_roundw
     case rel=>exact⟨k+1,T++x,O,An,rfl,i1.out,d8,Dr⟩
     case measure=>simp[intOf];omega
    ·have d8:Hid (Fw (L.take (k+1))=(T++ByteArray.mk #[46])++x):=Avq;have i1:Hid (((T++ByteArray.mk #[46])++x).size<=253):=YQ;have ac:Hid (T.size+1+x.size<=253):=Axa;have b4:(T++ByteArray.mk #[46]).size=T.size+1:=by rw[E6];rfl
     have bv:=ac.out;have bd:0<k:=O;have b5:(ByteArray.mk #[46]).size=1:=rfl;clear bl cu eJ m s ih;go_wp2;go_roundw
     case rel=>exact⟨k+1,(T++ByteArray.mk #[46])++x,O,An,rfl,i1.out,d8,Dr⟩
     case measure=>simp[intOf];omega
   ·obtain rfl:k=n:=by omega
    have b0:Hid (T=S):=Ay_;clear ih;go_wp2;go_ret2;exact⟨by rw[<-b0.out];rfl,rfl⟩
 ·rw[N hF]at c;injection c with q G;subst q;subst G;have b6:(F !=0)=true:=RF;clear A h hF;go_enter func50,ntmps50;go_wp2_with (go_at_call 22;refine(Yc p n cap K F L _ C.out bx am a9).mono ?_;rintro e bc ⟨rfl,rfl⟩);exact N6
def info5:(prog.info? 5).map (λi=>(i.zero,i.size,i.bytes))=some (some (.int .u8 0),1,1):=Ax
def BC(w:World)(base:Nat)(v:Value)(xs:List Int):Prop:=
 ∃g cap b c,v=.slice (some ⟨g,0,none⟩) xs.length cap/\base<=g/\w.heap[g]? = some (.cells b 5 c)/\(cap<=c.1\/c.2=0)/\xs.length<=cap/\cap<=maxLen/\b.size=cap/\b.toList.take xs.length=xs.map (.int .u8)
theorem BC.lt{w:World}{B:Nat}{v:Value}{xs:List Int}(h:BC w B v xs):∀k,v.ownBlock=some k->B<=k/\k<w.heap.size:=by
 obtain⟨g,cap,m,q,rfl,c,e,_⟩:=h;intro k b;simp[Value.ownBlock]at b;subst b;exact⟨c,(EM.1 e).1⟩
theorem BC.base{w:World}{B:Nat}{v:Value}{xs:List Int}(h:BC w B v xs):∀k,v.ownBlock=some k->B<=k:=λk b=>(h.lt k b).1
theorem BC.kept{w w':World}{B:Nat}{v:Value}{xs:List Int}{row:Option Nat}(h:BC w B v xs)(c:w.grownBy w' row)(e:v.ownBlock≠row):BC w' B v xs:=by
 obtain⟨g,cap,k,m,rfl,q,b,s⟩:=h;refine⟨g,cap,k,m,rfl,q,?_,s⟩;rw[c.block g (EM.1 b).1 (by simpa[Value.ownBlock] using e)];exact b
theorem BC.block{w:World}{B:Nat}{v:Value}{xs:List Int}(h:BC w B v xs):v.ownBlock≠none:=by
 obtain⟨g,cap,b,c,rfl,_⟩:=h;exact Zj
theorem BC.alloc{w:World}{B:Nat}{v:Value}{xs:List Int}(h:BC w B v xs)(o:Obj):BC (w.alloc o) B v xs:=h.kept (GJ w o none) h.block
theorem BC.below{w w':World}{B:Nat}{v:Value}{xs:List Int}(h:BC w B v xs)(b:Below w.heap.size w w'):BC w' B v xs:=h.kept (G4 b none) h.block
theorem BC.mono{w:World}{B b:Nat}{v:Value}{xs:List Int}(h:BC w B v xs)(c:b<=B):BC w b v xs:=by
 obtain⟨g,cap,e,k,m,q,s⟩:=h;exact⟨g,cap,e,k,m,Af c q,s⟩
def VT(w:World)(s:ByteArray)(h:s.size<=maxLen):∃v b,(convert 9 47 (.string s)).run prog w=.ok v b/\BC b w.heap.size v (Ap s)/\Below w.heap.size w b:=by
 have k:=grownCap_ge w s.size 0 5;have m:=grownCap_le_maxLen w s.size 0 5 h;have c:(bytesRow s (grownCap w s.size 0 5)).size=grownCap w s.size 0 5:=by
  have:s.data.size=s.size:=rfl;simp[bytesRow];omega
 refine⟨_,_,run_bytes_of_string w _ _ _ s underlying9 underlying47 underlying5,?_,?_⟩
 ·refine⟨w.heap.size,grownCap w s.size 0 5,bytesRow s (grownCap w s.size 0 5),_,by rw[Be],Ac _,IC w.drew _,.inl (by rw[c];exact Ac _),by rw[Be];exact k,m,c,?_⟩;have e:(bytesRow s (grownCap w s.size 0 5)).toList=(Ap s).map (.int .u8)++List.replicate (grownCap w s.size 0 5-s.size) (.int .u8 0):=by
   simp[bytesRow,Ap]
  rw[e];exact List.take_left' J
 ·exact((Al _ _).drew).alloc (Ac _) _
def SZ{w:World}{B:Nat}{v:Value}{xs:List Int}(h:BC w B v xs):(convert 47 9 v).run prog w=.ok (.string (strOfNums xs)) w:=by
 obtain⟨g,cap,b,c,rfl,q,m,s,A,C,F,ep⟩:=h;refine Aag w _ _ underlying47 underlying5 g 0 xs.length cap xs rfl ?_ _ underlying9;intro k G;rw[Es w g (0+k) b _ c m,BY];have e:(b.toList.take xs.length)[k]? = (xs.map (Value.int .u8))[k]? := N4;rw[Eu,N O]at e;exact Axk
def ApM{b c:Nat}(h:c<b)(e:b<=140737490452480):Builtin.nextslicecap b c<=281474976710656:=by
 unfold Builtin.nextslicecap;split
 ·omega
 ·split
  ·omega
  ·rw[growBy_four]
   repeat' split
   all_goals omega
def Atb{w:World}(F base:Nat)(v:Value)(xs:List Int)(a9:BC w base v xs)(a:Addr)(c:Nat)(x:Int)(a':w.cell? a=some (.int .u8 x))(ba:xs.length+1<=140737490452480)(bb:base<=w.heap.size):∃q w',(Builtin.append_ #[47,47] F #[v,.slice (some a) 1 c]).run prog w=.ok q w'/\BC w' base q (xs++[x])/\w.grownBy w' v.ownBlock/\(q.ownBlock=v.ownBlock\/q.ownBlock=some w.heap.size):=by
 obtain⟨g,cap,b,s,rfl,bc,m,G,b8,bd,b2,L⟩:=a9;obtain⟨i,dI,be,A,bl⟩:=Cp info5;have ac:∀j u,[Value.int .u8 x][j]? = some u->w.cell? (a.add j)=some u:=by
  intro j u h;cases j with
  | zero=>rw[Aab];rw[a',<-h];rfl
  | succ j=>simp at h
 by_cases ad:xs.length+1<=cap
 ·have bs:w.frozen? ⟨g,xs.length,none⟩=false:=by
   obtain⟨k8,b9⟩:=s;simp only[World.frozen?,m,Z',L3];simp only at G;omega
  have am:xs.length<b.size:=O;have bt:w.cell? ⟨g,xs.length,none⟩=some b[xs.length]:=by simp[World.cell?,m,am]
  have bv:(store ⟨g,xs.length,none⟩ (.int .u8 x)).run prog w=.ok () (w.setRow g (b.setIfInBounds xs.length (.int .u8 x))):=by
   rw[run_store prog w _ (.int .u8 x) _ rfl,bt];simp[bs,R4 w g xs.length b 5 s (.int .u8 x) m]
  have bx:=run_firstCells_some (P:=prog) w 1 1 a 1 c [.int .u8 x] J ac;refine⟨.slice (some ⟨g,0,none⟩) (xs.length+1) cap,w.setRow g (b.setIfInBounds xs.length (.int .u8 x)),?_,⟨g,cap,_,s,J,bc,PG w g b _ _ _ m,G,by simpa using ad,bd,RD,?_⟩,⟨rfl,rfl,rfl,J,λk _ C=>setRow_other w g k _ (λe=>C (by simp[Value.ownBlock,e]))⟩,.inl rfl⟩
  ·simp[Builtin.append_,Aah underlying47,sizeOf,typeInfo,dI,A,Builtin.lenOf,ad,bx,GI,storeCells,bv]
  ·have b0:xs.length<b.toList.length:=by simpa using am
   rw[Array.toList_setIfInBounds,Bc,PM,E9 (by simpa using b0),List.take_set_of_le (Ac _),L];exact J
 ·have b1:∀j u,(xs.map (Value.int .u8))[j]? = some u->w.cell? ((⟨g,0,none⟩:Addr).add j)=some u:=by
   intro j u h;rw[GI,Es w g (0+j) b _ s m,BY];rw[<-L,Eu]at h;split at h
   ·simpa using h
   ·cases h
  have b3:((xs.length+1:Nat):Int)<=9223372036854775807:=O;have b4:Builtin.nextslicecap (xs.length+1) cap*i.bytes<=281474976710656:=by rw[bl,Sv];exact ApM O ba
  have b5:=run_append_grow (P:=prog) w 47 F 5 i _ underlying47 dI be ⟨g,0,none⟩ xs.length cap (xs.map (.int .u8)) (by simp[A]) b1 a 1 c [.int .u8 x] (by simp[A]) ac O b3 b4;have b6:=grownCap_ge w (xs.length+1) cap 5;have b7:=grownCap_le_maxLen w (xs.length+1) cap 5 BQ;refine⟨_,_,b5,⟨w.heap.size,_,_,_,J,bb,IC w.drew _,.inr rfl,by simpa using b6,b7,?_,?_⟩,⟨rfl,rfl,rfl,J,λk C _=>heap_alloc_old w.drew _ C⟩,.inr rfl⟩
  ·have:(Value.cells (.int .u8 0)).size=1:=rfl;simp only[Array.size_append,List.size_toArray,C6,PM,size_zeroCells,this];omega
  ·simp only[Array.toList_append,LV];rw[<-LV];have e:xs.map (Value.int .u8)++[Value.int .u8 x]=(xs++[x]).map (Value.int .u8):=J;rw[e];exact List.take_left' J
def UA{W: World}{ops: Array Oper}{C: List Oper}{o: Oper}{a: Act}{Q: Exit->Act->World->Prop}(F: o.guard = none)(s x: Operand)
  (G:o.op=.call { callee:=.builtin .append,args:=#[s,x],argTypes:=#[47,47]})
  (base:Nat) (v:Value) (xs:List Int) (L:a.eval s=v) (ac:BC W base v xs)
  (y:Int) (c g:Nat) (ad:a.eval x=.slice (some ⟨g,0,none⟩) 1 c) (am:g=W.heap.size)
  (a9:xs.length+1<=140737490452480) (bd:base<=W.heap.size)
  (h:∀m w',BC w' base m (xs++[y])->W.grownBy w' v.ownBlock->(∀b,b<W.heap.size->v.ownBlock≠some b->m.ownBlock≠some b)->wpList prog ops Q C (a.put o.dst m) w'):wpList prog ops Q (o::C) a (W.alloc (.cells #[.int .u8 y] 5)):=by
 subst am;obtain⟨m,w',a',ba,q,bb⟩:=Atb (w:=W.alloc (.cells #[.int .u8 y] 5)) o.type base v xs (ac.alloc _) ⟨W.heap.size,0,none⟩ c y EL a9 Ae;refine wpList_plain F λK bc=>?_;unfold Oper.wp execOp;simp only[G,resolve,invoke,builtin,PC,PD,PA,Oc,BH,Eg,L,ad,a'];have k:=GJ W (.cells #[.int .u8 y] 5) v.ownBlock;refine bc _ _ (h m w' ba ⟨q.os.trans k.os,q.tape.trans k.tape,q.output.trans k.output,Af k.size q.size,λi dI A=>(q.block i (Ci dI k.size) A).trans (k.block i dI A)⟩ ?_);intro b be A;rcases bb with e|e
 ·rw[e];exact A
 ·rw[e];simp;omega
def M5(b:IntKind)(w:World)(v:Value)(x:List Int):Prop:=∃q c,v=.slice q x.length c/\x.length<=c/\BE b w q x
theorem M5.below{b:IntKind}{w w':World}{v:Value}{x:List Int}(h:M5 b w v x)(k:Below w.heap.size w w'):M5 b w' v x:=by
 obtain⟨q,c,e,m,dI⟩:=h;exact⟨q,c,e,m,dI.below k⟩
structure Ij (kd:IntKind) (T:TypeId) (w0 w:World) (B:Nat) (u:Value) (L:List (List Int)) (Vs:List Value):Prop where
 own:w.ownsRow B T 1 u L.length Vs
 len:Vs.length=L.length
 part:∀j,j<L.length->M5 kd w0 (Vs.getD j (.slice none 0 0)) (L.getD j [])
theorem Ij.nil(b:IntKind)(T:TypeId)(w0 w:World)(B:Nat):Ij b T w0 w B (.slice none 0 0) [] []:=⟨PF _ _ _ _,rfl,λj h=>E5⟩
theorem Ij.push{b:IntKind}{T:TypeId}{w0 w m:World}{B n:Nat}{u q x:Value}{L:List (List Int)}{c:List Value}{y:List Int}(h:Ij b T w0 w B u L c)(s:L.length=n)(cq:m.ownsRow B T 1 q (n+1) (c++[x]))(A:M5 b w0 x y):Ij b T w0 m B q (L++[y]) (c++[x]):=by
 subst s;refine⟨MF,Zz,λj C=>?_⟩;by_cases e:j=L.length
 ·subst e;rw[Nl,<-h.len,Nl];exact A
 ·have k:j<L.length:=by simp at C;omega
  rw[Nm _ _ _ _ k,Nm _ _ _ _ (by rw[h.len];exact k)];exact h.part j k
def AfY{c:IntKind}{w:World}{b ff:Nat}{l:List Int}(h:BE c w (some ⟨b,ff,none⟩) l)(k9 k:Nat)(C:k<=l.length):BE c w (some ⟨b,ff+k9,none⟩) ((l.take k).drop k9):=by
 intro j m;have q:k9+j<k:=by simp at m;omega
 obtain⟨F,G,e,s⟩:=h (k9+j) O;cases e;refine⟨_,_,rfl,?_⟩;rw[show ff+k9+j=ff+(k9+j) by omega,s];have A:k9+j<l.length:=O;simp[List.getD,q,A]
def Acd(l:List Int)(k9 k:Nat)(b:k<=l.length):((l.take k).drop k9).length=k-k9:=Ae
def Auj(l:List Int)(k9 k:Nat)(c:k9<=k)(b:k<l.length):(l.take (k+1)).drop k9=(l.take k).drop k9++[l.getD k 0]:=by
 rw[C4 l k b,Vb Ae]
def AjA(b:IntKind)(T:TypeId)(L:List (List Int))(w:World)(e:Ending)(w':World):Prop:=
 ∃g c h,e=.returned (.slice (some ⟨g,0,none⟩) L.length c)/\L.length<=c/\Ij b T w w' w.heap.size (.slice (some ⟨g,0,none⟩) L.length c) L h/\Below w.heap.size w w'
def Al2(p:Option Addr)(n cap:Nat)(l:List Int)(w:World)(b5:BE .i64 w p l)(bx:Hid (l.length=n))(cd:n<=cap)(ce:n<=1099511627776):Calls prog 105 #[.slice p n cap] w (AjA .i64 22 (AU l) w):=by
 have a':=U b5;clear b5;obtain⟨bs,dI,bt,bv,b0⟩:=Cp info22;by_cases b1:∃b ff,p=some ⟨b,ff,none⟩
 ·obtain⟨b,ff,rfl⟩:=b1;go_enter func105,ntmps105;go_wp2;go_loopw[3,4,9] (λu s i wr=>∃(k k9 m:Nat) (D:List (List Int)) (L:List Value),k<=n/\k9<=k/\i=.int .i64 k/\s=.int .i64 k9/\m<=k/\Hid (D.length=m)/\Hid (Ce D ((l.take k).drop k9) (l.drop k)=AU l)/\Hid (Ij .i64 22 w wr w.heap.size u D L)/\Hid (Below w.heap.size w wr)) (λ_ _ i _=>n-(intOf i).toNat)
  case atStart=>exact⟨0,0,0,[],[],Au _,Ac _,rfl,rfl,Ac _,rfl,rfl,Ij.nil _ _ _ _ _,Al _ _⟩
  case round=>
   obtain⟨k,k9,m,D,L,cf,b8,rfl,rfl,cg,hR,hcut,A,ba⟩:=hrel;have b2:=A.out.own;rw[hR.out]at b2;have q:=U b2;have fb:=U ba.out.size;clear b2;by_cases b9:k<n
   ·have ad:k<l.length:=by rw[bx.out];exact b9
    obtain⟨ci,cj,e,b'⟩:=(a'.out.below ba.out) k ad;cases e;obtain⟨c,am⟩:∃c,l.getD k 0=c:=⟨_,rfl⟩;rw[am]at b';by_cases e:c=46
    ·subst e;have cl:¬cap=k9:=O;have bb:M5 .i64 w (.slice (some ⟨b,ff+k9,none⟩) (k-k9) (cap-k9)) ((l.take k).drop k9):=
      ⟨some ⟨b,ff+k9,none⟩,cap-k9,by rw[Acd l k9 k O],by rw[Acd l k9 k O];omega,AfY a'.out k9 k O⟩
     have bc:=U bb;have b3:Hid (Ce (D++[(l.take k).drop k9]) ((l.take (k+1)).drop (k+1)) (l.drop (k+1))=AU l):=by
      unfold Hid;rw[G0 (l:=l.take (k+1)) Ae,<-Ab' ad am];exact hcut.out
     clear am ad hcut bb;go_wp2_with (at_builtin;refine R7 _ rfl _ _ 53 rfl w.heap.size 22 bs (.slice none 0 0) 1 24 underlying53 dI bt bv b0 rfl Aw _ m L rfl (CG q.out (.cells #[.slice (some ⟨b,ff+k9,none⟩) (k-k9) (cap-k9)] 22)) ⟨_,0,none⟩ 1 1 [.slice (some ⟨b,ff+k9,none⟩) (k-k9) (cap-k9)] rfl rfl (IB _ _ _) UC BQ O MM ?_;intro v5 F ie G _ bd);have be:Hid (Ij .i64 22 w F w.heap.size v5 (D++[(l.take k).drop k9]) (L++[.slice (some ⟨b,ff+k9,none⟩) (k-k9) (cap-k9)])):=A.out.push hR.out ie bc.out;have bl:Hid (Below w.heap.size w F):=(ba.out.alloc fb.out _).grown G MM (λj C=>(Bs q.out j C).1);have ca:Hid ((D++[(l.take k).drop k9]).length=m+1):=by unfold Hid;simp[hR.out]
     clear ie G bd q A bc;go_wp2;go_roundw
     case rel=>exact⟨k+1,k+1,m+1,_,_,O,O,An,An,O,ca,b3,be,bl⟩
     case measure=>simp[intOf];omega
    ·have cm:(c==46)=false:=by simp[e]
     have b3:Hid (Ce D ((l.take (k+1)).drop k9) (l.drop (k+1))=AU l):=by
      unfold Hid;rw[Auj l k9 k b8 ad,am,<-Ace ad am e];exact hcut.out
     clear am ad hcut e q;go_wp2;go_roundw
     case rel=>exact⟨k+1,k9,m,D,L,O,O,An,rfl,O,hR,b3,A,ba⟩
     case measure=>simp[intOf];omega
   ·obtain rfl:k=n:=by omega
    obtain⟨P,b6⟩:∃P,(if cap=k9 then some (⟨b,ff,none⟩:Addr)else some ⟨b,ff+k9,none⟩)=P:=⟨_,rfl⟩;have ac:Hid (D++[l.drop k9]=AU l):=by
     have:=hcut.out;rwa[Aca H6,AO H6]at this
    have bb:M5 .i64 w (.slice P (k-k9) (cap-k9)) (l.drop k9):=by
     refine⟨P,cap-k9,by simp[bx.out],by simp[bx.out];omega,?_⟩;have b7:=AfY a'.out k9 k H6;rw[AO H6]at b7;rw[<-b6];by_cases e:cap=k9
     ·rw[G0 Zn];intro j C;simp at C
     ·rw[V e];exact b7
    have bc:=U bb;clear bb hcut;go_wp2_with (at_builtin;refine R7 _ rfl _ _ 53 rfl w.heap.size 22 bs (.slice none 0 0) 1 24 underlying53 dI bt bv b0 rfl Aw _ m L rfl (CG q.out (.cells #[.slice P (k-k9) (cap-k9)] 22)) ⟨_,0,none⟩ 1 1 [.slice P (k-k9) (cap-k9)] rfl rfl (IB _ _ _) UC BQ O MM ?_;intro v5 F ie G _ bd);have a9:Ij .i64 22 w F w.heap.size v5 (D++[l.drop k9]) (L++[.slice P (k-k9) (cap-k9)]):=A.out.push hR.out ie bc.out;rw[ac.out]at a9;have be:=U a9;have bl:Hid (Below w.heap.size w F):=(ba.out.alloc fb.out _).grown G MM (λj C=>(Bs q.out j C).1);have b4:Hid ((AU l).length=m+1):=Axy;obtain⟨fX,eP,rfl,kZ⟩:∃fX eP,v5=.slice (some ⟨fX,0,none⟩) (m+1) eP/\m+1<=eP:=Awf;clear ie G bd q A bc a9 b6;go_wp2;go_ret;exact⟨fX,eP,_,by rw[b4.out];rfl,by rw[b4.out];exact kZ,by rw[b4.out];exact be.out,bl.out⟩
 ·have cb:l=[]:=by
   cases l with
   | nil=>rfl
   | cons x r =>
    obtain⟨b,ff,e,_⟩:=a'.out 0 J;exact absurd ⟨b,ff,e⟩ b1
  subst cb;have cc:n=0:=bx.out.symm;subst cc;clear b1 bx a';go_enter func105,ntmps105;go_wp2;go_loopw[3,4,9] (λu s i wr=>s=.int .i64 (0:Nat)/\i=.int .i64 (0:Nat)/\Hid (Ij .i64 22 w wr w.heap.size u [] [])/\wr=w) (λ_ _ i _=>0)
  case atStart=>exact⟨rfl,rfl,Ij.nil _ _ _ _ _,rfl⟩
  case round=>
   obtain⟨rfl,rfl,A,rfl⟩:=hrel;have q:=U A.out.own;go_wp2_with (at_builtin;refine R7 _ rfl _ _ 53 rfl wr.heap.size 22 bs (.slice none 0 0) 1 24 underlying53 dI bt bv b0 rfl Aw _ 0 [] rfl (CG q.out (.cells #[.slice p 0 cap] 22)) ⟨_,0,none⟩ 1 1 [.slice p 0 cap] rfl rfl (IB _ _ _) UC BQ O J ?_;intro v5 F ie G _ bd);have a9:Ij .i64 22 wr F wr.heap.size v5 ([]++[[]]) ([]++[.slice p 0 cap]):=A.out.push rfl ie ⟨p,cap,rfl,Au _,λj C=>by simp at C⟩;have be:=U a9;have bl:Hid (Below wr.heap.size wr F):=((Al _ _).alloc (Ac _) _).grown G J (λj C=>(Bs q.out j C).1);obtain⟨fX,eP,rfl,kZ⟩:∃fX eP,v5=.slice (some ⟨fX,0,none⟩) 1 eP/\1<=eP:=Awf;clear ie G bd q A a9;go_wp2;go_ret;exact⟨fX,eP,_,rfl,kZ,be.out,bl.out⟩
def IW(L:List (List Int))(k:Nat):List (List Int):=L.take k++List.replicate (L.length-k) []
def Xu(L:List (List Int))(k:Nat)(h:k<=L.length):(IW L k).length=L.length:=by simp[IW];omega
def AqY(L:List (List Int)):IW L 0=List.replicate L.length []:=by simp[IW]
def AqW(L:List (List Int)):IW L L.length=L:=by simp[IW]
def AqX(L:List (List Int))(k:Nat)(h:k<L.length):(IW L k).set k (L.getD k [])=IW L (k+1):=by
 unfold IW;have b:(L.take k).length=k:=Ae;rw[PO,V O,b,MU,AgG L k h];exact AyO
def Js(L:List ByteArray)(k:Nat):List ByteArray:=L.take k++List.replicate (L.length-k) ByteArray.empty
def AqR(L:List ByteArray):Js L 0=List.replicate L.length ByteArray.empty:=by simp[Js]
def AqP(L:List ByteArray):Js L L.length=L:=by simp[Js]
def AqO(L:List ByteArray)(k:Nat)(h:k<L.length):((Js L k).map Value.string)[k]? = some (.string ByteArray.empty):=by
 unfold Js;have b:(L.take k).length=k:=Ae;obtain⟨m,c⟩:∃m,L.length-k=m+1:=⟨L.length-k-1,O⟩;rw[c,Gg,LW O,b];exact J
def AqQ(L:List ByteArray)(k:Nat)(h:k<L.length):(Js L k).set k (L.getD k ByteArray.empty)=Js L (k+1):=by
 unfold Js;have b:(L.take k).length=k:=Ae;rw[PO,V O,b,MU,Up L k h];exact AyO
theorem DR.putAt{w w6:World}{B g cap n i:Nat}{v6:Value}{L:List (List Int)}{x:List Int}{c:List Value}(h:DR w B (.slice (some ⟨g,0,none⟩) n cap) L c)(dI:i<L.length)(A:Ak w6 w.heap.size v6 x)(s:w.grownBy w6 none)(ef:B<=w.heap.size):DR (w6.setCell ⟨g,i,none⟩ v6) B (.slice (some ⟨g,0,none⟩) n cap) (L.set i x) (c.set i v6):=by
 have i':g<w.heap.size:=(Bs h.own g rfl).2;have C:c.length=L.length:=h.len;have F:w6.ownsRow B 22 1 (.slice (some ⟨g,0,none⟩) n cap) L.length c:=N8 h.own s Zj;have G:n=L.length:=Awn;subst G;have jC:=F.stored i v6;have lO:=D3.bj A;refine⟨by simpa using jC.1,by simp[C],λk q=>?_,λk b q ad=>?_⟩
 ·by_cases e:k=i
  ·subst e;rw[O5 _ _ _ _ dI,O5 _ _ _ _ O];exact AyG
  ·have m:k<L.length:=by simpa using q
   rw[O6 _ _ _ _ _ (λbd=>e bd.symm),O6 _ _ _ _ _ (λbd=>e bd.symm)];refine((h.aT k m).kept s (λb _ bd=>by cases bd)).kept jC.2 (λb ad bd=>?_);cases bd;exact h.off k g m ad rfl
 ·by_cases e:k=i
  ·exact AyB
  ·have m:k<L.length:=by simpa using q
   rw[O6 _ _ _ _ _ (λbd=>e bd.symm)]at ad;exact h.off k b m ad
theorem DR.made{w w0:World}{m:Nat}(h:w0.ownsRow w.heap.size 22 1 (.slice (some ⟨w.heap.size,0,none⟩) m m) m (madeCells (Value.slice none 0 0).cells (m*1)).toList):DR w0 w.heap.size (.slice (some ⟨w.heap.size,0,none⟩) m m) (List.replicate m []) (List.replicate m (.slice none 0 0)):=by
 have e:(madeCells (Value.slice none 0 0).cells (m*1)).toList=List.replicate (m*1) (.slice none 0 0):=PH _ _;rw[e,Sv]at h;have q:∀k,(List.replicate m (Value.slice none 0 0)).getD k (.slice none 0 0)=.slice none 0 0:=by
  intro k;by_cases c:k<m
  ·simp[List.getD,c]
  ·simp[List.getD,MT (l:=List.replicate m (Value.slice none 0 0)) (i:=k) Ae]
 refine⟨Co,J,λk c=>?_,λk b c s=>?_⟩
 ·have A:k<m:=by simpa using c
  rw[q];simp only[List.getD,Vg,N A,MV];exact D3.nil _ _
 ·rw[q]at s;cases s
def Ans{w w6:World}{o:Obj}(h:(w.alloc o).grownBy w6 (some w.heap.size)):w.grownBy w6 none:=AcW (GJ w o none) h (λj b=>by cases b;exact Ac _)
def AoN(p:Option Addr)(n cap:Nat)(l:List Int)(w:World)(b8:Aq w p l)(b9:Hid (l.length=n))(cD:n<=cap)(cF:n<=1099511627776):Calls prog 67 #[.slice p n cap] w (AaI (AU l) w):=by
 have cI:=U b8;clear b8;obtain⟨cO,dI,c2,c3,dE⟩:=Cp info22;have a':=S7 l;have bs:=VV l;have ba:=S8 l;rw[b9.out]at a' bs;obtain⟨L,bt⟩:∃L,AU l=L:=⟨_,rfl⟩;rw[bt]at a' bs ba;obtain⟨m,h⟩:∃m,L.length=m:=⟨_,rfl⟩;have dG:1<=m:=by rw[<-h];exact KT.2 ba
 rw[h]at bs;have c4:=U a';have c5:=U ba;have ei:=U h;have bv:=U bt;clear a' ba bt;go_enter func67,ntmps67;go_wp2_with fail;refine(Al2 p n cap l _ cI.out b9 cD cF).mono ?_;rintro e w1 ⟨c6,dH,c7,rfl,b',A,ca⟩;rw[bv.out]at b' A|-;rw[h]at b' A|-;have bx:=A.own;rw[h]at bx;have c8:=U bx;have cb:=U A;have C:=U ca;clear bx A ca h;go_wp2_with (at_make;refine PI _ rfl _ _ 53 rfl w1.heap.size 22 cO (.slice none 0 0) 1 underlying53 dI c2 c3 .i64 .i64 _ _ m rfl rfl rfl rfl I3 BQ (Ac _) ?_;intro w0 cc cd);have ce:=DR.made cc;have cf:Hid (DR w0 w1.heap.size (.slice (some ⟨w1.heap.size,0,none⟩) m m) (IW L 0) (List.replicate m (.slice none 0 0))):=by
  unfold Hid;rw[AqY,ei.out];exact ce
 have cg:Hid (Below w1.heap.size w1 w0):=(Al _ _).grown cd (Ac _) Zg;clear cc cd ce;go_wp2;go_loopw[14] (λi wr=>∃(k:Nat) (s:List Value),k<=m/\i=.int .i64 k/\Hid (DR wr w1.heap.size (.slice (some ⟨w1.heap.size,0,none⟩) m m) (IW L k) s)/\Hid (Below w1.heap.size w1 wr)) (λi _=>m-(intOf i).toNat)
 case atStart=>exact⟨0,_,Au _,rfl,cf,cg⟩
 case round=>
  clear cf cg;obtain⟨k,s,dJ,rfl,F,G⟩:=hrel;have ci:=U G.out.size;by_cases b0:k<m
  ·have bb:k<L.length:=by rw[ei.out];exact b0
   obtain⟨q,c,bc,cj,b1⟩:=cb.out.part k bb;obtain⟨x,bd⟩:∃x,L.getD k []=x:=⟨_,rfl⟩;have c9:x.length<=n:=c4.out x (by rw[<-bd];simp[List.getD,bb]);rw[bd]at bc cj b1;obtain⟨be,b2⟩:∃be,x.length=be:=⟨_,rfl⟩;rw[b2]at bc cj c9;have cl:c7.length=m:=by have:=cb.out.len;rw[ei.out]at this;exact this
   have cm:=Kq c8.out G.out;have c':wr.cell? ⟨c6,k,none⟩=some (.slice q be c):=by
    rw[R0 cm k O,<-bc];simp[List.getD,cl,b0]
   have co:=b1.below (C.out.trans (G.out.mono C.out.size));have da:Hid (Aq (wr.alloc (.cells #[] 3)) q x):=co.alloc _;have cp:=U b2;have db:=U bd;have cq:Ak (wr.alloc (.cells #[] 3)) wr.heap.size (.slice (some ⟨wr.heap.size,0,none⟩) 0 0) []:=N9 wr #[] 0 (Ac _) BQ rfl;have dc:=U cq;have ac:=F.out.own;rw[Xu L k O,ei.out]at ac;have cr:=(Bs ac _ rfl).2;have b3:=R0 ac k O;have cs:=MO ac k;have ct:s.length=m:=by have:=F.out.len;rw[Xu L k O,ei.out]at this;exact this
   obtain⟨b4,cu⟩:∃b4,s[k]? = some b4:=⟨s[k]' O,by simp[ct,b0]⟩;rw[cu]at b3;have df:=U b3;have dj:=U cs;have dk:=U cr;have cv:=U bb;clear bb bc b1 bd b2 cl cm co cq ac cr b3 cs ct cu;go_wp2_with (at_builtin;first
    | (refine De (.tmp 21) (.tmp 22) rfl rfl wr.heap.size (.slice (some ⟨wr.heap.size, 0, none⟩) 0 0) [] (by rfl) dc.out q be c x cp.out (by rfl) da.out (by rw [cp.out]; simp; omega) J ?_
       intro v6 w6 cx cy
       have bl:wr.grownBy w6 none:=Ans cy
       have dm:w6.cell? ⟨w1.heap.size,k,none⟩=some b4:=bl.cell df.out J
       have dn:w6.frozen? ⟨w1.heap.size,k,none⟩=false:=(EN (bl.block w1.heap.size dk.out J)).trans dj.out
       have cA:=U bl
       have b5:Ak w6 wr.heap.size v6 x:=cx
       obtain⟨ad,am,rfl,_,_⟩:=Ac8 b5
       have cB:=U b5
       obtain⟨b,cC⟩:∃b,x.length=b:=⟨_,rfl⟩
       rw[cC]at cB|-
       clear cC cx cy bl b5))
   have dq:Hid (DR (w6.setCell ⟨w1.heap.size,k,none⟩ (.slice ad b am)) w1.heap.size (.slice (some ⟨w1.heap.size,0,none⟩) m m) (IW L (k+1)) (s.set k (.slice ad b am))):=by
    have:=F.out.putAt (i:=k) (x:=x) (v6:=.slice ad b am) (w6:=w6) (by rw[Xu L k Aih];exact cv.out) (by simpa using cB.out) cA.out ci.out;rw[<-db.out,AqX L k cv.out]at this;exact this
   have ds:Hid (Below w1.heap.size w1 (w6.setCell ⟨w1.heap.size,k,none⟩ (.slice ad b am))):=
    (G.out.grown cA.out ci.out Zg).setCell (p:=⟨w1.heap.size,k,none⟩) (Ac _) (.slice ad b am)
   clear dm dn c';go_roundw
   case rel=>exact⟨k+1,_,O,An,dq,ds⟩
   case measure=>simp[intOf];omega
  ·obtain rfl:k=m:=by omega
   have b6:=F.out;rw[<-ei.out,AqW]at b6;obtain⟨dK,dL,e,b7⟩:=b6.new c5.out;injection e with a9 dx dy;injection a9 with a9;injection a9 with a9;subst a9;subst dy;rw[ei.out]at b7;have dz:=U (b7.mono C.out.size);have dF:=U (C.out.trans (G.out.mono C.out.size));clear F b7 dx b6;go_wp2;go_ret;exact⟨w1.heap.size,k,by rw[bv.out,ei.out];rfl,by rw[bv.out];exact dz.out,dF.out⟩
def Aos(p:Option Addr)(n cap:Nat)(L:List (List Int))(X:List Int)(w:World)(h:Ey w p L)(bx:Hid (L.length=n))(m:n<=cap)(s:n<=1099511627776)(eE:Hid (A7 L=X))(cl:Hid (X.length<=1099511627776)):Calls prog 48 #[.slice p n cap] w (AaG X w):=by
 have dG:=U h;clear h;go_enter func48,ntmps48;exact AAS
end Go.Proofs.YtblcoicaeeiojaaGreatDoor
namespace Go.Proofs.YtblcoicaeeiojaaGreatDoor
open Go Go.RowKit
def Ap4(p:Option Addr)(n cap t:Nat)(L:List ByteArray)(w:World)(A:IJ w p L)(C:Hid (L.length=n))(be:1<=n)(bl:n<=127)(ad:Hid (∀j,j<n->(L.map ByteArray.size).getD j 0<=63))(am:Hid ((n-1)+(L.map ByteArray.size).sum=t)):Calls prog 180 #[.slice p n cap] w λe w'=>e=.returned (.int .i64 t)/\w'=w:=by
 have a9:=U A;clear A;obtain⟨c,F⟩:∃c,n-1=c:=⟨_,rfl⟩;have bs:(n:Int)-1=(c:Int):=O;have bt:c<=126:=O;have a':=U F;clear F;go_enter func180,ntmps180;go_wp2;go_loopw[3,11] (λu i wr=>∃(k y:Nat),k<=n/\i=.int .i64 k/\u=.int .i64 y/\y<=c+63*k/\Hid (y=c+((L.map ByteArray.size).take k).sum)/\wr=w) (λ_ i _=>n-(intOf i).toNat)
 case atStart=>exact⟨0,c,Au _,rfl,An,O,DH,rfl⟩
 case round=>
  obtain⟨k,y,bv,rfl,rfl,bx,h,rfl⟩:=hrel;by_cases G:k<n
  ·have m:k<L.length:=by rw[C.out];exact G
   obtain⟨b,ff,rfl,ba⟩:=a9.out k m;obtain⟨x,s⟩:∃x,L.getD k ByteArray.empty=x:=⟨_,rfl⟩;rw[s]at ba;have q:=Wn L k m;rw[s]at q;have ac:k<(L.map ByteArray.size).length:=by simpa using m
   have b0:x.size<=63:=by have:=ad.out k G;rw[q]at this;exact this
   have bb:Hid (y+x.size=c+((L.map ByteArray.size).take (k+1)).sum):=by unfold Hid;rw[AgB _ _ ac,q,h.out];omega
   clear q ac m s h;go_wp2;go_roundw
   case rel=>exact⟨k+1,y+x.size,O,An,An,O,bb,Dr⟩
   case measure=>simp[intOf];omega
  ·obtain rfl:k=n:=by omega
   have bc:Hid (y=t):=by
    have bd:=h.out;rw[AO (by simp[C.out])]at bd;have b1:=am.out;have b2:=a'.out;exact Hj
   clear h;go_wp2;go_ret;exact⟨by rw[bc.out];rfl,rfl⟩
def AeL(p:Option Addr)(n cap K:Nat)(E:Int)(L:List ByteArray)(w:World)(h:IJ w p L)(bx:Hid (L.length=n))(be:n<=17592186043904)(cr:Hid (CW (L.map ByteArray.size)=(K,E))):Calls prog 115 #[.slice p n cap] w λe w'=>e=.returned (.tuple #[.int .i64 K,.int .i64 E])/\w'=w:=by
 have m:=U h;clear h;by_cases bl:n=0
 ·have C:L=[]:=Bw Zc;have q:=cr.out;rw[C]at q;injection q with bt bd;subst bt;subst bd;subst bl;clear cr;go_enter func115,ntmps115;exact Pt
 have bs:((n:Int)==0)=false:=Ae;have s:L≠[]:=λe=>bl Y';have F:=U s;have G:1<=n:=O;clear bl s;go_enter func115,ntmps115;go_wp2;go_loopw[11] (λi wr=>∃(k:Nat),k<=n/\i=.int .i64 k/\Hid (∀j,j<k->1<=(L.map ByteArray.size).getD j 0/\(L.map ByteArray.size).getD j 0<=63)/\wr=w) (λi _=>n-(intOf i).toNat)
 case atStart=>exact⟨0,Au _,rfl,λj c=>O,rfl⟩
 case round=>
  obtain⟨k,bv,rfl,dy,rfl⟩:=hrel;by_cases ac:k<n
  ·have dJ:k<L.length:=by rw[bx.out];exact ac
   obtain⟨b,ff,rfl,ad⟩:=m.out k dJ;obtain⟨x,b3⟩:∃x,L.getD k ByteArray.empty=x:=⟨_,rfl⟩;rw[b3]at ad;have jb:=Wn L k dJ;rw[b3]at jb;have f9:k<(L.map ByteArray.size).length:=by simpa using dJ
   by_cases jE:x.size=0
   ·exact AAx
   ·have d_:=Agd x jE;by_cases lR:63<x.size
    ·have eX:Hid (K=k/\E=11):=Avz;exact AiD
    ·have am:Hid (∀j,j<k+1->1<=(L.map ByteArray.size).getD j 0/\(L.map ByteArray.size).getD j 0<=63):=λj c=>Ay7;clear jb f9 dJ b3 jE dy;go_wp2;go_roundw
     case rel=>exact⟨k+1,O,An,am,Dr⟩
     case measure=>simp[intOf];omega
  ·obtain rfl:k=n:=by omega
   obtain⟨t,A⟩:∃t,(k-1)+(L.map ByteArray.size).sum=t:=⟨_,rfl⟩;have eX:Hid ((127<k\/253<t)/\K=0/\E=11\/¬(127<k\/253<t)/\K=0/\E=0):=by
    have a':=cr.out;rw[AbH (by simpa using F.out) (λj c=>dy.out j (by simpa[bx.out] using c)),C6,bx.out]at a';exact Ax7
   have a9:Hid (∀j,j<k->(L.map ByteArray.size).getD j 0<=63):=λj c=>(dy.out j c).2;have ba:=U A;clear cr dy A;by_cases bb:127<k
   ·obtain⟨bt,bd⟩:K=0/\E=11:=by
     rcases eX.out with⟨_,bt,bd⟩|⟨cB,_⟩
     ·exact⟨bt,bd⟩
     ·exact absurd (.inl bb) cB
    exact Aji
   ·go_wp2_with fail;refine(Ap4 p k cap t L _ m.out bx G O a9 ba).mono ?_;rintro e w2 ⟨rfl,rfl⟩;by_cases bc:253<t
    ·obtain⟨bt,bd⟩:K=0/\E=11:=by
      rcases eX.out with⟨_,bt,bd⟩|⟨cB,_⟩
      ·exact⟨bt,bd⟩
      ·exact absurd (.inr bc) cB
     exact Aji
    ·obtain⟨bt,bd⟩:K=0/\E=0:=by
      rcases eX.out with⟨cB,_⟩|⟨_,bt,bd⟩
      ·exact absurd cB O
      ·exact⟨bt,bd⟩
     exact Aji
def AkO(B b:Nat)(m:List Value)(c:Int)(w:World)(h:J2 B b m w)(b0:m.length+1<=1099511627776)(a9:B<=w.heap.size):Calls prog 116 #[.pointer (some ⟨b,0,none⟩),.int .u8 c] w λe w'=>(∃v,e=.returned v)/\Sz B b (.pointer (some ⟨b,0,none⟩)) (m++[.int .u8 c]) w'/\Below B w w':=by
 obtain⟨a',dI,ba,bb,bc⟩:=Cp infoByte;go_enter func116,ntmps116;go_wp2_with fail;refine(Abn B b m _ h).mono ?_;rintro e w1 ⟨rfl,bd,s⟩;obtain⟨C,v,iX,F,be⟩:=bd;have b1:w1.cell? ⟨b,0,none⟩=some (.pointer (some ⟨b,0,none⟩)):=by rw[U9 iX];rfl
 have b2:w1.cell? ⟨b,1,none⟩=some v:=by rw[U9 iX];rfl
 have bl:b<w1.heap.size:=AwN;have bs:=U F;have fb:=U (show B<=w1.heap.size from Af a9 s.size);go_wp2_with (at_builtin;first
  | (refine R7 _ rfl _ _ 47 rfl B 5 a' (.int .u8 0) 1 1 underlying47 dI ba bb bc rfl Aw v m.length m rfl (CG bs.out (.cells #[.int .u8 c] 5)) ⟨_, 0, none⟩ 1 1 [.int .u8 c] rfl rfl (IB _ _ _) (by intro u G; simp at G; subst G; rfl) Y5 O Awx ?_
     intro bt w2 L bv _ _
     have ac:w1.grownBy w2 v.ownBlock:=(GJ w1 (.cells #[.int .u8 c] 5) v.ownBlock).trans bv
     have q:w2.heap[b]? = some (.cells #[.pointer (some ⟨b,0,none⟩),v] 118 (0,0)):=by
      rw[ac.block b bl (λe=>be e.symm)]
      exact iX
     have b3:w2.cell? ⟨b,0,none⟩=some (.pointer (some ⟨b,0,none⟩)):=by rw[U9 q];rfl
     have b4:w2.cell? ⟨b,1,none⟩=some v:=by rw[U9 q];rfl
     have b5:w2.frozen? ⟨b,1,none⟩=false:=Lib.frozen_of_heap q 1
     obtain⟨ad,am,cap,rfl⟩:∃ad am cap,bt=.slice ad am cap:=by
      rcases L.2 with⟨A,_⟩|⟨g,cap,b6,A,_⟩
      ·exact⟨_,_,_,A⟩
      ·exact⟨_,_,_,A⟩))
 go_wp2;go_ret;refine⟨⟨_,rfl⟩,?_,?_⟩
 ·exact Lib.BuilderAt.put (T:=118) (e:=5) C q (bs':=m++[.int .u8 c]) (by simpa using L) Aw
 ·exact(s.grown ac (by have:=s.size;omega) (λk bx=>(F.lt k bx).1)).setCell (p:=⟨b,1,none⟩) C _
def Ak0(T:ByteArray):Lib.strCells (T++ByteArray.mk #[46])=Lib.strCells T++[.int .u8 46]:=by simp[Lib.strCells,Lib.byteCells]
def Aby(a b:ByteArray):Lib.strCells (a++b)=Lib.strCells a++Lib.strCells b:=by simp[Lib.strCells]
def ApK(p:Option Addr)(n cap:Nat)(S:ByteArray)(E:Int)(L:List ByteArray)(w:World)(bt:IJ w p L)(bx:Hid (L.length=n))(cj:n<=cap)(bv:n<=17592186043904)(ba:Hid (OI L=(S,E))):Calls prog 73 #[.slice p n cap] w λe w'=>e=.returned (.tuple #[.string S,.int .i64 E])/\Below w.heap.size w w':=by
 obtain⟨K,F,q⟩:∃K F,CW (L.map ByteArray.size)=(K,F):=⟨_,_,rfl⟩;have b0:=U q;have bb:=U bt;have m:=ba.out;unfold OI at m;rw[q]at m;simp only at m;clear bt;by_cases hF:F=0
 ·subst hF;rw[V J]at m;injection m with ac bc;subst bc;have c6:=U ac;have s:=SR (by rw[q]:(CW (L.map ByteArray.size)).2=0);have b1:(Fw L).size<=253:=by
   rw[Xe];have:=s.2.2.2;exact GG
  have b2:1<=(Fw L).size:=by
   cases b3:L with
   | nil=>rw[b3]at s;simp at s
   | cons x t =>
    have a':=(s.2.1 x.size (by rw[b3];simp)).1;rw[Xe];exact Ae
  have b':=U b1;have ca:=U b2;clear ba q s b1 ac b2;go_enter func73,ntmps73;go_wp2_with (go_at_call 115;refine(AeL p n cap K 0 L _ bb.out bx bv b0).mono ?_;rintro e c ⟨rfl,rfl⟩);have b4:Hid (J2 c.heap.size c.heap.size (Lib.strCells ByteArray.empty) (c.alloc (.cells #[.pointer none,.slice none 0 0] 118))):=Lib.fresh_isBuilder _ _ c;have b5:=U ((Al c.heap.size c).alloc (Ac _) (.cells #[.pointer none,.slice none 0 0] 118));go_loopw[19] (λi wr=>∃(k:Nat) (T:ByteArray),k<=n/\i=.int .i64 k/\T.size<=253/\Hid (Fw (L.take k)=T)/\Hid (J2 c.heap.size c.heap.size (Lib.strCells T) wr)/\Hid (Below c.heap.size c wr)) (λi _=>n-(intOf i).toNat)
  case atStart=>exact⟨0,ByteArray.empty,Au _,rfl,Aw,by simp[Hid,Xd],b4,b5⟩
  case round=>
   clear b4 b5;obtain⟨k,T,cl,rfl,cm,ih,ad,A⟩:=hrel;have b6:=U A.out.size;by_cases cb:k<n
   ·have am:k<L.length:=by rw[bx.out];exact cb
    obtain⟨b,ff,rfl,C⟩:=bb.out k am;obtain⟨x,G⟩:∃x,L.getD k ByteArray.empty=x:=⟨_,rfl⟩;rw[G]at C;have b7:=(A.out.cell (p:=⟨b,ff+k,none⟩) (AN c _ C)).trans C;have cu:=Aed (L.take k) x;rw[<-G,<-Up L k am,ih.out,G]at cu;have eJ:=Af (Aee L (k+1)) b'.out;by_cases bl:k=0
    ·have d8:Hid (Fw (L.take (k+1))=T++x):=Aze;have i1:Hid ((T++x).size<=253):=YQ;have bd:Hid (T.size+x.size<=253):=Axr;have b8:¬0<k:=O;have co:decide (0<k)=false:=Ai b8;clear bl cu eJ G am ih C;go_wp2_with fail;refine(Abr c.heap.size c.heap.size (Lib.strCells T) x _ ad.out (by rw[Aae];have:=bd.out;omega) b6.out).mono ?_;rintro e w6 ⟨rfl,a',h⟩;have be:Hid (J2 c.heap.size c.heap.size (Lib.strCells (T++x)) w6):=by unfold Hid;rw[Aby];exact .inr a'
     have a9:=U (A.out.trans h);clear a' h b7;go_wp2;go_roundw
     case rel=>exact⟨k+1,T++x,O,An,i1.out,d8,be,a9⟩
     case measure=>simp[intOf];omega
    ·have d8:Hid (Fw (L.take (k+1))=(T++ByteArray.mk #[46])++x):=Avq;have i1:Hid (((T++ByteArray.mk #[46])++x).size<=253):=YQ;have bd:Hid (T.size+1+x.size<=253):=Axa;have cc:Hid ((T++ByteArray.mk #[46]).size=T.size+1):=Ah2;have b8:0<k:=O;clear bl cu eJ G am ih C;go_wp2_with fail;refine(AkO c.heap.size c.heap.size (Lib.strCells T) 46 _ ad.out (by rw[Aae];omega) b6.out).mono ?_;rintro e w6 ⟨⟨v6,rfl⟩,a',h⟩;have be:Hid (J2 c.heap.size c.heap.size (Lib.strCells (T++ByteArray.mk #[46])) w6):=by unfold Hid;rw[Ak0];exact .inr a'
     have a9:=U (A.out.trans h);have cd:=U a9.out.size;clear a' h b7;go_wp2_with fail;refine(Abr c.heap.size c.heap.size (Lib.strCells (T++ByteArray.mk #[46])) x _ be.out (by rw[Aae,cc.out];have:=bd.out;omega) cd.out).mono ?_;rintro e b9 ⟨rfl,a',h⟩;have ce:Hid (J2 c.heap.size c.heap.size (Lib.strCells ((T++ByteArray.mk #[46])++x)) b9):=by unfold Hid;rw[Aby];exact .inr a'
     have bs:=U (a9.out.trans h);clear a' h;go_wp2;go_roundw
     case rel=>exact⟨k+1,(T++ByteArray.mk #[46])++x,O,An,i1.out,d8,ce,bs⟩
     case measure=>simp[intOf];omega
   ·obtain rfl:k=n:=by omega
    have cf:Hid (T=S):=Ay_;have cg:Hid (S.size≠0):=by unfold Hid;rw[<-c6.out];have:=ca.out;omega
    have ci:Hid (J2 c.heap.size c.heap.size (Lib.strCells S) wr):=by rw[<-cf.out];exact ad
    clear ih ad;go_wp2_with fail;refine(AkL c.heap.size c.heap.size S.data.toList _ ci.out (by
     intro e
     apply cg.out
     rw[<-ByteArray.size_data,<-RU,e];rfl)).mono ?_
    rintro e b9 ⟨rfl,h⟩;have bs:=U (A.out.trans h);clear h;go_wp2;go_ret2;exact⟨J,bs.out⟩
 ·rw[N hF]at m;injection m with ac bc;subst ac;subst bc;have cp:(F !=0)=true:=RF;clear ba q hF;go_enter func73,ntmps73;go_wp2_with (go_at_call 115;refine(AeL p n cap K F L _ bb.out bx bv b0).mono ?_;rintro e c ⟨rfl,rfl⟩);go_ret2;exact UW
end Go.Proofs.YtblcoicaeeiojaaGreatDoor
