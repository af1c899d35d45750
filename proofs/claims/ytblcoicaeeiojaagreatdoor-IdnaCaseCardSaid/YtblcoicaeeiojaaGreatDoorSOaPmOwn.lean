/- Small words on slices th -/
import Derived.Test.YtblcoicaeeiojaaGreatDoorSOaHdA
import Derived.Test.YtblcoicaeeiojaaGreatDoorRows
import Derived.WalkSpells
import Derived.WalkLawsBesides
import Derived.Lib.Hide
set_option linter.all false
set_option maxHeartbeats 2000000
set_option maxRecDepth 100000
open Go.Proofs.Tryz
namespace Go.Proofs.YtblcoicaeeiojaaGreatDoor
open Go.RowKit
def G4{w w':World}(h:Below w.heap.size w w')(row:Option Nat):w.grownBy w' row:=
 ⟨h.os,h.tape,h.output,h.size,λk b _=>h.block k b⟩
def Kq{w w':World}{B:Nat}{e:TypeId}{z:Nat}{v:Value}{n:Nat}{xs:List Value}(h:w.ownsRow B e z v n xs)(b:Below w.heap.size w w'):w'.ownsRow B e z v n xs:=
 h.kept (G4 b none) (by cases v.ownBlock<;>simp)
def Iv{w:World}{B m:Nat}{e:TypeId}{z:Nat}{v:Value}{n:Nat}{xs:List Value}(h:w.ownsRow B e z v n xs)(A:m<=B):w.ownsRow m e z v n xs:=by
 obtain⟨q,k⟩:=h;refine⟨q,?_⟩;rcases k with k|⟨g,cap,s,a,b,c⟩
 ·exact .inl k
 ·exact .inr ⟨g,cap,s,a,O,c⟩
def info3:(prog.info? 3).map (λi=>(i.zero,i.size,i.bytes))=some (some (.int .i64 0),1,8):=by kernel_rfl
def Ak(w:World)(B:Nat)(v:Value)(xs:List Int):Prop:=w.ownsRow B 3 1 v xs.length (xs.map (.int .i64))
theorem Ak.nil(w:World)(B:Nat):Ak w B (.slice none 0 0) []:=World.ownsRow_nil _ _ _ _
theorem Ak.below{w w':World}{B:Nat}{v:Value}{xs:List Int}(h:Ak w B v xs)(b:Below w.heap.size w w'):Ak w' B v xs:=Kq h b
def BE(t:IntKind)(w:World)(p:Option Addr)(ao:List Int):Prop:=
 ∀k,k<ao.length->∃b ff,p=some ⟨b,ff,none⟩/\w.cell? ⟨b,ff+k,none⟩=some (.int t (ao.getD k 0))
abbrev Aq(w:World)(p:Option Addr)(ao:List Int):Prop:=BE .i64 w p ao
theorem BE.below{t:IntKind}{w w':World}{p:Option Addr}{ao:List Int}(h:BE t w p ao)(ad:Below w.heap.size w w'):BE t w' p ao:=AvK
theorem BE.alloc{t:IntKind}{w:World}{p:Option Addr}{ao:List Int}(h:BE t w p ao)(o:Obj):BE t (w.alloc o) p ao:=
 h.below ((RowKit.Below.refl _ _).alloc (Ac _) o)
def G1(k:IntKind)(w:World)(a:Option Addr)(len cap:Nat)(ao:List Int):Prop:=
 (a=none/\len=0/\cap=0/\ao=[])\/
 ∃x,a=some x/\len<=cap/\cap*(k.bits/8)<=140737488351232/\ao.length=cap/\(∀i,i<ao.length->w.cell? (x.add i)=some (.int k (ao.getD i 0)))/\∀n∈ao,(Lit.int k n).wf=true
theorem G1.ap{t:IntKind}{w:World}{a:Option Addr}{len cap:Nat}{ao:List Int}(h:G1 t w a len cap ao):∃xs:List Int,len=xs.length/\xs.length*(t.bits/8)<=140737488351232/\BE t w a xs/\∀n∈xs,(Lit.int t n).wf=true:=by
 rcases h with⟨rfl,rfl,rfl,rfl⟩|⟨x,rfl,L,q,ac,e,s⟩
 ·exact⟨[],rfl,J,λk ba=>I4,J⟩
 ·refine⟨ao.take len,Ae,Af (JX _ Ae) q,λk ba=>?_,λn A=>s n (KW A)⟩;have C:k<len:=IA;have m:k<ao.length:=O;have c:=e 0 O;have F:x.spot=none:=by
   rw[Addr.add_zero']at c;unfold World.cell? at c;split at c
   ·split at c
    ·cases c
    ·rename_i G;simpa using G
   ·cases c
  obtain⟨b,ff,ad⟩:=x;subst F;refine⟨b,ff,rfl,?_⟩;have:=e k m;rw[Addr.add_lit]at this;rw[this];simp[C,m]
theorem Ak.ap{w:World}{B:Nat}{v:Value}{ao:List Int}(h:Ak w B v ao):∃p cap,v=.slice p ao.length cap/\Aq w p ao:=by
 obtain⟨s,c⟩:=h;rcases c with⟨rfl,m⟩|⟨g,cap,b,rfl,A,q,C,F,G,ep⟩
 ·have:ao=[]:=Bw m;subst this;exact⟨none,0,rfl,λk ba=>I4⟩
 ·refine⟨_,cap,rfl,λk ba=>⟨g,0,rfl,?_⟩⟩;rw[cell_of_row w g (0+k) b _ (0,0) q,BY];have e:(b.toList.take (ao.length*1))[k]? = (ao.map (Value.int .i64))[k]? := N4;exact Ai8
def C4(l:List Int)(k:Nat)(h:k<l.length):l.take (k+1)=l.take k++[l.getD k 0]:=by
 rw[E9 h];simp[h]
def Dc(v n:Int):Int:=(v%18446744073709551616)%n
def XE(v n:Int)(h:1<=n):0<=Dc v n/\Dc v n<n:=by
 unfold Dc;exact⟨Int.emod_nonneg _ O,Int.emod_lt_of_pos _ O⟩
def Arf(v n:Int)(b:1<=n)(c:n<=1125899906842624):wrap64 ((IntKind.u64.wrap v).tmod n)=Dc v n:=by
 have h:=XE v n b;have e:(IntKind.u64.wrap v).tmod n=Dc v n:=by
  rw[IntKind.wrap_u64,Aak (Int.emod_nonneg _ O)];rfl
 rw[e];exact IntWalk.wrap64_in _ ⟨O,O⟩
def Asa{a b:Int}(h:a=b):Ending.returned (.int .i64 a)=.returned (.int .i64 b):=by rw[h]
def AeT(v n:Int)(w:World)(b:1<=n)(c:n<=1125899906842624):Calls prog 18 #[.int .i64 v,.int .i64 n] w λe w'=>e=.returned (.int .i64 (Dc v n))/\w=w':=by
 go_enter func18,ntmps18;go_wp2;go_ret;exact⟨Asa (Arf v n b c),rfl⟩
def Are(v n: Int)(w: World)(b: 1<=n)(c: n<=1073741824) :
  Calls prog 18 #[.int .i64 v,.int .i64 n] w λe w'=>e=.returned (.int .i64 (Dc v n))/\w=w':=AeT v n w b O
def X6{P:Program}{w:World}(base:Nat)(t h e:TypeId)(i:TypeInfo)(size:Nat)(b:P.underlying t=some (.slice e))(dI:P.info? e=some i)(v:Value)(n:Nat)(xs:List Value)(c:Nat)(k:w.ownsRow base e size v n xs):(Builtin.append_ #[t,t] h #[v,.slice none 0 c]).run P w=.ok v w:=by
 rcases k.2 with⟨rfl,rfl⟩|⟨g,cap,q,rfl,_,_,m,_⟩
 ·simp[Builtin.append_,run_underlying b,sizeOf,typeInfo,dI,Builtin.lenOf,Builtin.firstCells]
 ·simp[Builtin.append_,run_underlying b,sizeOf,typeInfo,dI,Builtin.lenOf,Builtin.firstCells,m,storeCells]
def Qu(w:World)(row:Option Nat):w.grownBy w row:=⟨rfl,rfl,rfl,Ac _,λ_ _ _=>rfl⟩
theorem BE.bz{t:IntKind}{w w':World}{p:Option Addr}{ao:List Int}(h:BE t w p ao)(c:w.grownBy w' none):BE t w' p ao:=by
 intro k m;obtain⟨b,ff,e,q⟩:=h k m;exact⟨b,ff,e,c.cell q J⟩
theorem BE.bY{t:IntKind}{w0 w w':World}{p:Option Addr}{ao:List Int}{row:Option Nat}(q:BE t w0 p ao)(h:BE t w p ao)(s:w.grownBy w' row)(A:∀k,row=some k->w0.heap.size<=k):BE t w' p ao:=by
 intro k c;obtain⟨b,ff,e,C⟩:=h k c;obtain⟨L,ac,m,F⟩:=q k c;rw[e]at m;cases m;have G:=World.block_lt_of_cell? w0 _ F;exact⟨b,ff,e,s.cell C (λh=>by have:=A b h.symm;simp only at G;omega)⟩
def Avc{w: World}{o: Oper}{a: Act}{K: Act->World->Prop}{Q: Exit->Act->World->Prop}(s x: Operand)
  (A:o.op=.call { callee:=.builtin .append,args:=#[s,x],argTypes:=#[22,22]})
  (base:Nat) (v:Value) (xs:List Int) (C:a.eval s=v) (cm:Ak w base v xs)
  (p:Option Addr) (m c:Nat) (cy:List Int) (L:cy.length=m) (F:a.eval x=.slice p m c) (e9:Aq w p cy)
  (bl:xs.length+cy.length<=17592186043904) (ac:base<=w.heap.size)
  (h:∀k w',Ak w' base k (xs++cy)->w.grownBy w' v.ownBlock->K (a.put o.dst k) w'):o.wp prog a w K Q:=by
 subst L;obtain⟨G,dI,ad,am,a9⟩:=info_parts info3;cases p with
 | none =>
  have a':cy=[]:=AiK;subst a';have ba:=X6 (P:=prog) base 22 o.type 3 G 1 underlying22 dI v xs.length _ c cm;unfold Oper.wp execOp;simp only[A,resolve,invoke,builtin,Sem.run_bind,Sem.run_pure,Result.andThen_ok,Oc,BH,Eg,C,F,Gh,ba];exact h v w ZV (Qu _ _)
 | some k_ =>
  refine wp_append_own w s x 22 A base 3 G (.int .i64 0) 1 8 underlying22 dI ad am a9 rfl Aw v xs.length _ C cm k_ cy.length c (cy.map (.int .i64)) F J ?_ ?_ BQ O ac ?_
  ·intro j u en;rw[Gg]at en;cases q:cy[j]? with
   | none=>rw[q]at en;cases en
   | some y =>
    rw[q]at en;simp only[MW,FI]at en;obtain⟨bb,bs⟩:=LX.1 q;obtain⟨b,ff,e,bc⟩:=e9 j bb;simp only[FI]at e;subst e;rw[Addr.add_lit,bc,<-en];simp[List.getD,q]
  ·exact AxB
  ·intro k w' bd be _;exact h k w' (by unfold Ak;simpa using bd) be
def De{w: World}{ops: Array Oper}{e: List Oper}{o: Oper}{a: Act}{Q: Exit->Act->World->Prop}(s x: Operand)
  (q:o.op=.call { callee:=.builtin .append,args:=#[s,x],argTypes:=#[22,22]})
  (A:Region.wanted o (yielded ops a.tmps)=true)
  (base:Nat) (v:Value) (xs:List Int) (C:a.eval s=v) (F:Ak w base v xs)
  (p:Option Addr) (m c:Nat) (b:List Int) (G:b.length=m) (L:a.eval x=.slice p m c) (ac:Aq w p b)
  (ad:xs.length+b.length<=17592186043904) (am:base<=w.heap.size)
  (h:∀k w',Ak w' base k (xs++b)->w.grownBy w' v.ownBlock->wpList prog ops Q e (a.put o.dst k) w'):wpList prog ops Q (o::e) a w:=by
 unfold wpList;rw[N A];exact .inl (Avc s x q base v xs C F p m c b G L ac ad am h)
def A0(c:Int):Int:=
 if 4352<=c/\c<=4370 then 1 else if 4449<=c/\c<=4469 then 2 else if 4520<=c/\c<=4546 then 3
 else if c<44032\/55203<c then 0 else if(c-44032)%28=0 then 4 else 5
def LB(c:Int):Int × Int × Int × Bool:=
 if 44032<=c/\c<=55203 then((c-44032)/28/21,(c-44032)/28%21,(c-44032)%28,true) else(0,0,0,false)
def BK(c:Int):List Int:=
 if 44032<=c/\c<=55203 then
  (if(c-44032)%28=0 then [4352+(c-44032)/28/21,4449+(c-44032)/28%21]
   else [4352+(c-44032)/28/21,4449+(c-44032)/28%21,4519+(c-44032)%28])
 else []
def Fo(a b:Int):Int × Bool:=
 if A0 a=1/\A0 b=2 then(44032+(21*(a-4352)+b-4449)*28,true)
 else if A0 a=4/\A0 b=3 then(a+b-4519,true) else(0,false)
def Ox(c:Int):List Int:=if BK c=[]then [c]else BK c
def Ny{c:Int}:A0 c=1↔4352<=c/\c<=4370:=by
 unfold A0;constructor
 ·intro h;by_cases a':4352<=c/\c<=4370
  ·exact a'
  ·exact Ajp
 ·intro h;rw[N h]
def OD{c:Int}:A0 c=2↔4449<=c/\c<=4469:=by
 unfold A0;constructor
 ·intro h;by_cases a':4449<=c/\c<=4469
  ·exact a'
  ·exact Ajp
 ·intro h;rw[V O,N h]
def OE{c:Int}:A0 c=3↔4520<=c/\c<=4546:=by
 unfold A0;constructor
 ·intro h;by_cases a':4520<=c/\c<=4546
  ·exact a'
  ·exact Ajp
 ·intro h;rw[V O,V O,N h]
def Nz{c:Int}:A0 c=4↔44032<=c/\c<=55203/\(c-44032)%28=0:=by
 unfold A0;constructor
 ·exact AvG
 ·intro h;rw[V O,V O,V O,V O,N h.2.2]
def Ts{c:Int}:A0 c=5↔44032<=c/\c<=55203/\(c-44032)%28≠0:=by
 unfold A0;constructor
 ·exact AvG
 ·intro h;rw[V O,V O,V O,V O,V h.2.2]
def Nx{c:Int}(b:¬(4352<=c/\c<=4370))(e:¬(4449<=c/\c<=4469))(k:¬(4520<=c/\c<=4546))(h:c<44032\/55203<c):A0 c=0:=by
 unfold A0;rw[V b,V e,V k,N h]
def QL{c i j k:Int}{b:Bool}(h:LB c=(i,j,k,b)):(b=false/\i=0/\j=0/\k=0/\(c<44032\/55203<c))\/(b=true/\0<=i/\i<19/\0<=j/\j<21/\0<=k/\k<28/\c=44032+(21*i+j)*28+k):=by
 unfold LB at h;split at h
 ·rename_i e;simp only[DY]at h;obtain⟨rfl,rfl,rfl,rfl⟩:=h;right;refine⟨rfl,?_⟩;omega
 ·simp only[DY]at h;obtain⟨rfl,rfl,rfl,rfl⟩:=h;left;exact⟨rfl,rfl,rfl,rfl,O⟩
def Ack{c i j k:Int}{b:Bool}(h:LB c=(i,j,k,b)):BK c=(bif b then(if k=0 then [4352+i,4449+j]else [4352+i,4449+j,4519+k])else []):=by
 unfold LB at h;unfold BK;split at h
 ·rename_i e;rw[N e];exact Aw8
 ·rename_i e;rw[V e];exact Aw8
def AbW{a b:Int}(c:A0 a=1)(e:A0 b=2):Fo a b=(44032+(21*(a-4352)+b-4449)*28,true):=by
 unfold Fo;rw[N ⟨c,e⟩]
def AbX{a b:Int}(c:A0 a=4)(e:A0 b=3):Fo a b=(a+b-4519,true):=by
 unfold Fo;rw[V (by rw[c,e];decide),N ⟨c,e⟩]
def M_{a b:Int}(c:¬(A0 a=1/\A0 b=2))(e:¬(A0 a=4/\A0 b=3)):Fo a b=(0,false):=by
 unfold Fo;rw[V c,V e]
def Alu{a b x:Int}{o:Bool}(h:Fo a b=(x,o)):(o=true/\A0 a=1/\A0 b=2/\x=44032+(21*(a-4352)+b-4449)*28)\/(o=true/\A0 a=4/\A0 b=3/\x=a+b-4519)\/(o=false/\x=0):=by
 unfold Fo at h;split at h
 ·rename_i c;simp only[DY]at h;exact .inl ⟨h.2.symm,c.1,c.2,h.1.symm⟩
 ·split at h
  ·rename_i c;simp only[DY]at h;exact .inr (.inl ⟨h.2.symm,c.1,c.2,h.1.symm⟩)
  ·simp only[DY]at h;exact .inr (.inr ⟨h.2.symm,h.1.symm⟩)
def Alw{a b x:Int}(c:A0 a=1)(e:A0 b=2)(k:x=44032+(21*(a-4352)+b-4449)*28):A0 x=4/\BK x=Ox a++[b]:=by
 rw[Ny]at c;rw[OD]at e;refine⟨Nz.2 O,?_⟩;have h:BK a=[]:=by unfold BK;rw[V O]
 unfold Ox;rw[N h];unfold BK;rw[N O,N O];simp only[CH,Cv,List.cons.injEq,and_true];omega
def Alx{a b x:Int}(c:A0 a=4)(h:A0 b=3)(k:x=a+b-4519):A0 x=5/\BK x=Ox a++[b]:=by
 rw[Nz]at c;rw[OE]at h;refine⟨Ts.2 O,?_⟩;have e:BK a=[4352+(a-44032)/28/21,4449+(a-44032)/28%21]:=by unfold BK;rw[N O,N c.2.2]
 unfold Ox;rw[V (by rw[e];simp),e];unfold BK;rw[N O,V O];simp only[CH,Cv,List.cons.injEq,and_true];omega
end Go.Proofs.YtblcoicaeeiojaaGreatDoor
namespace Go.Proofs.YtblcoicaeeiojaaGreatDoor
open Go Go.RowKit
def infoByte:(prog.info? 5).map (λi=>(i.zero,i.size,i.bytes))=some (some (.int .u8 0),1,1):=by kernel_rfl
def sizeBld:(prog.info? 118).map (·.size)=some 2:=by kernel_rfl
def liesBld:liesAt prog prog.depth 118 (2/prog.cellsOf 118) 0 118 1=true:=by kernel_rfl
abbrev Sz(B b:Nat)(p:Value)(c:List Value)(w:World):Prop:=Lib.BuilderAt 118 5 B b p c w
abbrev J2(B b:Nat)(c:List Value)(w:World):Prop:=Lib.IsBuilder 118 5 B b c w
def Akw(b:Nat)(w:World)(h:w.cell? ⟨b,0,none⟩=some (.pointer (some ⟨b,0,none⟩))):Calls prog 181 #[.pointer (some ⟨b,0,none⟩)] w λe w'=>e=.returned (.tuple #[])/\w'=w:=by
 obtain⟨j,c,_⟩:=Aax.1 sizeBld;go_enter func181,ntmps181;go_wp2;rw[Lib.run_neq_ptr_same w _ underlying116 c];go_wp2;go_end0;exact C5
def Akv(b:Nat)(w:World)(m:w.cell? ⟨b,0,none⟩=some (.pointer none))(c:w.shape? b=some (118,2))(q:w.frozen? ⟨b,0,none⟩=false):Calls prog 181 #[.pointer (some ⟨b,0,none⟩)] w λe w'=>e=.returned (.tuple #[])/\w'=w.setCell ⟨b,0,none⟩ (.pointer (some ⟨b,0,none⟩)):=by
 obtain⟨j,h,k⟩:=Aax.1 sizeBld;go_enter func181,ntmps181;go_wp2;rw[Lib.run_to_unsafe w ⟨b,0,none⟩ underlying116 underlying197 h (by rw[k];decide) c (Nat.zero_lt_succ 1)];simp only[Result.andThen];rw[Oper.upon_value];go_wp2;rw[run_callFunc_extern func250 (by kernel_rfl) (by kernel_rfl) (by kernel_rfl) (e:=Extern.AbiNoEscape.same) (by kernel_rfl)];rw[Lib.run_noEscape];simp only[Result.andThen];rw[Oper.upon_value];go_wp2;rw[Lib.run_from_unsafe w ⟨b,0,none⟩ underlying197 underlying116 h c liesBld];simp only[Result.andThen];rw[Oper.upon_value];go_wp2;go_end0;exact C5
def Abn(B b:Nat)(c:List Value)(w:World)(h:J2 B b c w):Calls prog 181 #[.pointer (some ⟨b,0,none⟩)] w λe w'=>e=.returned (.tuple #[])/\Sz B b (.pointer (some ⟨b,0,none⟩)) c w'/\Below B w w':=by
 rcases h with h|h
 ·refine(Akv b w h.cell0 h.shape h.frozen0).mono ?_;rintro e w' ⟨rfl,rfl⟩;exact⟨rfl,h.used _,(RowKit.Below.refl B w).setCell (p:=⟨b,0,none⟩) h.1 _⟩
 ·refine(Akw b w h.cell0).mono ?_;rintro e w' ⟨rfl,rfl⟩;exact⟨rfl,h,RowKit.Below.refl B _⟩
def Abr(B b:Nat)(c:List Value)(s:ByteArray)(w:World)(h:J2 B b c w)(bs:c.length+s.size<=140737488355328)(bt:B<=w.heap.size):Calls prog 117 #[.pointer (some ⟨b,0,none⟩),.string s] w λe w'=>e=.returned (.tuple #[.int .i64 s.size,.nilIface])/\Sz B b (.pointer (some ⟨b,0,none⟩)) (c++Lib.strCells s) w'/\Below B w w':=by
 obtain⟨am,dI,a9,a',ba⟩:=info_parts infoByte;go_enter func117,ntmps117;go_wp2_with fail;refine(Abn B b c _ h).mono ?_;rintro e w1 ⟨rfl,bb,q⟩;obtain⟨C,v,iX,F,bc⟩:=bb;have bv:w1.cell? ⟨b,0,none⟩=some (.pointer (some ⟨b,0,none⟩)):=by rw[Lib.cell_of_heap iX];rfl
 have bx:w1.cell? ⟨b,1,none⟩=some v:=by rw[Lib.cell_of_heap iX];rfl
 go_wp2_with (at_builtin;refine Lib.wpList_append_own_string _ rfl _ _ 47 9 rfl B 5 am underlying47 underlying9 dI a9 a' ba _ _ _ rfl F s rfl ?c3 ?c4 ?c5 ?_)
 case c3=>unfold maxLen;omega
 case c4=>omega
 case c5=>have:=q.size;omega
 intro bd w2 G L _;have be:b<w1.heap.size:=AwN;have m:w2.heap[b]? = some (.cells #[.pointer (some ⟨b,0,none⟩),v] 118 (0,0)):=by
  rw[L.block b be (λe=>bc e.symm)];exact iX
 have b0:w2.cell? ⟨b,0,none⟩=some (.pointer (some ⟨b,0,none⟩)):=by rw[Lib.cell_of_heap m];rfl
 have b1:w2.cell? ⟨b,1,none⟩=some v:=by rw[Lib.cell_of_heap m];rfl
 have b2:w2.frozen? ⟨b,1,none⟩=false:=Lib.frozen_of_heap m 1;obtain⟨ac,ad,cap,rfl⟩:∃ac ad cap,bd=.slice ac ad cap:=by
  rcases G.2 with⟨A,_⟩|⟨g,cap,b3,A,_⟩
  ·exact⟨_,_,_,A⟩
  ·exact⟨_,_,_,A⟩
 go_wp2;go_ret2;refine⟨rfl,?_,?_⟩
 ·exact Lib.BuilderAt.put (T:=118) (e:=5) C m (bs':=c++Lib.strCells s) (by simpa[Lib.strCells_length] using G) Aw
 ·exact(q.grown L (by have:=q.size;omega) (λk bl=>(F.lt k bl).1)).setCell (p:=⟨b,1,none⟩) C _
def AkL(B b:Nat)(l:List UInt8)(w:World)(h:J2 B b (Lib.byteCells l) w)(m:l≠[]):Calls prog 118 #[.pointer (some ⟨b,0,none⟩)] w λe w'=>e=.returned (.string ⟨l.toArray⟩)/\Below B w w':=by
 obtain⟨p,am,v,q,k,a9⟩:∃p,Sz B b p (Lib.byteCells l) w:=by
  rcases h with h|h
  ·exact⟨_,h⟩
  ·exact⟨_,h⟩
 have s:l.length≠0:=by simpa using m
 rw[Lib.byteCells_length]at k;obtain⟨g,cap,c,rfl,A,C,a',F,ba,bb⟩:∃g cap c,v=.slice (some ⟨g,0,none⟩) l.length cap/\B<=g/\w.heap[g]? = some (.cells c 5 (0,0))/\l.length<=cap/\cap<=maxLen/\c.size=cap*1/\c.toList.take (l.length*1)=Lib.byteCells l:=by
  rcases k.2 with⟨_,G⟩|⟨g,cap,c,L,r⟩
  ·exact absurd G s
  ·exact⟨g,cap,c,L,r⟩
 have bc:w.drew.cell? ⟨b,1,none⟩=some (.slice (some ⟨g,0,none⟩) l.length cap):=by
  have:w.drew.heap[b]? = some (.cells #[p,.slice (some ⟨g,0,none⟩) l.length cap] 118 (0,0)):=q;rw[Lib.cell_of_heap this];rfl
 have bd:(Builtin.unsafeSliceData_ #[47] 160 #[.slice (some ⟨g,0,none⟩) l.length cap]).run prog w.drew=.ok (.pointer (some ⟨g,0,none⟩)) w.drew:=
  Lib.run_unsafeSliceData_row _ _ _ _ _ _ O
 have be:(Builtin.unsafeString_ #[160,3] 9 #[.pointer (some ⟨g,0,none⟩),.int .i64 l.length]).run prog w.drew=.ok (.string ⟨l.toArray⟩) (w.drew.freeze ⟨g,0,none⟩ l.length):=by
  refine Lib.run_unsafeString_row w.drew 160 3 9 5 underlying160 (by kernel_rfl) g c.size (by have ac:w.drew.heap[g]? = some (.cells c 5 (0,0)):=C;simp[World.shape?,ac]) l m O (by unfold maxLen at F;omega) ?_;intro j x ad;have:=k.cells (g:=g) rfl j (.int .u8 x.toNat) (by simp[Lib.byteCells,ad]);exact this
 go_enter func118,ntmps118;go_wp2;go_region
 all_goals (go_wp2;go_ret;exact⟨rfl,Lib.below_freeze (Below.drew (RowKit.Below.refl B w)) (p:=⟨g,0,none⟩) A _⟩)
end Go.Proofs.YtblcoicaeeiojaaGreatDoor
namespace Go.Proofs.YtblcoicaeeiojaaGreatDoor
open Go.RowKit
def Ey(w:World)(p:Option Addr)(L:List (List Int)):Prop:=
 ∀k,k<L.length->∃b ff q c,p=some ⟨b,ff,none⟩/\w.cell? ⟨b,ff+k,none⟩=some (.slice q (L.getD k []).length c)/\(L.getD k []).length<=c/\Aq w q (L.getD k [])
theorem Ey.below{w w':World}{p:Option Addr}{L:List (List Int)}(h:Ey w p L)(m:Below w.heap.size w w'):Ey w' p L:=by
 intro k A;obtain⟨b,ff,q,c,e,s,C,dI⟩:=h k A;exact⟨b,ff,q,c,e,(m.cell (p:=⟨b,ff+k,none⟩) (World.block_lt_of_cell? w _ s)).trans s,C,dI.below m⟩
theorem Ey.nil(w:World)(p:Option Addr):Ey w p []:=λk ba=>I4
def IJ(w:World)(p:Option Addr)(L:List ByteArray):Prop:=
 ∀k,k<L.length->∃b ff,p=some ⟨b,ff,none⟩/\w.cell? ⟨b,ff+k,none⟩=some (.string (L.getD k ByteArray.empty))
theorem IJ.below{w w':World}{p:Option Addr}{L:List ByteArray}(h:IJ w p L)(ad:Below w.heap.size w w'):IJ w' p L:=AvK
theorem IJ.nil(w:World)(p:Option Addr):IJ w p []:=λk ba=>I4
def info9:(prog.info? 9).map (λi=>(i.zero,i.size,i.bytes))=some (some (.string ByteArray.empty),1,16):=by kernel_rfl
def Hm(w:World)(B:Nat)(v:Value)(L:List ByteArray):Prop:=w.ownsRow B 9 1 v L.length (L.map Value.string)
theorem Hm.nil(w:World)(B:Nat):Hm w B (.slice none 0 0) []:=World.ownsRow_nil _ _ _ _
theorem Hm.below{w w':World}{B:Nat}{v:Value}{L:List ByteArray}(h:Hm w B v L)(b:Below w.heap.size w w'):Hm w' B v L:=Kq h b
theorem Hm.ap{w:World}{B:Nat}{v:Value}{L:List ByteArray}(h:Hm w B v L):∃p cap,v=.slice p L.length cap/\IJ w p L/\L.length<=cap:=by
 obtain⟨A,c⟩:=h;rcases c with⟨rfl,m⟩|⟨g,cap,b,rfl,C,q,s,F,G,ep⟩
 ·have:L=[]:=Bw m;subst this;exact⟨none,0,rfl,λk ba=>I4,Ac _⟩
 ·refine⟨_,cap,rfl,λk ba=>⟨g,0,rfl,?_⟩,s⟩;rw[cell_of_row w g (0+k) b _ (0,0) q,BY];have e:(b.toList.take (L.length*1))[k]? = (L.map Value.string)[k]? := N4;exact Ai8
def Ac8{w:World}{B:Nat}{v:Value}{ao:List Int}(h:Ak w B v ao):∃p cap,v=.slice p ao.length cap/\Aq w p ao/\ao.length<=cap:=Ayg
def info22:(prog.info? 22).map (λi=>(i.zero,i.size,i.bytes))=some (some (.slice none 0 0),1,24):=by kernel_rfl
def D3(w:World)(B:Nat)(v:Value)(x:List Int):Prop:=
 ∃q c,v=.slice q x.length c/\x.length<=c/\Aq w q x/\(q=none\/∃b ff,q=some ⟨b,ff,none⟩/\B<=b/\b<w.heap.size/\∀i,i<x.length->w.frozen? ⟨b,ff+i,none⟩=false)
def NA(v:Value):Option Nat:=match v with | .slice (some a) _ _=>some a.block|_=>none
theorem D3.nil(w:World)(B:Nat):D3 w B (.slice none 0 0) []:=⟨none,0,rfl,Ac _,λk ba=>I4,.inl rfl⟩
theorem D3.kept{w w':World}{B:Nat}{v:Value}{x:List Int}{row:Option Nat}(h:D3 w B v x)(m:w.grownBy w' row)(C:∀b,NA v=some b->row≠some b):D3 w' B v x:=by
 obtain⟨q,c,rfl,G,dI,s⟩:=h;refine⟨q,c,rfl,G,λk L=>?_,?_⟩
 ·obtain⟨b,ff,e,ac⟩:=dI k L;exact⟨b,ff,e,m.cell ac (λA=>C b KM A.symm)⟩
 ·rcases s with s|⟨b,ff,e,ad,F,am⟩
  ·exact .inl s
  ·refine .inr ⟨b,ff,e,ad,Ci F m.size,λi a9=>?_⟩;exact(World.frozen?_of_block (m.block b F (λA=>C b KM A.symm))).trans (am i a9)
theorem D3.mono{w:World}{B m:Nat}{v:Value}{x:List Int}(h:D3 w B v x)(s:m<=B):D3 w m v x:=by
 obtain⟨q,c,e,A,dI,k⟩:=h;refine⟨q,c,e,A,dI,?_⟩;rcases k with k|⟨b,ff,e,C,F,G⟩
 ·exact .inl k
 ·exact .inr ⟨b,ff,e,Af s C,F,G⟩
theorem D3.lt{w:World}{B:Nat}{v:Value}{x:List Int}(h:D3 w B v x){b:Nat}(e:NA v=some b):B<=b/\b<w.heap.size:=by
 obtain⟨q,c,rfl,A,C,k⟩:=h;rcases k with rfl|⟨F,ff,rfl,m,s,_⟩
 ·cases e
 ·cases e;exact⟨m,s⟩
theorem D3.bj{w:World}{B:Nat}{v:Value}{x:List Int}(h:Ak w B v x):D3 w B v x/\NA v=v.ownBlock:=by
 have b:=h;obtain⟨F,k⟩:=h;rcases k with⟨rfl,m⟩|⟨g,cap,G,rfl,q,L,s,ac,ad,am⟩
 ·have:x=[]:=Bw m;subst this;exact⟨D3.nil w B,rfl⟩
 ·have A:=World.ownsRow.lt b g rfl;refine⟨⟨some ⟨g,0,none⟩,cap,rfl,s,?_,.inr ⟨g,0,rfl,q,A.2,λi a9=>?_⟩⟩,rfl⟩
  ·obtain⟨p,c,e,dI⟩:=b.ap;injection e with C a' ba;subst C;exact dI
  ·rw[BY];exact World.ownsRow.frozenAt b i
structure DR (w:World) (B:Nat) (u:Value) (L:List (List Int)) (Vs:List Value):Prop where
 own:w.ownsRow B 22 1 u L.length Vs
 len:Vs.length=L.length
 aT:∀k,k<L.length->D3 w B (Vs.getD k (.slice none 0 0)) (L.getD k [])
 off:∀k b,k<L.length->NA (Vs.getD k (.slice none 0 0))=some b->u.ownBlock≠some b
structure DJ (w:World) (B g cap:Nat) (L:List (List Int)):Prop where
 hd:∀k,k<L.length->∃v,w.cell? ⟨g,k,none⟩=some v/\D3 w B v (L.getD k [])/\NA v≠some g
 soft:∀k,k<L.length->w.frozen? ⟨g,k,none⟩=false
 lo:B<=g
 hi:g<w.heap.size
 room:L.length<=cap
 bi:cap<=maxLen
theorem DJ.below{w w':World}{B g cap:Nat}{L:List (List Int)}(h:DJ w B g cap L)(c:Below w.heap.size w w'):DJ w' B g cap L where
 hd:=λk m=>by
  obtain⟨v,q,s,A⟩:=h.hd k m;exact⟨v,(c.cell (p:=⟨g,k,none⟩) h.hi).trans q,s.kept (G4 c none) (λb _ e=>by cases e),A⟩
 soft:=λk m=>(World.frozen?_of_block (c.block g h.hi)).trans (h.soft k m)
 lo:=h.lo
 hi:=Ci h.hi c.size
 room:=h.room
 bi:=h.bi
theorem DJ.ap{w:World}{B g cap:Nat}{L:List (List Int)}(h:DJ w B g cap L):Ey w (some ⟨g,0,none⟩) L:=by
 intro k b;obtain⟨v,e,⟨q,c,rfl,m,s,_⟩,_⟩:=h.hd k b;exact⟨g,0,q,c,rfl,by rw[BY];exact e,m,s⟩
theorem DJ.mono{w:World}{B b g cap:Nat}{L:List (List Int)}(h:DJ w B g cap L)(c:b<=B):DJ w b g cap L where
 hd:=λk e=>by
  obtain⟨v,m,q,s⟩:=h.hd k e;exact⟨v,m,q.mono c,s⟩
 soft:=h.soft
 lo:=Af c h.lo
 hi:=h.hi
 room:=h.room
 bi:=h.bi
theorem DR.new{w:World}{B:Nat}{u:Value}{L:List (List Int)}{b:List Value}(h:DR w B u L b)(q:L≠[]):∃g cap,u=.slice (some ⟨g,0,none⟩) L.length cap/\DJ w B g cap L:=by
 have c:=h.own;obtain⟨am,s⟩:=h.own;have a9:0<L.length:=KT.2 q;rcases s with⟨rfl,a'⟩|⟨g,cap,ba,rfl,A,bb,C,F,bc,bd⟩
 ·omega
 ·have G:=World.ownsRow.lt c g rfl;refine⟨g,cap,rfl,⟨λk m=>?_,λk _=>World.ownsRow.frozenAt c k,A,G.2,C,F⟩⟩;have ac:=World.ownsRow.cellAt c k O;have ad:k<b.length:=by rw[h.len];exact m
  refine⟨b.getD k (.slice none 0 0),?_,h.aT k m,λe=>h.off k g m e rfl⟩;rw[ac];simp[List.getD,ad]
theorem DR.opened{w:World}{B:Nat}{u:Value}{L:List (List Int)}{b:List Value}(h:DR w B u L b)(c:L≠[]):∃g cap,u=.slice (some ⟨g,0,none⟩) L.length cap/\B<=g/\g<w.heap.size:=by
 have e:=h.own;obtain⟨m,k⟩:=h.own;have q:0<L.length:=KT.2 c;rcases k with⟨rfl,s⟩|⟨g,cap,A,rfl,C,F,G,ac,ad,am⟩
 ·omega
 ·exact⟨g,cap,rfl,World.ownsRow.lt e g rfl⟩
def Ac9(w:World)(b:Array Value)(xs:List Int)(t:TypeId)(h:b.toList=xs.map (.int .i64)):Aq (w.alloc (.cells b t)) (some ⟨w.heap.size,0,none⟩) xs:=by
 intro k ba;refine⟨_,_,rfl,?_⟩;rw[BY,World.cell?_alloc_new,<-Px,h];exact Gc
def AaE(L:List Int)(w:World)(e:Ending)(w':World):Prop:=
 ∃p cap,e=.returned (.slice p L.length cap)/\Aq w' p L/\Below w.heap.size w w'
def Rq(c f n:Int)(B:Bool)(w:World)(s:0<=f)(A:f<=100000)(C:0<=n)(F:n<=100000)(b:Hid (decide (f<=c/\c<f+n)=B)):Calls prog 284 #[.int .i64 c,.int .i64 f,.int .i64 n] w λe w'=>e=.returned (.bool B)/\w=w':=by
 by_cases k:f<=c
 ·by_cases m:c<f+n
  ·have e:B=true:=by rw[<-b.out];exact At ⟨k,m⟩
   subst e;clear b;go_enter func284,ntmps284;go_wp2;go_ret;exact C5
  ·have e:B=false:=by rw[<-b.out];exact Ai (λh=>m h.2)
   subst e;have q:decide (c<f+n)=false:=Ai m;clear b;go_enter func284,ntmps284;go_wp2;go_ret;exact C5
 ·have e:B=false:=by rw[<-b.out];exact Ai (λh=>k h.1)
  subst e;have q:decide (f<=c)=false:=Ai k;clear b;go_enter func284,ntmps284;go_wp2;go_ret;exact C5
def AfH{fn:Func}{t u v x:Tmp}(h:fn.results=#[.tmp t,.tmp u,.tmp v,.tmp x])(b:Array Value)(P:Program)(w:World):(results fn b).run P w=.ok (.tuple #[b.getD t undef,b.getD u undef,b.getD v undef,b.getD x undef]) w:=by
 simp[results,h]
def AgH(a b:Int)(h:0<=a):a.tdiv b=a/b:=Int.tdiv_eq_ediv_of_nonneg h
def Us(a b:Int)(h:0<=a):a.tmod b=a%b:=Aak h
def TS(c i j k:Int)(b:Bool)(w:World)(h:Hid (LB c=(i,j,k,b))):Calls prog 283 #[.int .i64 c] w λe w'=>e=.returned (.tuple #[.int .i64 i,.int .i64 j,.int .i64 k,.bool b])/\w=w':=by
 rcases QL h.out with⟨rfl,rfl,rfl,rfl,m⟩|⟨rfl,F,G,L,ac,ad,am,m⟩
 ·have q:Hid (decide (44032<=c/\c<44032+11172)=false):=Ai O;clear h m;go_enter func283,ntmps283;go_wp2_with fail;refine(Rq c 44032 11172 false _ O O O O q).mono ?_;rintro e w' ⟨rfl,rfl⟩;go_wp2
  try simp only[Exit.inBlock,Exit.then]
  exact AiR
 ·have q:Hid (decide (44032<=c/\c<44032+11172)=true):=At O;obtain⟨x,a9⟩:∃x,c-44032=x:=⟨_,rfl⟩;obtain⟨y,s⟩:∃y,x/28=y:=⟨_,rfl⟩;have A:0<=x:=O;have a':x<11172:=O;have C:0<=y:=O;have ba:y<399:=O;have bb:x.tdiv 28=y:=by rw[AgH _ _ A];omega
  have bc:x.tmod 28=k:=by rw[Us _ _ A];omega
  have bd:y.tdiv 21=i:=by rw[AgH _ _ C];omega
  have be:y.tmod 21=j:=by rw[Us _ _ C];omega
  have bl:x/28=y:=s;have bs:x%28=k:=O;have bt:y/21=i:=O;have bv:y%21=j:=O;clear h m s;go_enter func283,ntmps283;go_wp2_with fail;refine(Rq c 44032 11172 true _ O O O O q).mono ?_;rintro e w' ⟨rfl,rfl⟩;go_wp2
  try simp only[Exit.inBlock,Exit.then]
  exact AiR
def AoH(c:Int)(w:World):Calls prog 270 #[.int .i64 c] w λe w'=>e=.returned (.int .i64 (A0 c))/\w=w':=by
 obtain⟨q,s⟩:∃B,decide (4352<=c/\c<4352+19)=B:=⟨_,rfl⟩;obtain⟨A,C⟩:∃B,decide (4449<=c/\c<4449+21)=B:=⟨_,rfl⟩;obtain⟨F,G⟩:∃B,decide (4520<=c/\c<4520+27)=B:=⟨_,rfl⟩;obtain⟨i,j,k,b,L⟩:∃i j k b,LB c=(i,j,k,b):=⟨_,_,_,_,rfl⟩;obtain⟨Z,a'⟩:∃Z,(k==0)=Z:=⟨_,rfl⟩;have h:Hid (A0 c=(bif q then 1 else bif A then 2 else bif F then 3 else bif b then(bif Z then 4 else 5)else 0)):=by
  unfold Hid;subst s C G a';by_cases m:4352<=c/\c<4352+19
  ·rw[At m,Ny.2 O];rfl
  ·by_cases ac:4449<=c/\c<4449+21
   ·rw[Ai m,At ac,OD.2 O];rfl
   ·by_cases ad:4520<=c/\c<4520+27
    ·rw[Ai m,Ai ac,At ad,OE.2 O];rfl
    ·rw[Ai m,Ai ac,Ai ad];rcases QL L with⟨rfl,rfl,rfl,rfl,am⟩|⟨rfl,be,bl,bs,bt,bv,bx,am⟩
     ·rw[Nx O O O am];rfl
     ·by_cases a9:k=0
      ·rw[Nz.2 O];subst a9;rfl
      ·rw[Ts.2 O,show (k==0)=false by simp[a9]];rfl
 have ba:=Lib.hid s;have bb:=Lib.hid C;have bc:=Lib.hid G;have bd:=Lib.hid L;clear s C G L;go_enter func270,ntmps270;go_wp2_with fail;refine(Rq c 4352 19 q _ O O O O ba).mono ?_;rintro e w' ⟨rfl,rfl⟩;cases q
 case true=>go_wp2;go_ret;rw[h.out];exact⟨rfl,rfl⟩
 go_wp2_with fail;refine(Rq c 4449 21 A _ O O O O bb).mono ?_;rintro e w' ⟨rfl,rfl⟩;cases A
 case true=>go_wp2;go_ret;rw[h.out];exact⟨rfl,rfl⟩
 go_wp2_with fail;refine(Rq c 4520 27 F _ O O O O bc).mono ?_;rintro e w' ⟨rfl,rfl⟩;cases F
 case true=>go_wp2;go_ret;rw[h.out];exact⟨rfl,rfl⟩
 go_wp2_with fail;refine(TS c i j k b _ bd).mono ?_;rintro e w' ⟨rfl,rfl⟩;cases b
 ·go_wp2;go_ret;rw[h.out];exact⟨rfl,rfl⟩
 ·cases Z
  ·go_wp2;go_ret;rw[h.out];exact⟨rfl,rfl⟩
  ·go_wp2;go_ret;rw[h.out];exact⟨rfl,rfl⟩
def Kk(c k: Int)(w: World)(h: Hid (A0 c = k)) :
  Calls prog 270 #[.int .i64 c] w λe w'=>e=.returned (.int .i64 k)/\w=w':=h.out▸AoH c w
def Anz(c:Int)(L:List Int)(w:World)(h:Hid (BK c=L)):Calls prog 265 #[.int .i64 c] w (AaE L w):=by
 obtain⟨i,j,k,b,q⟩:∃i j k b,LB c=(i,j,k,b):=⟨_,_,_,_,rfl⟩;have m:=Ack q;rw[h.out]at m;have A:=Lib.hid q;clear h;rcases QL q with⟨rfl,rfl,rfl,rfl,s⟩|⟨rfl,C,F,G,ac,ad,am,s⟩
 ·have e:L=[]:=m;subst e;clear q m s;go_enter func265,ntmps265;go_wp2_with fail;refine(TS c 0 0 0 false _ A).mono ?_;rintro e w' ⟨rfl,rfl⟩;go_wp2;go_ret;exact Azy
 ·by_cases ba:k=0
  ·subst ba;have e:L=[4352+i,4449+j]:=m;subst e;clear q m s;go_enter func265,ntmps265;go_wp2_with fail;refine(TS c i j 0 true _ A).mono ?_;rintro e w' ⟨rfl,rfl⟩;go_wp2;go_ret;exact Awh
  ·have e:L=[4352+i,4449+j,4519+k]:=by rw[m];simp[ba]
   subst e;have a9:(k==0)=false:=Gc;clear q m s;go_enter func265,ntmps265;go_wp2_with fail;refine(TS c i j k true _ A).mono ?_;rintro e w' ⟨rfl,rfl⟩;go_wp2;go_ret;exact Av9
def Anx(a b x:Int)(o:Bool)(w:World)(h:Hid (Fo a b=(x,o))):Calls prog 228 #[.int .i64 a,.int .i64 b] w λe w'=>e=.returned (.tuple #[.int .i64 x,.bool o])/\w=w':=by
 obtain⟨s,a'⟩:∃k,Hid (A0 a=k):=⟨_,rfl⟩;obtain⟨q,m⟩:∃k,Hid (A0 b=k):=⟨_,rfl⟩;by_cases C:s=1
 ·subst C;by_cases F:q=2
  ·subst F;have c:=h.out;rw[AbW a'.out m.out]at c;simp only[DY]at c;obtain⟨c,rfl⟩:=c;have a1:=Ny.1 a'.out;have A:=OD.1 m.out;obtain⟨a0,a1⟩:=a1;obtain⟨ad,A⟩:=A;clear h;go_enter func228,ntmps228;go_wp2_with fail;refine(Kk a 1 _ a').mono ?_;rintro e w' ⟨rfl,rfl⟩;go_wp2_with fail;refine(Kk b 2 _ m).mono ?_;rintro e w' ⟨rfl,rfl⟩;go_wp2;go_ret2;exact C5
  ·have c:=h.out;rw[M_ (by rw[m.out];exact λh=>F h.2) ZL]at c;simp only[DY]at c;obtain⟨rfl,rfl⟩:=c;have ac:(q==2)=false:=by simp[F]
   clear h;go_enter func228,ntmps228;go_wp2_with fail;refine(Kk a 1 _ a').mono ?_;rintro e w' ⟨rfl,rfl⟩;go_wp2_with fail;refine(Kk b q _ m).mono ?_;rintro e w' ⟨rfl,rfl⟩;go_wp2;go_ret2;exact C5
 ·by_cases G:s=4
  ·subst G;by_cases L:q=3
   ·subst L;have c:=h.out;rw[AbX a'.out m.out]at c;simp only[DY]at c;obtain⟨c,rfl⟩:=c;have a1:=Nz.1 a'.out;have A:=OE.1 m.out;obtain⟨a0,a1,_⟩:=a1;obtain⟨ad,A⟩:=A;clear h;go_enter func228,ntmps228;go_wp2_with fail;refine(Kk a 4 _ a').mono ?_;rintro e w' ⟨rfl,rfl⟩;go_wp2_with fail;refine(Kk b 3 _ m).mono ?_;rintro e w' ⟨rfl,rfl⟩;go_wp2;go_ret2;exact C5
   ·have c:=h.out;rw[M_ ZL (by rw[m.out];exact λh=>L h.2)]at c;simp only[DY]at c;obtain⟨rfl,rfl⟩:=c;have ac:(q==3)=false:=by simp[L]
    clear h;go_enter func228,ntmps228;go_wp2_with fail;refine(Kk a 4 _ a').mono ?_;rintro e w' ⟨rfl,rfl⟩;go_wp2_with fail;refine(Kk b q _ m).mono ?_;rintro e w' ⟨rfl,rfl⟩;go_wp2;go_ret2;exact C5
  ·have c:=h.out;rw[M_ (by rw[a'.out];exact λh=>C h.1) (by rw[a'.out];exact λh=>G h.1)]at c;simp only[DY]at c;obtain⟨rfl,rfl⟩:=c;have am:(s==1)=false:=by simp[C]
   have ac:(s==4)=false:=by simp[G]
   clear h;go_enter func228,ntmps228;go_wp2_with fail;refine(Kk a s _ a').mono ?_;rintro e w' ⟨rfl,rfl⟩;go_wp2_with fail;refine(Kk b q _ m).mono ?_;rintro e w' ⟨rfl,rfl⟩;go_wp2;go_ret2;exact C5
def KD(c:Int)(B:Bool)(w:World)(b:Hid (decide (44032<=c/\c<=55203)=B)):Calls prog 80 #[.int .i64 c] w λe w'=>e=.returned (.bool B)/\w=w':=by
 by_cases k:44032<=c
 ·by_cases m:c<=55203
  ·have e:B=true:=by rw[<-b.out];exact At ⟨k,m⟩
   subst e;clear b;go_enter func80,ntmps80;go_wp2;go_ret;exact C5
  ·have e:B=false:=by rw[<-b.out];exact Ai (λh=>m h.2)
   subst e;have q:decide (c<=55203)=false:=Ai m;clear b;go_enter func80,ntmps80;go_wp2;go_ret;exact C5
 ·have e:B=false:=by rw[<-b.out];exact Ai (λh=>k h.1)
  subst e;have q:decide (44032<=c)=false:=Ai k;clear b;go_enter func80,ntmps80;go_wp2;go_ret;exact C5
def AsQ(c:Int)(w:World)(h:c<44032\/55203<c):Calls prog 251 #[.int .i64 c] w λe w'=>e=.returned (.tuple #[.int .i64 0,.int .i64 0,.int .i64 0,.bool false])/\w=w':=by
 have b:Hid (decide (44032<=c/\c<=55203)=false):=Ai O;clear h;go_enter func251,ntmps251;go_wp2;go_loop[6] (λi=>∃n:Nat,n<=19/\i=.int .i64 n) (λi=>19-(intOf i).toNat)
 case atStart=>exact⟨0,O,rfl⟩
 case round=>
  obtain⟨n,k,rfl⟩:=hrel;by_cases q:n<19
  ·go_wp2;go_loop[7] (λj=>∃m:Nat,m<=21/\j=.int .i64 m) (λj=>21-(intOf j).toNat)
   case atStart=>exact⟨0,O,rfl⟩
   case round=>
    obtain⟨m,s,rfl⟩:=hrel;by_cases A:m<21
    ·go_wp2_with fail;refine(KD c false _ b).mono ?_;rintro e w' ⟨rfl,rfl⟩;go_wp2;go_round
     case rel=>exact⟨m+1,O,by go_num⟩
     case measure=>simp[intOf];omega
    ·go_wp2;go_round
     case rel=>exact⟨n+1,O,by go_num⟩
     case measure=>simp[intOf];omega
  ·go_wp2
   try simp only[Exit.inBlock,Exit.then]
   exact AiR
def AsP(c i j k:Int)(w:World)(a9:0<=i)(a':i<19)(ba:0<=j)(bb:j<21)(bc:0<=k)(bd:k<28)(h:c=44032+(21*i+j)*28+k):Calls prog 251 #[.int .i64 c] w λe w'=>e=.returned (.tuple #[.int .i64 i,.int .i64 j,.int .i64 k,.bool true])/\w=w':=by
 have s:Hid (decide (44032<=c/\c<=55203)=true):=At O;have be:44032<=c:=O;have bl:c<=55203:=O;have cp:=Lib.hid h;clear h;go_enter func251,ntmps251;go_wp2;go_loop[6] (λq=>∃n:Nat,n<=19/\q=.int .i64 n/\Hid ((n:Int)<=i)) (λq=>19-(intOf q).toNat)
 case atStart=>exact⟨0,O,rfl,Hj⟩
 case round=>
  obtain⟨n,bs,rfl,kU⟩:=hrel;have bt:n<19:=by have:=kU.out;omega
  go_wp2;go_loop[7] (λq=>∃m:Nat,m<=21/\q=.int .i64 m/\Hid ((n:Int)=i->(m:Int)<=j)) (λq=>21-(intOf q).toNat)
  case atStart=>exact⟨0,O,rfl,Hj⟩
  case round=>
   obtain⟨m,bv,rfl,lD⟩:=hrel;by_cases bx:m<21
   ·obtain⟨x,b0⟩:∃x,c-44032-(21*(n:Int)+(m:Int))*28=x:=⟨_,rfl⟩;have b1:0<=x:=Aw9;by_cases G:x<28
    ·have A:(n:Int)=i:=by have:=kU.out;have:=lD.out;have:=cp.out;omega
     have C:(m:Int)=j:=Aw9;have F:x=k:=by have:=cp.out;omega
     have L:=Lib.hid A;have ac:=Lib.hid C;have ad:=Lib.hid F;clear A C F;go_wp2_with fail;refine(KD c true _ s).mono ?_;rintro e w' ⟨rfl,rfl⟩;go_wp2
     try simp only[Exit.inBlock,Exit.then]
     refine bodyPost_ret (AfH rfl _ _ _) rfl ?_;rw[L.out,ac.out,ad.out];exact C5
    ·have b2:decide (x<28)=false:=Ai G;have b:Hid ((n:Int)=i->((m+1:Nat):Int)<=j):=by
      unfold Hid;intro e;have:=cp.out;omega
     go_wp2_with fail;refine(KD c true _ s).mono ?_;rintro e w' ⟨rfl,rfl⟩;go_wp2;go_round
     case rel=>exact⟨m+1,O,by go_num,b⟩
     case measure=>simp[intOf];omega
   ·have b:Hid (((n+1:Nat):Int)<=i):=by
     unfold Hid;have:=kU.out;have am:=lD.out;by_cases e:(n:Int)=i
     ·have:=am e;omega
     ·omega
    go_wp2;go_round
    case rel=>exact⟨n+1,O,by go_num,b⟩
    case measure=>simp[intOf];omega
def X4(c i j k:Int)(b:Bool)(w:World)(h:Hid (LB c=(i,j,k,b))):Calls prog 251 #[.int .i64 c] w λe w'=>e=.returned (.tuple #[.int .i64 i,.int .i64 j,.int .i64 k,.bool b])/\w=w':=by
 rcases QL h.out with⟨rfl,rfl,rfl,rfl,m⟩|⟨rfl,q,s,A,C,F,G,m⟩
 ·exact AsQ c w m
 ·exact AsP c i j k w q s A C F G m
def Asr(c:Int)(w:World):Calls prog 185 #[.int .i64 c] w λe w'=>e=.returned (.int .i64 (A0 c))/\w=w':=by
 have L:c<4352\/(4352<=c/\c<4371)\/(4371<=c/\c<4449)\/(4449<=c/\c<4470)\/(4470<=c/\c<4520)\/(4520<=c/\c<4547)\/(4547<=c/\c<44032)\/(44032<=c/\c<=55203)\/55203<c:=O;rcases L with h|h|h|h|h|h|h|h|h
 ·have b:Hid (decide (44032<=c/\c<=55203)=false):=Ai O;have k:decide (4352<=c)=false:=Ai O;have m:decide (4449<=c)=false:=Ai O;have q:decide (4520<=c)=false:=Ai O;have eX:Hid (A0 c=0):=Nx O O O O;go_enter func185,ntmps185;go_wp2_with fail;refine(KD c false _ b).mono ?_;rintro e w' ⟨rfl,rfl⟩;go_wp2;go_ret;exact LU
 ·have k:4352<=c:=by omega
  have s:c<=4370:=O;have m:decide (4449<=c)=false:=Ai O;have q:decide (4520<=c)=false:=Ai O;have eX:Hid (A0 c=1):=Ny.2 O;go_enter func185,ntmps185;go_wp2;go_ret;exact LU
 ·have b:Hid (decide (44032<=c/\c<=55203)=false):=Ai O;have k:4352<=c:=O;have s:decide (c<=4370)=false:=Ai O;have m:decide (4449<=c)=false:=Ai O;have q:decide (4520<=c)=false:=Ai O;have eX:Hid (A0 c=0):=Nx O O O O;go_enter func185,ntmps185;go_wp2_with fail;refine(KD c false _ b).mono ?_;rintro e w' ⟨rfl,rfl⟩;go_wp2;go_ret;exact LU
 ·have k:4352<=c:=by omega
  have s:decide (c<=4370)=false:=Ai O;have m:4449<=c:=O;have A:c<=4469:=O;have q:decide (4520<=c)=false:=Ai O;have eX:Hid (A0 c=2):=OD.2 O;go_enter func185,ntmps185;go_wp2;go_ret;exact LU
 ·have b:Hid (decide (44032<=c/\c<=55203)=false):=Ai O;have k:4352<=c:=O;have s:decide (c<=4370)=false:=Ai O;have m:4449<=c:=O;have A:decide (c<=4469)=false:=Ai O;have q:decide (4520<=c)=false:=Ai O;have eX:Hid (A0 c=0):=Nx O O O O;go_enter func185,ntmps185;go_wp2_with fail;refine(KD c false _ b).mono ?_;rintro e w' ⟨rfl,rfl⟩;go_wp2;go_ret;exact LU
 ·have k:4352<=c:=by omega
  have s:decide (c<=4370)=false:=Ai O;have m:4449<=c:=O;have A:decide (c<=4469)=false:=Ai O;have q:4520<=c:=O;have C:c<=4546:=O;have eX:Hid (A0 c=3):=OE.2 O;go_enter func185,ntmps185;go_wp2;go_ret;exact LU
 ·have b:Hid (decide (44032<=c/\c<=55203)=false):=Ai O;have k:4352<=c:=O;have s:decide (c<=4370)=false:=Ai O;have m:4449<=c:=O;have A:decide (c<=4469)=false:=Ai O;have q:4520<=c:=O;have C:decide (c<=4546)=false:=Ai O;have eX:Hid (A0 c=0):=Nx O O O O;go_enter func185,ntmps185;go_wp2_with fail;refine(KD c false _ b).mono ?_;rintro e w' ⟨rfl,rfl⟩;go_wp2;go_ret;exact LU
 ·have b:Hid (decide (44032<=c/\c<=55203)=true):=At O;obtain⟨x,ad⟩:∃x,c-44032=x:=⟨_,rfl⟩;have G:0<=x:=O;have am:x<11172:=O;have k:4352<=c:=O;have s:decide (c<=4370)=false:=Ai O;have m:4449<=c:=O;have A:decide (c<=4469)=false:=Ai O;have q:4520<=c:=O;have C:decide (c<=4546)=false:=Ai O;by_cases F:x%28=0
  ·have ac:x.tmod 28=0:=by rw[Us _ _ G];exact F
   have eX:Hid (A0 c=4):=Nz.2 O;go_enter func185,ntmps185;go_wp2_with fail;refine(KD c true _ b).mono ?_;rintro e w' ⟨rfl,rfl⟩;go_wp2;go_ret;exact LU
  ·have ac:(x.tmod 28==0)=false:=by rw[Us _ _ G];simp[F]
   have a9:(x%28==0)=false:=by simp[F]
   have eX:Hid (A0 c=5):=Ts.2 O;go_enter func185,ntmps185;go_wp2_with fail;refine(KD c true _ b).mono ?_;rintro e w' ⟨rfl,rfl⟩;go_wp2;go_ret;exact LU
 ·have b:Hid (decide (44032<=c/\c<=55203)=false):=Ai O;have k:4352<=c:=O;have s:decide (c<=4370)=false:=Ai O;have m:4449<=c:=O;have A:decide (c<=4469)=false:=Ai O;have q:4520<=c:=O;have C:decide (c<=4546)=false:=Ai O;have eX:Hid (A0 c=0):=Nx O O O O;go_enter func185,ntmps185;go_wp2_with fail;refine(KD c false _ b).mono ?_;rintro e w' ⟨rfl,rfl⟩;go_wp2;go_ret;exact LU
def Iw(c k: Int)(w: World)(h: Hid (A0 c = k)) :
  Calls prog 185 #[.int .i64 c] w λe w'=>e=.returned (.int .i64 k)/\w=w':=h.out▸Asr c w
def Asg(c:Int)(L:List Int)(w:World)(h:Hid (BK c=L)):Calls prog 184 #[.int .i64 c] w (AaE L w):=by
 obtain⟨i,j,k,b,q⟩:∃i j k b,LB c=(i,j,k,b):=⟨_,_,_,_,rfl⟩;have m:=Ack q;rw[h.out]at m;have A:=Lib.hid q;clear h;rcases QL q with⟨rfl,rfl,rfl,rfl,s⟩|⟨rfl,C,F,G,ac,ad,am,s⟩
 ·have e:L=[]:=m;subst e;clear q m s;go_enter func184,ntmps184;go_wp2_with fail;refine(X4 c 0 0 0 false _ A).mono ?_;rintro e w' ⟨rfl,rfl⟩;go_wp2;go_ret;exact Azy
 ·by_cases ba:k=0
  ·subst ba;have e:L=[4352+i,4449+j]:=m;subst e;clear q m s;go_enter func184,ntmps184;go_wp2_with fail;refine(X4 c i j 0 true _ A).mono ?_;rintro e w' ⟨rfl,rfl⟩;go_wp2;go_ret;exact Awh
  ·have e:L=[4352+i,4449+j,4519+k]:=by rw[m];simp[ba]
   subst e;have a9:(k==0)=false:=Gc;clear q m s;go_enter func184,ntmps184;go_wp2_with fail;refine(X4 c i j k true _ A).mono ?_;rintro e w' ⟨rfl,rfl⟩;go_wp2;go_ret;exact Av9
def Asf(a b x:Int)(o:Bool)(w:World)(h:Hid (Fo a b=(x,o))):Calls prog 133 #[.int .i64 a,.int .i64 b] w λe w'=>e=.returned (.tuple #[.int .i64 x,.bool o])/\w=w':=by
 obtain⟨q,a'⟩:∃k,Hid (A0 a=k):=⟨_,rfl⟩;obtain⟨s,m⟩:∃k,Hid (A0 b=k):=⟨_,rfl⟩;by_cases C:q=1
 ·subst C;by_cases F:s=2
  ·subst F;have c:=h.out;rw[AbW a'.out m.out]at c;simp only[DY]at c;obtain⟨c,rfl⟩:=c;have a1:=Ny.1 a'.out;have A:=OD.1 m.out;obtain⟨a0,a1⟩:=a1;obtain⟨ad,A⟩:=A;clear h;go_enter func133,ntmps133;go_wp2_with fail;refine(Iw a 1 _ a').mono ?_;rintro e w' ⟨rfl,rfl⟩;go_wp2_with fail;refine(Iw b 2 _ m).mono ?_;rintro e w' ⟨rfl,rfl⟩;go_wp2;go_ret2;exact C5
  ·have c:=h.out;rw[M_ (by rw[m.out];exact λh=>F h.2) ZL]at c;simp only[DY]at c;obtain⟨rfl,rfl⟩:=c;have ac:(s==2)=false:=by simp[F]
   clear h;go_enter func133,ntmps133;go_wp2_with fail;refine(Iw a 1 _ a').mono ?_;rintro e w' ⟨rfl,rfl⟩;go_wp2_with fail;refine(Iw b s _ m).mono ?_;rintro e w' ⟨rfl,rfl⟩;go_wp2_with fail;refine(Iw a 1 _ a').mono ?_;rintro e w' ⟨rfl,rfl⟩;go_wp2;go_ret2;exact C5
 ·by_cases G:q=4
  ·subst G;by_cases L:s=3
   ·subst L;have c:=h.out;rw[AbX a'.out m.out]at c;simp only[DY]at c;obtain⟨c,rfl⟩:=c;have a1:=Nz.1 a'.out;have A:=OE.1 m.out;obtain⟨a0,a1,_⟩:=a1;obtain⟨ad,A⟩:=A;clear h;go_enter func133,ntmps133;go_wp2_with fail;refine(Iw a 4 _ a').mono ?_;rintro e w' ⟨rfl,rfl⟩;go_wp2_with fail;refine(Iw a 4 _ a').mono ?_;rintro e w' ⟨rfl,rfl⟩;go_wp2_with fail;refine(Iw b 3 _ m).mono ?_;rintro e w' ⟨rfl,rfl⟩;go_wp2;go_ret2;exact C5
   ·have c:=h.out;rw[M_ ZL (by rw[m.out];exact λh=>L h.2)]at c;simp only[DY]at c;obtain⟨rfl,rfl⟩:=c;have ac:(s==3)=false:=by simp[L]
    clear h;go_enter func133,ntmps133;go_wp2_with fail;refine(Iw a 4 _ a').mono ?_;rintro e w' ⟨rfl,rfl⟩;go_wp2_with fail;refine(Iw a 4 _ a').mono ?_;rintro e w' ⟨rfl,rfl⟩;go_wp2_with fail;refine(Iw b s _ m).mono ?_;rintro e w' ⟨rfl,rfl⟩;go_wp2;go_ret2;exact C5
  ·have c:=h.out;rw[M_ (by rw[a'.out];exact λh=>C h.1) (by rw[a'.out];exact λh=>G h.1)]at c;simp only[DY]at c;obtain⟨rfl,rfl⟩:=c;have am:(q==1)=false:=by simp[C]
   have ac:(q==4)=false:=by simp[G]
   clear h;go_enter func133,ntmps133;go_wp2_with fail;refine(Iw a q _ a').mono ?_;rintro e w' ⟨rfl,rfl⟩;go_wp2_with fail;refine(Iw a q _ a').mono ?_;rintro e w' ⟨rfl,rfl⟩;go_wp2;go_ret2;exact C5
end Go.Proofs.YtblcoicaeeiojaaGreatDoor
