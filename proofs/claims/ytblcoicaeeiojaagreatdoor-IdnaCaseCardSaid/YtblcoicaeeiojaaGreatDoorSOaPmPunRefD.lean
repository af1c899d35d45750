/- slices.Insert of one int -/
import Derived.Test.YtblcoicaeeiojaaGreatDoorSOaPmPunEncA
import Derived.Shelf.Spec.SlicesInsert
set_option linter.all false
set_option maxHeartbeats 8000000
set_option maxRecDepth 100000
open Go.Proofs.Tryz
namespace Go.Proofs.YtblcoicaeeiojaaGreatDoor
open Go.RowKit Go.Sort Go.Lib
theorem QX(g: Nat)(t: TypeId)(c: Nat × Nat): ∀ (k: List Value) (o: Nat) (w: World) (b: Array Value), w.heap[g]? = some (.cells b t c)->
  ∃e:Array Value,(w.setCells g o k).heap[g]? = some (.cells e t c)/\e.size=b.size
 | [],o,w,b,h=>⟨b,h,rfl⟩
 | v::r,o,w,b,h=>by
  have m:(w.setCell ⟨g,o,none⟩ v).heap[g]? = some (.cells (b.setIfInBounds o v) t c):=by
   rw[R4 w g o b _ _ _ h];exact PG w g b _ _ _ h
  obtain⟨q,s,A⟩:=QX g t c r (o+1) _ _ m;exact⟨q,s,by rw[A];simp⟩
theorem Nq(g:Nat):∀(b:List Value) (o:Nat) (w:World),w.grownBy (w.setCells g o b) (some g)
 | [],o,w=>Ln _ _
 | v::r,o,w=>A5 (GU w g o v) (Nq g r (o+1) _)
theorem AI.of{w:World}{g cap:Nat}{b:Array Value}{d:Array Int}(h:w.heap[g]? = some (.cells b 3 (0,0)))(c:b.size=cap)(e:d.size<=cap)(k:∀i,i<d.size->w.cell? ⟨g,i,none⟩=some (.int .i64 d[i]!)):AI w g cap d:=
 ⟨b,h,c,e,λi dI=>by have:=k i dI;simpa[World.cell?,h] using this⟩
def Nk(L:List Int){i:Nat}(h:i<L.length):(L.toArray)[i]! = L.getD i 0:=by
 rw[JZ _ i Co];simp[h]
def Afc{L:List Int}{x:Int}{i k:Nat}(dI:i<=L.length)(m:k<L.length+1):(Do L x i).getD k 0=if k<i then L.getD k 0 else if k=i then x else L.getD (k-1) 0:=by
 unfold Do;have e:(L.take i).length=i:=Ae;rw[Cz];by_cases b:k<i
 ·rw[N b,MR O,Eu,N b];rfl
 ·rw[V b,LW O,e];by_cases c:k=i
  ·rw[N c,c,MU];rfl
  ·rw[V c];obtain⟨j,h⟩:∃j,k-i=j+1:=⟨k-i-1,O⟩;rw[h,N',MS];rw[show i+j=k-1 by omega];rfl
def Ku{L:List Int}{x:Int}{i:Nat}(dI:i<=L.length):(Do L x i).length=L.length+1:=by unfold Do;simp;omega
def Afb{w w1 w2:World}{row:Option Nat}(h:w.grownBy w1 none)(k:w1.grownBy w2 row):w.grownBy w2 row:=
 ⟨k.os.trans h.os,k.tape.trans h.tape,k.output.trans h.output,Af h.size k.size,λi dI b=>(k.block i (Ci dI h.size) b).trans (h.block i dI J)⟩
def Vv(g cap:Nat)(L:List Int)(w:World)(e:Ending)(w':World):Prop:=
 e=.returned (.slice (some ⟨g,0,none⟩) L.length cap)/\AI w' g cap L.toArray/\w.grownBy w' (some g)
def An8(g cap:Nat)(L:List Int)(x:Int)(w:World)(bd:AI w g cap L.toArray)(bx:L.length+1<=cap)(b0:cap<=4194304):Calls prog 287 #[.slice (some ⟨g,0,none⟩) L.length cap,.int .i64 L.length,.slice (some ⟨w.heap.size,0,none⟩) 1 1] (w.alloc (.cells #[.int .i64 x] 3)) (Vv g cap (Do L x L.length) w):=by
 obtain⟨n,C⟩:∃n,L.length=n:=⟨_,rfl⟩;obtain⟨F,a',m,b1,G⟩:=bd;have i':=(EM.1 a').1;have b:(w.alloc (.cells #[.int .i64 x] 3)).heap[g]? = some (.cells F 3 (0,0)):=Azp;have q:(w.alloc (.cells #[.int .i64 x] 3)).cell? ⟨w.heap.size,0,none⟩=some (.int .i64 x):=EL;obtain⟨W,h⟩:∃W,w.alloc (.cells #[.int .i64 x] 3)=W:=⟨_,rfl⟩;have ac:Hid (w.grownBy W none):=by rw[<-h];exact GJ _ _ _
 obtain⟨k,s⟩:∃k,w.heap.size=k:=⟨_,rfl⟩;rw[h,s]at q;rw[h]at b;rw[h,s,C];have b2:k≠g:=O;have ad:Go.Src prog 1 22 (.slice (some ⟨k,0,none⟩) 1 1) 1 [.int .i64 x] W:=Go.Src.ofSlice W underlying22 ⟨k,0,none⟩ 1 1 [.int .i64 x] J (λj u c=>by
  rw[GI]
  cases j with
  | zero=>simp at c;subst c;exact q
  | succ j=>simp at c) Ah1
 have b3:=U b;have A:∀j,j < [Value.int .i64 x].length->(W.cell? ⟨g,0+n+j,none⟩).isSome=true:=by
  intro j c;simp at c;subst c;simp[World.cell?,b];omega
 have am:∀j,j < [Value.int .i64 x].length->W.frozen? ⟨g,0+n+j,none⟩=false:=by
  intro j c;simp[World.frozen?,b]
 have be:=U A;have bl:=U am;have bs:=U ad;have a9:Hid (AI (W.setCells g (0+n) [.int .i64 x]) g cap (Do L x n).toArray):=by
  obtain⟨b4,bt,bv⟩:=QX g 3 (0,0) [.int .i64 x] (0+n) W F b;refine AI.of bt (by rw[bv];exact m) (by simp[Ku (show n<=L.length by omega)];omega) (λi dI=>?_);have ba:i<L.length+1:=by simpa[Ku (show n<=L.length by omega)] using dI
  rw[Nk _ (by rw[Ku (show n<=L.length by omega)];exact ba),Afc O ba];by_cases e:i<n
  ·rw[N e,RZ g _ _ _ _ (λ_ _=>.inl Ae)];have:=G i Ae;rw[Nk _ O]at this;simp[World.cell?,b,this]
  ·rw[V e];obtain rfl:i=n:=O;rw[N rfl];have:=U' g [.int .i64 x] (0+i) W A 0 J;exact GG
 have bb:Hid (w.grownBy (W.setCells g (0+n) [.int .i64 x]) (some g)):=Afb ac.out (Nq g _ _ _);clear b q ad A am h s a' G ac;have bc:=U C;have b5:=U m;clear m;have b6:¬(cap=n):=O;go_enter func287,ntmps287;go_wp2_with (at_builtin;refine wpList_append_room1 _ rfl _ _ 22 22 rfl 3 _ _ underlying22 info3 g 0 n cap rfl _ rfl 1 [.int .i64 x] bs.out O be.out bl.out ?_);rw[BY]at a9 bb;go_ret;refine⟨?_,a9.out,bb.out⟩;rw[Ku (by rw[bc.out];exact Ac n),bc.out];rfl
def An9(g cap:Nat)(L:List Int)(x:Int)(i:Nat)(w:World)(ct:AI w g cap L.toArray)(dI:i<L.length)(cu:L.length+1<=cap)(c3:cap<=4194304):Calls prog 287 #[.slice (some ⟨g,0,none⟩) L.length cap,.int .i64 i,.slice (some ⟨w.heap.size,0,none⟩) 1 1] (w.alloc (.cells #[.int .i64 x] 3)) (Vv g cap (Do L x i) w):=by
 obtain⟨n,bb⟩:∃n,L.length=n:=⟨_,rfl⟩
 rw[bb]at dI cu|-
 obtain⟨bv,ad,bc,cv,bx⟩:=ct
 have b9:=(Array.getElem?_eq_some_iff.1 ad).1
 have A:(w.alloc (.cells #[.int .i64 x] 3)).heap[g]? = some (.cells bv 3 (0,0)):=by
  rw[(World.grownBy_alloc w (.cells #[.int .i64 x] 3) none).block g b9 (by simp)];exact ad
 have b0:(w.alloc (.cells #[.int .i64 x] 3)).cell? ⟨w.heap.size,0,none⟩=some (.int .i64 x):=by simp[World.cell?_alloc_new]
 have b1:(w.alloc (.cells #[.int .i64 x] 3)).shape? w.heap.size=some (3,1):=by rw[World.shape?,heap_alloc_new];rfl
 have bd:∀k,(w.alloc (.cells #[.int .i64 x] 3)).frozen? ⟨w.heap.size,k,none⟩=false:=by intro k;simp
 obtain⟨W,am⟩:∃W,w.alloc (.cells #[.int .i64 x] 3)=W:=⟨_,rfl⟩
 have cx:Hid (w.grownBy W none):=by rw[<-am];exact World.grownBy_alloc _ _ _
 obtain⟨C,b2⟩:∃C,w.heap.size=C:=⟨_,rfl⟩
 rw[am,b2]at b0 b1 bd
 rw[am]at A
 rw[am,b2]
 have be:C≠g:=by omega
 have b':W.shape? g=some (3,cap):=by simp[World.shape?,A,bc]
 have ca:∀lb b3,(callFunc 299 #[.slice (some ⟨C,0,none⟩) 1 1,.slice (some ⟨g,i+1,none⟩) lb b3]).run prog W=.ok (.value (.bool false)) W:=λlb b3=>by
  rw[run_callFunc_extern func299 (by kernel_rfl) (by kernel_rfl) (by kernel_rfl) (e:=Extern.SlicesOverlaps.overlaps #[22,22] #[4]) (by kernel_rfl),
   Lib.run_overlaps_apart W 22 4 3 underlying22 1 sizeOf3 ⟨C,0,none⟩ ⟨g,i+1,none⟩ 1 1 lb b3 be 3 3 1 cap b1 b' (by omega) (bd 0) (bd 1)]
  rfl
 obtain⟨m,a9⟩:∃m,L.map (Value.int .i64)=m:=⟨_,rfl⟩
 have cb:m.length=n:=by rw[<-a9];simpa using bb
 have b4:(prog.info? 3).map (·.size)=some 1:=by
  obtain⟨c4,cy,c5,ad,bc⟩:=info_parts info3
  rw[cy];simp[ad]
 have cc:∀j v,m[j]? = some v->W.cell? ⟨g,j,none⟩=some v:=λj v b=>by
  rw[<-a9,List.getElem?_map]at b
  cases bl:L[j]? with
  | none=>rw[bl]at b;cases b
  | some y =>
   rw[bl]at b
   simp only[Option.map_some,Option.some.injEq]at b
   obtain⟨F,q⟩:=List.getElem?_eq_some_iff.1 bl
   have:=bx j (by simpa using F)
   rw[Nk _ F]at this
   simp only[World.cell?,A,this]
   rw[<-b]
   simp[List.getD,bl]
 have a':∀j,j<n+1->(W.cell? ⟨g,j,none⟩).isSome=true:=by
  intro j b
  simp[World.cell?,A];omega
 have b5:∀j,W.frozen? ⟨g,j,none⟩=false:=by intro j;simp[World.frozen?,A]
 have cd:∀v∈m,v.oneCell'=true:=by
  intro v bs
  rw[<-a9]at bs
  obtain⟨y,_,rfl⟩:=List.mem_map.1 bs
  rfl
 have ce:(m.drop i).length=n-i:=by rw[List.length_drop,cb]
 have b6:∀G ac sc,(Builtin.copy_ #[22,22] G #[.slice (some ⟨g,i+1,none⟩) (n-i) ac,.slice (some ⟨g,i,none⟩) (n+1-i) sc]).run prog W.drew=.ok (goInt (m.drop i).length) (W.drew.setCells g (i+1) (m.drop i)):=λG ac sc=>
  run_copy_cells W.drew _ _ G 3 g (i+1) (n-i) ac ⟨g,i,none⟩ (n+1-i) sc (m.drop i) underlying22 b4 (by rw[ce];simp only[Nat.min_def];split<;>omega)
   (λj v b=>by rw[Addr.add_lit];exact cc (i+j) v (by rwa[List.getElem?_drop]at b))
   (λj b=>a' _ (by omega)) (λj b=>b5 _) (λv bs=>cd v (List.mem_of_mem_drop bs))
 obtain⟨c,s⟩:∃c,c=W.drew.setCells g (i+1) (m.drop i):=⟨_,rfl⟩
 have b7:∀k,k<n+1->(c.cell? ⟨g,k,none⟩).isSome=true:=λk ba=>by
  rw[s]
  exact isSome_setCells g (m.drop i) (i+1) W.drew (λj b=>a' _ (by omega)) _ (a' k ba)
 have cf:∀(V:World),(∀x,V.cell? x=c.cell? x)->(∀x,V.frozen? x=c.frozen? x)->∀G ac,(Builtin.copy_ #[22,22] G #[.slice (some ⟨g,i,none⟩) (n+1-i) ac,.slice (some ⟨C,0,none⟩) 1 1]).run prog V=.ok (goInt ([Value.int .i64 x]).length) (V.setCells g i [Value.int .i64 x]):=λV cg cA G ac=>
  run_copy_cells V _ _ G 3 g i (n+1-i) ac ⟨C,0,none⟩ 1 1 [Value.int .i64 x] underlying22 b4 (by simp only[List.length_singleton,Nat.min_def];split<;>omega)
   (λj v b=>by
    rw[Addr.add_lit,cg,s,World.cell?_setCells_out g _ _ _ _ (λh _=>absurd h be)]
    cases j with
    | zero=>simp at b;subst b;exact b0
    | succ j=>simp at b)
   (λj b=>by simp at b;subst b;rw[cg];exact b7 _ (by omega)) (λj b=>by rw[cA,s,World.frozen?_setCells];exact b5 _) (by simp[Value.oneCell'])
 have ci:∀V:World,V.heap=c.heap->Hid (AI (V.setCells g i [.int .i64 x]) g cap (Do L x i).toArray):=by
  intro V cj
  have cl:W.drew.heap[g]? = some (.cells bv 3 (0,0)):=A
  obtain⟨cB,F,q⟩:=QX g 3 (0,0) (m.drop i) (i+1) W.drew bv cl
  rw[<-s,<-cj]at F
  obtain⟨c6,cC,cD⟩:=QX g 3 (0,0) [.int .i64 x] i V cB F
  refine AI.of cC (by rw[cD,q];exact bc) (by simp[Ku (show i<=L.length by omega)];omega) (λk ba=>?_)
  have cm:k<L.length+1:=by simpa[Ku (show i<=L.length by omega)] using ba
  rw[Nk _ (by rw[Ku (show i<=L.length by omega)];exact cm),Afc (by omega) cm]
  have co:∀a,V.cell? a=c.cell? a:=λa=>by simp[World.cell?,cj]
  by_cases bt:k=i
  ·subst bt
   rw[if_neg (by omega),if_pos rfl]
   have:=World.cell?_setCells_in g [.int .i64 x] k V (λj b=>by simp at b;subst b;rw[co];exact b7 _ (by omega)) 0 (by simp)
   simpa using this
  ·rw[World.cell?_setCells_out g _ _ _ _ (λ_ _=>by simp;omega),co,s]
   by_cases e:k<i
   ·rw[if_pos e,World.cell?_setCells_out g _ _ _ _ (λ_ _=>.inl (by simp;omega))]
    have:=bx k (by simp;omega)
    rw[Nk _ (by omega)]at this
    simp[World.cell?,cl,this]
   ·rw[if_neg e,if_neg bt]
    obtain⟨j,b⟩:∃j,k=i+1+j:=⟨k-(i+1),by omega⟩
    subst b
    have:=World.cell?_setCells_in g (m.drop i) (i+1) W.drew (λj b=>a' _ (by omega)) j (by omega)
    rw[this,List.getElem_drop]
    have b8:i+1+j-1=i+j:=by omega
    rw[b8]
    simp only[<-a9,List.getElem_map]
    congr 2
    rw[List.getD_eq_getElem?_getD,List.getElem?_eq_getElem (by omega)];rfl
 have cp:∀V:World,V.heap=c.heap->V.os=c.os->V.tape=c.tape->V.output=c.output->Hid (w.grownBy (V.setCells g i [.int .i64 x]) (some g)):=by
  intro V cq bt b8 cF
  have F:W.grownBy c (some g):=by rw[s];exact A5 (OB (Ln W (some g))) (Nq g _ _ _)
  have q:w.grownBy c (some g):=Afb cx.out F
  have cI:w.grownBy V (some g):=⟨bt.trans q.os,b8.trans q.tape,cF.trans q.output,by rw[cq];exact q.size,λk ba be=>by rw[cq];exact q.block k ba be⟩
  exact A5 cI (Nq g _ _ _)
 have cr:=Lib.hid bb
 have cO:=Lib.hid ci
 have c2:=Lib.hid cp
 have c7:¬((i:Int)=(n:Int)):=by omega
 have c8:IntKind.i64.wrap ((i:Int)+1)=(i:Int)+1:=IntWalk.i64_in _ (by omega)
 have c9:(0:Int)<=(i:Int)+1:=by omega
 have c':((i:Int)+1).toNat=i+1:=by omega
 have da:¬(cap=i+1):=by omega
 have db:(i:Int)<=(n:Int)+1:=by omega
 have dc:¬(cap=i):=by omega
 have df:i<=n:=by omega
 have dj:i<=n+1:=by omega
 have cs:=Lib.hid cf
 rw[<-s]at b6
 clear s ci cp a9 cb b4 cc a' b5 cd ce b7 b0 b1 bd b' A b9 ad bc cv bx bb am b2 cf
 go_enter func287,ntmps287
 go_wp2_with (simp only[ca])
 go_region_law (refine step_copy_runI rfl _ _ 22 22 rfl _ _ (by simp[Act.eval,Act.put]) (by simp[Act.eval,Act.put]) (b6 _ _ _) ?_)
 have dk:=cs.out c (λ_=>rfl) (λ_=>rfl)
 clear cs b6 ca
 go_wp2
 go_ret
 refine⟨?_,(cO.out _ rfl).out,(c2.out _ rfl rfl rfl rfl).out⟩
 rw[Ku (by rw[cr.out];omega),cr.out]
 rfl
def An7(g cap n:Nat)(L M:List Int)(x:Int)(i:Nat)(w:World)(b:AI w g cap L.toArray)(k:Hid (L.length=n))(dI:i<=n)(c:n+1<=cap)(h:cap<=4194304)(m:Hid (Do L x i=M)):Calls prog 287 #[.slice (some ⟨g,0,none⟩) n cap,.int .i64 i,.slice (some ⟨w.heap.size,0,none⟩) 1 1] (w.alloc (.cells #[.int .i64 x] 3)) (Vv g cap M w):=by
 obtain rfl:=k.out;rw[<-m.out];by_cases e:i=L.length
 ·subst e;exact An8 g cap L x w b c h
 ·exact An9 g cap L x i w b O c h
end Go.Proofs.YtblcoicaeeiojaaGreatDoor
namespace Go.Proofs.YtblcoicaeeiojaaGreatDoor
open Go.RowKit Go.Sort
def Hd(s:List Int):Nat->Int
 | 0 => -1
 | k+1=>if s.getD k 0=45 then(k:Int)else Hd s k
theorem AcZ(s:List Int):∀k,(Hd s k<=0->F7 s k=0)/\(0<Hd s k->(F7 s k:Int)=Hd s k)/\-1<=Hd s k/\Hd s k<k+1
 | 0=>⟨λ_=>rfl,λh=>by simp[Hd]at h,by simp[Hd],by simp[Hd]⟩
 | k+1=>by
  obtain⟨b,c,m,A⟩:=AcZ s k;rw[Hd,F7];by_cases e:s.getD k 0=45
  ·rw[N e];by_cases q:1<=k
   ·rw[N ⟨q,e⟩];exact⟨λh=>O,λ_=>rfl,O,O⟩
   ·have:k=0:=by omega
    subst this;rw[V O];exact⟨λ_=>rfl,λh=>O,O,O⟩
  ·rw[V e,V (λh=>e h.2)];exact⟨b,c,m,O⟩
def AoQ(s:ByteArray)(R:Int)(w:World)(L:s.size<=1099511627776)(q:Hid (Hd (Ap s) s.size=R)):Calls prog 302 #[.string s,.int .u8 45] w λe w'=>e=.returned (.int .i64 R)/\w'=w:=by
 go_enter func302,ntmps302;go_wp2;go_loopw[5] (λu wr=>∃k:Nat,u=.int .i64 ((k:Int)-1)/\k<=s.size/\Hid (Hd (Ap s) k=R)/\wr=w) (λu _=>(intOf u+1).toNat)
 case atStart=>exact⟨s.size,rfl,Ac _,q,rfl⟩
 case round=>
  obtain⟨k,rfl,ac,m,rfl⟩:=hrel;by_cases ad:0<k
  ·obtain⟨j,rfl⟩:∃j,k=j+1:=⟨k-1,O⟩;have C:j<s.size:=O;have b:=m.out;rw[Hd,Kt s j C]at b;obtain⟨c,F⟩:∃c:Int,(s[j].toNat:Int)=c:=⟨_,rfl⟩;rw[F]at b;have A:((j+1:Nat):Int)-1=(j:Int):=O;rw[A];clear m A;by_cases e:c=45
   ·have G:(c==45)=true:=by simp[e]
    rw[N e]at b;have h:=U b;clear b e;go_wp2;go_ret;exact⟨by rw[<-h.out];rfl,rfl⟩
   ·have G:(c==45)=false:=by simp[e]
    rw[V e]at b;have h:=U b;clear b e;go_wp2;go_roundw
    case rel=>exact⟨j,rfl,O,h,Dr⟩
    case measure=>simp[intOf]
  ·obtain rfl:k=0:=by omega
   have h:Hid (R = -1):=m.out.symm;obtain rfl:=h.out;clear h m q;exact I7
def Agg(s:ByteArray)(R:Int)(w:World)(b:s.size<=1099511627776)(c:Hid (Hd (Ap s) s.size=R)):Calls prog 295 #[.string s,.int .u8 45] w λe w'=>e=.returned (.int .i64 R)/\w'=w:=by
 go_enter func295,ntmps295;go_wp2_with (go_at_call 302;refine(AoQ s R _ b c).mono ?_;rintro e w1 ⟨rfl,rfl⟩);exact RQ
def Aen(X:ByteArray)(k:Nat):Ap (X.extract 0 k)=(Ap X).take k:=by
 unfold Ap;rw[RW,RV,List.extract_eq_take_drop,List.drop_zero,Nat.sub_zero,Se]
def TJ(X:ByteArray)(k:Nat):Ap (X.extract k X.size)=(Ap X).drop k:=by
 have b:X.size=X.data.toList.length:=(RU (xs:=X.data)).symm;unfold Ap;rw[RW,RV,b,List.extract_eq_take_drop,AO J,Sd]
def Ajz(s:ByteArray)(w:World)(e:Ending)(w':World):Prop:=
 ∃B G:ByteArray,e=.returned (.tuple #[.string B,.string G])/\Ap B=(Ap s).take (CZ (Ap s))/\Ap G=(Ap s).drop (if CZ (Ap s)=0 then 0 else CZ (Ap s)+1)/\∃q,w'=w.drewN q
def AlP(s:ByteArray)(w:World)(A:s.size<=1099511627776):Calls prog 285 #[.string s] w (Ajz s w):=by
 obtain⟨R,h⟩:∃R,Hd (Ap s) s.size=R:=⟨_,rfl⟩;obtain⟨m,q,C,F⟩:=AcZ (Ap s) s.size;have G:CZ (Ap s)=F7 (Ap s) s.size:=by unfold CZ;rw[Be]
 rw[<-G,h]at m q;rw[h]at C F;have L:=U h;clear h G;by_cases ac:R<=0
 ·have c:=U (m ac);clear m q;go_enter func285,ntmps285;go_wp2_with (go_at_call 295;refine(Agg s R _ A L).mono ?_;rintro e w1 ⟨rfl,rfl⟩);go_ret2;refine⟨ByteArray.mk #[],s,rfl,?_,?_,0,rfl⟩
  ·rw[c.out,L0];rfl
  ·rw[c.out];rfl
 ·obtain⟨k,rfl⟩:∃k:Nat,R=k:=⟨R.toNat,O⟩;have ad:CZ (Ap s)=k:=by have:=q O;omega
  have c:=U ad;have ba:0<k:=O;have bb:k<s.size:=by
   rcases Qv (Ap s) (Ap s).length with e|e
   ·have am:CZ (Ap s)=0:=e;omega
   ·have am:CZ (Ap s)<(Ap s).length:=e.2.1;rw[Be]at am;omega
  obtain⟨b,a9⟩:∃b,k+1=b:=⟨_,rfl⟩;have bc:(k:Int)+1=(b:Int):=O;have w1:IntKind.i64.wrap (b:Int)=(b:Int):=AT _ O;have bd:b<=s.size:=O;have a':=U a9;clear m q C F ad ac a9;go_enter func285,ntmps285;go_wp2_with (go_at_call 295;refine(Agg s k _ A L).mono ?_;rintro e w2 ⟨rfl,rfl⟩);go_quiet (fail);go_wp2;go_ret2;refine⟨_,_,rfl,?_,?_,_,rfl⟩
  ·rw[c.out];exact Aen s k
  ·rw[c.out,V O,a'.out];exact TJ s b
theorem AI.push{W:World}{g cap:Nat}{L:List Int}(h:AI W g cap L.toArray)(m:L.length+1<=cap)(x:Int):AI (W.setCells g L.length [.int .i64 x]) g cap (L++[x]).toArray/\(∀j,j < [Value.int .i64 x].length->(W.cell? ⟨g,0+L.length+j,none⟩).isSome=true)/\(∀j,j < [Value.int .i64 x].length->W.frozen? ⟨g,0+L.length+j,none⟩=false):=by
 obtain⟨q,c,s,ac,A⟩:=h;have k:∀j,j < [Value.int .i64 x].length->(W.cell? ⟨g,0+L.length+j,none⟩).isSome=true:=by
  intro j b;simp at b;subst b;simp[World.cell?,c];omega
 refine⟨?_,k,λj b=>by simp[World.frozen?,c]⟩;obtain⟨ad,C,F⟩:=QX g 3 (0,0) [.int .i64 x] L.length W q c;refine AI.of C (by rw[F];exact s) (by simpa using m) (λi dI=>?_);have G:i<L.length+1:=Iz;rw[Nk _ (by simpa using G),Cz];by_cases e:i<L.length
 ·rw[MR e,RZ g _ _ _ _ (λ_ _=>.inl (by simpa using e))];have:=A i (by simpa using e);rw[Nk _ e]at this;simp[World.cell?,c,this,List.getD]
 ·obtain rfl:i=L.length:=by omega
  rw[LW (Ac _)];have:=U' g [.int .i64 x] L.length W (λj b=>by have:=k j b;rwa[BY]at this) 0 J;exact GG
def TU{f b i v m:Nat}{P L:List Int}{n e:Int}{first:Bool}(ad:L≠[])(k:Jy b L=(v,m,e)):(e≠0->En (f+1) P n i b first L=([],e))/\(e=0->1<=m/\m<=L.length/\v<=2147483647/\En (f+1) P n i b first L=if 1114111<n+(((v+i)/(P.length+1):Nat):Int) then([],8)else if BO (n+(((v+i)/(P.length+1):Nat):Int))=false then([],12)else En f (Do P (n+(((v+i)/(P.length+1):Nat):Int)) ((v+i)%(P.length+1))) (n+(((v+i)/(P.length+1):Nat):Int)) ((v+i)%(P.length+1)+1) (Fi v (P.length+1) first) false (L.drop m)):=by
 cases L with
 | nil=>exact absurd rfl ad
 | cons c s =>
  rw[En];unfold Jy at k;cases F:Gb b 0 (c::s) with
  | none =>
   rw[F]at k;simp only at k;injection k with G q;injection q with q A;subst A;exact⟨λ_=>rfl,λh=>E5⟩
  | some X =>
   obtain⟨D,r⟩:=X;rw[F]at k;simp only at k;obtain⟨am,a9,a',ba⟩:=Rh b (c::s) 0 D r F;split at k
   ·rename_i ac;injection k with G q;injection q with q A;subst A;exact⟨λ_=>by simp only;rw[N (.inl ac)],λh=>E5⟩
   ·rename_i ac;injection k with G q;injection q with q A;subst G;subst q;subst A;refine⟨λh=>absurd rfl h,λ_=>⟨am,a9,O,?_⟩⟩;simp only;unfold KC;simp only;by_cases C:1114111<n+(((DA b 0 D+i)/(P.length+1):Nat):Int)
    ·rw[N (.inr C),N C]
    ·rw[V (by rintro (h|h);exact ac h;exact C h),V C,<-a']
end Go.Proofs.YtblcoicaeeiojaaGreatDoor
namespace Go.Proofs.YtblcoicaeeiojaaGreatDoor
open Go.RowKit
def Rf(s:ByteArray):strOfNums (Ap s)=s:=by
 apply Pz;apply Array.ext';exact AvQ
def Aeo{a b:ByteArray}(h:Ap a=Ap b):a=b:=by rw[<-Rf a,<-Rf b,h]
def VL(a b:ByteArray):(a.toList==b.toList)=decide (Ap a=Ap b):=by
 rw[KR,KR];by_cases h:Ap a=Ap b
 ·have:=Aeo h;subst this;exact J
 ·have c:¬a.data=b.data:=λe=>h (by rw[show a=b from Pz e]);simp[h,c]
def It(s:ByteArray):ByteArray:=strOfNums (BN (Ap s))
def Ao6{c:Int}(b:0<=c)(e:c<256):0<=By c/\By c<256:=by unfold By;split<;>omega
def QI(s:ByteArray):Ap (It s)=BN (Ap s):=by
 unfold It;refine Mo _ (λx b=>?_);obtain⟨y,c,rfl⟩:=Cc.1 b;obtain⟨e,h⟩:=Xk s y c;exact Ao6 e h
def WW(s:ByteArray):(It s).size=s.size:=by unfold It;rw[Et,QD,Be]
def AdL(l:List Int)(k:Nat)(h:k<l.length):(BN l).take (k+1)=(BN l).take k++[By (l.getD k 0)]:=by
 rw[C4 _ k (by rw[QD];exact h)];congr 2;unfold BN;exact Ps
def Adh(s:ByteArray)(h:4<=s.size):((It (s.extract 0 4)).toList==[120,110,45,45])=Ft (Ap s):=by
 have b:([120,110,45,45]:List UInt8)=(ByteArray.mk #[120,110,45,45]).toList:=by decide +kernel
 have c:Ap (ByteArray.mk #[120,110,45,45])=FX:=by decide +kernel
 rw[b,VL,QI,Aen,c]
 unfold Ft
 rw[Be]
 simp only[h,decide_true,Bool.true_and]
 by_cases e:BN (List.take 4 (Ap s))=FX<;>simp[e]
def Adg(s:ByteArray)(h:¬4<=s.size):Ft (Ap s)=false:=by
 unfold Ft;rw[Be];simp[h]
def Adf{s:List Int}(h:Ft s=true):4<=s.length:=by
 unfold Ft at h;simp at h;exact h.1
def Aa8{l:List Int}{k:Nat}(ba:k<l.length)(h:l.getD k 0<0\/127<l.getD k 0):D5 l=false:=by
 cases b:D5 l with
 | false=>rfl
 | true =>
  have:=AR.1 b (l.getD k 0) Gc;simp only[AJ,A4]at this;omega
def Akj{l:List Int}(h:∀j,j<l.length->0<=l.getD j 0/\l.getD j 0<=127):D5 l=true:=by
 unfold D5;rw[AR];intro c b;obtain⟨i,dI,rfl⟩:=JU b;have:=h i dI;have e:l.getD i 0=l[i]:=by simp[dI]
 rw[e]at this;simp only[AJ,A4];exact this
def VF{l:List Int}(h:D5 l=true){k:Nat}(ba:k<l.length):0<=l.getD k 0/\l.getD k 0<=127:=by
 have:=AR.1 h (l.getD k 0) Gc;simpa only[AJ,A4] using this
def AaZ{P:List Int}{k:Nat}(ba:k<P.length)(h:127<P.getD k 0):(P.any λc=>decide (127<c))=true:=by
 rw[JS];exact⟨P.getD k 0,Gc,At h⟩
def Aa1{P:List Int}(h:∀k,k<P.length->P.getD k 0<=127):(P.any λc=>decide (127<c))=false:=by
 rw[R8];intro c b;obtain⟨i,dI,rfl⟩:=JU b;have:=h i dI;have e:P.getD i 0=P[i]:=by simp[dI]
 rw[e]at this;exact Ae
def Adx{l X:List Int}{e:Int}(h:AE l=(X,e))(k:∀Y f,Dk l=(Y,f)->∀c∈Y,0<=c/\c<256):∀c∈X,0<=c/\c<256:=by
 unfold AE at h;split at h
 ·exact Rv
 ·split at h
  ·rename_i m;unfold Fv at h;split at h
   ·exact Rv
   ·injection h with a' be;rw[<-a'];intro c b;have:=AR.1 m c b;simp only[AJ,A4]at this;omega
  ·split at h
   ·exact Rv
   ·unfold Fv at h;split at h
    ·exact Rv
    ·injection h with a' be;rw[<-a'];intro c b;rcases Bg.1 b with b|b
     ·simp only[FX,AX,CT,C7]at b;omega
     ·exact k _ _ rfl c b
def AdA:AE []=([],10):=rfl
def AoL{l:List Int}(h:l≠[])(b:D5 l=true):AE l=Fv l:=by unfold AE;rw[V h,N b]
def Adz{l X:List Int}{e:Int}(h:l≠[])(b:D5 l=false)(c:Dk l=(X,e))(k:e≠0):AE l=([],e):=by
 unfold AE;rw[V h,V (by rw[b];simp),c,N k]
def Ady{l X:List Int}(h:l≠[])(b:D5 l=false)(c:Dk l=(X,0)):AE l=Fv (FX++X):=by
 unfold AE;rw[V h,V (by rw[b];simp),c,V J]
def Ui(S:ByteArray)(h:¬S.size=0):(S.toList==[])=false:=by
 rw[KR];exact AvM
def Uj(S:ByteArray)(h:S.size=0):(S.toList==[])=true:=by
 rw[KR];have:S.data.toList=[]:=Bw h;rw[this];rfl
end Go.Proofs.YtblcoicaeeiojaaGreatDoor
namespace Go.Proofs.YtblcoicaeeiojaaGreatDoor
open Go.RowKit Go.Sort
def QN(c:Nat):Obj:=.cells (madeCells (Value.cells (.int .i64 0)) (c*1)) 3
def ArD(c:Nat)(m:c<=4194304)(w:World):(Instr.makeSlice 22 (.int .i64 0) (.int .i64 (c:Int))).run prog w=.ok (.slice (some ⟨w.heap.size,0,none⟩) 0 c) (w.alloc (QN c)):=by
 obtain⟨b,dI,e,k,dE⟩:=Cp info3;have h:=Ae_ (P:=prog) 22 3 b _ underlying22 dI e .i64 .i64 0 c (Au _) I3 O w;rw[k]at h;exact h
theorem AI.made(w:World)(c:Nat):AI (w.alloc (QN c)) w.heap.size c ([]:List Int).toArray:=
 ⟨_,IC w _,by rw[R5];simp[Value.cells],Au _,λi dI=>by simp at dI⟩
theorem BC.bytes{w:World}{B:Nat}{v:Value}{xs:List Int}(h:BC w B v xs):∃g cap,v=.slice (some ⟨g,0,none⟩) xs.length cap/\B<=g/\g<w.heap.size/\BE .u8 w (some ⟨g,0,none⟩) xs:=by
 obtain⟨g,cap,b,m,rfl,q,c,s,A,C,F,ep⟩:=h;refine⟨g,cap,rfl,q,(EM.1 c).1,λk ba=>⟨g,0,rfl,?_⟩⟩;rw[Es w g (0+k) b _ m c,BY];have e:(b.toList.take xs.length)[k]? = (xs.map (Value.int .u8))[k]? := N4;rw[Eu,N ba]at e;exact AwH
def DL(out:List Int)(b:Int)(w:World)(e:Ending)(w':World):Prop:=
 ∃v,e=.returned (.tuple #[v,.int .i64 b])/\Ak w' w.heap.size v out/\Below w.heap.size w w'
theorem DL.nil(b:Int){w w':World}(h:Below w.heap.size w w'):DL [] b w (.returned (.tuple #[.slice none 0 0,.int .i64 b])) w':=⟨_,rfl,Ak.nil _ _,h⟩
def Aci{L:List Int}(h:2048<L.length):Gr L=([],7):=by unfold Gr;rw[N h]
def Acg{L:List Int}(h:L.length<=2048)(b:((L.take (CZ L)).any λc=>decide (127<c))=true):Gr L=([],12):=by unfold Gr;rw[V O,N b]
def Ach{L:List Int}(h:L.length<=2048)(b:((L.take (CZ L)).any λc=>decide (127<c))=false):Gr L=En L.length (L.take (CZ L)) 128 0 72 true (L.drop (if CZ L=0 then 0 else CZ L+1)):=by unfold Gr;rw[V O,V (by rw[b];simp)]
def AaY{P:List Int}{k:Nat}(ba:k<P.length)(h:Cj (P.getD k 0)=false):(P.any λc=>decide (127<c))=true:=by
 rw[JS];refine⟨P.getD k 0,Gc,?_⟩;have:=Fc (show decide (P.getD k 0<128)=false from h);exact At O
def Aa0{P:List Int}(h:∀k,k<P.length->Cj (P.getD k 0)=true):(P.any λc=>decide (127<c))=false:=by
 rw[R8];intro c m;obtain⟨k,b,rfl⟩:=JU m;have e:=h k b;rw[Cz,CI b,MV]at e;have:=If (show decide (P[k]<128)=true from e);exact Ae
structure Og (w0 w:World) (gs gl cap:Nat) (P:List Int) (n:Int) (i b:Nat) (later:Bool):Prop where
 st:Ik w gs n i P.length b later
 row:AI w gl cap P.toArray
 ab:Below w0.heap.size w0 w
 aM:w0.heap.size<=gs
 cX:w0.heap.size<=gl
 ne:gs≠gl
theorem Og.drewN{w0 w:World}{gs c cap:Nat}{P:List Int}{n:Int}{i b:Nat}{later:Bool}(h:Og w0 w gs c cap P n i b later)(m:Nat):Og w0 (w.drewN m) gs c cap P n i b later:=
 ⟨h.st.drewN m,h.row.drewN m,EO h.ab m,h.aM,h.cX,h.ne⟩
def Agf(v:Value):Nat:=match v with | .slice _ n _=>n|_=>0
def XB(s:ByteArray)(out:List Int)(bc:Int)(w:World)(ex:s.size<=140737488355328)(L:Hid (Gr (Ap s)=(out,bc))):Calls prog 272 #[.string s] w (DL out bc w):=by
 by_cases dn:2048<s.size
 ·have b8:=L.out;rw[Aci (by rw[Be];exact dn)]at b8;injection b8 with ba bb;subst ba;subst bb;clear L;go_enter func272,ntmps272;go_wp2;go_ret2;exact DL.nil 7 (Al _ _)
 have lL:s.size<=2048:=O;obtain⟨h,dq⟩:∃h,CZ (Ap s)=h:=⟨_,rfl⟩;have cd:=U dq;clear dn dq;go_enter func272,ntmps272;go_wp2_with fail;refine(AlP s _ O).mono ?_;rintro bt w1 ⟨B,G,rfl,ce,cf,q,ds⟩;have cg:Hid (Below w.heap.size w w1):=by rw[ds];exact EO (Al _ _) q
 rw[cd.out]at ce cf;have d2:B.size<=s.size:=by
  rw[<-Be,ce,<-Be];simp;omega
 have b0:=U ce;have cy:=U cf;have d3:=ArD s.size O;have ci:=U (AI.made w1 s.size);have cj:=U (cg.out.alloc cg.out.size (QN s.size));have cl:Hid ((w1.alloc (QN s.size)).heap.size=w1.heap.size+1):=Zu;clear ce cf ds;go_upto_region 5 with(fail);obtain⟨F,dx⟩:∃F,w1.heap.size=F:=⟨_,rfl⟩;have b9:Hid (w.heap.size<=F):=by unfold Hid;rw[<-dx];exact cg.out.size
 rw[dx]at ci cl|-;generalize w1.alloc (QN s.size)=d4 at ci cj cl|-;obtain⟨ey,d5,cA,dy,cB⟩:=VT d4 B BQ;obtain⟨b',ez,rfl,bd,dz,dE⟩:=dy.bytes;have dF:Hid (AI d5 F s.size ([]:List Int).toArray):=ci.out.grown (G4 cB none) J;have dG:=U (cj.out.trans (cB.mono cj.out.size));have cC:=U dE;have eB:F<b':=by have:=cl.out;omega
 have cm:=U dz;clear dy cB dE bd dz d3;rw[Be]at cA;obtain⟨P,co⟩:∃P,Ap B=P:=⟨_,rfl⟩;obtain⟨m,cD⟩:∃m,B.size=m:=⟨_,rfl⟩;have dH:P.length=m:=by rw[<-co,Be,cD]
 have bv:=U dH;have dJ:Hid (∀x∈P,0<=x/\x<256):=by rw[<-co];exact Xk B
 rw[co]at cC b0;rw[cD]at d2 cA;clear co cD dH;go_wp2;go_loopw[6,29] (λvv u wr=>∃k:Nat,u=.int .i64 k/\k<=m/\vv=.slice (some ⟨F,0,none⟩) k s.size/\Hid (∀j,j<k->Cj (P.getD j 0)=true)/\Hid (AI wr F s.size (P.take k).toArray)/\Hid (BE .u8 wr (some ⟨b',0,none⟩) P)/\Hid (b'<wr.heap.size)/\Hid (Below w.heap.size w wr)) (λ_ u _=>m-(intOf u).toNat)
 case atStart=>exact⟨0,rfl,Au _,rfl,λj bl=>O,dF,cC,cm,dG⟩
 case round=>
  clear dF dG cC cm cA ci cj cl;obtain⟨k,rfl,eC,rfl,cF,cp,cq,bd,eA⟩:=hrel;by_cases d6:k<m
  ·have b1:k<P.length:=by rw[bv.out];exact d6
   obtain⟨eD,eE,ba,dK⟩:=cq.out k b1;cases ba;rw[BY]at dK;obtain⟨y,bs⟩:∃y,P.getD k 0=y:=⟨_,rfl⟩;rw[bs]at dK;have d7:=dJ.out y (by rw[<-bs];simp[b1]);obtain⟨eF,eG⟩:=d7;cases b2:Cj y with
   | false =>
    have cI:=U b2;have b8:=L.out;rw[Acg Zl (by rw[cd.out,<-b0.out];exact AaY b1 (by rw[bs];exact b2))]at b8;injection b8 with ba bb;subst ba;subst bb;clear L b2 bs b1;go_wp2_with (go_at_call 243;refine(OC y false _ cI).mono ?_;rintro e d8 ⟨rfl,rfl⟩);exact AhT
   | true =>
    have cI:=U b2;have d9:Hid (∀j,j<k+1->Cj (P.getD j 0)=true):=λj bl=>by
     by_cases e:j=k
     ·subst e;rw[bs];exact b2
     ·exact cF.out j O
    have dL:(P.take k).length=k:=Ae;have dM:=cp.out.grown (GJ _ (.cells #[.int .i64 y] 3) none) J;obtain⟨cr,cO,c2⟩:=dM.push (by rw[dL];omega) y;rw[dL]at cr cO c2;rw[<-bs,<-C4 P k b1,bs]at cr;have d_:=U cr;have d':=U cO;have ea:=U c2;have eb:Hid (Go.Src prog 1 22 (.slice (some ⟨World.heap _ |>.size,0,none⟩) 1 1) 1 [.int .i64 y] (World.alloc _ (.cells #[.int .i64 y] 3))):=Go.Src.ofSlice (World.alloc wr (.cells #[.int .i64 y] 3)) underlying22 ⟨wr.heap.size,0,none⟩ 1 1 [.int .i64 y] J (λj u bl=>by
     rw[GI]
     cases j with
     | zero=>simp at bl;subst bl;simp[Cy]
     | succ j=>simp at bl) Ah1
    have ec:Hid (BE .u8 ((World.alloc wr (.cells #[.int .i64 y] 3)).setCells F k [.int .i64 y]) (some ⟨b',0,none⟩) P):=
     (cq.out.alloc _).grown (Nq F _ _ _) (λb ff e=>Pp)
    have cm:Hid (b'<((World.alloc wr (.cells #[.int .i64 y] 3)).setCells F k [.int .i64 y]).heap.size):=by
     have a':=bd.out;have be:=(Nq F [.int .i64 y] k (World.alloc wr (.cells #[.int .i64 y] 3))).size;simp only[R1]at be;exact Hj
    have ed:Hid (Below w.heap.size w ((World.alloc wr (.cells #[.int .i64 y] 3)).setCells F k [.int .i64 y])):=
     (eA.out.alloc eA.out.size _).grown (Nq F _ _ _) (by have:=eA.out.size;simp;omega) (by rintro j ⟨⟩;exact b9.out)
    clear cr cO c2 dM bs b2 b1 cp cq bd eA;go_wp2_with (first
     | (go_at_call 243;refine(OC y true _ cI).mono ?_;rintro e d8 ⟨rfl,rfl⟩)
     | (at_builtin;refine wpList_append_room1 _ rfl _ _ 22 22 rfl 3 _ _ underlying22 info3 F 0 k s.size rfl _ rfl 1 [.int .i64 y] eb.out O d'.out ea.out ?_))
    go_roundw
    case rel=>exact⟨k+1,An,O,rfl,d9,d_,ec,cm,ed⟩
    case measure=>simp[intOf];omega
  ·obtain rfl:k=m:=by omega
   have dN:Hid ((P.any λc=>decide (127<c))=false):=Aa0 (λj bl=>cF.out j (by rw[bv.out]at bl;exact bl));have dO:Hid (En (Ap s).length P 128 0 72 true (Ap G)=(out,bc)):=by
    have:=L.out;rw[Ach Zl (by rw[cd.out,<-b0.out];exact dN.out),cd.out,<-b0.out,<-cy.out]at this;exact this
   have c3:=cp.out;rw[AO (by rw[bv.out];exact Ac _)]at c3;have dP:=U c3;have dQ:Hid ((Ap G).length+k<=s.size):=by
    unfold Hid;rw[cy.out,<-bv.out,b0.out,GK,GL,Be];split<;>omega
   clear c3 L cF cp dN cq bd dJ b0 cy cg;go_wp2_with fail;refine(Ago k _).mono ?_;rintro bt w6 ⟨rfl,c4⟩;have c5:=U (dP.out.grown (G4 c4 none) J);have cs:=U (eA.out.trans (c4.mono eA.out.size));have dR:=U (F5.new w6 (.int .i64 128) (.int .i64 0) (.int .i64 k) (.int .i64 72) (.bool false) 155);have ct:Hid (Og w (w6.alloc (.cells #[.int .i64 128,.int .i64 0,.int .i64 k,.int .i64 72,.bool false] 155)) w6.heap.size F s.size P 128 0 72 false):=by
    refine⟨by unfold Ik;rw[bv.out];exact dR.out,c5.out.grown (GJ _ _ none) J,cs.out.alloc cs.out.size _,cs.out.size,b9.out,λe=>?_⟩;have:=c5.out.lt;omega
   clear c4 dP dR c5 cs eA;go_upto_region 13 with(fail);generalize w6.alloc (.cells #[.int .i64 128,.int .i64 0,.int .i64 k,.int .i64 72,.bool false] 155)=eH at ct|-;generalize w6.heap.size=gs at ct|-;have c6:=dQ.out;rw[Be]at c6;have dS:G.size<=(Ap s).length:=by rw[Be];omega
   go_wp2;go_loopw[5,6] (λee vv ef=>∃(C:ByteArray) (a9:List Int) (n:Int) (i b f ac:Nat) (later:Bool),ee=.string C/\vv=.slice (some ⟨F,0,none⟩) ac s.size/\C.size+ac<=s.size/\C.size<=f/\0<=n/\n<=1114111/\i<=ac/\b<=70368744177664/\Hid (a9.length=ac)/\Hid (Og w ef gs F s.size a9 n i b later)/\Hid (En f a9 n i b (!later) (Ap C)=(out,bc))) (λ_ vv _=>s.size-Agf vv)
   case atStart=>exact⟨G,P,128,0,72,(Ap s).length,k,false,rfl,rfl,c6,dS,O,O,O,O,bv,ct,dO⟩
   case round=>
    clear ct dO dQ c6 dS bv;obtain⟨C,a9,n,i,b,f,ac,later,rfl,rfl,eI,eJ,eg,eK,dI,dT,b3,ad,b4⟩:=hrel;by_cases cf:0<C.size
    ·obtain⟨b5,rfl⟩:∃b5,f=b5+1:=⟨f-1,O⟩;obtain⟨⟨v,bx,e⟩,c7⟩:∃y,Jy b (Ap C)=y:=⟨_,rfl⟩;have dU:Ap C≠[]:=by
      intro eh;have:=Be C;rw[eh]at this;simp at this;omega
     obtain⟨c8,c9⟩:=TU (f:=b5) (P:=a9) (n:=n) (i:=i) (first:=!later) dU c7;have dV:=U c7;have ei:=ad.out.st.2.2.2.1;clear dU c7;by_cases c':e=0
     ·subst c';obtain⟨eL,ej,ek,ca⟩:=c9 rfl;rw[Be]at ej;rw[b3.out]at ca;obtain⟨cu,da⟩:∃cu,(v+i)/(ac+1)=cu:=⟨_,rfl⟩;obtain⟨am,cv⟩:∃am,(v+i)%(ac+1)=am:=⟨_,rfl⟩;obtain⟨A,cx⟩:∃A,Fi v (ac+1) (!later)=A:=⟨_,rfl⟩;have eM:A<=2199023255588:=by rw[<-cx];exact SD v _ _ O
      have eN:am<ac+1:=by rw[<-cv];exact Od _ O
      rw[da,cv,cx]at ca;obtain⟨c,cb⟩:∃c:Int,n+(cu:Int)=c:=⟨_,rfl⟩;rw[cb]at ca;have el:0<=c:=O;have b6:Hid ((if 1114111<c then(([]:List Int),(8:Int))else if BO c=false then([],12)else En b5 (Do a9 c am) c (am+1) A false (List.drop bx (Ap C)))=(out,bc)):=by
       unfold Hid;rw[<-ca];exact b4.out
      have em:=U da;have en:=U cv;have eo:=U cx;have eO:=U cb;have dW:Hid (Ik wr gs n i ac b later):=by unfold Hid;rw[<-b3.out];exact ad.out.st
      clear c8 c9 ca b4 da cv cx;go_wp2_with fail;refine(Afw C b v bx 0 _ O dT dV).mono ?_;rintro bt ep ⟨rfl,rfl⟩;go_wp2_with fail;refine(Afe gs n i ac b later v cu am A _ dW.out O eg O O ek em en eo).mono ?_;rintro bt eP ⟨rfl,db,dc⟩;have dX:=U (ad.out.row.grown dc (by intro e;cases e;exact ad.out.ne rfl));have cc:=U (ad.out.ab.grown dc ad.out.ab.size (by rintro j ⟨⟩;exact ad.out.aM));have eq:=U ad.out.aM;have dY:=U ad.out.ne;rw[cb]at db;have dZ:=U db;clear db dc ad ei dW;rw[cb];clear cb;by_cases df:1114111<c
      ·have L:=b6.out;rw[N df]at L;injection L with ba bb;subst ba;subst bb;clear b6;go_wp2;go_ret2;exact DL.nil 8 cc.out
      ·cases b7:BO c with
       | false =>
        have L:=b6.out;rw[V df,N b7]at L;injection L with ba bb;subst ba;subst bb;have dj:=U b7;clear b6 b7;go_wp2_with (go_at_call 74;refine(AdG c _ dj.out).mono ?_;rintro bt er ⟨rfl,rfl⟩);go_ret2;exact DL.nil 12 cc.out
       | true =>
        have dj:=U b7;have es:Hid (En b5 (Do a9 c am) c (am+1) A (!true) (Ap (C.extract bx C.size))=(out,bc)):=by
         unfold Hid;rw[TJ];have:=b6.out;rw[V df,V (by rw[b7];simp)]at this;exact this
        have dk:Hid ((Do a9 c am).length=ac+1):=by unfold Hid;rw[Ku (by rw[b3.out];omega),b3.out]
        have d0:Hid ((C.extract bx C.size).size=C.size-bx):=Zu;clear b7 b6;go_wp2_with fail;refine(AdH c _ dj.out).mono ?_;rintro bt er ⟨⟨z,eQ,eR,rfl⟩,rfl⟩;have eS:((z:Int)==0)=false:=Ae;go_wp2_with fail;refine(An7 F s.size ac a9 (Do a9 c am) c am _ dX.out b3 O O O rfl).mono ?_;rintro bt et ⟨rfl,d1,bd⟩;have eu:Hid (Og w et gs F s.size (Do a9 c am) c (am+1) A true):=by
         refine⟨by rw[dk.out];exact F5.grown dZ.out bd (by intro e;cases e;exact dY.out rfl),d1,cc.out.grown bd cc.out.size (by rintro j ⟨⟩;exact b9.out),eq.out,b9.out,dY.out⟩
        rw[dk.out];clear d1 bd dX cc dZ;go_wp2;go_roundw
        case rel=>exact⟨C.extract bx C.size,Do a9 c am,c,am+1,A,b5,ac+1,true,rfl,rfl,by rw[d0.out];omega,by rw[d0.out];omega,el,O,O,O,dk,eu,es⟩
        case measure=>simp[Agf];omega
     ·have L:=c8 c';rw[b4.out]at L;injection L with ba bb;subst ba;subst bb;have eT:(bc !=0)=true:=by simp[c']
      have dm:=U ad.out.ab;clear c8 c9 b4 ad;go_wp2_with (go_at_call 286;refine(Afw C b v bx bc _ O dT dV).mono ?_;rintro bt ep ⟨rfl,rfl⟩);go_ret2;exact DL.nil bc dm.out
    ·have ev:C.size=0:=by omega
     have L:Hid (a9=out/\bc=0):=by
      have a':=b4.out;have be:Ap C=[]:=Bw (by rw[Be];exact ev);exact Awe
     obtain⟨ba,bb⟩:=L.out;subst ba;subst bb;have ew:Hid (Ak wr w.heap.size (.slice (some ⟨F,0,none⟩) ac s.size) a9):=by
      have:=ad.out.row.cn b9.out BQ;unfold Hid;rw[<-b3.out];exact GG
     have dm:=U ad.out.ab;clear b4 ad L;go_wp2;go_ret2;exact⟨_,rfl,ew.out,dm.out⟩
end Go.Proofs.YtblcoicaeeiojaaGreatDoor
namespace Go.Proofs.YtblcoicaeeiojaaGreatDoor
open Go.RowKit
def ArZ{f b i a v m:Nat}{ok:Bool}{P L:List Int}{n:Int}{first:Bool}(q:L≠[])(k:QZ b a L=(v,m,ok)):(ok=false->En (f+1) P n i b first L=([],12))/\(ok=true->a+1<=m/\m<=a+L.length/\v<=2147483648/\(2147483647<v->En (f+1) P n i b first L=([],8))/\(¬2147483647<v->En (f+1) P n i b first L=if 1114111<n+(((v+i)/(P.length+1):Nat):Int) then([],8)else if BO (n+(((v+i)/(P.length+1):Nat):Int))=false then([],12)else En f (Do P (n+(((v+i)/(P.length+1):Nat):Int)) ((v+i)%(P.length+1))) (n+(((v+i)/(P.length+1):Nat):Int)) ((v+i)%(P.length+1)+1) (Fi v (P.length+1) first) false (L.drop (m-a)))):=by
 unfold QZ at k;cases c:Gb b 0 L with
 | none =>
  rw[c]at k;injection k with A e;injection e with e s;subst s;refine⟨λ_=>?_,λh=>Ds⟩;have:=(TU (f:=f) (P:=P) (n:=n) (i:=i) (first:=first) q (show Jy b L=(0,0,12) by unfold Jy;rw[c])).1 O;exact this
 | some X =>
  obtain⟨D,r⟩:=X;rw[c]at k;injection k with A e;injection e with e s;subst e;subst s;obtain⟨G,ac,ad,am⟩:=Rh b L 0 D r c;refine⟨λh=>Ds,λ_=>⟨O,O,O,λC=>?_,λC=>?_⟩⟩
  ·have:=(TU (f:=f) (P:=P) (n:=n) (i:=i) (first:=first) q (show Jy b L=(0,0,8) by unfold Jy;rw[c];simp only;rw[N O])).1 O;exact this
  ·have F:DA b 0 D=v:=by omega
   have:=(TU (f:=f) (P:=P) (n:=n) (i:=i) (first:=first) q (show Jy b L=(v,D.length,0) by unfold Jy;rw[c];simp only;rw[V O,F])).2 rfl;rw[this.2.2.2,Nat.add_sub_cancel_left]
def Ac0(s:List Int):F7 s 1=0:=by
 rw[F7,V O];rfl
def Al7{w:World}{g cap:Nat}{P:List Int}{m:Option Addr}(h:Aq w (some ⟨g,0,none⟩) P)(C:P.length<=cap)(c:Nat)(s:(if cap=c then some (⟨g,0,none⟩:Addr)else some ⟨g,c,none⟩)=m):Aq w m (P.drop c):=by
 rw[<-s];split
 ·rw[G0 O];exact λk ba=>I4
 ·intro k ba;have A:c+k<P.length:=by rw[GK]at ba;omega
  obtain⟨b,ff,e,q⟩:=h (c+k) A;cases e;refine⟨g,c,rfl,?_⟩;rw[BY]at q;rw[q];simp[List.getD,MS]
def AgF{w:World}{p:Option Addr}{P:List Int}(h:Aq w p P)(c:Nat):Aq w p (P.take c):=by
 intro k m;have q:k<P.length:=by rw[GL]at m;omega
 have s:k<c:=by rw[GL]at m;omega
 obtain⟨b,ff,e,A⟩:=h k q;refine⟨b,ff,e,?_⟩;rw[A];simp[List.getD,Eu,s]
theorem Ak.cT{w:World}{B:Nat}{v:Value}{ao:List Int}(h:Ak w B v ao):∃p cap,v=.slice p ao.length cap/\Aq w p ao/\ao.length<=cap/\(p=none\/∃g,p=some ⟨g,0,none⟩):=by
 obtain⟨p,cap,e,b⟩:=h.ap;obtain⟨s,c⟩:=h;rcases c with⟨rfl,A⟩|⟨g,C,F,rfl,G,L,bx,ac,ad,am⟩
 ·injection e with k m q;subst k;exact⟨none,cap,by rw[<-m,<-q],b,O,.inl rfl⟩
 ·cases e;exact⟨_,_,rfl,b,UO,.inr ⟨g,rfl⟩⟩
def AeU(w:World)(c:Int):Aq (w.alloc (.cells #[.int .i64 c] 3)) (some ⟨w.heap.size,0,none⟩) [c]:=by
 intro k ba;exact AiW
def AeE{w:World}{B:Nat}{v:Value}{xs:List Int}(h:Ak w B v xs)(o:Obj):Ak (w.alloc o) B v xs:=CG h o
def Ar0(s:ByteArray)(out:List Int)(b3:Int)(w:World)(eq:s.size<=140737488355328)(C:Hid (Gr (Ap s)=(out,b3))):Calls prog 93 #[.string s] w (DL out b3 w):=by
 by_cases b4:2048<s.size
 ·have b9:=C.out;rw[Aci (by rw[Be];exact b4)]at b9;injection b9 with G F;subst G;subst F;clear C;go_enter func93,ntmps93;go_wp2;go_ret2;exact DL.nil 7 (Al _ _)
 have lL:s.size<=2048:=O;obtain⟨dS,dT,dU,dV,dW⟩:=Cp info3;clear b4;go_enter func93,ntmps93;go_wp2;go_loopw[4,5] (λub cy wr=>∃(k h:Nat),cy=.int .i64 k/\ub=.int .i64 h/\1<=k/\k<=s.size+1/\(k<=s.size\/k=1)/\h<=k/\Hid (F7 (Ap s) k=h)/\w=wr) (λ_ cy _=>s.size+1-(intOf cy).toNat)
 case atStart=>exact⟨1,0,rfl,rfl,Ac _,O,O,O,Ac0 _,rfl⟩
 case round=>
  obtain⟨k,h,rfl,rfl,dX,dY,dZ,d0,b',rfl⟩:=hrel;by_cases d1:k<s.size
  ·have ac:F7 (Ap s) (k+1)=if 1<=k/\(Ap s).getD k 0=45 then k else F7 (Ap s) k:=rfl;rw[Kt s k d1,b'.out]at ac;obtain⟨c,ca⟩:∃c:Int,(s[k].toNat:Int)=c:=⟨_,rfl⟩;rw[ca]at ac;by_cases e:c=45
   ·have cA:(c==45)=true:=by simp[e]
    have cB:Hid (F7 (Ap s) (k+1)=k):=by unfold Hid;rw[ac,N ⟨dX,e⟩]
    clear ac e b';go_wp2;go_roundw
    case rel=>exact⟨k+1,k,An,rfl,O,O,O,O,cB,Dr⟩
    case measure=>simp[intOf];omega
   ·have cA:(c==45)=false:=by simp[e]
    have cB:Hid (F7 (Ap s) (k+1)=h):=by unfold Hid;rw[ac,V (λx=>e x.2)]
    clear ac e b';go_wp2;go_roundw
    case rel=>exact⟨k+1,h,An,rfl,O,O,O,O,cB,Dr⟩
    case measure=>simp[intOf];omega
  ·have bs:Hid (CZ (Ap s)=h):=by
    have cC:=b'.out;unfold Hid CZ;rw[Be];by_cases a':k=s.size
    ·rw[<-a'];exact cC
    ·have ba:k=1:=by omega
     have d2:s.size=0:=O;rw[ba,Ac0]at cC;rw[d2,<-cC];rfl
   have er:h<=s.size:=by
    rcases Qv (Ap s) (Ap s).length with e|e
    ·have F:CZ (Ap s)=0:=e;have:=bs.out;omega
    ·have F:CZ (Ap s)<(Ap s).length:=e.2.1;have:=bs.out;rw[Be]at F;omega
   clear b' dZ d0 dY;have es:¬((k:Int)<(s.size:Int)):=O;go_wp2;go_loopw[6,7] (λvv u bt=>∃j:Nat,u=.int .i64 j/\j<=h/\Hid (∀q,q<j->Cj (((Ap s).take h).getD q 0)=true)/\Hid (Ak bt w.heap.size vv (((Ap s).take h).take j))/\Hid (Below w.heap.size w bt)) (λ_ u _=>h-(intOf u).toNat)
   case atStart=>exact⟨0,rfl,Au _,λq dO=>O,Ak.nil _ _,Al _ _⟩
   case round=>
    obtain⟨P,cl⟩:∃P,(Ap s).take h=P:=⟨_,rfl⟩;rw[cl]at hrel;obtain⟨j,rfl,et,cm,bc,eA⟩:=hrel;have dn:P.length=h:=by rw[<-cl,GL,Be];omega
    have bd:=U dn;have bv:=U cl;clear cl dn;by_cases cD:j<h
    ·have d3:j<s.size:=by omega
     have b5:P.getD j 0=(s[j].toNat:Int):=by
      rw[<-bv.out,<-Kt s j d3];simp[List.getD,Eu,cD]
     obtain⟨c,ca⟩:∃c:Int,(s[j].toNat:Int)=c:=⟨_,rfl⟩;rw[ca]at b5;have mp:0<=c:=O;have eu:c<=255:=by have:=s[j].toNat_lt;omega
     by_cases d4:127<c
     ·have b9:=C.out;rw[Acg Zl (by rw[bs.out,bv.out];exact AaY (by rw[bd.out];exact cD) (by rw[b5];exact Ai O))]at b9;injection b9 with G F;subst G;subst F;clear C b5;go_wp2;exact AhT
     ·have ev:decide (127<c)=false:=Ai d4;have d5:Hid (∀q,q<j+1->Cj (P.getD q 0)=true):=λq dO=>by
       by_cases e:q=j
       ·subst e;rw[b5];exact At O
       ·exact cm.out q O
      have cF:=bc.out;unfold Ak at cF;have dq:=U cF;have ds:(P.take j).length=j:=by rw[GL,bd.out];omega
      have am:=U ds;have d6:Hid (P.take (j+1)=P.take j++[c]):=by unfold Hid;rw[C4 P j (by rw[bd.out];exact cD),b5]
      have dx:=U eA.out.size;clear b5 cF ds cm bc;go_wp2_with (at_builtin;refine ID _ rfl _ _ 22 rfl w.heap.size 3 dS (.int .i64 0) 1 8 underlying22 dT dU dV dW rfl Aw _ _ _ rfl (dq.out.alloc _) ⟨_,0,none⟩ 1 1 [.int .i64 c] rfl rfl (IB _ _ _) ?c2 ?c3 ?c4 ?c5 ?_)
      case c2=>first|rfl|(intro u dy;simp at dy;subst dy;rfl)
      case c3=>have:=am.out;unfold maxLen;omega
      case c4=>have:=am.out;omega
      case c5=>have:=dx.out;simp;omega
      intro d7 dz dE dF _;have d8:Hid (Ak dz w.heap.size d7 (P.take (j+1))):=by
       unfold Hid;rw[d6.out];unfold Ak;simpa using dE
      have d9:Hid (Below w.heap.size w dz):=(eA.out.alloc eA.out.size _).grown dF (by have:=dx.out;simp;omega) (λq dO=>(dq.out.lt q dO).1);clear dE dF;go_wp2;go_roundw
      case rel=>exact⟨j+1,An,O,by rw[bv.out];exact d5,by rw[bv.out];exact d8,d9⟩
      case measure=>simp[intOf];omega
    ·obtain rfl:j=h:=by omega
     have dG:Hid (Ak wr w.heap.size u6 P):=by
      have:=bc.out;rwa[AO (by rw[bd.out];exact Ac _)]at this
     have dH:Hid ((P.any λc=>decide (127<c))=false):=Aa0 (λq dO=>cm.out q (by rw[bd.out]at dO;exact dO));obtain⟨a0,co⟩:∃a0,(if j=0 then 0 else j+1)=a0:=⟨_,rfl⟩;have cI:Hid (En (Ap s).length P 128 0 72 true ((Ap s).drop a0)=(out,b3)):=by
      have:=C.out;rw[Ach Zl (by rw[bs.out,bv.out];exact dH.out),bs.out,bv.out,co]at this;exact this
     have cp:=U co;have d_:a0<=s.size:=by
      rw[<-co];rcases Qv (Ap s) (Ap s).length with e|e
      ·have F:CZ (Ap s)=0:=e;rw[N (by rw[<-bs.out];exact F)];omega
      ·have F:CZ (Ap s)<(Ap s).length:=e.2.1;have:=bs.out;rw[Be]at F;split<;>omega
     clear bc cm dH C co;go_upto_if 50 with(fail);go_cut[8] (λc bt=>c=.int .i64 a0/\bt=wr)
     case first=>
      by_cases cO:j=0
      ·have G:a0=j:=by rw[<-cp.out,N cO,cO]
       have cA:decide (0<j)=false:=Ai O;have ew:decide ((0:Int)<(j:Int))=false:=Ai O;have c6:=U G;clear G;go_wp2;go_meet;exact⟨by rw[c6.out],rfl⟩
      ·have G:a0=j+1:=by rw[<-cp.out,V cO]
       have cA:0<j:=O;have c6:=U G;clear G;go_wp2;go_meet;exact⟨by rw[c6.out];go_num,rfl⟩
     case rest=>
      obtain⟨rfl,rfl⟩:=hcut;have d':Hid (P.length<=s.size):=by unfold Hid;rw[bd.out];omega
      have dJ:P.length+(s.size-a0)<=s.size:=by
       have a':=cp.out;have be:=bd.out;by_cases e:j=0
       ·rw[N e]at a';omega
       ·rw[V e]at a';omega
      obtain⟨cb,c8⟩:∃cb,(Ap s).length=cb:=⟨_,rfl⟩;rw[c8]at cI;have dK:cb=s.size:=by rw[<-c8,Be]
      have ex:=U dK;have ea:s.size-a0<=cb:=O;clear c8 dK;go_wp2;go_loopw[6,8,9,10,11,12] (λvv c9 eb ec ed ee bt=>∃(a i b f:Nat) (n:Int) (P:List Int) (first:Bool),c9=.int .i64 a/\eb=.int .i64 n/\ec=.int .i64 i/\ed=.int .i64 b/\ee=.bool first/\a<=s.size/\s.size-a<=f/\P.length+(s.size-a)<=s.size/\0<=n/\n<=1114111/\i<=P.length/\b<=70368744177664/\Hid (Ak bt w.heap.size vv P)/\Hid (Below w.heap.size w bt)/\Hid (En f P n i b first ((Ap s).drop a)=(out,b3))) (λ_ c9 _ _ _ _ _=>s.size-(intOf c9).toNat)
      case atStart=>exact⟨a0,0,72,cb,128,P,true,rfl,rfl,rfl,rfl,rfl,d_,ea,dJ,O,O,O,O,dG,eA,cI⟩
      case round=>
       clear dG eA cI cp bd bv d' dJ;obtain⟨a,i,b,f,n,P,first,rfl,rfl,rfl,rfl,rfl,has,ey,ef,ez,eB,dI,ad,bc,eA,bl⟩:=hrel;obtain⟨ic,c'⟩:∃ic,P.length=ic:=⟨_,rfl⟩;rw[c']at ef dI;have ja:=U c';clear c';by_cases eg:a<s.size
       ·obtain⟨kx,rfl⟩:∃kx,f=kx+1:=⟨f-1,O⟩;obtain⟨⟨v,m,ok⟩,da⟩:∃y,QZ b a ((Ap s).drop a)=y:=⟨_,rfl⟩;have dL:(Ap s).drop a≠[]:=by
         rw[XI s a eg];simp
        obtain⟨cq,cr⟩:=ArZ (f:=kx) (P:=P) (n:=n) (i:=i) (first:=first) dL da;have kY:=U da;obtain⟨eC,df,rfl,dM,dN,eh⟩:=bc.out.cT;rw[ja.out]at dN|-;have dP:=U dM;clear dL da dM;cases ok with
        | false =>
         have C:=cq rfl;rw[bl.out]at C;injection C with G F;subst G;subst F;clear cq cr bl;go_wp2_with (go_at_call 134;refine(T_ s a b v m false _ O has ad kY).mono ?_;rintro i_ lM ⟨rfl,rfl⟩);exact AhT
        | true =>
         obtain⟨eD,ei,eE,b4,ac⟩:=cr rfl;rw[GK,Be]at ei;rw[ja.out]at ac;obtain⟨a9,dj⟩:∃a9,ic+1=a9:=⟨_,rfl⟩;have eF:(ic:Int)+1=(a9:Int):=O;rw[dj]at ac;by_cases dQ:2147483647<v
         ·have C:=b4 dQ;rw[bl.out]at C;injection C with G F;subst G;subst F;clear cq cr bl b4 ac dj;exact Ayn
         ·have C:=ac dQ;rw[bl.out]at C;obtain⟨Q,dR⟩:∃Q,v+i=Q:=⟨_,rfl⟩;rw[dR]at C;obtain⟨bx,cs⟩:∃bx,Q/a9=bx:=⟨_,rfl⟩;obtain⟨c7,ct⟩:∃c7,Q%a9=c7:=⟨_,rfl⟩;obtain⟨A,cu⟩:∃A,Fi v a9 first=A:=⟨_,rfl⟩;have eG:A<=2199023255588:=by rw[<-cu];exact SD v _ _ O
          have eH:c7<a9:=by rw[<-ct];exact Od _ O
          have eI:bx<=Q:=by rw[<-cs];exact Je _ _
          rw[cs,ct,cu]at C;obtain⟨c,ca⟩:∃c:Int,n+(bx:Int)=c:=⟨_,rfl⟩;rw[ca]at C;have mp:0<=c:=O;have eJ:(v:Int)+(i:Int)=(Q:Int):=O;have eK:(Q:Int).tdiv (a9:Int)=(bx:Int):=by rw[<-cs];rfl
          have eL:(Q:Int).tmod (a9:Int)=(c7:Int):=by rw[<-ct];rfl
          have eM:IntKind.i64.wrap (Q:Int)=(Q:Int):=AT _ O;have eN:IntKind.i64.wrap (bx:Int)=(bx:Int):=AT _ O;have wc:IntKind.i64.wrap (c:Int)=(c:Int):=AT _ O;have b6:=U C;have ej:=U cu;have ek:1<=a9:=O;have el:a9<=4096:=O;have eO:decide (2147483647<(v:Int))=false:=Ai O;clear cq cr bl b4 ac dj C cu cs ct dR;by_cases cv:1114111<c
          ·have C:=b6.out;rw[N cv]at C;injection C with G F;subst G;subst F;clear b6;exact Ayn
          ·have eP:decide (1114111<c)=false:=Ai cv;cases b7:BO c with
           | false =>
            have C:=b6.out;rw[V cv,N b7]at C;injection C with G F;subst G;subst F;have dk:=U b7;clear b6 b7;go_wp2_with (go_at_call 134;refine(T_ s a b v m true _ O has ad kY).mono ?_;rintro i_ lM ⟨rfl,rfl⟩);go_quiet (fail);go_wp2_with (go_at_call 44;refine(QQ c false _ dk).mono ?_;rintro i_ eQ ⟨rfl,rfl⟩);go_ret2;exact DL.nil 12 (EO eA.out _)
           | true =>
            have dk:=U b7;have oG:Hid (En kx (Do P c c7) c (c7+1) A false ((Ap s).drop m)=(out,b3)):=by
             have:=b6.out;rw[V cv,V (by rw[b7];simp),List.drop_drop,show a+(m-a)=m by omega]at this;exact this.symm
            clear b6 b7;go_wp2_with (go_at_call 134;refine(T_ s a b v m true _ O has ad kY).mono ?_;rintro i_ lM ⟨rfl,rfl⟩);go_quiet (fail);have iG:=U (EO eA.out nq);have cc:=U (Wy dP.out nq);clear eA bc dP;generalize World.drewN _ nq=eR at iG cc|-;go_upto_region 31 with(first
             | (go_at_call 44;refine(QQ c true _ dk).mono ?_;rintro i_ eS ⟨rfl,rfl⟩)
             | (go_at_call 122;refine(Afr v a9 A first _ O ek el ej).mono ?_;rintro i_ L ⟨rfl,rfl⟩))
            rcases eh with rfl|⟨g,rfl⟩
            ·have cd:(P.take c7).length=c7:=by rw[GL,ja.out];omega
             have ce:(P.drop c7).length=ic-c7:=by rw[GK,ja.out]
             have am:=U cd;have cf:=U ce;have kX:=U (AgF cc.out c7);have em:c7<=df:=O;have en:c7<=ic:=O;have j2:Hid (Aq L none (P.drop c7)):=by
              have:P=[]:=by
               cases P with
               | nil=>rfl
               | cons y r=>obtain⟨_,_,e,_⟩:=cc.out 0 J;cases e
              rw[this];exact λk ba=>I4
             clear cd ce;go_upto_region 32 with(at_builtin;refine De _ _ rfl rfl L.heap.size _ [] rfl (Ak.nil _ _) none c7 _ (P.take c7) am.out rfl kX.out (by rw[am.out];first|omega|(simp;omega)) (Ac _) ?_;intro dm w1 b0 bb);rw[Cv]at b0;have b1:=U b0;have cg:Hid (L.grownBy w1 none):=bb;have ci:Hid (Aq w1 none (P.drop c7)):=j2.out.bz bb;have fh:=U bb.size;clear b0 bb;go_upto_region 33 with(at_builtin;refine De _ _ rfl rfl L.heap.size _ (P.take c7) rfl (AeE b1.out _) (some ⟨w1.heap.size,0,none⟩) 1 1 [c] rfl rfl (AeU w1 c) (by rw[am.out];first|omega|(simp;omega)) (by have:=fh.out;rw[R1];omega) ?_;intro eo w2 cj fy);have b2:Hid (∀q,dm.ownBlock=some q->L.heap.size<=q):=λq dO=>(b1.out.lt q dO).1;have iF:=U cj;have cx:Hid (Below w.heap.size w w2):=((iG.out.grown cg.out iG.out.size J).alloc (Af iG.out.size fh.out) _).grown fy AwO (λq dO=>Af iG.out.size (b2.out q dO));have kW:Hid (Aq w2 none (P.drop c7)):=BE.bY j2.out (ci.out.alloc _) fy b2.out;have h7:Hid (L.heap.size<=w2.heap.size):=Awz;clear cj fy b1 cg ci fh b2;go_upto_region 34 with(at_builtin;refine De _ _ rfl rfl L.heap.size _ (P.take c7++[c]) rfl iF.out none (ic-c7) _ (P.drop c7) cf.out rfl kW.out (by rw[Bc,am.out,cf.out];first|omega|(simp;omega)) h7.out ?_;intro mq w3 dc db);exact AxM
            ·have cd:(P.take c7).length=c7:=by rw[GL,ja.out];omega
             have ce:(P.drop c7).length=ic-c7:=by rw[GK,ja.out]
             have am:=U cd;have cf:=U ce;have kX:=U (AgF cc.out c7);have em:c7<=df:=O;have en:c7<=ic:=O;obtain⟨b8,ep⟩:∃b8,(if df=c7 then some (⟨g,0,none⟩:Addr)else some ⟨g,c7,none⟩)=b8:=⟨_,rfl⟩;have j2:Hid (Aq L b8 (P.drop c7)):=Al7 cc.out (by rw[ja.out];exact dN) c7 ep;clear cd ce;go_upto_region 32 with(at_builtin;refine De _ _ rfl rfl L.heap.size _ [] rfl (Ak.nil _ _) (some ⟨g,0,none⟩) c7 _ (P.take c7) am.out rfl kX.out (by rw[am.out];first|omega|(simp;omega)) (Ac _) ?_;intro dm w1 b0 bb);rw[Cv]at b0;have b1:=U b0;have cg:Hid (L.grownBy w1 none):=bb;have ci:Hid (Aq w1 b8 (P.drop c7)):=j2.out.bz bb;have fh:=U bb.size;clear b0 bb;go_upto_region 33 with(at_builtin;refine De _ _ rfl rfl L.heap.size _ (P.take c7) rfl (AeE b1.out _) (some ⟨w1.heap.size,0,none⟩) 1 1 [c] rfl rfl (AeU w1 c) (by rw[am.out];first|omega|(simp;omega)) (by have:=fh.out;rw[R1];omega) ?_;intro eo w2 cj fy);have b2:Hid (∀q,dm.ownBlock=some q->L.heap.size<=q):=λq dO=>(b1.out.lt q dO).1;have iF:=U cj;have cx:Hid (Below w.heap.size w w2):=((iG.out.grown cg.out iG.out.size J).alloc (Af iG.out.size fh.out) _).grown fy AwO (λq dO=>Af iG.out.size (b2.out q dO));have kW:Hid (Aq w2 b8 (P.drop c7)):=BE.bY j2.out (ci.out.alloc _) fy b2.out;have h7:Hid (L.heap.size<=w2.heap.size):=Awz;clear cj fy b1 cg ci fh b2;go_upto_region 34 with(at_builtin;refine De _ _ rfl rfl L.heap.size _ (P.take c7++[c]) rfl iF.out b8 (ic-c7) _ (P.drop c7) cf.out rfl kW.out (by rw[Bc,am.out,cf.out];first|omega|(simp;omega)) h7.out ?_;intro mq w3 dc db);exact AxM
       ·obtain rfl:a=s.size:=by omega
        have C:Hid (P=out/\b3=0):=by
         have a':=bl.out;have be:(Ap s).drop s.size=[]:=by rw[G0 (by rw[Be];exact Ac _)]
         exact Awe
        obtain⟨G,F⟩:=C.out;subst G;subst F;clear bl C;have eT:¬((s.size:Int)<(s.size:Int)):=O;go_wp2;go_ret2;exact⟨_,rfl,bc.out,eA.out⟩
end Go.Proofs.YtblcoicaeeiojaaGreatDoor
