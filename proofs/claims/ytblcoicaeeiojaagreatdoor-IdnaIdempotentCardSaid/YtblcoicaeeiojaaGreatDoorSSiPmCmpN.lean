/- compose: plain mathematics: the states of the loop of NFC, t -/
import Derived.Test.YtblcoicaeeiojaaGreatDoorSSiPmValSpec
import Derived.Test.YtblcoicaeeiojaaGreatDoorSSiPmTabV
import Derived.Maps.OwnSet
import Derived.Test.YtblcoicaeeiojaaGreatDoorSSiPmDcmC
import Derived.Deep.RegionHeld3
set_option linter.unusedSimpArgs false
set_option linter.unusedVariables false
namespace Go.Proofs.YtblcoicaeeiojaaGreatDoor
def resO (T:Tb) (O:List Int) (st:Int) (c:Int):Option Int:=if st<0 then none else stepO T (O.getD st.toNat 0) (O.drop (st.toNat+1)) c
structure Cst (T:Tb) (d:List Int) (k:Nat) (st:Int) (O:List Int):Prop where
 len:O.length≤k
 sca:∀x∈O,scaB x=true
 body:(st = -1∧(∀m∈O,clsT T m≠0)∧nfcS T d=go0 T O (d.drop k))∨
  ∃A s M,O=A++s::M∧st=A.length∧clsT T s=0∧(∀m∈M,clsT T m≠0)∧nfcS T d=A++goN T s M (d.drop k)
theorem Cst.start (T:Tb) (d:List Int):Cst T d 0 (-1) []:=⟨Nat.le_refl _,by simp,.inl ⟨rfl,by simp,rfl⟩⟩
theorem drop_cons_getD (d:List Int) (k:Nat) (hk:k<d.length):d.drop k=d.getD k 0::d.drop (k+1):=by
 rw[List.drop_eq_getElem_cons hk]
 simp[hk]
theorem getD_mid (A M:List Int) (s:Int):(A++s::M).getD A.length 0=s:=by simp
theorem drop_mid (A M:List Int) (s:Int):(A++s::M).drop (A.length+1)=M:=by
 rw[show A.length+1=A.length+1 from rfl,List.drop_append]
 simp
theorem resO_mid (T:Tb) (A M:List Int) (s c:Int):resO T (A++s::M) A.length c=stepO T s M c:=by
 unfold resO
 rw[if_neg (by omega),Int.toNat_natCast,getD_mid,drop_mid]
theorem Cst.bound {T:Tb} {d O:List Int} {k:Nat} {st:Int} (h:Cst T d k st O):st = -1∨(0≤st∧st<O.length):=by
 rcases h.body with⟨e,_⟩|⟨A,s,M,rfl,e,_⟩
 ·exact .inl e
 ·right;rw[e];simp;omega
theorem Cst.comp {T : Tb} (hc : checkT T = 0) {d O : List Int} {k : Nat} {st c p : Int} (h : Cst T d k st O) (hk : k < d.length) (he : d.getD k 0 = c) (hf : Fin1 T c) (hp : resO T O st c = some p) :
  Cst T d (k+1) st (O.set st.toNat p):=by
 have hd:=drop_cons_getD d k hk
 rw[he]at hd
 rcases h.body with⟨e,h1,h2⟩|⟨A,s,M,rfl,rfl,h1,h2,h3⟩
 ·unfold resO at hp
  rw[if_pos (by omega)]at hp
  cases hp
 ·rw[resO_mid]at hp
  have hpe:=pair_exp hc (stepO_pair hp).2 hf
  have hs:(A++s::M).set ((A.length:Int)).toNat p=A++p::M:=by
   rw[Int.toNat_natCast,List.set_append]
   simp
  rw[hs]
  refine⟨?_,?_,.inr ⟨A,p,M,rfl,rfl,hpe.2.1,h2,?_⟩⟩
  ·have:=h.len
   simp only[List.length_append,List.length_cons]at this ⊢
   omega
  ·intro x hx
   rw[List.mem_append,List.mem_cons]at hx
   rcases hx with hx|rfl|hx
   ·exact h.sca x (by simp[hx])
   ·exact hpe.2.2.1
   ·exact h.sca x (by simp[hx])
  ·rw[h3,hd,goN_some hp]
theorem Cst.zero {T : Tb} {d O : List Int} {k : Nat} {st c : Int} (h : Cst T d k st O) (hk : k < d.length) (he : d.getD k 0 = c) (hs : scaB c = true) (hp : resO T O st c = none) (h0 : clsT T c = 0) :
  Cst T d (k+1) O.length (O++[c]):=by
 have hd:=drop_cons_getD d k hk
 rw[he]at hd
 refine⟨by have:=h.len;simp;omega,?_,.inr ⟨O,c,[],rfl,rfl,h0,by simp,?_⟩⟩
 ·intro x hx
  rw[List.mem_append,List.mem_singleton]at hx
  rcases hx with hx|rfl
  ·exact h.sca x hx
  ·exact hs
 ·rcases h.body with⟨e,h1,h2⟩|⟨A,s,M,rfl,rfl,h1,h2,h3⟩
  ·rw[h2,hd,go0,if_pos h0]
  ·rw[resO_mid]at hp
   rw[h3,hd,goN_start hp h0]
   simp
theorem Cst.mark {T : Tb} {d O : List Int} {k : Nat} {st c : Int} (h : Cst T d k st O) (hk : k < d.length) (he : d.getD k 0 = c) (hs : scaB c = true) (hp : resO T O st c = none) (h0 : clsT T c ≠ 0) :
  Cst T d (k+1) st (O++[c]):=by
 have hd:=drop_cons_getD d k hk
 rw[he]at hd
 refine⟨by have:=h.len;simp;omega,?_,?_⟩
 ·intro x hx
  rw[List.mem_append,List.mem_singleton]at hx
  rcases hx with hx|rfl
  ·exact h.sca x hx
  ·exact hs
 ·have hm:∀(M:List Int),(∀m∈M,clsT T m≠0)→∀m∈M++[c],clsT T m≠0:=by
   intro M hM m hm
   rw[List.mem_append,List.mem_singleton]at hm
   rcases hm with hm|rfl
   ·exact hM m hm
   ·exact h0
  rcases h.body with⟨e,h1,h2⟩|⟨A,s,M,rfl,rfl,h1,h2,h3⟩
  ·exact .inl ⟨e,hm O h1,by rw[h2,hd,go0,if_neg h0]⟩
  ·rw[resO_mid]at hp
   exact .inr ⟨A,s,M++[c],by simp,rfl,h1,hm M h2,by rw[h3,hd,goN_mark hp h0]⟩
theorem Cst.done {T:Tb} {d O:List Int} {st:Int} (h:Cst T d d.length st O):nfcS T d=O:=by
 rcases h.body with⟨e,h1,h2⟩|⟨A,s,M,rfl,rfl,h1,h2,h3⟩
 ·rw[h2,List.drop_length];cases O<;>rfl
 ·rw[h3,List.drop_length,goN]
theorem unbl_iff (T:Tb) (M:List Int) (c:Int):unbl T M c↔(M=[]∨clsT T (M.getD (M.length-1) 0)<clsT T c):=by
 unfold unbl
 rcases List.eq_nil_or_concat M with rfl|⟨N,m,rfl⟩
 ·simp
 ·simp
theorem resO_blocked {T:Tb} {O:List Int} {st c:Int} (h0:0≤st) (h:¬unbl T (O.drop (st.toNat+1)) c):resO T O st c=none:=by
 unfold resO stepO
 rw[if_neg (by omega),if_neg h]
theorem resO_open {T:Tb} {O:List Int} {st c:Int} (h0:0≤st) (h:unbl T (O.drop (st.toNat+1)) c):resO T O st c=pairO T (O.getD st.toNat 0) c:=by
 unfold resO stepO
 rw[if_neg (by omega),if_pos h]
theorem resO_none {T:Tb} {O:List Int} {st c:Int} (h0:st<0):resO T O st c=none:=by unfold resO;rw[if_pos h0]
theorem pairO_han {T:Tb} {a b x:Int} (h:compS a b=(x,true)):pairO T a b=some x:=by unfold pairO;rw[h];rfl
def pairT0 (T:Tb) (a b:Int):Int × Bool:=match pairO T a b with|some p=>(p,true)|none=>(0,false)
theorem pairT0_some {T:Tb} {a b p:Int} (h:pairT0 T a b=(p,true)):pairO T a b=some p:=by
 unfold pairT0 at h
 cases hq:pairO T a b with
 | none=>rw[hq]at h;simp at h
 | some q=>rw[hq]at h;simp at h;rw[h]
theorem pairT0_none {T:Tb} {a b p:Int} (h:pairT0 T a b=(p,false)):pairO T a b=none∧p=0:=by
 unfold pairT0 at h
 cases hq:pairO T a b with
 | none=>rw[hq]at h;simp at h;exact⟨rfl,h.symm⟩
 | some q=>rw[hq]at h;simp at h
end Go.Proofs.YtblcoicaeeiojaaGreatDoor
namespace Go.Proofs.YtblcoicaeeiojaaGreatDoor
open Go.RowKit Go.Maps
open Go.WideMaps (keyOf_pair)
def wf64 (a:Int):Prop:=(Lit.int .i64 a).wf=true
theorem wf64_of {a:Int} (h:0≤a∧a≤1114111):wf64 a:=WalkArith.wf_i64 (by omega)
theorem pair_key64 {a b:Int} (ha:wf64 a) (hb:wf64 b):keyOf Tryz.prog 161 (.agg #[.int .i64 a,.int .i64 b])=some (pairLit a b):=keyOf_pair pairKey Tryz.underlying3 pairSize ha hb
theorem pairLit_inj64 {a b c d:Int} (ha:wf64 a) (hb:wf64 b) (hc:wf64 c) (hd:wf64 d) (h:pairLit a b=pairLit c d):a=c∧b=d:=by
 have h1:=pair_key64 ha hb
 have h2:=pair_key64 hc hd
 rw[h]at h1
 have:=pairLaw.inj h1 h2
 injection this with this
 injection this with this
 injection this with e1 e2
 injection e1 with _ e1
 injection e2 with e2 _
 injection e2 with _ e2
 exact⟨e1,e2⟩
def putsW (m:DataW Unit) (l:List Mp):DataW Unit:=l.foldl (fun m x=>m.put (litOf x.2) (.lit (.int .i64 x.1))) m
def wholeD (T:Tb) (l:List Mp):DataW Unit:=putsW (.map []) (l.filter fun m=>compT T m.1)
def secLits (T:Tb) (l:List Mp):List Lit:=(l.filter fun m=>compT T m.1).map fun m => .int .i64 (m.2.getD 1 0)
def secD (T:Tb) (l:List Mp):DataW Unit:=setOf (.lit (.bool true)) (secLits T l)
theorem putsW_miss (k:Lit):∀(l:List Mp) (m:DataW Unit),IsMap m→(∀x∈l,litOf x.2≠k)→has (putsW m l) k=has m k∧∀z,(putsW m l).atKey k z=m.atKey k z
 | [],m,_,_=>⟨rfl,fun _=>rfl⟩
 | x::r,m,hm,h=>by
  have hne:k≠litOf x.2:=fun e=>h x (by simp) e.symm
  have ih:=putsW_miss k r (m.put (litOf x.2) (.lit (.int .i64 x.1))) (hm.put _ _) (fun y hy=>h y (by simp[hy]))
  refine⟨ih.1.trans (has_put_other hne _),fun z=>(ih.2 z).trans (atKey_put_other hne _ _)⟩
theorem putsW_hit (x:Mp):∀(l:List Mp) (m:DataW Unit),IsMap m→x∈l→(∀y∈l,litOf y.2=litOf x.2→y=x)→has (putsW m l) (litOf x.2)=true∧∀z,(putsW m l).atKey (litOf x.2) z = .lit (.int .i64 x.1)
 | [],_,_,hx,_=>by cases hx
 | y::r,m,hm,hx,hu=>by
  by_cases hr:x∈r
  ·exact putsW_hit x r _ (hm.put _ _) hr (fun z hz=>hu z (by simp[hz]))
  ·have e:x=y:=by
    rcases List.mem_cons.1 hx with e|e
    ·exact e
    ·exact absurd e hr
   subst e
   have ih:=putsW_miss (litOf x.2) r (m.put (litOf x.2) (.lit (.int .i64 x.1))) (hm.put _ _) (fun y hy e=>hr (by rw[←hu y (by simp[hy]) e];exact hy))
   exact⟨ih.1.trans (has_put_same hm (litOf_key _) _),fun z=>(ih.2 z).trans (atKey_put_same hm (litOf_key _) _ _)⟩
theorem comp_pair {T:Tb} (h:checkT T=0) {m:Mp} (hm:m∈T.dec) (hc:compT T m.1=true):∃a b,m.2=[a,b]∧wfI a∧wfI b:=by
 obtain⟨a,b,hf,_⟩:=comp_two h hc
 have hd:=dec_find h hm
 rw[hf]at hd
 have h1:=dec_part h (c:=m.1) (x:=a) (by rw[hf];simp)
 have h2:=dec_part h (c:=m.1) (x:=b) (by rw[hf];simp)
 have s1:=scaB_iff.1 h1.1
 have s2:=scaB_iff.1 h2.1
 exact⟨a,b,hd.symm,⟨s1.1,s1.2.1⟩,⟨s2.1,s2.2.1⟩⟩
theorem comp_uniq {T:Tb} (h:checkT T=0) {m m':Mp} (hm:m∈T.dec) (hc:compT T m.1=true) (hm':m'∈T.dec) (hc':compT T m'.1=true) (e:m.2=m'.2):m=m':=by
 obtain⟨a,b,hab,_⟩:=comp_pair h hm hc
 have h1:=pair_comp h hc ((dec_find h hm).trans hab)
 have h2:=pair_comp h hc' ((dec_find h hm').trans (e.symm.trans hab))
 rw[h1]at h2
 injection h2 with h2
 exact Prod.ext h2 e
def wholeV (T:Tb) (a b:Int):Int × Bool:=match T.dec.find? (fun m=>decide (m.2=[a,b])&&compT T m.1) with
 | some m=>(m.1,true)
 | none=>(0,false)
theorem whole_look {T : Tb} (h : checkT T = 0) {a b : Int} (ha : wf64 a) (hb : wf64 b) :
  has (wholeD T T.dec) (pairLit a b)=(wholeV T a b).2∧(wholeD T T.dec).atKey (pairLit a b) (.lit (.int .i64 0)) = .lit (.int .i64 (wholeV T a b).1):=by
 have key:∀m∈T.dec.filter (fun m=>compT T m.1),litOf m.2=pairLit a b→m.2=[a,b]:=by
  intro m hm e
  obtain⟨hm,hc⟩:=List.mem_filter.1 hm
  obtain⟨c,d,hcd,hc1,hd1⟩:=comp_pair h hm hc
  rw[hcd]at e ⊢
  obtain⟨e1,e2⟩:=pairLit_inj64 (wf64_of hc1) (wf64_of hd1) ha hb e
  rw[e1,e2]
 unfold wholeV
 cases hq:T.dec.find? fun m=>decide (m.2=[a,b])&&compT T m.1 with
 | none =>
  have hn:=List.find?_eq_none.1 hq
  have:=putsW_miss (pairLit a b) (T.dec.filter fun m=>compT T m.1) (.map []) isMap_empty (fun x hx e=>by
   have hx2:=List.mem_filter.1 hx
   exact hn x hx2.1 (by simp[key x hx e,hx2.2]))
  exact⟨this.1.trans rfl,(this.2 _).trans rfl⟩
 | some m =>
  have h1:=List.find?_some hq
  have h2:=List.mem_of_find?_eq_some hq
  simp only[Bool.and_eq_true,decide_eq_true_eq]at h1
  have hl:litOf m.2=pairLit a b:=by rw[h1.1];rfl
  have:=putsW_hit m (T.dec.filter fun m=>compT T m.1) (.map []) isMap_empty (List.mem_filter.2 ⟨h2,h1.2⟩) (fun y hy e=>by
   have hy2:=List.mem_filter.1 hy
   exact comp_uniq h hy2.1 hy2.2 h2 h1.2 ((key y hy (e.trans hl)).trans h1.1.symm))
  rw[hl]at this
  exact⟨this.1,this.2 _⟩
theorem wholeD_snoc (T:Tb) (l:List Mp) (m:Mp):wholeD T (l++[m])=if compT T m.1=true then(wholeD T l).put (litOf m.2) (.lit (.int .i64 m.1))else wholeD T l:=by
 unfold wholeD putsW
 rw[List.filter_append,List.foldl_append]
 by_cases hc:compT T m.1=true
 ·rw[if_pos hc,show [m].filter (fun m=>compT T m.1)=[m] by simp[hc]];rfl
 ·rw[if_neg hc,show [m].filter (fun m=>compT T m.1)=[] by simp[hc]];rfl
theorem secD_snoc (T:Tb) (l:List Mp) (m:Mp):secD T (l++[m])=if compT T m.1=true then(secD T l).put (.int .i64 (m.2.getD 1 0)) (.lit (.bool true))else secD T l:=by
 unfold secD secLits
 rw[List.filter_append,List.map_append]
 by_cases hc:compT T m.1=true
 ·rw[if_pos hc,show [m].filter (fun m=>compT T m.1)=[m] by simp[hc],List.map_cons,List.map_nil,setOf_snoc]
 ·rw[if_neg hc,show [m].filter (fun m=>compT T m.1)=[] by simp[hc],List.map_nil,List.append_nil]
theorem owns_below {P:Program} {k:TypeId} {R:Value→Option (DataW Unit × List MemPlace)} {w w':World} {B n:Nat} {D:DataW Unit} (h:w.ownsMap P k R B n D) (hb:Below w.heap.size w w'):w'.ownsMap P k R B n D:=h.kept (below_grownBy hb none) (by simp)
theorem zeroI (w:World):(zeroValue 3).run Tryz.prog w = .ok (.int .i64 0) w:=by kernel_rfl
theorem intLaw:Keyed Tryz.prog 3:=int_keyed Tryz.underlying3
structure Known (T:Tb) (B C:Nat) (w:World):Prop where
 whole:∃n,w.ownsMap Tryz.prog 161 (plainElem Tryz.prog 3) B n (wholeD T T.dec)
 sec:∃n,w.ownsMap Tryz.prog 3 (plainElem Tryz.prog 4) C n (secD T T.dec)
theorem Known.below {T:Tb} {B C:Nat} {w w':World} (h:Known T B C w) (hb:Below w.heap.size w w'):Known T B C w' :=
 ⟨let ⟨n,h1⟩:=h.whole;⟨n,owns_below h1 hb⟩,let ⟨n,h1⟩:=h.sec;⟨n,owns_below h1 hb⟩⟩
set_option maxRecDepth 100000 in
theorem Known.look {T : Tb} {B C : Nat} {w : World} (h : Known T B C w) (hc : checkT T = 0) {a b : Int} (ha : wf64 a) (hb : wf64 b) :
  (Instr.lookup 147 (.map (some B)) (.agg #[.int .i64 a,.int .i64 b]) true).run Tryz.prog w = .ok (.tuple #[.int .i64 (wholeV T a b).1,.bool (wholeV T a b).2]) w:=by
 obtain⟨n,h1⟩:=h.whole
 obtain⟨v,ps,hrun,hv⟩:=h1.look_ok pairLaw Tryz.underlying147 (zeroI w) (plainElem_int Tryz.underlying3 (by decide)) (pair_key64 ha hb)
 obtain⟨c,rfl,hc2,hw⟩:=plainElem_int_inv Tryz.underlying3 hv
 simp only[Prod.mk.injEq]at hc2
 obtain⟨l1,l2⟩:=whole_look hc ha hb
 rw[hrun,l1]
 rw[l2]at hc2
 have e:=hc2.1
 injection e with e
 injection e with _ e
 rw[e]
end Go.Proofs.YtblcoicaeeiojaaGreatDoor
namespace Go.Proofs.YtblcoicaeeiojaaGreatDoor
open Go.RowKit
set_option maxRecDepth 100000 in
set_option maxHeartbeats 4000000 in
theorem blocked_at (x : TV) (T : Tb) (p : Option Addr) (n cap : Nat) (M : List Int) (z : Int) (B : Bool) (w : World) (hx : TabV w x T) (ha : ascB 0 T.cls = true) (hin : IntsIn w p M) (hl : Hid (M.length = n)) (hn : n ≤ 17592186043904)
  (hB:Hid (decide (M≠[]∧z≤clsT T (M.getD (M.length-1) 0))=B)) :
  Calls Tryz.prog 156 #[x.agg,.slice p n cap,.int .i64 z] w (Gives (.bool B) w):=by
 have HE:=Lib.hid (Env.new hx)
 have HI:=Lib.hid hin
 have HA:=Lib.hid ha
 clear hx hin ha
 simp only[TV.agg]
 go_enter Tryz.func156,Tryz.ntmps156
 by_cases h0:0<n
 ·have d0:decide ((0:Int)<(n:Int))=true:=decide_eq_true (by omega)
  obtain⟨m,rfl⟩:∃m,n=m+1:=⟨n-1,by omega⟩
  obtain⟨b3,off3,rfl,q0⟩:=(HI.out.below HE.out.bel) m (by rw[hl.out];omega)
  obtain⟨y,hy⟩:∃y,M.getD m 0=y:=⟨_,rfl⟩
  rw[hy]at q0
  obtain⟨zy,hzy⟩:∃z,Hid (clsT T y=z):=⟨_,rfl⟩
  have HB2:Hid (decide (z≤zy)=B):=by
   unfold Hid
   have hne:M≠[]:=fun e=>by have:=hl.out;rw[e]at this;simp at this
   rw[←hB.out,hl.out,Nat.add_sub_cancel,hy,hzy.out]
   simp[hne]
  have hm1:IntKind.i64.wrap (((m+1:Nat):Int)-1)=(m:Int):=by rw[IntWalk.i64_in _ (by omega)];omega
  have hm2:IntKind.i64.wrap (m:Int)=(m:Int):=IntWalk.i64_in _ (by omega)
  have hm3:((m+1:Nat):Int)=(m:Int)+1:=by omega
  have hm4:(m:Int)+1-1=(m:Int):=by omega
  have hm5:(0:Int)≤(m:Int):=by omega
  have hm6:(m:Int)<(m:Int)+1:=by omega
  have HED:=Lib.hid (HE.out.step (drew_one _))
  clear hy h0
  obtain⟨⟨k0,k1,k2,k3,k4,k5⟩,⟨k6,k7,k8,k9,k10,k11⟩⟩:=HE.out.box.load
  go_upto_region 4 with(fail)
  go_cut [6] (fun v wx=>v = .bool B∧Hid (Below w.heap.size w wx))
  case first =>
   go_region_held3 (fun w'=>w'.cell? ⟨b3,off3+m,none⟩=some (.int .i64 y)∧boxF w.heap.size x w')
    (first
     | exact⟨q0,HED.out.box.flat⟩
     | exact⟨(hb4.cell (p:=⟨b3,off3+m,none⟩) (World.block_lt_of_cell? _ _ q0)).trans q0,(HED.out.step hb4).box.flat⟩)
    (first
     | (go_at_call 155;(with_reducible refine(class_at x T y zy _ HED.out.tab HA.out hzy).mono ?_);rintro e w10 ⟨rfl,hb4⟩)
     | fail)
   all_goals
    have hf:=(HED.out.step hb4).bel
    try (go_wp2_with fail)
    go_meet
    exact⟨by rw[HB2.out],hf⟩
  case rest =>
   obtain⟨rfl,HB⟩:=hcut
   go_wp2
   go_ret
   exact⟨rfl,HB.out⟩
 ·obtain rfl:n=0:=by omega
  have HBB:Hid (B=false):=by unfold Hid;rw[←hB.out,List.eq_nil_of_length_eq_zero hl.out];simp
  go_wp2
  go_quiet (fail)
  go_wp2
  go_ret
  rw[HBB.out]
  exact⟨rfl,by first|exact HE.out.bel|exact(HE.out.step (drew_ref _ _)).bel⟩
theorem wholeV_han (T:Tb) {a b x:Int} (h:compS a b=(x,true)):pairT0 T a b=(x,true):=by unfold pairT0;rw[pairO_han h]
theorem wholeV_map (T:Tb) {a b x:Int} (h:compS a b=(x,false)):pairT0 T a b=wholeV T a b:=by
 unfold pairT0 pairO wholeV
 rw[h]
 simp only[Bool.false_eq_true,if_false]
 cases T.dec.find? fun m=>decide (m.2=[a,b])&&compT T m.1<;>rfl
set_option maxRecDepth 100000 in
set_option maxHeartbeats 4000000 in
theorem kpair_at (T : Tb) (B C : Nat) (a b p : Int) (o : Bool) (w : World) (hk : Known T B C w) (hc : checkT T = 0) (ha : wf64 a) (hb : wf64 b) (hp : Hid (pairT0 T a b = (p, o))) :
  Calls Tryz.prog 157 #[.agg #[.map (some B),.map (some C)],.int .i64 a,.int .i64 b] w (Gives (.tuple #[.int .i64 p,.bool o]) w):=by
 obtain⟨⟨xh,oh⟩,hh⟩:∃y,compS a b=y:=⟨_,rfl⟩
 have HK:=Lib.hid (hk.below ((Below.refl _ _).alloc (Nat.le_refl _) (.cells #[.map (some B),.map (some C)] 150)))
 have HB:=Lib.hid ((Below.refl w.heap.size w).alloc (Nat.le_refl _) (.cells #[.map (some B),.map (some C)] 150))
 clear hk
 go_enter Tryz.func157,Tryz.ntmps157
 go_wp2_with fail
 refine(hcomp_at a b xh oh _ hh).mono ?_
 rintro e w1 ⟨rfl,rfl⟩
 cases oh with
 | true =>
  have HP:=hp.out
  rw[wholeV_han T hh]at HP
  simp only[Prod.mk.injEq]at HP
  obtain⟨rfl,rfl⟩:=HP
  go_wp2
  go_ret2
  exact⟨rfl,HB.out⟩
 | false =>
  have HP:=hp.out
  rw[wholeV_map T hh]at HP
  have hlk:=HK.out.look hc ha hb
  rw[HP]at hlk
  simp only at hlk
  clear HP hh
  go_wp2
  go_ret2
  exact⟨rfl,HB.out⟩
end Go.Proofs.YtblcoicaeeiojaaGreatDoor
