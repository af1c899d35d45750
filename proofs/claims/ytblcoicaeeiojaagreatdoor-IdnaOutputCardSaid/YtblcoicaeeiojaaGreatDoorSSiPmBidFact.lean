/- bidi: what the functions of the layer return, as functions o -/
import Derived.Test.YtblcoicaeeiojaaGreatDoorSSiPmSplSpec
import Derived.Test.YtblcoicaeeiojaaGreatDoorSSiPmOrdB
import Derived.Test.YtblcoicaeeiojaaGreatDoorSSiTabH
import Derived.Test.YtblcoicaeeiojaaGreatDoorSSiPmRanChk
import Derived.Deep.DeepCutAuto
import Derived.Deep.QuietTactic
import Derived.BigQuiet
import Derived.Test.YtblcoicaeeiojaaGreatDoorSSiPmTabW
import Derived.Test.YtblcoicaeeiojaaGreatDoorSSiPmUtfE
import Derived.Test.YtblcoicaeeiojaaGreatDoorSSiPmTabK
import Derived.Test.YtblcoicaeeiojaaGreatDoorSSiPmTabMem
import Derived.Test.YtblcoicaeeiojaaGreatDoorSSiPmTabL
import Derived.Laws.BitsLemmas
import Derived.Test.YtblcoicaeeiojaaGreatDoorSSiPmTabV
import Derived.Laws.Bits64
set_option linter.unusedSimpArgs false
set_option linter.unusedVariables false
namespace Go.Proofs.YtblcoicaeeiojaaGreatDoor
def refD (T:Tb):Nat→List (List Int)→Option (Nat × Int)
 | _,[]=>none
 | k,l::r=>if accE T l≠0 then some (k,accE T l)else refD T (k+1) r
def vioD (T:Tb):Nat→List (List Int)→Option Nat
 | _,[]=>none
 | k,l::r=>if ruleT T l≠0 then some k else vioD T (k+1) r
def domR (T:Tb) (L:List (List Int)):Int × Int:=match refD T 0 L with
 | some (k,e)=>((k:Int),e)
 | none=>if L.any (rtlT T)=true then(match vioD T 0 L with|some k=>((k:Int),19)|none=>(0,0)) else(0,0)
theorem refD_none (T:Tb):∀(L:List (List Int)) (k:Nat),refD T k L=none↔∀l∈L,accE T l=0
 | [],k=>by simp[refD]
 | l::r,k=>by
  rw[refD]
  by_cases h:accE T l=0
  ·rw[if_neg (by omega),refD_none T r (k+1)]
   simp[h]
  ·rw[if_pos h]
   simp[h]
theorem vioD_none (T:Tb):∀(L:List (List Int)) (k:Nat),vioD T k L=none↔∀l∈L,ruleT T l=0
 | [],k=>by simp[vioD]
 | l::r,k=>by
  rw[vioD]
  by_cases h:ruleT T l=0
  ·rw[if_neg (by omega),vioD_none T r (k+1)]
   simp[h]
  ·rw[if_pos h]
   simp[h]
theorem refD_at (T:Tb):∀(L:List (List Int)) (k i:Nat),i<L.length→(∀j,j<i→accE T (L.getD j [])=0)→accE T (L.getD i [])≠0→refD T k L=some (k+i,accE T (L.getD i []))
 | [],k,i,h,_,_=>by simp at h
 | l::r,k,0,_,_,h=>by rw[refD];rw[if_pos (by simpa using h)];simp
 | l::r,k,i+1,h,hg,hb=>by
  have h0:=hg 0 (by omega)
  rw[List.getD_cons_zero]at h0
  rw[refD,if_neg (by omega),refD_at T r (k+1) i (by simpa using h) (fun j hj=>by have:=hg (j+1) (by omega);rwa[List.getD_cons_succ]at this) (by simpa using hb),List.getD_cons_succ,show k+1+i=k+(i+1) by omega]
theorem vioD_at (T:Tb):∀(L:List (List Int)) (k i:Nat),i<L.length→(∀j,j<i→ruleT T (L.getD j [])=0)→ruleT T (L.getD i [])≠0→vioD T k L=some (k+i)
 | [],k,i,h,_,_=>by simp at h
 | l::r,k,0,_,_,h=>by rw[vioD];rw[if_pos (by simpa using h)];simp
 | l::r,k,i+1,h,hg,hb=>by
  have h0:=hg 0 (by omega)
  rw[List.getD_cons_zero]at h0
  rw[vioD,if_neg (by omega),vioD_at T r (k+1) i (by simpa using h) (fun j hj=>by have:=hg (j+1) (by omega);rwa[List.getD_cons_succ]at this) (by simpa using hb),show k+1+i=k+(i+1) by omega]
theorem getD_memL (L:List (List Int)) (k:Nat) (h:k<L.length):L.getD k []∈L:=by simp[h]
theorem memL_getD (L:List (List Int)) (l:List Int) (h:l∈L):∃k,k<L.length∧L.getD k []=l:=by
 obtain⟨k,hk,e⟩:=List.getElem_of_mem h
 exact⟨k,hk,by simp[hk,e]⟩
theorem domR_ref {T:Tb} {L:List (List Int)} {i:Nat} (h:i<L.length) (hg:∀j,j<i→accE T (L.getD j [])=0) (hb:accE T (L.getD i [])≠0):domR T L=((i:Int),accE T (L.getD i [])):=by
 unfold domR;rw[refD_at T L 0 i h hg hb];simp
theorem domR_no {T:Tb} {L:List (List Int)} (hg:∀l∈L,accE T l=0) (hr:L.any (rtlT T)=false):domR T L=(0,0):=by
 unfold domR;rw[(refD_none T L 0).2 hg,hr];rfl
theorem domR_vio {T:Tb} {L:List (List Int)} {i:Nat} (hg:∀l∈L,accE T l=0) (hr:L.any (rtlT T)=true) (h:i<L.length) (hj:∀j,j<i→ruleT T (L.getD j [])=0) (hb:ruleT T (L.getD i [])≠0):domR T L=((i:Int),19):=by
 unfold domR;rw[(refD_none T L 0).2 hg,hr,vioD_at T L 0 i h hj hb];simp
theorem domR_ok {T:Tb} {L:List (List Int)} (hg:∀l∈L,accE T l=0) (hj:∀l∈L,ruleT T l=0):domR T L=(0,0):=by
 unfold domR;rw[(refD_none T L 0).2 hg]
 simp only
 rw[(vioD_none T L 0).2 hj]
 split<;>rfl
end Go.Proofs.YtblcoicaeeiojaaGreatDoor
namespace Go.Proofs.YtblcoicaeeiojaaGreatDoor
open Go.RowKit
def SevIn (w:World) (g:Nat) (x:TV):Prop:=∀k,k<7→w.cell? ⟨g,k,none⟩=some (spVal x k)
def FourIn (w:World) (g:Nat) (x:TV):Prop:=∀k,k<4→w.cell? ⟨g,k,none⟩=some (mpVal x k)
theorem SevIn.below {w w':World} {g:Nat} {x:TV} (h:SevIn w g x) (hb:Below w.heap.size w w'):SevIn w' g x:=fun k hk=>(hb.cell (p:=⟨g,k,none⟩) (World.block_lt_of_cell? w _ (h k hk))).trans (h k hk)
theorem FourIn.below {w w':World} {g:Nat} {x:TV} (h:FourIn w g x) (hb:Below w.heap.size w w'):FourIn w' g x:=fun k hk=>(hb.cell (p:=⟨g,k,none⟩) (World.block_lt_of_cell? w _ (h k hk))).trans (h k hk)
theorem lit_ints (w:World) (C:Array Value) (xs:List Int) (t:TypeId) (h:C.toList=xs.map (.int .i64)):IntsIn (w.alloc (.cells C t)) (some ⟨w.heap.size,0,none⟩) xs:=by
 intro k hk
 refine⟨_,_,rfl,?_⟩
 rw[Nat.zero_add,World.cell?_alloc_new,←Array.getElem?_toList,h]
 simp[hk]
theorem SevIn.at_ {w0 w : World} {g : Nat} {x : TV} {T : Tb} (h : SevIn w g x) (ht : TabV w0 x T) (k : Nat) (hk : k < 7) :
  ∃p n c l,(spansT T).getD k []=l∧l.length=n∧n≤17592186043904∧SpIn w0 p l∧w.cell? ⟨g,k,none⟩=some (.slice p n c):=by
 obtain⟨p,c,e,h1,h2⟩:=ht.sp k hk
 exact⟨p,_,c,_,rfl,rfl,h2,h1,by rw[h k hk,e]⟩
theorem FourIn.at_ {w0 w : World} {g : Nat} {x : TV} {T : Tb} (h : FourIn w g x) (ht : TabV w0 x T) (k : Nat) (hk : k < 4) :
  ∃p n c l,(mpsT T).getD k []=l∧l.length=n∧n≤17592186043904∧MpIn w0 p l∧w.cell? ⟨g,k,none⟩=some (.slice p n c):=by
 obtain⟨p,c,e,h1,h2⟩:=ht.mp k hk
 exact⟨p,_,c,_,rfl,rfl,h2,h1,by rw[h k hk,e]⟩
theorem ascI_of_keyOk {l:List Int} (h:keyOk l=true):ascI 0 1114111 l=true:=by
 simp only[keyOk,Bool.and_eq_true]at h;exact h.1
theorem noS (w:World):SpV w (.slice none 0 0) []:=⟨none,0,rfl,fun k hk=>absurd hk (Nat.not_lt_zero _),by simp⟩
theorem noI (w:World):InV w (.slice none 0 0) []:=⟨none,0,rfl,fun k hk=>absurd hk (Nat.not_lt_zero _),by simp⟩
noncomputable def layB (w p:World):World:=@ite _ (Below w.heap.size w p) (Classical.propDecidable _) p w.drew
theorem layB_below (w p:World):Below w.heap.size w (layB w p):=by
 unfold layB
 by_cases h:Below w.heap.size w p
 ·rw[if_pos h];exact h
 ·rw[if_neg h];exact drew_one w
theorem layB_of {w W:World} (h:Below w.heap.size w W):W=layB w W:=by
 unfold layB;rw[if_pos h]
theorem layB_cell {w:World} {a:Addr} {v:Value} (h:w.cell? a=some v) (p:World):(layB w p).cell? a=some v :=
 ((layB_below w p).cell (World.block_lt_of_cell? w _ h)).trans h
theorem wp_region_layB {P : Program} {id : Nat} {Q : Exit → Act → World → Prop} {a : Act} {w : World} {l : List Oper} (hm : P.follows .mixedOrders = true) (hB : Region.lexB .any l.toArray = true)
  (h:wpQuiet P l.toArray (fun w'=>∃p:World,w'=layB w p) (fun a'=>∀w',(∃p:World,w'=layB w p)→Q .normal a' w') l a):(Code.region id l.toArray true).wp P Q a w :=
 wp_region_quiet (C:=fun w'=>∃p:World,w'=layB w p) hm hB ⟨_,layB_of (drew_one w)⟩ (by simpa using h)
theorem layB_call {P : Program} {f : FuncId} {args : Array Value} {w p : World} {v : Value} (h : ∀ W, Below w.heap.size w W → Calls P f args W (Gives v W)) :
  Calls P f args (layB w p) fun e w''=>e = .returned v∧∃q:World,w''=layB w q :=
 (h _ (layB_below w p)).mono fun _ w'' ⟨he,hb⟩=>⟨he,w'',layB_of ((layB_below w p).trans (hb.mono (layB_below w p).size))⟩
theorem wpAny_layB {P : Program} {md : Region.Mode} {ops : Array Oper} {Q : Exit → Act → World → Prop} {n : Nat} {listed : Array Bool} {a : Act} {w : World} (k : Nat) (l : List Oper) (hl : ops.toList.drop k = l) (hn : n = l.length)
  (hs:Region.noSelect ops=true) (hB:Region.lexFrom md ops l.length k listed=true)
  (h:wpQuiet P ops (fun w'=>∃p:World,w'=layB w p) (fun a'=>∀w',(∃p:World,w'=layB w p)→Q .normal a' w') l a):wpAny P md ops Q n listed a w:=by
 subst hn
 refine wpAny_of_quiet (C:=fun w'=>∃p:World,w'=layB w p) (Q:=fun a'=>∀w',(∃p:World,w'=layB w p)→Q .normal a' w') (fun _ w' hw' h=>h w' hw') _ _ _ _ ⟨w,layB_of (Below.refl _ _)⟩ ?_
 refine wpAnyQ_lex hs l k listed a (fun j=>?_) hB h
 rw[←hl];simp
theorem val_at {l:List Sp} {c:Int} {k:Nat} (hk:k<l.length) (h:val (l.take k) c=none):val (l.take (k+1)) c=if(l.getD k sp0).1≤c∧c≤(l.getD k sp0).2.1 then some (l.getD k sp0).2.2 else none:=by
 rw[take_snoc_sp l k hk,val_append,h,val_cons];rfl
theorem val_of_take {l:List Sp} {c v:Int} (k:Nat) (h:val (l.take k) c=some v):val l c=some v:=by
 rw[←List.take_append_drop k l,val_append,h];rfl
theorem val_res {l:List Sp} {c:Int} (h:spOk l=true) (hc:resB c=true):val l c=none:=by
 cases hv:val l c with
 | none=>rfl
 | some v =>
  obtain⟨s,hs,h1,h2,_⟩:=val_mem hv
  simp only[spOk,Bool.and_eq_true]at h
  have:=List.all_eq_true.1 h.2 s hs
  have h3:resF s.1 s.2.1=true:=by
   rw[resF_iff];rw[resB_iff]at hc;omega
  rw[h3]at this;cases this
set_option maxHeartbeats 4000000 in
theorem rvalue_at (p : Option Addr) (n cp : Nat) (l : List Sp) (c z : Int) (w : World) (hl : Hid (l.length = n)) (hn : n ≤ 17592186043904) (hin : SpIn w p l) (hz : Hid ((val l c).getD 0 = z)) :
  Calls Tryz.prog 81 #[.slice p n cp,.int .i64 c] w (Gives (.int .i64 z) w):=by
 have HI:=Lib.hid hin
 clear hin
 go_enter Tryz.func81,Tryz.ntmps81
 go_wp2
 go_loopw [9] (fun i wr=>∃k:Nat,k≤n∧i = .int .i64 k∧Hid (val (l.take k) c=none)∧Hid (Below w.heap.size w wr)) (fun i _=>n-(intOf i).toNat)
 case atStart=>exact⟨0,Nat.zero_le _,rfl,rfl,Below.refl _ _⟩
 case round =>
  obtain⟨k,hk,rfl,hno,hb⟩:=hrel
  by_cases hlt:k<n
  ·have hkl:k<l.length:=by rw[hl.out];exact hlt
   obtain⟨b,off,rfl,hc1,hc2,hc3⟩:=(HI.out.below hb.out) k hkl
   have hv:=val_at hkl hno.out
   obtain⟨⟨f,t,v⟩,hs⟩:∃s,l.getD k sp0=s:=⟨_,rfl⟩
   rw[hs]at hc1 hc2 hc3 hv
   simp only at hv
   have HV:=Lib.hid hv
   have HBa:=Lib.hid (hb.out.alloc hb.out.size (.cells #[.int .i64 f,.int .i64 t,.int .i64 v] 66))
   clear hs hv
   by_cases h1:f≤c
   ·have d1:decide (f≤c)=true:=decide_eq_true h1
    by_cases h2:c≤t
    ·have d2:decide (c≤t)=true:=decide_eq_true h2
     have HR:Hid (z=v):=by
      unfold Hid
      rw[←hz.out,val_of_take (k+1) (by rw[HV.out,if_pos ⟨h1,h2⟩])];rfl
     clear h1 h2
     go_wp2
     go_ret
     rw[HR.out]
     exact⟨rfl,HBa.out⟩
    ·have d2:decide (c≤t)=false:=decide_eq_false h2
     have HN:Hid (val (l.take (k+1)) c=none):=by unfold Hid;rw[HV.out,if_neg (fun h=>h2 h.2)]
     clear h1 h2
     go_wp2
     go_roundw
     case rel=>exact⟨k+1,by omega,by go_num,HN,HBa⟩
     case measure=>simp[intOf];omega
   ·have d1:decide (f≤c)=false:=decide_eq_false h1
    have HN:Hid (val (l.take (k+1)) c=none):=by unfold Hid;rw[HV.out,if_neg (fun h=>h1 h.1)]
    clear h1
    go_wp2
    go_roundw
    case rel=>exact⟨k+1,by omega,by go_num,HN,HBa⟩
    case measure=>simp[intOf];omega
  ·obtain rfl:k=n:=by omega
   have HR:Hid (z=0):=by
    have:=hno.out
    rw[List.take_of_length_le (Nat.le_of_eq hl.out)]at this
    unfold Hid;rw[←hz.out,this];rfl
   go_wp2
   go_ret
   rw[HR.out]
   exact⟨rfl,hb.out⟩
def GivesL (fl:List Int) (w:World) (e:Ending) (w':World):Prop :=
 ∃p n cp,e = .returned (.slice p n cp)∧fl.length=n∧n≤17592186043904∧IntsIn w' p fl∧Below w.heap.size w w'
theorem rvalue_sp (v : Value) (l : List Sp) (c z : Int) (w : World) (hv : SpV w v l) (hz : Hid ((val l c).getD 0 = z)) :
  Calls Tryz.prog 81 #[v,.int .i64 c] w (Gives (.int .i64 z) w):=by
 obtain⟨p,cp,rfl,hin,hn⟩:=hv
 exact rvalue_at p _ cp l c z w rfl hn hin hz
end Go.Proofs.YtblcoicaeeiojaaGreatDoor
namespace Go.Proofs.YtblcoicaeeiojaaGreatDoor
def mkB:List Nat→Nat
 | []=>0
 | k::r=>mkB r ||| 2^k
theorem mkB_test (j:Nat):∀ks:List Nat,(mkB ks).testBit j=ks.contains j
 | []=>by simp[mkB]
 | k::r=>by
  rw[mkB,Nat.testBit_or,mkB_test j r,Nat.testBit_two_pow]
  by_cases h:k=j
  ·subst h;simp
  ·have:(j==k)=false:=by simp;omega
   have h2:¬j=k:=fun e=>h e.symm
   simp[List.contains_cons,h,h2]
theorem mkB_lt (n:Nat):∀ks:List Nat,(∀k∈ks,k<n)→mkB ks<2^n
 | [],_=>by simp[mkB];exact Nat.two_pow_pos n
 | k::r,h=>by
  rw[mkB]
  exact Nat.or_lt_two_pow (mkB_lt n r (fun x hx=>h x (by simp[hx]))) (Nat.pow_lt_pow_right (by omega) (h k (by simp)))
theorem and_mkB (A:Nat) (ks:List Nat):(A &&& mkB ks≠0)↔∃k∈ks,A.testBit k=true:=by
 constructor
 ·intro h
  obtain⟨i,hi⟩:=Nat.exists_testBit_of_ne_zero h
  rw[Nat.testBit_and,mkB_test,Bool.and_eq_true]at hi
  exact⟨i,by simpa using hi.2,hi.1⟩
 ·rintro ⟨k,hk,h⟩ e
  have:(A &&& mkB ks).testBit k=true:=by rw[Nat.testBit_and,mkB_test,h];simpa using hk
  rw[e]at this
  simp at this
def clsM (T:Tb) (l:List Int):Nat:=mkB (l.map fun c=>(bidT T c).toNat)
theorem clsM_has (T:Tb) (l:List Int) (ks:List Nat) (hb:∀c,0≤bidT T c):decide (clsM T l &&& mkB ks≠0)=hasB T l (ks.map fun k:Nat=>(k:Int)):=by
 rw[Bool.eq_iff_iff,decide_eq_true_iff,and_mkB]
 unfold clsM hasB
 rw[List.any_eq_true]
 constructor
 ·rintro ⟨k,hk,h⟩
  rw[mkB_test]at h
  have h2:k∈l.map (fun c=>(bidT T c).toNat):=by simpa using h
  obtain⟨c,hc,e⟩:=List.mem_map.1 h2
  refine⟨c,hc,?_⟩
  have:=hb c
  have e2:bidT T c=(k:Int):=by omega
  rw[e2]
  have h3:(k:Int)∈ks.map (fun k:Nat=>(k:Int)):=List.mem_map.2 ⟨k,hk,rfl⟩
  exact List.elem_eq_true_of_mem h3
 ·rintro ⟨c,hc,h⟩
  have h2:bidT T c∈ks.map (fun k:Nat=>(k:Int)):=by simpa using h
  obtain⟨k,hk,e⟩:=List.mem_map.1 h2
  refine⟨k,hk,?_⟩
  rw[mkB_test]
  have:k∈l.map (fun c=>(bidT T c).toNat):=List.mem_map.2 ⟨c,hc,by rw[←e];simp⟩
  simpa using this
theorem bid_range {T:Tb} (h:checkT T=0) (c:Int):0≤bidT T c∧bidT T c≤11:=by
 have h3:=(check_rules h).2.2.1
 unfold r3 at h3
 simp only[Bool.and_eq_true]at h3
 have h5:=h3.2.2.2.1
 unfold valOk at h5
 unfold bidT
 cases hv:val T.bid c with
 | some v =>
  obtain⟨s,hs,_,_,rfl⟩:=val_mem hv
  have:=List.all_eq_true.1 h5 s hs
  simpa using this
 | none =>
  rw[Option.getD_none]
  unfold fixB
  repeat' split
  all_goals omega
theorem clsM_lt {T:Tb} (h:checkT T=0) (l:List Int):clsM T l<4096 :=
 mkB_lt 12 _ fun k hk=>by
  obtain⟨c,_,rfl⟩:=List.mem_map.1 hk
  have:=bid_range h c
  omega
end Go.Proofs.YtblcoicaeeiojaaGreatDoor
namespace Go.Proofs.YtblcoicaeeiojaaGreatDoor
open Go.RowKit
theorem has_find {T:Tb} (H:CmpH T) (c:Int):hasM T.dec c=decide (findM T.dec c≠[]):=by
 cases h:hasM T.dec c with
 | false=>rw[findM_nil h];rfl
 | true=>exact(decide_eq_true (H.has h)).symm
abbrev boxS (w0:World) (x:TV) (b off:Nat) (a0 a1:Int) (w':World):Prop :=
 w'.cell? ⟨w0.heap.size,0,none⟩=some x.a0∧w'.cell? ⟨w0.heap.size,1,none⟩=some x.a1∧w'.cell? ⟨w0.heap.size,2,none⟩=some x.a2∧w'.cell? ⟨w0.heap.size,3,none⟩=some x.a3∧w'.cell? ⟨w0.heap.size,4,none⟩=some x.a4∧w'.cell? ⟨w0.heap.size,5,none⟩=some x.a5∧
  w'.cell? ⟨w0.heap.size,6,none⟩=some x.a6∧w'.cell? ⟨w0.heap.size,7,none⟩=some x.a7∧w'.cell? ⟨w0.heap.size,8,none⟩=some x.a8∧w'.cell? ⟨w0.heap.size,9,none⟩=some x.a9∧w'.cell? ⟨w0.heap.size,10,none⟩=some x.a10∧w'.cell? ⟨w0.heap.size,11,none⟩=some x.a11∧
  w'.cell? ⟨b,off,none⟩=some (.int .i64 a0)∧w'.cell? ⟨b,off+1,none⟩=some (.int .i64 a1)
theorem two_below {w w' : World} {b off : Nat} {a0 a1 : Int} (h : w.cell? ⟨b, off, none⟩ = some (.int .i64 a0) ∧ w.cell? ⟨b, off + 1, none⟩ = some (.int .i64 a1)) (hb : Below w.heap.size w w') :
  w'.cell? ⟨b,off,none⟩=some (.int .i64 a0)∧w'.cell? ⟨b,off+1,none⟩=some (.int .i64 a1) :=
 ⟨(hb.cell (p:=⟨b,off,none⟩) (World.block_lt_of_cell? w _ h.1)).trans h.1,(hb.cell (p:=⟨b,off+1,none⟩) (World.block_lt_of_cell? w _ h.2)).trans h.2⟩
structure Env2 (w0:World) (x:TV) (T:Tb) (b off:Nat) (a0 a1:Int) (w:World):Prop where
 env:Env w0 x T w
 two:w.cell? ⟨b,off,none⟩=some (.int .i64 a0)∧w.cell? ⟨b,off+1,none⟩=some (.int .i64 a1)
theorem Env2.step {w0 w w':World} {x:TV} {T:Tb} {b off:Nat} {a0 a1:Int} (h:Env2 w0 x T b off a0 a1 w) (hb:Below w.heap.size w w'):Env2 w0 x T b off a0 a1 w':=⟨h.env.step hb,two_below h.two hb⟩
theorem Env2.cells {w0 w:World} {x:TV} {T:Tb} {b off:Nat} {a0 a1:Int} (h:Env2 w0 x T b off a0 a1 w):boxS w0 x b off a0 a1 w:=h.env.cells h.two.1 h.two.2
end Go.Proofs.YtblcoicaeeiojaaGreatDoor
namespace Go.Proofs.YtblcoicaeeiojaaGreatDoor
theorem mkB_append:∀a b:List Nat,mkB (a++b)=mkB a ||| mkB b:=fun a b=>by
 apply Nat.eq_of_testBit_eq
 intro i
 rw[Nat.testBit_or,mkB_test,mkB_test,mkB_test]
 rw[Bool.eq_iff_iff]
 simp
theorem and_mkB_all (A:Nat) (ks:List Nat):(A &&& mkB ks=mkB ks)↔∀k∈ks,A.testBit k=true:=by
 constructor
 ·intro h k hk
  have h1:(A &&& mkB ks).testBit k=(mkB ks).testBit k:=by rw[h]
  rw[Nat.testBit_and,mkB_test,show ks.contains k=true by simpa using hk,Bool.and_true]at h1
  exact h1
 ·intro h
  apply Nat.eq_of_testBit_eq
  intro i
  rw[Nat.testBit_and,mkB_test]
  cases hc:ks.contains i with
  | true=>rw[h i (by simpa using hc)];rfl
  | false=>rw[Bool.and_false]
def bitC (z:Int):Nat:=if z<0 then 0 else 2^z.toNat
theorem bitC_lt {z:Int} (h:z≤11):bitC z<4096:=by
 unfold bitC
 split
 ·omega
 ·exact Nat.lt_of_le_of_lt (Nat.pow_le_pow_right (by omega) (show z.toNat≤11 by omega)) (by decide)
theorem bitC_and (z:Int) (ks:List Nat):(bitC z &&& mkB ks≠0)↔z∈ks.map (fun k:Nat=>(k:Int)):=by
 rw[and_mkB]
 unfold bitC
 by_cases h:z<0
 ·rw[if_pos h]
  constructor
  ·rintro ⟨k,_,e⟩
   simp at e
  ·intro hm
   obtain⟨k,_,e⟩:=List.mem_map.1 hm
   omega
 ·rw[if_neg h]
  constructor
  ·rintro ⟨k,hk,e⟩
   rw[Nat.testBit_two_pow]at e
   have e2:=of_decide_eq_true e
   exact List.mem_map.2 ⟨k,hk,by omega⟩
  ·intro hm
   obtain⟨k,hk,e⟩:=List.mem_map.1 hm
   refine⟨k,hk,?_⟩
   rw[Nat.testBit_two_pow]
   exact decide_eq_true (by omega)
def fstM (T:Tb) (l:List Int):Nat:=if l=[]then 0 else bitC (bidT T (l.getD 0 0))
def lstM (T:Tb) (l:List Int):Nat:=bitC (lastB T (-1) l)
def vioR (L A:Nat):Int:=if A &&& 2049≠0 then 2 else if L &&& 30=0 then 3 else if A &&& 24=24 then 4 else 0
def vioL (L A:Nat):Int:=if A &&& 2062≠0 then 5 else if L &&& 17=0 then 6 else 0
def vioN (F L A:Nat):Int:=if A=0 then 0 else if F &&& 6≠0 then vioR L A else if F &&& 1≠0 then vioL L A else 1
theorem lastB_mem (T:Tb):∀(l:List Int) (k:Int),lastB T k l=k∨∃c∈l,lastB T k l=bidT T c
 | [],k => .inl rfl
 | c::r,k=>by
  rw[lastB]
  split
  ·rcases lastB_mem T r k with h|⟨d,hd,h⟩
   ·exact .inl h
   ·exact .inr ⟨d,by simp[hd],h⟩
  ·rcases lastB_mem T r (bidT T c)with h|⟨d,hd,h⟩
   ·exact .inr ⟨c,by simp,h⟩
   ·exact .inr ⟨d,by simp[hd],h⟩
theorem lastB_rng {T:Tb} (h:checkT T=0) (l:List Int) : -1≤lastB T (-1) l∧lastB T (-1) l≤11:=by
 rcases lastB_mem T l (-1)with e|⟨c,_,e⟩
 ·rw[e];omega
 ·rw[e];have:=bid_range h c;omega
theorem fstM_lt {T:Tb} (h:checkT T=0) (l:List Int):fstM T l<4096:=by
 unfold fstM
 split
 ·omega
 ·exact bitC_lt (bid_range h _).2
theorem lstM_lt {T:Tb} (h:checkT T=0) (l:List Int):lstM T l<4096:=bitC_lt (lastB_rng h l).2
theorem rtlM_ok {T:Tb} (h:checkT T=0) (l:List Int):decide (clsM T l &&& 14≠0)=rtlT T l :=
 clsM_has T l [1,2,3] (fun c=>(bid_range h c).1)
theorem clsM_both {T:Tb} (h:checkT T=0) (l:List Int):(clsM T l &&& 24=24)↔(hasB T l [4]=true∧hasB T l [3]=true):=by
 rw[←show decide (clsM T l &&& mkB [4]≠0)=hasB T l [4]from clsM_has T l [4] (fun c=>(bid_range h c).1),←show decide (clsM T l &&& mkB [3]≠0)=hasB T l [3]from clsM_has T l [3] (fun c=>(bid_range h c).1),decide_eq_true_iff,decide_eq_true_iff,and_mkB,and_mkB,show (24:Nat)=mkB [3,4]from rfl,and_mkB_all]
 simp
 exact⟨fun h=>⟨h.2,h.1⟩,fun h=>⟨h.2,h.1⟩⟩
theorem clsM_cons (T:Tb) (c:Int) (l:List Int):clsM T (c::l)=clsM T l ||| 2^(bidT T c).toNat:=rfl
theorem clsM_ne (T:Tb) (l:List Int) (h:l≠[]):clsM T l≠0:=by
 cases l with
 | nil=>exact absurd rfl h
 | cons c r =>
  intro e
  rw[clsM_cons]at e
  have:(clsM T r ||| 2^(bidT T c).toNat).testBit (bidT T c).toNat=true:=by rw[Nat.testBit_or,Nat.testBit_two_pow];simp
  rw[e]at this
  simp at this
theorem vio_ok {T:Tb} (h:checkT T=0) (l:List Int):vioN (fstM T l) (lstM T l) (clsM T l)=ruleT T l:=by
 have hb:∀c,0≤bidT T c:=fun c=>(bid_range h c).1
 unfold vioN ruleT
 by_cases hl:l=[]
 ·rw[if_pos hl,hl,if_pos (show clsM T []=0 from rfl)]
 ·rw[if_neg hl,if_neg (clsM_ne T l hl)]
  unfold fstM
  rw[if_neg hl]
  generalize hf:bidT T (l.getD 0 0)=f
  have f6:(bitC f &&& 6≠0)↔(f=1∨f=2):=by
   rw[show (6:Nat)=mkB [1,2]from rfl,bitC_and];simp
  have f1:(bitC f &&& 1≠0)↔f=0:=by
   rw[show (1:Nat)=mkB [0]from rfl,bitC_and];simp
  unfold ruleB vioR vioL lstM
  generalize hz:lastB T (-1) l=z
  have e1:(clsM T l &&& 2049≠0)↔hasB T l [0,11]=true:=by
   rw[←show decide (clsM T l &&& 2049≠0)=hasB T l [0,11]from clsM_has T l [0,11] hb,decide_eq_true_iff]
  have e2:(clsM T l &&& 2062≠0)↔hasB T l [1,2,3,11]=true:=by
   rw[←show decide (clsM T l &&& 2062≠0)=hasB T l [1,2,3,11]from clsM_has T l [1,2,3,11] hb,decide_eq_true_iff]
  have e3:(bitC z &&& 30=0)↔(z≠1∧z≠2∧z≠4∧z≠3):=by
   have:=bitC_and z [1,2,3,4]
   rw[←show (30:Nat)=mkB [1,2,3,4]from rfl]at this
   simp only[List.map_cons,List.map_nil,List.mem_cons,List.not_mem_nil,or_false]at this
   by_cases h0:bitC z &&& 30=0
   ·simp only[h0,ne_eq,not_true_eq_false,false_iff]at this
    simp only[h0,true_iff]
    omega
   ·simp only[ne_eq,h0,not_false_eq_true,true_iff]at this
    simp only[h0,false_iff]
    omega
  have e4:(bitC z &&& 17=0)↔(z≠0∧z≠4):=by
   have:=bitC_and z [0,4]
   rw[←show (17:Nat)=mkB [0,4]from rfl]at this
   simp only[List.map_cons,List.map_nil,List.mem_cons,List.not_mem_nil,or_false]at this
   by_cases h0:bitC z &&& 17=0
   ·simp only[h0,ne_eq,not_true_eq_false,false_iff]at this
    simp only[h0,true_iff]
    omega
   ·simp only[ne_eq,h0,not_false_eq_true,true_iff]at this
    simp only[h0,false_iff]
    omega
  have e5:=clsM_both h l
  simp only[f6,f1,e1,e2,e3,e4,e5]
theorem clsM_snoc (T:Tb) (l:List Int) (k:Nat) (h:k<l.length):clsM T (l.take (k+1))=clsM T (l.take k) ||| 2^(bidT T (l.getD k 0)).toNat:=by
 unfold clsM
 rw[List.take_succ_eq_append_getElem h,List.map_append,mkB_append]
 simp[mkB,h]
theorem lstM_snoc (T:Tb) (l:List Int) (k:Nat) (h:k<l.length):lstM T (l.take (k+1))=if bidT T (l.getD k 0)=10 then lstM T (l.take k)else bitC (bidT T (l.getD k 0)):=by
 unfold lstM
 rw[List.take_succ_eq_append_getElem h,lastB_append]
 simp only[lastB,h,List.getD_eq_getElem?_getD,List.getElem?_eq_getElem,Option.getD_some]
 split<;>rfl
theorem fstM_take (T:Tb) (l:List Int) (k:Nat) (h:0<l.length):fstM T (l.take (k+1))=bitC (bidT T (l.getD 0 0)):=by
 cases l with
 | nil=>simp at h
 | cons c r=>simp[fstM]
theorem u64_or12b (a b:Nat) (ha:a<4096) (hb:b<4096):bits .or .u64 (a:Int) (b:Int)=((a ||| b:Nat):Int) :=
 (bits_nat .u64 12 (by decide) (fun n h0 h1=>by rw[IntKind.wrap_u64];omega) a b ha hb).2
theorem u64_and12b (a b:Nat) (ha:a<4096) (hb:b<4096):bits .and .u64 (a:Int) (b:Int)=((a &&& b:Nat):Int) :=
 (bits_nat .u64 12 (by decide) (fun n h0 h1=>by rw[IntKind.wrap_u64];omega) a b ha hb).1
theorem u64_shl12 (n:Nat) (h:n≤11):IntKind.u64.wrap (2^n:Int)=((2^n:Nat):Int):=by
 have h1:2^n≤2048:=Nat.pow_le_pow_right (by omega) h
 have e:(2^n:Int)=((2^n:Nat):Int):=by push_cast;rfl
 rw[e,IntKind.wrap_u64]
 generalize 2^n=p at h1
 omega
end Go.Proofs.YtblcoicaeeiojaaGreatDoor
namespace Go.Proofs.YtblcoicaeeiojaaGreatDoor
open Go.RowKit
theorem r2_sta {T:Tb} (h:r2 T=true):spOk T.sta=true:=by
 simp only[r2,spansT,List.all_cons,List.all_nil,Bool.and_eq_true]at h;exact h.1.2.2.2.2.2.1
end Go.Proofs.YtblcoicaeeiojaaGreatDoor
