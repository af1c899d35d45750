/- The contracts of order: isOpen, classesOf, placeOf, moveBack -/
import Derived.Test.YtblcoicaeeiojaaGreatDoorSSiPmOrdSpec
import Derived.Test.YtblcoicaeeiojaaGreatDoorSSiPmTabW
import Derived.Test.YtblcoicaeeiojaaGreatDoorSSiPmRanChk
import Derived.Test.YtblcoicaeeiojaaGreatDoorSSiPmTabK
import Derived.Test.YtblcoicaeeiojaaGreatDoorSSiPmTabC
import Derived.Laws.CopyOwn
import Derived.Test.YtblcoicaeeiojaaGreatDoorSSiPmPunSrtA
import Derived.Laws.OwnMore
import Derived.StillTailTactics
set_option linter.unusedSimpArgs false
set_option linter.unusedVariables false
namespace Go.Proofs.YtblcoicaeeiojaaGreatDoor
open Go.RowKit
def accE (T:Tb) (l:List Int):Int:=if checkT T≠0 then 2 else if 4096<l.length then 7 else if l.all scaB then 0 else 3
def clsL (T:Tb) (l:List Int):List Int:=if accE T l=0 then l.map (clsT T)else []
theorem accE_ok {T:Tb} {l:List Int} (h:accE T l=0):checkT T=0∧l.length≤4096∧l.all scaB=true:=by
 unfold accE at h
 split at h
 ·cases h
 ·split at h
  ·cases h
  ·split at h
   ·exact⟨by omega,by omega,by assumption⟩
   ·cases h
theorem accE_table {T:Tb} {l:List Int} (h:checkT T≠0):accE T l=2:=by unfold accE;rw[if_pos h]
theorem accE_full {T:Tb} {l:List Int} (h:checkT T=0) (hl:4096<l.length):accE T l=7:=by unfold accE;rw[if_neg (by omega),if_pos hl]
theorem accE_range {T:Tb} {l:List Int} (h:checkT T=0) (hl:l.length≤4096) (ha:l.all scaB=false):accE T l=3:=by unfold accE;rw[if_neg (by omega),if_neg (by omega),ha];rfl
theorem accE_zero {T:Tb} {l:List Int} (h:checkT T=0) (hl:l.length≤4096) (ha:l.all scaB=true):accE T l=0:=by unfold accE;rw[if_neg (by omega),if_neg (by omega),ha];rfl
theorem check_asc {T:Tb} (h:checkT T=0):ascB 0 T.cls=true∧r3 T=true:=by
 unfold checkT at h
 cases h1:r1 T with
 | false=>rw[h1]at h;simp at h
 | true =>
  cases h2:r2 T with
  | false=>rw[h1,h2]at h;simp at h
  | true =>
   cases h3:r3 T with
   | false=>rw[h1,h2,h3]at h;simp at h
   | true=>exact⟨(r2_sp h2).2.1,rfl⟩
def LRet (L:List Int) (E:Int) (w:World) (e:Ending) (w':World):Prop :=
 ∃v,e = .returned (.tuple #[v,.int .i64 E])∧Ints w' w.heap.size v L∧Below w.heap.size w w'
theorem all_at {l:List Int} {q:Int→Bool} {k:Nat} (hk:k<l.length) (h:(l.take k).all q=true):(l.take (k+1)).all q=q (l.getD k 0):=by
 rw[take_snoc_any l k hk,List.all_append,h];simp
theorem all_no {l:List Int} {q:Int→Bool} (k:Nat) (h:(l.take k).all q=false):l.all q=false:=by
 rw[←List.take_append_drop k l,List.all_append,h];rfl
theorem BoxT.row {w w':World} {g:Nat} {x:TV} {row:Option Nat} (h:BoxT w g x) (hg:w.grownBy w' row) (hr:∀k,row=some k→g<k):BoxT w' g x:=by
 obtain⟨⟨h0,h1,h2,h3,h4,h5⟩,⟨h6,h7,h8,h9,h10,h11⟩⟩:=h
 have key:∀i v,w.cell? ⟨g,i,none⟩=some v→w'.cell? ⟨g,i,none⟩=some v:=fun i v hc=>hg.cell hc (fun e=>by have:=hr g e.symm;omega)
 exact⟨⟨key _ _ h0,key _ _ h1,key _ _ h2,key _ _ h3,key _ _ h4,key _ _ h5⟩,⟨key _ _ h6,key _ _ h7,key _ _ h8,key _ _ h9,key _ _ h10,key _ _ h11⟩⟩
theorem Env.app {w0 w w':World} {x:TV} {T:Tb} {v:Value} {l:List Int} (e:Env w0 x T w) (hx:TabV w0 x T) (ho:Ints w (w0.heap.size+1) v l) (hg:w.grownBy w' v.ownBlock):Env w0 x T w':=by
 have hb:Below w0.heap.size w0 w':=below_appI e.bel (ho.mono (Nat.le_succ _)) (Nat.le_refl _) hg
 exact⟨hx.below hb,e.box.row hg (fun k hk=>ho.base k hk),hb⟩
theorem isOpen_any (p : Option Addr) (n c : Nat) (B : Bool) (w : World) (hB : Hid (decide (n % 2 = 1) = B)) (hn : n ≤ 17592186043904) :
  Calls Tryz.prog 242 #[.slice p n c] w fun e w'=>e = .returned (.bool B)∧w=w':=by
 have h1:((n:Int)).tmod 2=((n%2:Nat):Int):=by rw[Int.tmod_eq_emod_of_nonneg (by omega)];omega
 have h3:((n:Int))%2=((n%2:Nat):Int):=by omega
 have h2:((((n%2:Nat):Int))==1)=B:=by rw[←hB.out,Bool.eq_iff_iff];simp;omega
 generalize n%2=m at h1 h2 h3
 clear hB
 go_enter Tryz.func242,Tryz.ntmps242
 go_wp2
 go_ret
 exact⟨rfl,rfl⟩
set_option maxRecDepth 100000 in
set_option maxHeartbeats 4000000 in
theorem classesOf_at (x : TV) (T : Tb) (p : Option Addr) (cap : Nat) (zs : List Int) (E : Int) (L : List Int) (w : World) (hx : TabV w x T) (hr : Rsv w) (hin : IntsIn w p zs) (hl : zs.length ≤ 17592186043904)
  (hE:Hid (accE T zs=E)) (hL:Hid (clsL T zs=L)) :
  Calls Tryz.prog 241 #[x.agg,.slice p zs.length cap] w (LRet L E w):=by
 obtain⟨V,hV⟩:∃V,Hid (checkT T=V):=⟨_,rfl⟩
 have HE:=Lib.hid (Env.new hx)
 have HX:=Lib.hid hx
 have HI:=Lib.hid hin
 have HR:=Lib.hid hr
 obtain⟨n,hn⟩:∃n,zs.length=n:=⟨_,rfl⟩
 rw[hn]at hl ⊢
 have HN:=Lib.hid hn
 clear hx hr hin hn
 simp only[TV.agg]
 go_enter Tryz.func241,Tryz.ntmps241
 obtain⟨⟨k0,k1,k2,k3,k4,k5⟩,⟨k6,k7,k8,k9,k10,k11⟩⟩:=HE.out.box.load
 go_wp2_with fail
 refine(check_tab_at x T V _ HE.out.tab (HR.out.below HE.out.bel) hV).mono ?_
 rintro e w1 ⟨rfl,hb1⟩
 have HZ:Hid (w.heap.size+1≤w1.heap.size):=by have:=hb1.size;unfold Hid;simpa using this
 replace HE:=Lib.hid (HE.out.step hb1)
 clear hb1 k0 k1 k2 k3 k4 k5 k6 k7 k8 k9 k10 k11
 by_cases h0:V=0
 ·have d0:(V !=0)=false:=by simp[h0]
  have HV:Hid (checkT T=0):=hV.out.trans h0
  by_cases hbig:4096<n
  ·have d1:decide ((4096:Int)<(n:Int))=true:=decide_eq_true (by omega)
   have HEE:Hid (E=7):=by unfold Hid;rw[←hE.out];exact accE_full HV.out (by rw[HN.out];exact hbig)
   have HLL:Hid (L=[]):=by unfold Hid;rw[←hL.out];unfold clsL;rw[hE.out,HEE.out];rfl
   clear h0 hbig
   go_wp2
   go_ret2
   rw[HEE.out,HLL.out]
   exact⟨_,rfl,Ints.nil _ _,HE.out.bel⟩
  ·have d1:decide ((4096:Int)<(n:Int))=false:=decide_eq_false (by omega)
   have d2:¬(4096<n):=hbig
   have hn4:n≤4096:=by omega
   have hmk:=run_make_ints0 n (by omega)
   clear h0 hbig
   go_wp2
   go_loopw [6,8,22] (fun v _ i wr=>∃k:Nat,k≤n∧i = .int .i64 k∧Hid ((zs.take k).all scaB=true)∧Hid (Ints wr (w.heap.size+1) v ((zs.take k).map (clsT T)))∧Hid (Env w x T wr)∧Hid (w1.heap.size≤wr.heap.size)) (fun _ _ i _=>n-(intOf i).toNat)
   case atStart=>exact⟨0,Nat.zero_le _,rfl,rfl,Ints.made w1 (w.heap.size+1) n HZ.out (by omega),HE.out.step ((Below.refl _ _).alloc (Nat.le_refl _) _),by simp[Hid]⟩
   case round =>
    obtain⟨k,hk,rfl,hall,ho,he,HH⟩:=hrel
    by_cases hlt:k<n
    ·have hkl:k<zs.length:=by rw[HN.out];exact hlt
     obtain⟨b,off,rfl,hck⟩:=(HI.out.below he.out.bel) k hkl
     obtain⟨c,hc⟩:∃c,zs.getD k 0=c:=⟨_,rfl⟩
     have hs1:=all_at hkl hall.out
     have hs2:=take_snoc_any zs k hkl
     rw[hc]at hck hs1 hs2
     have HS1:=Lib.hid hs1
     have HS2:=Lib.hid hs2
     have HLK:Hid (((zs.take k).map (clsT T)).length≤4096):=by unfold Hid;simp;omega
     obtain⟨z,hz⟩:∃z,Hid (clsT T c=z):=⟨_,rfl⟩
     clear hc hs1 hs2
     go_wp2_with fail
     refine(len_any c _).mono ?_
     rintro e w2 ⟨m,rfl,hm,rfl⟩
     by_cases hm0:m=0
     ·have d3:(m==0)=true:=by simp[hm0]
      have HEE:Hid (E=3):=by unfold Hid;rw[←hE.out];exact accE_range HV.out (by rw[HN.out];exact hn4) (all_no (k+1) (by rw[HS1.out];exact hm.1 hm0))
      have HLL:Hid (L=[]):=by unfold Hid;rw[←hL.out];unfold clsL;rw[hE.out,HEE.out];rfl
      clear hm hm0
      go_wp2
      go_ret2
      rw[HEE.out,HLL.out]
      exact⟨_,rfl,Ints.nil _ _,he.out.bel⟩
     ·have d3:(m==0)=false:=by simp[hm0]
      have hsc:scaB c=true:=by
       cases hb:scaB c with
       | true=>rfl
       | false=>exact absurd (hm.2 hb) hm0
      have HAL:Hid ((zs.take (k+1)).all scaB=true):=by unfold Hid;rw[HS1.out];exact hsc
      obtain⟨⟨k0,k1,k2,k3,k4,k5⟩,⟨k6,k7,k8,k9,k10,k11⟩⟩:=he.out.box.load
      clear hm hm0 hsc
      go_wp2_with fail
      refine(class_at x T c z _ he.out.tab (check_asc HV.out).1 hz).mono ?_
      rintro e w2 ⟨rfl,hb2⟩
      have HE2:=Lib.hid (he.out.step hb2)
      have HO2:=Lib.hid (ho.out.below hb2)
      have hbz:w.heap.size+1≤w2.heap.size:=Nat.le_trans HZ.out (Nat.le_trans HH.out hb2.size)
      have HS:=Lib.hid hb2.size
      clear hb2 k0 k1 k2 k3 k4 k5 k6 k7 k8 k9 k10 k11
      go_wp2_with (at_builtin;(refine wpList_append_int (.tmp 29) (.tmp 33) rfl rfl (w.heap.size+1) u6 ((zs.take k).map (clsT T)) rfl HO2.out z 1 _ rfl (by simp) (by have:=HLK.out;omega) hbz ?_);intro v1 w3 ho1 hg1)
      have HO3:Hid (Ints w3 (w.heap.size+1) v1 ((zs.take (k+1)).map (clsT T))):=by
       unfold Hid;rw[HS2.out,List.map_append,List.map_singleton,hz.out];exact ho1
      have HE3:Hid (Env w x T w3):=HE2.out.app HX.out HO2.out hg1
      have HH3:Hid (w1.heap.size≤w3.heap.size):=Nat.le_trans HH.out (Nat.le_trans HS.out hg1.size)
      clear ho1 hg1 hbz
      go_wp2
      go_roundw
      case rel=>exact⟨k+1,by omega,by go_num,HAL,HO3,HE3,HH3⟩
      case measure=>simp[intOf];omega
    ·obtain rfl:k=n:=by omega
     have HEE:Hid (E=0):=by
      unfold Hid;rw[←hE.out]
      exact accE_zero HV.out (by rw[HN.out];exact hn4) (by have:=hall.out;rwa[List.take_of_length_le (Nat.le_of_eq HN.out)]at this)
     have HLL:Hid (L=(zs.take k).map (clsT T)):=by
      unfold Hid;rw[←hL.out];unfold clsL;rw[hE.out,HEE.out,if_pos rfl,List.take_of_length_le (Nat.le_of_eq HN.out)]
     go_wp2
     go_ret2
     rw[HEE.out,HLL.out]
     exact⟨_,rfl,ho.out.mono (Nat.le_succ _),he.out.bel⟩
 ·have d0:(V !=0)=true:=by simp[h0]
  have HEE:Hid (E=2):=by unfold Hid;rw[←hE.out];exact accE_table (by rw[hV.out];exact h0)
  have HLL:Hid (L=[]):=by unfold Hid;rw[←hL.out];unfold clsL;rw[hE.out,HEE.out];rfl
  clear h0
  go_wp2
  go_ret2
  rw[HEE.out,HLL.out]
  exact⟨_,rfl,Ints.nil _ _,HE.out.bel⟩
theorem plc_zero (ks:List Int) (i:Nat):plc ks 0 i=i:=by
 cases i with
 | zero=>rfl
 | succ n=>unfold plc;rw[if_neg (by omega)]
set_option maxHeartbeats 1000000 in
theorem placeOf_at (p : Option Addr) (n cap i P : Nat) (ks : List Int) (c : Int) (w : World) (hin : IntsIn w p ks) (hl : Hid (ks.length = n)) (hn : n ≤ 17592186043904) (hi : i < n) (hc : Hid (ks.getD i 0 = c)) (hc0 : 0 ≤ c) (hP : Hid (plc ks c i = P)) :
  Calls Tryz.prog 267 #[.slice p n cap,.int .i64 i] w fun e w'=>e = .returned (.int .i64 P)∧w=w':=by
 have hkl:i<ks.length:=by rw[hl.out];exact hi
 obtain⟨b,off,rfl,hck⟩:=hin i hkl
 rw[hc.out]at hck
 have HI:=Lib.hid hin
 clear hin hkl
 by_cases h0:c=0
 ·subst h0
  have HP:Hid (P=i):=by unfold Hid;rw[←hP.out,plc_zero]
  go_enter Tryz.func267,Tryz.ntmps267
  go_wp2
  go_ret
  exact⟨by rw[HP.out];rfl,rfl⟩
 ·have d0:(c==0)=false:=by simp[h0]
  have hpos:0<c:=by omega
  clear h0 hc0
  go_enter Tryz.func267,Tryz.ntmps267
  go_wp2
  go_loopw [1] (fun v wr=>∃k:Nat,k≤i∧v = .int .i64 k∧Hid (plc ks c k=P)∧w=wr) (fun v _=>(intOf v).toNat)
  case atStart=>exact⟨i,Nat.le_refl _,rfl,hP,rfl⟩
  case round =>
   obtain⟨k,hk,rfl,hp,rfl⟩:=hrel
   by_cases hz:0<k
   ·obtain⟨j,hj⟩:∃j:Nat,k=j+1:=⟨k-1,by omega⟩
    subst hj
    have hjl:j<ks.length:=by rw[hl.out];omega
    obtain⟨b2,off2,e2,hcj⟩:=HI.out j hjl
    cases e2
    obtain⟨y,hy⟩:∃y,ks.getD j 0=y:=⟨_,rfl⟩
    rw[hy]at hcj
    have HPS:Hid (plc ks c (j+1)=if 0<c∧c<y then plc ks c j else j+1):=by
     unfold Hid;conv=>lhs;unfold plc
     rw[hy]
    have hjn:j<n:=by omega
    clear hjl
    by_cases hlt:c<y
    ·have d1:decide (c<y)=true:=decide_eq_true hlt
     have HPJ:Hid (plc ks c j=P):=by unfold Hid;rw[←hp.out,HPS.out,if_pos ⟨hpos,hlt⟩]
     clear hy
     go_wp2
     go_roundw
     case rel=>exact⟨j,by omega,by go_num,HPJ,trivial⟩
     case measure=>simp[intOf]
    ·have d1:decide (c<y)=false:=decide_eq_false hlt
     have HPJ:Hid (P=j+1):=by unfold Hid;rw[←hp.out,HPS.out,if_neg (fun h=>hlt h.2)]
     clear hy
     go_wp2
     go_ret
     exact⟨by rw[HPJ.out];rfl,rfl⟩
   ·obtain rfl:k=0:=by omega
    have HPJ:Hid (P=0):=by unfold Hid;rw[←hp.out];rfl
    go_wp2
    go_ret
    exact⟨by rw[HPJ.out];rfl,rfl⟩
def midL (xs:List Int) (f t:Nat):List Int:=xs.take (t+1)++((xs.drop t).take (f-t)++xs.drop (f+1))
theorem midL_length (xs:List Int) (f t:Nat) (hf:f<xs.length) (ht:t≤f):(midL xs f t).length=xs.length:=by simp[midL];omega
theorem midL_set (xs:List Int) (f t:Nat) (hf:f<xs.length) (ht:t≤f):(midL xs f t).set t (xs.getD f 0)=mvb xs f t:=by
 unfold midL mvb
 have hl:(xs.take t).length=t:=by simp;omega
 rw[take_snoc_any xs t (by omega),List.append_assoc,List.set_append_right _ _ (by omega),hl]
 simp
theorem splice_mid (xs : List Int) (L : List Value) (f t : Nat) (hf : f < xs.length) (ht : t ≤ f) (hL : L.take xs.length = xs.map (.int .i64)) :
  (splice L (t+1) (((xs.drop t).take (f-t)).map (.int .i64))).take xs.length=(midL xs f t).map (.int .i64):=by
 obtain⟨R,hR⟩:∃R,L=xs.map (.int .i64)++R:=⟨L.drop xs.length,by rw[←hL,List.take_append_drop]⟩
 subst hR
 unfold splice
 have hcl:(((xs.drop t).take (f-t)).map (Value.int .i64)).length=f-t:=by simp;omega
 have hml:(xs.map (Value.int .i64)).length=xs.length:=by simp
 rw[hcl,List.take_append_of_le_length (l₁:=xs.map (Value.int .i64)) (by omega),List.drop_append_of_le_length (l₁:=xs.map (Value.int .i64)) (by omega)]
 have e:(xs.map (Value.int .i64)).take (t+1)++(((xs.drop t).take (f-t)).map (.int .i64)++((xs.map (.int .i64)).drop (t+1+(f-t))++R))=(midL xs f t).map (.int .i64)++R:=by
  unfold midL
  rw[show t+1+(f-t)=f+1 by omega]
  simp[List.map_take,List.map_drop]
 rw[e,List.take_append_of_le_length (by simp[midL_length xs f t hf ht]),List.take_of_length_le (by simp[midL_length xs f t hf ht])]
theorem row_cells {w : World} {g : Nat} {cur : Array Value} {ty : TypeId} {xs : List Int} (hg : w.heap[g]? = some (.cells cur ty (0, 0))) (ht : cur.toList.take xs.length = xs.map (.int .i64)) (k : Nat) (hk : k < xs.length) :
  w.cell? ⟨g,k,none⟩=some (.int .i64 (xs.getD k 0)):=by
 rw[cell_of_row w g k cur _ (0,0) hg]
 have e:(cur.toList.take xs.length)[k]? = (xs.map (Value.int .i64))[k]? := by rw[ht]
 rw[List.getElem?_take,if_pos (by omega)]at e
 simpa[List.getD,List.getElem?_eq_getElem hk] using e
theorem add_two (g a j:Nat):(⟨g,a,none⟩:Addr).add j=⟨g,a+j,none⟩:=by unfold Addr.add;split<;>simp_all
theorem cs_cells {w : World} {g : Nat} {xs : List Int} {f t : Nat} (hf : f < xs.length) (hc : ∀ k, k < xs.length → w.cell? ⟨g, k, none⟩ = some (.int .i64 (xs.getD k 0))) :
  ∀(j:Nat) (u:Value),(((xs.drop t).take (f-t)).map (Value.int .i64))[j]? = some u→w.cell? ((⟨g,t,none⟩:Addr).add j)=some u:=by
 intro j u hu
 rw[add_two]
 rw[List.getElem?_map]at hu
 cases hj:((xs.drop t).take (f-t))[j]? with
 | none=>rw[hj]at hu;cases hu
 | some y =>
  rw[hj]at hu
  simp only[Option.map_some,Option.some.injEq]at hu
  rw[List.getElem?_take]at hj
  split at hj
  ·rw[List.getElem?_drop]at hj
   obtain⟨h1,h2⟩:=List.getElem?_eq_some_iff.1 hj
   rw[hc (t+j) h1,←hu]
   simp[List.getD,List.getElem?_eq_getElem h1,h2]
  ·cases hj
theorem one_ints (l:List Int):∀v∈l.map (Value.int .i64),v.oneCell'=true:=by
 intro v hv
 obtain⟨z,_,rfl⟩:=List.mem_map.1 hv
 rfl
theorem step_copy_ints {ops : Array Oper} {o : Oper} {a : Act} {w : World} {K : Act → World → Prop} {Z : Exit → Act → World → Prop} {E : Prop} (hgd : o.guard = none) (d s : Operand)
  (ho:o.op = .call { callee := .builtin .copy,args:=#[d,s],argTypes:=#[22,22]})
  (dp sp:Option Addr) (dLen dCap sLen sCap:Nat) (hd:a.eval d = .slice dp dLen dCap) (hs:a.eval s = .slice sp sLen sCap)
  (g off:Nat) (cur:List Value) (hg:w.heap[g]? = some (.cells cur.toArray 3 (0,0))) (cs:List Value) (hn:cs.length=Nat.min sLen dLen)
  (hpos:0<cs.length→dp=some ⟨g,off,none⟩∧∃ad,sp=some ad∧∀j v,cs[j]? = some v→w.cell? (ad.add j)=some v)
  (hfit:off+cs.length≤cur.length) (h1:∀v∈cs,v.oneCell'=true) (B:Nat) (hBg:B≤g)
  (h:∀w',Hid (w'.heap[g]? = some (.cells (splice cur off cs).toArray 3 (0,0)))→w.grownBy w' (some g)→K (a.put o.dst (goInt cs.length)) w') :
  if Region.wanted o (yielded ops a.tmps)=true then Oper.wp Tryz.prog o a w K Z else E:=by
 have hw:Region.wanted o (yielded ops a.tmps)=true:=by simp[Region.wanted,hgd]
 rw[if_pos hw]
 obtain⟨i0,hi,hz0,hz1,hz2⟩:=info_parts Tryz.info3
 have hsz:(Tryz.prog.info? 3).map (·.size)=some 1:=by rw[hi];simp[hz1]
 by_cases h0:cs.length=0
 ·obtain rfl:cs=[]:=List.eq_nil_of_length_eq_zero h0
  have hrun:=run_copy_none (P:=Tryz.prog) w 22 22 o.type 3 dp sp dLen dCap sLen sCap Tryz.underlying22 hsz (by simpa using hn.symm)
  unfold Oper.wp
  simp[execOp,ho,resolve,invoke,builtin,hd,hs,hrun,Result.andThen]
  exact h w (show _=_ by simpa[splice] using hg) (grownBy_refl _ _)
 ·obtain⟨rfl,ad,rfl,hsrc⟩:=hpos (by omega)
  have hrun:=run_copy_row (P:=Tryz.prog) w 22 22 o.type 3 g off dLen dCap ad sLen sCap cur.toArray 3 cs Tryz.underlying22 hsz hg hn hsrc (by simpa using hfit) h1
  unfold Oper.wp
  simp[execOp,ho,resolve,invoke,builtin,hd,hs,hrun,Result.andThen]
  exact h _ (show _=_ by simpa[splice] using setRow_heap w g _ _ 3 _ hg) ⟨rfl,rfl,rfl,by simp[World.setRow],fun k _ hne=>setRow_other w g k _ (fun e=>hne (by rw[e]))⟩
theorem wpList_copy_ints {ops : Array Oper} {rest : List Oper} {o : Oper} {a : Act} {w : World} {Q : Exit → Act → World → Prop} (hgd : o.guard = none) (d s : Operand)
  (ho:o.op = .call { callee := .builtin .copy,args:=#[d,s],argTypes:=#[22,22]})
  (dp sp:Option Addr) (dLen dCap sLen sCap:Nat) (hd:a.eval d = .slice dp dLen dCap) (hs:a.eval s = .slice sp sLen sCap)
  (g off:Nat) (cur:List Value) (hg:w.heap[g]? = some (.cells cur.toArray 3 (0,0))) (cs:List Value) (hn:cs.length=Nat.min sLen dLen)
  (hpos:0<cs.length→dp=some ⟨g,off,none⟩∧∃ad,sp=some ad∧∀j v,cs[j]? = some v→w.cell? (ad.add j)=some v)
  (hfit:off+cs.length≤cur.length) (h1:∀v∈cs,v.oneCell'=true) (B:Nat) (hBg:B≤g)
  (h:∀w',Hid (w'.heap[g]? = some (.cells (splice cur off cs).toArray 3 (0,0)))→w.grownBy w' (some g)→wpList Tryz.prog ops Q rest (a.put o.dst (goInt cs.length)) w'):wpList Tryz.prog ops Q (o::rest) a w:=by
 unfold wpList
 have hw:Region.wanted o (yielded ops a.tmps)=true:=by simp[Region.wanted,hgd]
 rw[if_pos hw]
 refine .inl ?_
 have:=step_copy_ints (ops:=ops) (o:=o) (a:=a) (w:=w) (K:=fun a' w'=>wpList Tryz.prog ops Q rest a' w') (Z:=Q) (E:=True) hgd d s ho dp sp dLen dCap sLen sCap hd hs g off cur hg cs hn hpos hfit h1 B hBg h
 rwa[if_pos hw]at this
theorem mid_own {w : World} {B g n cap f t : Nat} {xs : List Int} {cur : Array Value} (hg : w.heap[g]? = some (.cells (splice cur.toList (t + 1) (((xs.drop t).take (f - t)).map (.int .i64))).toArray 3 (0, 0)))
  (hn:xs.length=n) (hB:B≤g) (hc:n≤cap) (hm:cap≤maxLen) (hs:cur.size=cap) (hf:f<n) (ht:t≤f) (hk:cur.toList.take n=xs.map (.int .i64)) :
  Ints w B (.slice (some ⟨g,0,none⟩) n cap) (midL xs f t):=by
 subst hn
 unfold Ints
 rw[midL_length xs f t hf ht]
 refine⟨by simp[midL_length xs f t hf ht],.inr ⟨g,cap,_,rfl,hB,hg,hc,hm,?_,?_⟩⟩
 ·rw[List.size_toArray,length_splice _ _ _ (by simp;omega)];simp;omega
 ·rw[Nat.mul_one,List.toList_toArray]
  exact splice_mid xs cur.toList f t hf ht hk
set_option maxRecDepth 100000 in
set_option maxHeartbeats 4000000 in
theorem moveBack_any (B : Nat) (v : Value) (xs ys : List Int) (f t : Nat) (w : World) (ho : Ints w B v xs) (hf : f < xs.length) (ht : t ≤ f) (hl : xs.length ≤ 4194304) (hy : Hid (mvb xs f t = ys)) :
  Calls Tryz.prog 268 #[v,.int .i64 f,.int .i64 t] w fun e w'=>e = .returned (.tuple #[])∧Ints w' B v ys∧w.grownBy w' v.ownBlock:=by
 obtain⟨h1,h2⟩:=ho
 rcases h2 with⟨rfl,h3⟩|⟨g,cap,cur,rfl,hB,hg,hn,hc,hs,htk⟩
 ·omega
 ·rw[Nat.mul_one]at htk hs
  have hcl:=fun k hk=>row_cells hg htk k hk
  have c1:=hcl f hf
  obtain⟨X,hX⟩:∃X,xs.getD f 0=X:=⟨_,rfl⟩
  rw[hX]at c1
  obtain⟨cs,hcs⟩:∃cs,((xs.drop t).take (f-t)).map (Value.int .i64)=cs:=⟨_,rfl⟩
  have hsrc:=cs_cells (t:=t) hf hcl
  have hone:=one_ints ((xs.drop t).take (f-t))
  have hlen:(((xs.drop t).take (f-t)).map (Value.int .i64)).length=f-t:=by simp;omega
  rw[hcs]at hsrc hone hlen
  have HCS:=Lib.hid hcs
  have HSRC:=Lib.hid hsrc
  have HONE:=Lib.hid hone
  have HLEN:=Lib.hid hlen
  have HX:=Lib.hid hX
  have HG:Hid (w.heap[g]? = some (.cells cur.toList.toArray 3 (0,0))):=by simpa[Hid] using hg
  have HT:=Lib.hid htk
  have HS:=Lib.hid hs
  obtain⟨n,hnn⟩:∃n,xs.length=n:=⟨_,rfl⟩
  rw[hnn]at hn hf hl ⊢
  have HN:=Lib.hid hnn
  obtain⟨t1,ht1⟩:∃t1,t+1=t1:=⟨_,rfl⟩
  obtain⟨f1,hf1⟩:∃f1,f+1=f1:=⟨_,rfl⟩
  have w1:IntKind.i64.wrap ((t:Int)+1)=(t1:Int):=by rw[IntWalk.i64_in _ (by omega)];omega
  have w2:IntKind.i64.wrap ((f:Int)+1)=(f1:Int):=by rw[IntWalk.i64_in _ (by omega)];omega
  have q1:t1≤f1:=by omega
  have q2:f1≤cap:=by omega
  have q3:f≤cap:=by omega
  have q4:¬(cap=t):=by omega
  have HT1:=Lib.hid ht1
  have HF1:=Lib.hid hf1
  have q5:max (f1:Int) 0=(f1:Int):=by omega
  have q6:max (f:Int) 0=(f:Int):=by omega
  clear hcs hsrc hone hlen hX hcl h1 hg htk hs hnn ht1 hf1
  go_enter Tryz.func268,Tryz.ntmps268
  go_upto_region 1 with(fail)
  go_still_tail 10,(by kernel_rfl)
  refine wpList_copy_ints (by rfl) (.tmp 16) (.tmp 20) (by rfl) _ _ _ _ _ _ (by rfl) (by rfl) g t1 cur.toList (by exact HG.out) cs ?c1 ?c2 ?c3 HONE.out B hB ?_
  case c1=>rw[HLEN.out,←HT1.out,←HF1.out];simp[Nat.min_def]
  case c2 =>
   intro hp
   rw[HLEN.out]at hp
   refine⟨by rw[if_neg (by have:=HT1.out;omega)],_,rfl,fun j u hu=>?_⟩
   exact HSRC.out j u hu
  case c3=>rw[HLEN.out,Array.length_toList,HS.out];have:=HT1.out;omega
  intro w4 hg4 hb4
  have hg5:w4.heap[g]? = some (.cells (splice cur.toList (t+1) (((xs.drop t).take (f-t)).map (.int .i64))).toArray 3 (0,0)):=by rw[HCS.out,HT1.out];exact hg4.out
  have HO4:Hid (Ints w4 B (.slice (some ⟨g,0,none⟩) n cap) (midL xs f t)):=mid_own hg5 HN.out hB hn hc HS.out hf ht (by rw[←HN.out];exact HT.out)
  have hml:(midL xs f t).length=n:=by rw[midL_length xs f t (by rw[HN.out];exact hf) ht];exact HN.out
  have hoo:w4.ownsRow B 3 1 (.slice (some ⟨g,0,none⟩) n cap) n ((midL xs f t).map (.int .i64)):=by have:=HO4.out;unfold Ints at this;rwa[hml]at this
  have hct:=World.ownsRow.cellAt hoo t (by omega)
  rw[List.getElem?_map,List.getElem?_eq_getElem (by omega),Option.map_some]at hct
  generalize (midL xs f t)[t]'(by omega)=Y at hct
  have hft:=World.ownsRow.frozenAt hoo t
  have hst:=World.ownsRow.stored hoo t (.int .i64 X)
  have HST:Hid (Ints (w4.setCell ⟨g,t,none⟩ (.int .i64 X)) B (.slice (some ⟨g,0,none⟩) n cap) ys):=by
   unfold Hid
   rw[←hy.out,←midL_set xs f t (by rw[HN.out];exact hf) ht,HX.out]
   unfold Ints
   rw[List.length_set,hml,List.map_set]
   exact hst.1
  have HGB:Hid (w.grownBy (w4.setCell ⟨g,t,none⟩ (.int .i64 X)) (some g)):=grownBy_trans (show w.grownBy w4 (some g) from⟨hb4.os,hb4.tape,hb4.output,hb4.size,hb4.block⟩) (grownBy_store _ _ _ _)
  clear hg4 hb4 hg5 hoo hst hml hy
  generalize (if cap=t1 then some (⟨g,0,none⟩:Addr)else some ⟨g,t1,none⟩)=dp0
  go_wp2
  go_end0
  exact⟨rfl,HST.out,HGB.out⟩
end Go.Proofs.YtblcoicaeeiojaaGreatDoor
