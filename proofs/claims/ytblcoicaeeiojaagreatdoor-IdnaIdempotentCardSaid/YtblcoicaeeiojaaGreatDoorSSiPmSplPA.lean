/- split: lists that a loop fills; the contract of Labels. spli -/
import Derived.Test.YtblcoicaeeiojaaGreatDoorSSiPmSplD
import Derived.Test.YtblcoicaeeiojaaGreatDoorSSiPmOwn
set_option linter.unusedSimpArgs false
set_option linter.unusedVariables false
namespace Go.Proofs.YtblcoicaeeiojaaGreatDoor
open Go.RowKit
def padL (L:List (List Int)) (k:Nat):List (List Int):=L.take k++List.replicate (L.length-k) []
theorem padL_len (L:List (List Int)) (k:Nat) (h:k≤L.length):(padL L k).length=L.length:=by simp[padL];omega
theorem padL_zero (L:List (List Int)):padL L 0=List.replicate L.length []:=by simp[padL]
theorem padL_full (L:List (List Int)):padL L L.length=L:=by simp[padL]
theorem padL_set (L:List (List Int)) (k:Nat) (h:k<L.length):(padL L k).set k (L.getD k [])=padL L (k+1):=by
 unfold padL
 have hk:(L.take k).length=k:=by simp;omega
 rw[List.set_append,if_neg (by omega),hk,Nat.sub_self,take_snocL L k h]
 obtain⟨m,hm⟩:∃m,L.length-k=m+1:=⟨L.length-k-1,by omega⟩
 rw[hm,List.replicate_succ,List.set_cons_zero,show L.length-(k+1)=m by omega]
 simp
def padB (L:List ByteArray) (k:Nat):List ByteArray:=L.take k++List.replicate (L.length-k) ByteArray.empty
theorem padB_zero (L:List ByteArray):padB L 0=List.replicate L.length ByteArray.empty:=by simp[padB]
theorem padB_full (L:List ByteArray):padB L L.length=L:=by simp[padB]
theorem padB_at (L:List ByteArray) (k:Nat) (h:k<L.length):((padB L k).map Value.string)[k]? = some (.string ByteArray.empty):=by
 unfold padB
 have hk:(L.take k).length=k:=by simp;omega
 obtain⟨m,hm⟩:∃m,L.length-k=m+1:=⟨L.length-k-1,by omega⟩
 rw[hm,List.getElem?_map,List.getElem?_append_right (by omega),hk]
 simp
theorem padB_set (L:List ByteArray) (k:Nat) (h:k<L.length):(padB L k).set k (L.getD k ByteArray.empty)=padB L (k+1):=by
 unfold padB
 have hk:(L.take k).length=k:=by simp;omega
 rw[List.set_append,if_neg (by omega),hk,Nat.sub_self,take_snocB L k h]
 obtain⟨m,hm⟩:∃m,L.length-k=m+1:=⟨L.length-k-1,by omega⟩
 rw[hm,List.replicate_succ,List.set_cons_zero,show L.length-(k+1)=m by omega]
 simp
theorem Labs.putAt {w w6 : World} {B g cap n i : Nat} {v6 : Value} {L : List (List Int)} {x : List Int} {Vs : List Value} (h : Labs w B (.slice (some ⟨g, 0, none⟩) n cap) L Vs) (hi : i < L.length)
  (h6:Ints w6 w.heap.size v6 x) (hg6:w.grownBy w6 none) (hB:B≤w.heap.size) :
  Labs (w6.setCell ⟨g,i,none⟩ v6) B (.slice (some ⟨g,0,none⟩) n cap) (L.set i x) (Vs.set i v6):=by
 have hgl:g<w.heap.size:=(World.ownsRow.lt h.own g rfl).2
 have hlen:Vs.length=L.length:=h.len
 have ho6:w6.ownsRow B 22 1 (.slice (some ⟨g,0,none⟩) n cap) L.length Vs:=World.ownsRow.kept h.own hg6 (by simp[Value.ownBlock])
 have hnn:n=L.length:=by
  rcases h.own.2 with⟨h1,_⟩|⟨g',cap',cur',h1,_⟩
  ·cases h1
  ·injection h1 with _ e _
 subst hnn
 have hst:=ho6.stored i v6
 have hl6:=Lab.ofInts h6
 refine⟨by simpa using hst.1,by simp[hlen],fun k hk=>?_,fun k b hk hb=>?_⟩
 ·by_cases e:k=i
  ·subst e
   rw[sgetD_set_eq _ _ _ _ hi,sgetD_set_eq _ _ _ _ (by omega)]
   refine(hl6.1.mono hB).kept hst.2 (fun b hb e2=>?_)
   have h1:=(hl6.1.lt hb).1
   simp only[Option.some.injEq]at e2
   subst e2
   exact absurd hgl (by omega)
  ·have hk2:k<L.length:=by simpa using hk
   rw[sgetD_set_ne _ _ _ _ _ (fun e2=>e e2.symm),sgetD_set_ne _ _ _ _ _ (fun e2=>e e2.symm)]
   refine((h.lab k hk2).kept hg6 (fun b _ e2=>by cases e2)).kept hst.2 (fun b hb e2=>?_)
   cases e2
   exact h.off k g hk2 hb rfl
 ·by_cases e:k=i
  ·subst e
   rw[sgetD_set_eq _ _ _ _ (by omega)]at hb
   have h1:=(hl6.1.lt hb).1
   intro e2
   simp only[Value.ownBlock,Option.some.injEq]at e2
   subst e2
   exact absurd hgl (by omega)
  ·have hk2:k<L.length:=by simpa using hk
   rw[sgetD_set_ne _ _ _ _ _ (fun e2=>e e2.symm)]at hb
   exact h.off k b hk2 hb
theorem Labs.made {w w0 : World} {m : Nat} (h : w0.ownsRow w.heap.size 22 1 (.slice (some ⟨w.heap.size, 0, none⟩) m m) m (madeCells (Value.slice none 0 0).cells (m * 1)).toList) :
  Labs w0 w.heap.size (.slice (some ⟨w.heap.size,0,none⟩) m m) (List.replicate m []) (List.replicate m (.slice none 0 0)):=by
 have e:(madeCells (Value.slice none 0 0).cells (m*1)).toList=List.replicate (m*1) (.slice none 0 0):=toList_madeCells_one _ _
 rw[e,Nat.mul_one]at h
 have hz:∀k,(List.replicate m (Value.slice none 0 0)).getD k (.slice none 0 0) = .slice none 0 0:=by
  intro k
  by_cases hk:k<m
  ·simp[List.getD,hk]
  ·simp[List.getD,List.getElem?_eq_none (l:=List.replicate m (Value.slice none 0 0)) (i:=k) (by simp;omega)]
 refine⟨by simpa using h,by simp,fun k hk=>?_,fun k b hk hb=>?_⟩
 ·have hk2:k<m:=by simpa using hk
  rw[hz]
  simp only[List.getD,List.getElem?_replicate,if_pos hk2,Option.getD_some]
  exact Lab.nil _ _
 ·rw[hz]at hb
  cases hb
theorem grown_lit {w w6:World} {o:Obj} (h:(w.alloc o).grownBy w6 (some w.heap.size)):w.grownBy w6 none:=grownBy_off (World.grownBy_alloc w o none) h (fun j hj=>by cases hj;exact Nat.le_refl _)
set_option maxRecDepth 100000 in
set_option maxHeartbeats 4000000 in
theorem labels_at (p : Option Addr) (n cap : Nat) (l : List Int) (w : World) (hin : IntsIn w p l) (hn : Hid (l.length = n)) (hcap : n ≤ cap) (hn2 : n ≤ 1099511627776) :
  Calls Tryz.prog 67 #[.slice p n cap] w (LabPost (cutD l) w):=by
 have HI:=Lib.hid hin
 clear hin
 obtain⟨i0,hi,hz0,hz1,hz2⟩:=info_parts Tryz.info22
 have hlab:=cutD_lab l
 have hnum:=cutD_num l
 have hne:=cutD_ne l
 rw[hn.out]at hlab hnum
 obtain⟨L,hL⟩:∃L,cutD l=L:=⟨_,rfl⟩
 rw[hL]at hlab hnum hne
 obtain⟨m,hm⟩:∃m,L.length=m:=⟨_,rfl⟩
 have hm1:1≤m:=by rw[←hm];exact List.length_pos_iff.2 hne
 rw[hm]at hnum
 have HLAB:=Lib.hid hlab
 have HNE:=Lib.hid hne
 have HM:=Lib.hid hm
 have HL:=Lib.hid hL
 clear hlab hne hL
 go_enter Tryz.func67,Tryz.ntmps67
 go_wp2_with fail
 refine(divI_at p n cap l _ HI.out hn hcap hn2).mono ?_
 rintro e w1 ⟨gp,cp,Vp,rfl,hcp,hpp,hb1⟩
 rw[HL.out]at hcp hpp ⊢
 rw[hm]at hcp hpp ⊢
 have hown1:=hpp.own
 rw[hm]at hown1
 have HOWN:=Lib.hid hown1
 have HPP:=Lib.hid hpp
 have HB1:=Lib.hid hb1
 clear hown1 hpp hb1 hm
 go_wp2_with (at_make;refine wpList_make_full _ rfl _ _ 53 rfl w1.heap.size 22 i0 (.slice none 0 0) 1 Tryz.underlying53 hi hz0 hz1 .i64 .i64 _ _ m rfl rfl rfl rfl (by rw[hz2];omega) (by unfold maxLen;omega) (Nat.le_refl _) ?_;intro w0 hown0 hgrow0)
 have hl0:=Labs.made hown0
 have HL0:Hid (Labs w0 w1.heap.size (.slice (some ⟨w1.heap.size,0,none⟩) m m) (padL L 0) (List.replicate m (.slice none 0 0))):=by
  unfold Hid;rw[padL_zero,HM.out];exact hl0
 have HB0:Hid (Below w1.heap.size w1 w0):=(Below.refl _ _).grown hgrow0 (Nat.le_refl _) (by intro j e;cases e)
 clear hown0 hgrow0 hl0
 go_wp2
 go_loopw [14] (fun i wr=>∃(k:Nat) (Vs:List Value),k≤m∧i = .int .i64 k∧Hid (Labs wr w1.heap.size (.slice (some ⟨w1.heap.size,0,none⟩) m m) (padL L k) Vs)∧Hid (Below w1.heap.size w1 wr)) (fun i _=>m-(intOf i).toNat)
 case atStart=>exact⟨0,_,Nat.zero_le _,rfl,HL0,HB0⟩
 case round =>
  clear HL0 HB0
  obtain⟨k,Vs,hk,rfl,hls,hbel⟩:=hrel
  have HSZ:=Lib.hid hbel.out.size
  by_cases hlt:k<m
  ·have hkl:k<L.length:=by rw[HM.out];exact hlt
   obtain⟨q,c,hv,hxc,hxi⟩:=HPP.out.part k hkl
   obtain⟨x,hx⟩:∃x,L.getD k []=x:=⟨_,rfl⟩
   have hxl:x.length≤n:=HLAB.out x (by rw[←hx];simp[List.getD,hkl])
   rw[hx]at hv hxc hxi
   obtain⟨nx,hnx⟩:∃nx,x.length=nx:=⟨_,rfl⟩
   rw[hnx]at hv hxc hxl
   have hvl:Vp.length=m:=by have:=HPP.out.len;rw[HM.out]at this;exact this
   have hown:=ownsRow_below HOWN.out hbel.out
   have hcell:wr.cell? ⟨gp,k,none⟩=some (.slice q nx c):=by
    rw[World.ownsRow.cellAt hown k (by omega),←hv]
    simp[List.getD,hvl,hlt]
   have hq:=hxi.below (HB1.out.trans (hbel.out.mono HB1.out.size))
   have HQ:Hid (IntsIn (wr.alloc (.cells #[] 3)) q x):=hq.alloc _
   have HNX:=Lib.hid hnx
   have HX:=Lib.hid hx
   have hi0:Ints (wr.alloc (.cells #[] 3)) wr.heap.size (.slice (some ⟨wr.heap.size,0,none⟩) 0 0) []:=World.ownsRow_lit wr #[] 0 (Nat.le_refl _) (by unfold maxLen;omega) rfl
   have HI0:=Lib.hid hi0
   have hoM:=hls.out.own
   rw[padL_len L k (by omega),HM.out]at hoM
   have hgl:=(World.ownsRow.lt hoM _ rfl).2
   have hcm:=World.ownsRow.cellAt hoM k (by omega)
   have hfm:=World.ownsRow.frozenAt hoM k
   have hvm:Vs.length=m:=by have:=hls.out.len;rw[padL_len L k (by omega),HM.out]at this;exact this
   obtain⟨vk,hvk⟩:∃vk,Vs[k]? = some vk:=⟨Vs[k]'(by omega),by simp[hvm,hlt]⟩
   rw[hvk]at hcm
   have HCM:=Lib.hid hcm
   have HFM:=Lib.hid hfm
   have HGL:=Lib.hid hgl
   have HKL:=Lib.hid hkl
   clear hkl hv hxi hx hnx hvl hown hq hi0 hoM hgl hcm hfm hvm hvk
   go_wp2_with (at_builtin;first
    | (refine wpList_append_ints (.tmp 21) (.tmp 22) rfl rfl wr.heap.size (.slice (some ⟨wr.heap.size, 0, none⟩) 0 0) [] (by rfl) HI0.out q nx c x HNX.out (by rfl) HQ.out (by rw [HNX.out]; simp; omega) (by simp) ?_
       intro v6 w6 ho6 hg6
       have hg6b:wr.grownBy w6 none:=grown_lit hg6
       have hcx:w6.cell? ⟨w1.heap.size,k,none⟩=some vk:=hg6b.cell HCM.out (by simp)
       have hfx:w6.frozen? ⟨w1.heap.size,k,none⟩=false:=(World.frozen?_of_block (hg6b.block w1.heap.size HGL.out (by simp))).trans HFM.out
       have HG6:=Lib.hid hg6b
       have ho6b:Ints w6 wr.heap.size v6 x:=ho6
       obtain⟨p6,c6,rfl,_,_⟩:=ints_capL ho6b
       have HO6:=Lib.hid ho6b
       obtain⟨n6,hn6⟩:∃n6,x.length=n6:=⟨_,rfl⟩
       rw[hn6]at HO6 ⊢
       clear hn6 ho6 hg6 hg6b ho6b))
   have HP:Hid (Labs (w6.setCell ⟨w1.heap.size,k,none⟩ (.slice p6 n6 c6)) w1.heap.size (.slice (some ⟨w1.heap.size,0,none⟩) m m) (padL L (k+1)) (Vs.set k (.slice p6 n6 c6))):=by
    have:=hls.out.putAt (i:=k) (x:=x) (v6 := .slice p6 n6 c6) (w6:=w6) (by rw[padL_len L k (by rw[HM.out];omega)];exact HKL.out) (by simpa using HO6.out) HG6.out HSZ.out
    rw[←HX.out,padL_set L k HKL.out]at this
    exact this
   have HB6:Hid (Below w1.heap.size w1 (w6.setCell ⟨w1.heap.size,k,none⟩ (.slice p6 n6 c6))) :=
    (hbel.out.grown HG6.out HSZ.out (by intro j e;cases e)).setCell (p:=⟨w1.heap.size,k,none⟩) (Nat.le_refl _) (.slice p6 n6 c6)
   clear hcx hfx hcell
   go_roundw
   case rel=>exact⟨k+1,_,by omega,by go_num,HP,HB6⟩
   case measure=>simp[intOf];omega
  ·obtain rfl:k=m:=by omega
   have hls2:=hls.out
   rw[←HM.out,padL_full]at hls2
   obtain⟨g2,cp2,e,hnew⟩:=hls2.new HNE.out
   injection e with e1 e2 e3
   injection e1 with e1
   injection e1 with e1
   subst e1;subst e3
   rw[HM.out]at hnew
   have HNEW:=Lib.hid (hnew.mono HB1.out.size)
   have HBE:=Lib.hid (HB1.out.trans (hbel.out.mono HB1.out.size))
   clear hls hnew e2 hls2
   go_wp2
   go_ret
   exact⟨w1.heap.size,k,by rw[HL.out,HM.out];rfl,by rw[HL.out];exact HNEW.out,HBE.out⟩
set_option maxRecDepth 100000 in
set_option maxHeartbeats 4000000 in
theorem join_at (p : Option Addr) (n cap : Nat) (L : List (List Int)) (X : List Int) (w : World) (hin : LsIn w p L) (hn : Hid (L.length = n)) (hcap : n ≤ cap) (hn2 : n ≤ 1099511627776) (hX : Hid (joinD L = X)) (hl : Hid (X.length ≤ 1099511627776)) :
  Calls Tryz.prog 48 #[.slice p n cap] w (JoiPost X w):=by
 have HI:=Lib.hid hin
 clear hin
 go_enter Tryz.func48,Tryz.ntmps48
 go_wp2
 go_loopw [3,8] (fun u i wr=>∃(k:Nat) (Y:List Int),k≤n∧i = .int .i64 k∧Hid (joinD (L.take k)=Y)∧Hid (Ints wr w.heap.size u Y)∧Hid (Below w.heap.size w wr)) (fun _ i _=>n-(intOf i).toNat)
 case atStart=>exact⟨0,[],Nat.zero_le _,rfl,by simp[Hid,joinD],Ints.nil _ _,Below.refl _ _⟩
 case round =>
  obtain⟨k,Y,hk,rfl,hY,ho,hbel⟩:=hrel
  by_cases hlt:k<n
  ·have hkl:k<L.length:=by rw[hn.out];exact hlt
   obtain⟨b,off,q,c,rfl,hck0,_,hi0⟩:=HI.out k hkl
   obtain⟨x,hx⟩:∃x,L.getD k []=x:=⟨_,rfl⟩
   rw[hx]at hck0 hi0
   obtain⟨nx,hnx⟩:∃nx,x.length=nx:=⟨_,rfl⟩
   rw[hnx]at hck0
   have hck:=(hbel.out.cell (p:=⟨b,off+k,none⟩) (World.block_lt_of_cell? w _ hck0)).trans hck0
   have HQ0:=Lib.hid hi0
   have HQ:=Lib.hid (hi0.below hbel.out)
   have HNX:=Lib.hid hnx
   have HNXT:Hid (L.take (k+1)=L.take k++[x]):=by unfold Hid;rw[take_snocL L k hkl,hx]
   have hle:(joinD (L.take (k+1))).length≤1099511627776:=by
    have h1:=joinD_take L (k+1)
    have h2:=hl.out
    rw[←hX.out]at h2
    omega
   have HLE:=Lib.hid hle
   have HSZ:=Lib.hid hbel.out.size
   clear hx hi0 hck0 hnx hkl hle
   by_cases h0:k=0
   ·have HY0:Hid (Y=[]):=by unfold Hid;rw[←hY.out,h0];simp[joinD]
    have HZ:Hid (joinD (L.take (k+1))=Y++x):=by unfold Hid;rw[HNXT.out,HY0.out,h0];simp[joinD]
    have hk0:¬0<k:=by omega
    have dk0:decide (0<k)=false:=decide_eq_false hk0
    clear h0
    have HLN:Hid (Y.length+x.length≤1099511627776):=by have:=HLE.out;rw[HZ.out,List.length_append]at this;exact this
    go_wp2_with (at_builtin;refine wpList_append_ints (.tmp 18) (.tmp 19) rfl rfl w.heap.size _ Y (by rfl) ho.out q nx c x HNX.out (by rfl) HQ.out (by have:=HLN.out;omega) HSZ.out ?_;intro v5 w5 ho5 hg5)
    have HO5:=Lib.hid ho5
    have HB5:Hid (Below w.heap.size w w5):=hbel.out.grown hg5 HSZ.out (fun j hj=>(World.ownsRow.lt ho.out j hj).1)
    clear ho5 hg5
    go_wp2
    go_roundw
    case rel=>exact⟨k+1,Y++x,by omega,by go_num,HZ,HO5,HB5⟩
    case measure=>simp[intOf];omega
   ·have hk0:0<k:=by omega
    have HZ:Hid (joinD (L.take (k+1))=(Y++[46])++x):=by
     unfold Hid
     rw[HNXT.out,joinD_snoc,if_neg (by
      intro e
      have h1:(L.take k).length=k:=by rw[List.length_take,hn.out];omega
      rw[e]at h1
      simp at h1;omega),hY.out]
     simp
    have HLN:Hid (Y.length+1+x.length≤1099511627776):=by have:=HLE.out;rw[HZ.out,List.length_append,List.length_append]at this;exact this
    clear h0
    go_wp2_with (at_builtin;first
     | (refine wpList_append_ints (.tmp 15) (.tmp 16) rfl rfl w.heap.size _ Y (by rfl) (World.ownsRow.alloc ho.out _) (some ⟨wr.heap.size, 0, none⟩) 1 1 [46] rfl (by rfl) (ints_oneS wr 46) (by have := HLN.out; simp; omega) (by have := HSZ.out; simp; omega) ?_
        intro v4 w4 ho4 hg4
        have HO4:=Lib.hid ho4
        have HB4:Hid (Below w.heap.size w w4):=(hbel.out.alloc HSZ.out _).grown hg4 (by have:=HSZ.out;simp;omega) (fun j hj=>(World.ownsRow.lt ho.out j hj).1)
        have HQ4:=Lib.hid (HQ0.out.below HB4.out)
        have HSZ4:=Lib.hid HB4.out.size
        clear ho4 hg4)
     | (refine wpList_append_ints (.tmp 18) (.tmp 19) rfl rfl w.heap.size v4 (Y ++ [46]) (by rfl) HO4.out q nx c x HNX.out (by rfl) HQ4.out (by have := HLN.out; simp; omega) HSZ4.out ?_
        intro v5 w5 ho5 hg5
        have HO5:=Lib.hid ho5
        have HB5:Hid (Below w.heap.size w w5):=HB4.out.grown hg5 HSZ4.out (fun j hj=>(World.ownsRow.lt HO4.out j hj).1)
        clear ho5 hg5))
    go_roundw
    case rel=>exact⟨k+1,(Y++[46])++x,by omega,by go_num,HZ,HO5,HB5⟩
    case measure=>simp[intOf];omega
  ·obtain rfl:k=n:=by omega
   have HE:Hid (Y=X):=by
    have:=hY.out
    rw[List.take_of_length_le (by rw[hn.out];exact Nat.le_refl _)]at this
    unfold Hid;rw[←this,hX.out]
   have HO5:Hid (Ints wr w.heap.size u3 X):=by rw[←HE.out];exact ho
   go_wp2
   go_ret
   exact⟨_,rfl,HO5.out,hbel.out⟩
end Go.Proofs.YtblcoicaeeiojaaGreatDoor
namespace Go.Proofs.YtblcoicaeeiojaaGreatDoor
open Go Go.RowKit
set_option maxRecDepth 100000 in
set_option maxHeartbeats 4000000 in
theorem nsize_at (p : Option Addr) (n cap t : Nat) (L : List ByteArray) (w : World) (hin : StrIn w p L) (hn : Hid (L.length = n)) (hn1 : 1 ≤ n) (hn2 : n ≤ 127) (hsz : Hid (∀ j, j < n → (L.map ByteArray.size).getD j 0 ≤ 63)) (ht : Hid ((n - 1) + (L.map ByteArray.size).sum = t)) :
  Calls Tryz.prog 180 #[.slice p n cap] w fun e w'=>e = .returned (.int .i64 t)∧w'=w:=by
 have HI:=Lib.hid hin
 clear hin
 obtain⟨n1,hn11⟩:∃n1,n-1=n1:=⟨_,rfl⟩
 have iw:(n:Int)-1=(n1:Int):=by omega
 have hn1b:n1≤126:=by omega
 have HN1:=Lib.hid hn11
 clear hn11
 go_enter Tryz.func180,Tryz.ntmps180
 go_wp2
 go_loopw [3,11] (fun u i wr=>∃(k y:Nat),k≤n∧i = .int .i64 k∧u = .int .i64 y∧y≤n1+63*k∧Hid (y=n1+((L.map ByteArray.size).take k).sum)∧wr=w) (fun _ i _=>n-(intOf i).toNat)
 case atStart=>exact⟨0,n1,Nat.zero_le _,rfl,by go_num,by omega,by simp[Hid],rfl⟩
 case round =>
  obtain⟨k,y,hk,rfl,rfl,hyb,hy,rfl⟩:=hrel
  by_cases hlt:k<n
  ·have hkl:k<L.length:=by rw[hn.out];exact hlt
   obtain⟨b,off,rfl,hck⟩:=HI.out k hkl
   obtain⟨x,hx⟩:∃x,L.getD k ByteArray.empty=x:=⟨_,rfl⟩
   rw[hx]at hck
   have hms:=getD_map_size L k hkl
   rw[hx]at hms
   have hml:k<(L.map ByteArray.size).length:=by simpa using hkl
   have hxs:x.size≤63:=by have:=hsz.out k hlt;rw[hms]at this;exact this
   have HY:Hid (y+x.size=n1+((L.map ByteArray.size).take (k+1)).sum):=by unfold Hid;rw[sum_take_snoc _ _ hml,hms,hy.out];omega
   clear hms hml hkl hx hy
   go_wp2
   go_roundw
   case rel=>exact⟨k+1,y+x.size,by omega,by go_num,by go_num,by omega,HY,by first|rfl|trivial⟩
   case measure=>simp[intOf];omega
  ·obtain rfl:k=n:=by omega
   have HT:Hid (y=t):=by
    have h1:=hy.out
    rw[List.take_of_length_le (by simp[hn.out])]at h1
    have h2:=ht.out
    have h3:=HN1.out
    unfold Hid;omega
   clear hy
   go_wp2
   go_ret
   exact⟨by rw[HT.out];rfl,rfl⟩
set_option maxRecDepth 100000 in
set_option maxHeartbeats 4000000 in
theorem pcheck_at (p : Option Addr) (n cap K : Nat) (E : Int) (L : List ByteArray) (w : World) (hin : StrIn w p L) (hn : Hid (L.length = n)) (hn2 : n ≤ 17592186043904) (hE : Hid (chkD (L.map ByteArray.size) = (K, E))) :
  Calls Tryz.prog 115 #[.slice p n cap] w fun e w'=>e = .returned (.tuple #[.int .i64 K,.int .i64 E])∧w'=w:=by
 have HI:=Lib.hid hin
 clear hin
 by_cases h0:n=0
 ·have hl0:L=[]:=List.eq_nil_of_length_eq_zero (by rw[hn.out];exact h0)
  have hE':=hE.out
  rw[hl0]at hE'
  injection hE' with e1 e2
  subst e1;subst e2;subst h0
  clear hE
  go_enter Tryz.func115,Tryz.ntmps115
  go_wp2
  go_ret2
  exact⟨rfl,rfl⟩
 have d0:((n:Int)==0)=false:=by simp;omega
 have hne:L≠[]:=fun e=>h0 (by rw[←hn.out,e];rfl)
 have HNE:=Lib.hid hne
 have hn1:1≤n:=by omega
 clear h0 hne
 go_enter Tryz.func115,Tryz.ntmps115
 go_wp2
 go_loopw [11] (fun i wr=>∃(k:Nat),k≤n∧i = .int .i64 k∧Hid (∀j,j<k→1≤(L.map ByteArray.size).getD j 0∧(L.map ByteArray.size).getD j 0≤63)∧wr=w) (fun i _=>n-(intOf i).toNat)
 case atStart=>exact⟨0,Nat.zero_le _,rfl,fun j hj=>by omega,rfl⟩
 case round =>
  obtain⟨k,hk,rfl,hg,rfl⟩:=hrel
  by_cases hlt:k<n
  ·have hkl:k<L.length:=by rw[hn.out];exact hlt
   obtain⟨b,off,rfl,hck⟩:=HI.out k hkl
   obtain⟨x,hx⟩:∃x,L.getD k ByteArray.empty=x:=⟨_,rfl⟩
   rw[hx]at hck
   have hms:=getD_map_size L k hkl
   rw[hx]at hms
   have hml:k<(L.map ByteArray.size).length:=by simpa using hkl
   by_cases hx0:x.size=0
   ·have d1:=size_zeroN x hx0
    have HK:Hid (K=k∧E=10):=by
     have:=hE.out
     rw[chkD_at hml hg.out (.inl (by rw[hms];exact hx0)),hms,if_pos hx0]at this
     injection this with e1 e2
     exact⟨e1.symm,e2.symm⟩
    obtain⟨e1,e2⟩:=HK.out
    subst e1;subst e2
    clear hE HK hms hml hkl hx hx0
    go_wp2
    go_ret2
    exact⟨rfl,rfl⟩
   ·have d1:=size_posN x hx0
    by_cases hx63:63<x.size
    ·have HK:Hid (K=k∧E=11):=by
      have:=hE.out
      rw[chkD_at hml hg.out (.inr (by rw[hms];exact hx63)),hms,if_neg hx0]at this
      injection this with e1 e2
      exact⟨e1.symm,e2.symm⟩
     obtain⟨e1,e2⟩:=HK.out
     subst e1;subst e2
     clear hE HK hms hml hkl hx hx0
     go_wp2
     go_ret2
     exact⟨rfl,rfl⟩
    ·have HG:Hid (∀j,j<k+1→1≤(L.map ByteArray.size).getD j 0∧(L.map ByteArray.size).getD j 0≤63):=fun j hj=>by
      by_cases e:j=k
      ·subst e;rw[hms];omega
      ·exact hg.out j (by omega)
     clear hms hml hkl hx hx0 hg
     go_wp2
     go_roundw
     case rel=>exact⟨k+1,by omega,by go_num,HG,by first|rfl|trivial⟩
     case measure=>simp[intOf];omega
  ·obtain rfl:k=n:=by omega
   obtain⟨t,ht⟩:∃t,(k-1)+(L.map ByteArray.size).sum=t:=⟨_,rfl⟩
   have HK:Hid ((127<k∨253<t)∧K=0∧E=11∨¬(127<k∨253<t)∧K=0∧E=0):=by
    have h1:=hE.out
    rw[chkD_end (by simpa using HNE.out) (fun j hj=>hg.out j (by simpa[hn.out] using hj)),List.length_map,hn.out]at h1
    by_cases hc:127<k∨253<(L.map ByteArray.size).sum+(k-1)
    ·rw[if_pos hc]at h1
     injection h1 with e1 e2
     exact .inl ⟨by omega,e1.symm,e2.symm⟩
    ·rw[if_neg hc]at h1
     injection h1 with e1 e2
     exact .inr ⟨by omega,e1.symm,e2.symm⟩
   have HSZ:Hid (∀j,j<k→(L.map ByteArray.size).getD j 0≤63):=fun j hj=>(hg.out j hj).2
   have HT:=Lib.hid ht
   clear hE hg ht
   by_cases h127:127<k
   ·obtain⟨e1,e2⟩:K=0∧E=11:=by
     rcases HK.out with⟨_,e1,e2⟩|⟨hc,_⟩
     ·exact⟨e1,e2⟩
     ·exact absurd (.inl h127) hc
    subst e1;subst e2
    clear HK
    go_wp2
    go_ret2
    exact⟨rfl,rfl⟩
   ·go_wp2_with fail
    refine(nsize_at p k cap t L _ HI.out hn hn1 (by omega) HSZ HT).mono ?_
    rintro e w2 ⟨rfl,rfl⟩
    by_cases h253:253<t
    ·obtain⟨e1,e2⟩:K=0∧E=11:=by
      rcases HK.out with⟨_,e1,e2⟩|⟨hc,_⟩
      ·exact⟨e1,e2⟩
      ·exact absurd (.inr h253) hc
     subst e1;subst e2
     clear HK
     go_wp2
     go_ret2
     exact⟨rfl,rfl⟩
    ·obtain⟨e1,e2⟩:K=0∧E=0:=by
      rcases HK.out with⟨hc,_⟩|⟨_,e1,e2⟩
      ·exact absurd hc (by omega)
      ·exact⟨e1,e2⟩
     subst e1;subst e2
     clear HK
     go_wp2
     go_ret2
     exact⟨rfl,rfl⟩
set_option maxHeartbeats 2000000 in
set_option maxRecDepth 100000 in
theorem bwbyte_any (B b : Nat) (bs : List Value) (c : Int) (w : World) (h : IsBld B b bs w) (hlen : bs.length + 1 ≤ 1099511627776) (hBw : B ≤ w.heap.size) :
  Calls Tryz.prog 116 #[.pointer (some ⟨b,0,none⟩),.int .u8 c] w fun e w'=>(∃v,e = .returned v)∧BldAt B b (.pointer (some ⟨b,0,none⟩)) (bs++[.int .u8 c]) w'∧Below B w w':=by
 obtain⟨i0,hi,hz0,hz1,hz2⟩:=info_parts Tryz.infoByte
 go_enter Tryz.func116,Tryz.ntmps116
 go_wp2_with fail
 refine(bcheck_any B b bs _ h).mono ?_
 rintro e w1 ⟨rfl,h1,hb1⟩
 obtain⟨hB,v,hbk,hown,hne⟩:=h1
 have c0:w1.cell? ⟨b,0,none⟩=some (.pointer (some ⟨b,0,none⟩)):=by rw[Lib.cell_of_heap hbk];rfl
 have c1:w1.cell? ⟨b,1,none⟩=some v:=by rw[Lib.cell_of_heap hbk];rfl
 have hlt:b<w1.heap.size:=by
  rcases Nat.lt_or_ge b w1.heap.size with h'|h'
  ·exact h'
  ·simp[Array.getElem?_eq_none h']at hbk
 have HOWN:=Lib.hid hown
 have HSZ:=Lib.hid (show B≤w1.heap.size from Nat.le_trans hBw hb1.size)
 go_wp2_with (at_builtin;first
  | (refine wpList_append_own_at _ rfl _ _ 47 rfl B 5 i0 (.int .u8 0) 1 1 Tryz.underlying47 hi hz0 hz1 hz2 rfl (by decide) v bs.length bs rfl (World.ownsRow.alloc HOWN.out (.cells #[.int .u8 c] 5)) ⟨_, 0, none⟩ 1 1 [.int .u8 c] rfl rfl (cell_one_new _ _ _) (by intro u hu; simp at hu; subst hu; rfl) (by unfold maxLen; omega) (by omega) (by have := HSZ.out; simp; omega) ?_
     intro v' w2 hown' hgrow _ _
     have hgr:w1.grownBy w2 v.ownBlock:=(World.grownBy_alloc w1 (.cells #[.int .u8 c] 5) v.ownBlock).trans hgrow
     have hb2:w2.heap[b]? = some (.cells #[.pointer (some ⟨b,0,none⟩),v] 118 (0,0)):=by
      rw[hgr.block b hlt (fun e=>hne e.symm)]
      exact hbk
     have d0:w2.cell? ⟨b,0,none⟩=some (.pointer (some ⟨b,0,none⟩)):=by rw[Lib.cell_of_heap hb2];rfl
     have d1:w2.cell? ⟨b,1,none⟩=some v:=by rw[Lib.cell_of_heap hb2];rfl
     have f1:w2.frozen? ⟨b,1,none⟩=false:=Lib.frozen_of_heap hb2 1
     obtain⟨ao,n',cap,rfl⟩:∃ao n' cap,v' = .slice ao n' cap:=by
      rcases hown'.2 with⟨hv,_⟩|⟨g,cap,cur,hv,_⟩
      ·exact⟨_,_,_,hv⟩
      ·exact⟨_,_,_,hv⟩))
 go_wp2
 go_ret
 refine⟨⟨_,rfl⟩,?_,?_⟩
 ·exact Lib.BuilderAt.put (T:=118) (e:=5) hB hb2 (bs':=bs++[.int .u8 c]) (by simpa using hown') (by decide)
 ·exact(hb1.grown hgr (by have:=hb1.size;omega) (fun k hk=>(hown.lt k hk).1)).setCell (p:=⟨b,1,none⟩) hB _
theorem cells_dot (T:ByteArray):Lib.strCells (T++ByteArray.mk #[46])=Lib.strCells T++[.int .u8 46]:=by simp[Lib.strCells,Lib.byteCells]
theorem cells_appendS (a b:ByteArray):Lib.strCells (a++b)=Lib.strCells a++Lib.strCells b:=by simp[Lib.strCells]
set_option maxRecDepth 100000 in
set_option maxHeartbeats 4000000 in
theorem name_at (p : Option Addr) (n cap : Nat) (S : ByteArray) (E : Int) (L : List ByteArray) (w : World) (hin : StrIn w p L) (hn : Hid (L.length = n)) (hcap : n ≤ cap) (hn2 : n ≤ 17592186043904) (hE : Hid (nameE L = (S, E))) :
  Calls Tryz.prog 73 #[.slice p n cap] w fun e w'=>e = .returned (.tuple #[.string S,.int .i64 E])∧Below w.heap.size w w':=by
 obtain⟨K,F,hKF⟩:∃K F,chkD (L.map ByteArray.size)=(K,F):=⟨_,_,rfl⟩
 have HKF:=Lib.hid hKF
 have HI:=Lib.hid hin
 have hE':=hE.out
 unfold nameE at hE'
 rw[hKF]at hE'
 simp only at hE'
 clear hin
 by_cases hF:F=0
 ·subst hF
  rw[if_neg (by simp)]at hE'
  injection hE' with e1 e2
  subst e2
  have HS:=Lib.hid e1
  have hb:=chkD_ok (by rw[hKF]:(chkD (L.map ByteArray.size)).2=0)
  have hnz:(nameB L).size≤253:=by
   rw[nameB_size]
   have:=hb.2.2.2
   simpa using this
  have hn1:1≤(nameB L).size:=by
   cases hL:L with
   | nil=>rw[hL]at hb;simp at hb
   | cons x t =>
    have h1:=(hb.2.1 x.size (by rw[hL];simp)).1
    rw[nameB_size]
    simp;omega
  have HNZ:=Lib.hid hnz
  have HN1:=Lib.hid hn1
  clear hE hKF hb hnz e1 hn1
  go_enter Tryz.func73,Tryz.ntmps73
  go_wp2_with (go_at_call 115;refine(pcheck_at p n cap K 0 L _ HI.out hn hn2 HKF).mono ?_;rintro e w5 ⟨rfl,rfl⟩)
  have HBD:Hid (IsBld w5.heap.size w5.heap.size (Lib.strCells ByteArray.empty) (w5.alloc (.cells #[.pointer none,.slice none 0 0] 118))):=Lib.fresh_isBuilder _ _ w5
  have HBL:=Lib.hid ((Below.refl w5.heap.size w5).alloc (Nat.le_refl _) (.cells #[.pointer none,.slice none 0 0] 118))
  go_loopw [19] (fun i wr=>∃(k:Nat) (T:ByteArray),k≤n∧i = .int .i64 k∧T.size≤253∧Hid (nameB (L.take k)=T)∧Hid (IsBld w5.heap.size w5.heap.size (Lib.strCells T) wr)∧Hid (Below w5.heap.size w5 wr)) (fun i _=>n-(intOf i).toNat)
  case atStart=>exact⟨0,ByteArray.empty,Nat.zero_le _,rfl,by decide,by simp[Hid,nameB_nil],HBD,HBL⟩
  case round =>
   clear HBD HBL
   obtain⟨k,T,hk,rfl,hT,hTe,hbd,hbel⟩:=hrel
   have HSZ:=Lib.hid hbel.out.size
   by_cases hlt:k<n
   ·have hkl:k<L.length:=by rw[hn.out];exact hlt
    obtain⟨b,off,rfl,hck0⟩:=HI.out k hkl
    obtain⟨x,hx⟩:∃x,L.getD k ByteArray.empty=x:=⟨_,rfl⟩
    rw[hx]at hck0
    have hck:=(hbel.out.cell (p:=⟨b,off+k,none⟩) (World.block_lt_of_cell? w5 _ hck0)).trans hck0
    have hsn:=nameB_snoc (L.take k) x
    rw[←hx,←take_snocB L k hkl,hTe.out,hx]at hsn
    have hsz:=Nat.le_trans (name_takeS L (k+1)) HNZ.out
    by_cases h0:k=0
    ·have HT:Hid (nameB (L.take (k+1))=T++x):=by
      unfold Hid
      rw[hsn,if_pos (by rw[h0];simp)]
      have:T=ByteArray.empty:=by rw[←hTe.out,h0];simp[nameB_nil]
      rw[this,ByteArray.empty_append]
     have HTZ:Hid ((T++x).size≤253):=by unfold Hid;rw[←HT.out];exact hsz
     have HTS:Hid (T.size+x.size≤253):=by have:=HTZ.out;rw[ByteArray.size_append]at this;exact this
     have hk0:¬0<k:=by omega
     have dk0:decide (0<k)=false:=decide_eq_false hk0
     clear h0 hsn hsz hx hkl hTe hck0
     go_wp2_with fail
     refine(bwrite_any w5.heap.size w5.heap.size (Lib.strCells T) x _ hbd.out (by rw[Lib.strCells_length];have:=HTS.out;omega) HSZ.out).mono ?_
     rintro e w6 ⟨rfl,h1,h2⟩
     have HB6:Hid (IsBld w5.heap.size w5.heap.size (Lib.strCells (T++x)) w6):=by unfold Hid;rw[cells_appendS];exact .inr h1
     have HL6:=Lib.hid (hbel.out.trans h2)
     clear h1 h2 hck
     go_wp2
     go_roundw
     case rel=>exact⟨k+1,T++x,by omega,by go_num,HTZ.out,HT,HB6,HL6⟩
     case measure=>simp[intOf];omega
    ·have HT:Hid (nameB (L.take (k+1))=(T++ByteArray.mk #[46])++x):=by
      unfold Hid
      rw[hsn,if_neg (by
       intro e
       have h1:(L.take k).length=k:=by rw[List.length_take,hn.out];omega
       rw[e]at h1
       simp at h1;omega)]
     have HTZ:Hid (((T++ByteArray.mk #[46])++x).size≤253):=by unfold Hid;rw[←HT.out];exact hsz
     have HTS:Hid (T.size+1+x.size≤253):=by have:=HTZ.out;rw[ByteArray.size_append,ByteArray.size_append]at this;exact this
     have HTS1:Hid ((T++ByteArray.mk #[46]).size=T.size+1):=by unfold Hid;rw[ByteArray.size_append];rfl
     have hk0:0<k:=by omega
     clear h0 hsn hsz hx hkl hTe hck0
     go_wp2_with fail
     refine(bwbyte_any w5.heap.size w5.heap.size (Lib.strCells T) 46 _ hbd.out (by rw[Lib.strCells_length];omega) HSZ.out).mono ?_
     rintro e w6 ⟨⟨v6,rfl⟩,h1,h2⟩
     have HB6:Hid (IsBld w5.heap.size w5.heap.size (Lib.strCells (T++ByteArray.mk #[46])) w6):=by unfold Hid;rw[cells_dot];exact .inr h1
     have HL6:=Lib.hid (hbel.out.trans h2)
     have HS6:=Lib.hid HL6.out.size
     clear h1 h2 hck
     go_wp2_with fail
     refine(bwrite_any w5.heap.size w5.heap.size (Lib.strCells (T++ByteArray.mk #[46])) x _ HB6.out (by rw[Lib.strCells_length,HTS1.out];have:=HTS.out;omega) HS6.out).mono ?_
     rintro e w7 ⟨rfl,h1,h2⟩
     have HB7:Hid (IsBld w5.heap.size w5.heap.size (Lib.strCells ((T++ByteArray.mk #[46])++x)) w7):=by unfold Hid;rw[cells_appendS];exact .inr h1
     have HL7:=Lib.hid (HL6.out.trans h2)
     clear h1 h2
     go_wp2
     go_roundw
     case rel=>exact⟨k+1,(T++ByteArray.mk #[46])++x,by omega,by go_num,HTZ.out,HT,HB7,HL7⟩
     case measure=>simp[intOf];omega
   ·obtain rfl:k=n:=by omega
    have HTE:Hid (T=S):=by
     have:=hTe.out
     rw[List.take_of_length_le (by rw[hn.out];exact Nat.le_refl _)]at this
     unfold Hid;rw[←this,HS.out]
    have HSZ1:Hid (S.size≠0):=by unfold Hid;rw[←HS.out];have:=HN1.out;omega
    have HBS:Hid (IsBld w5.heap.size w5.heap.size (Lib.strCells S) wr):=by rw[←HTE.out];exact hbd
    clear hTe hbd
    go_wp2_with fail
    refine(bstring_any w5.heap.size w5.heap.size S.data.toList _ HBS.out (by
     intro e
     apply HSZ1.out
     rw[←ByteArray.size_data,←Array.length_toList,e];rfl)).mono ?_
    rintro e w7 ⟨rfl,h2⟩
    have HL7:=Lib.hid (hbel.out.trans h2)
    clear h2
    go_wp2
    go_ret2
    exact⟨by simp,HL7.out⟩
 ·rw[if_pos hF]at hE'
  injection hE' with e1 e2
  subst e1;subst e2
  have d1:(F !=0)=true:=by simp[hF]
  clear hE hKF hF
  go_enter Tryz.func73,Tryz.ntmps73
  go_wp2_with (go_at_call 115;refine(pcheck_at p n cap K F L _ HI.out hn hn2 HKF).mono ?_;rintro e w5 ⟨rfl,rfl⟩)
  go_ret2
  exact⟨rfl,Below.refl _ _⟩
end Go.Proofs.YtblcoicaeeiojaaGreatDoor
