/- puny: the encoder's parts: basicBytes, startState, stepsTo,  -/
import Derived.Test.YtblcoicaeeiojaaGreatDoorSSiPmPunA
import Derived.Test.YtblcoicaeeiojaaGreatDoorSSiPmPunSrt
import Derived.Test.YtblcoicaeeiojaaGreatDoorSSiPmRanChk
import Derived.Test.YtblcoicaeeiojaaGreatDoorSSiPmPunSrtA
import Derived.StillTailTactics
import Derived.Deep.DeepCutAuto
set_option linter.unusedSimpArgs false
set_option linter.unusedVariables false
namespace Go.Proofs.YtblcoicaeeiojaaGreatDoor
open Go.RowKit
theorem pun_step {w w1 w2:World} {row row2:Option Nat} (h:w.grownBy w1 row) (k:w1.grownBy w2 row2) (hr:∀b,b<w.heap.size→row≠some b→row2≠some b):w.grownBy w2 row :=
 ⟨k.os.trans h.os,k.tape.trans h.tape,k.output.trans h.output,Nat.le_trans h.size k.size,fun i hi hne =>
  (k.block i (Nat.lt_of_lt_of_le hi h.size) (fun e=>hr i hi (fun e2=>hne e2.symm) e.symm)).trans (h.block i hi hne)⟩
theorem pun_off {a b c:Option Nat} {m n:Nat} (h:∀i,i<m→a≠some i→b≠some i) (k:∀i,i<n→b≠some i→c≠some i) (hmn:m≤n):∀i,i<m→a≠some i→c≠some i :=
 fun i hi hne=>k i (Nat.lt_of_lt_of_le hi hmn) (h i hi hne)
theorem pun_refl (w:World) (row:Option Nat):w.grownBy w row:=⟨rfl,rfl,rfl,Nat.le_refl _,fun _ _ _=>rfl⟩
theorem pun_make_rowN {P : Program} (t e : TypeId) (i : TypeInfo) (z : Value) (ht : P.underlying t = some (.slice e)) (hi : P.info? e = some i) (hz : i.zero = some z)
  (kl kc:IntKind) (n c:Nat) (hnc:n≤c) (hbytes:i.bytes*c≤281474976710656) (h63:c≤9223372036854775807) (w:World) :
  (Instr.makeSlice t (.int kl (n:Int)) (.int kc (c:Int))).run P w = .ok (.slice (some ⟨w.heap.size,0,none⟩) n c) (w.alloc (.cells (madeCells z.cells (c*i.size)) e)):=by
 have hb:(i.bytes:Int)*(c:Int)≤281474976710656:=by
  have h:((i.bytes*c:Nat):Int)≤281474976710656:=by omega
  rwa[Int.natCast_mul]at h
 have hr:=run_make (P:=P) w t e i z ht hi hz kl kc n c (by omega) (by omega) hb (by omega)
 simp only[Int.toNat_natCast]at hr
 exact hr
def madeBytes (c:Nat):Obj := .cells (madeCells (Value.cells (.int .u8 0)) (c*1)) 5
theorem run_make_bytes (c : Nat) (hc : c ≤ 4194304) (w : World) :
  (Instr.makeSlice 47 (.int .i64 0) (.int .i64 (c:Int))).run Tryz.prog w = .ok (.slice (some ⟨w.heap.size,0,none⟩) 0 c) (w.alloc (madeBytes c)):=by
 obtain⟨i0,hi,hz0,hz1,hz2⟩:=info_parts Tryz.info5
 have h:=pun_make_rowN (P:=Tryz.prog) 47 5 i0 _ Tryz.underlying47 hi hz0 .i64 .i64 0 c (Nat.zero_le _) (by rw[hz2];omega) (by omega) w
 rw[hz1]at h
 exact h
theorem OwnB.made (w:World) (B c:Nat) (hB:B≤w.heap.size) (hc:c≤4194304):OwnB (w.alloc (madeBytes c)) B (.slice (some ⟨w.heap.size,0,none⟩) 0 c) []:=by
 have h:(w.alloc (madeBytes c)).ownsRow B 5 1 (.slice (some ⟨w.heap.size,0,none⟩) 0 c) 0 []:=World.ownsRow_made w _ c hB (by unfold maxLen;omega) (size_madeCells _ _)
 obtain⟨h1,h2⟩:=h
 rcases h2 with⟨e,_⟩|⟨g,cap,cur,e,hb,hg,hn,hc2,hs,ht⟩
 ·cases e
 ·cases e
  exact⟨w.heap.size,c,cur,(0,0),rfl,hb,hg,.inr rfl,Nat.zero_le _,hc2,by simpa using hs,by simp⟩
theorem basS_snoc (l:List Int):∀(k:Nat),k<l.length→basS (l.take (k+1))=basS (l.take k)++(if basB (l.getD k 0)=true then [l.getD k 0]else []):=by
 intro k hk
 have e:l.take (k+1)=l.take k++[l.getD k 0]:=take_snoc_int l k hk
 have happ:∀(a b:List Int),basS (a++b)=basS a++basS b:=by
  intro a b
  unfold basS basF
  induction a with
  | nil=>simp[placed]
  | cons c a ih =>
   simp only[List.cons_append,List.map_cons,placed]
   rw[ih]
   split<;>simp
 rw[e,happ]
 congr 1
def BytPost (w:World) (xs:List Int) (e:Ending) (w':World):Prop :=
 ∃v,e = .returned v∧OwnB w' w.heap.size v xs∧Below w.heap.size w w'
set_option maxHeartbeats 2000000 in
theorem basic_at (p : Option Addr) (n cap : Nat) (l X : List Int) (w : World) (hin : IntsIn w p l) (hn : Hid (l.length = n)) (hn2 : n ≤ 4096) (hs : Hid (∀ c ∈ l, scpB c = true)) (hX : Hid (basS l = X)) :
  Calls Tryz.prog 173 #[.slice p n cap] w (BytPost w X):=by
 have HI:=Lib.hid hin
 have hmk:=run_make_bytes (n+1) (by omega)
 have HO0:=Lib.hid (OwnB.made w w.heap.size (n+1) (Nat.le_refl _) (by omega))
 have HB0:=Lib.hid ((Below.refl w.heap.size w).alloc (Nat.le_refl _) (madeBytes (n+1)))
 have hcs:((n+1:Nat):Int)=(n:Int)+1:=by omega
 rw[hcs]at hmk
 clear hin hcs
 go_enter Tryz.func173,Tryz.ntmps173
 go_wp2
 go_loopw [3,12] (fun vv u wr=>∃k:Nat,u = .int .i64 k∧k≤n∧Hid (OwnB wr w.heap.size vv (basS (l.take k)))∧Hid (Below w.heap.size w wr)) (fun _ u _=>n-(intOf u).toNat)
 case atStart=>exact⟨0,rfl,Nat.zero_le _,HO0,HB0⟩
 case round =>
  obtain⟨k,rfl,hk,ho,hb⟩:=hrel
  by_cases hlt:k<n
  ·have hkl:k<l.length:=by rw[hn.out];exact hlt
   obtain⟨b,off,rfl,hck⟩:=(HI.out.below hb.out) k hkl
   obtain⟨x,hx⟩:∃x,l.getD k 0=x:=⟨_,rfl⟩
   have hxs:scpB x=true:=by rw[←hx];exact hs.out _ (by simp[hkl])
   have hxb:=scp_bd hxs
   have HSN:=Lib.hid (basS_snoc l k hkl)
   rw[hx]at hck HSN
   clear hx hkl hxs
   cases hbs:basB x with
   | true =>
    have HBB:=Lib.hid hbs
    have hx128:x<128:=by unfold basB at hbs;exact of_decide_eq_true hbs
    rw[hbs]at HSN
    have hw8:IntKind.u8.wrap x=x:=by rw[IntKind.wrap_u8];omega
    have HL:Hid ((basS (l.take k)).length+1≤140737490452480):=by
     have:=placed_len (l.take k) (basF (l.take k))
     have h2:(l.take k).length≤k:=by simp;omega
     unfold Hid;unfold basS;omega
    have HW:=Lib.hid hb.out.size
    clear hbs hxb hx128
    go_wp2_with (first
     | (go_at_call 243;refine(isbasic_at x true _ HBB).mono ?_;rintro e w1 ⟨rfl,rfl⟩)
     | (at_builtin;refine wpList_append_byte rfl _ _ rfl w.heap.size _ (basS (l.take k)) rfl ho.out x 1 _ rfl rfl HL.out HW.out ?_;intro v1 w2 ho1 hg1 hf1))
    have HO1:Hid (OwnB w2 w.heap.size v1 (basS (l.take (k+1)))):=by unfold Hid;rw[HSN.out];exact ho1
    have HB1:Hid (Below w.heap.size w w2):=hb.out.grown hg1 HW.out (fun j hj=>ho.out.base j hj)
    clear ho1 hg1 hf1
    go_wp2
    go_roundw
    case rel=>exact⟨k+1,by go_num,by omega,HO1,HB1⟩
    case measure=>simp[intOf];omega
   | false =>
    have HBB:=Lib.hid hbs
    rw[hbs]at HSN
    have HO1:Hid (OwnB wr w.heap.size u3 (basS (l.take (k+1)))):=by unfold Hid;rw[HSN.out];simpa using ho.out
    clear hbs
    go_wp2_with (go_at_call 243;refine(isbasic_at x false _ HBB).mono ?_;rintro e w1 ⟨rfl,rfl⟩)
    go_roundw
    case rel=>exact⟨k+1,by go_num,by omega,HO1,hb.out⟩
    case measure=>simp[intOf];omega
  ·obtain rfl:k=n:=by omega
   have HO1:Hid (OwnB wr w.heap.size u3 X):=by
    have:=ho.out
    rw[List.take_of_length_le (by rw[hn.out];exact Nat.le_refl _),hX.out]at this
    exact this
   go_wp2
   go_ret
   exact⟨_,rfl,HO1.out,hb.out⟩
def F5 (w:World) (g:Nat) (v0 v1 v2 v3 v4:Value):Prop :=
 w.cell? ⟨g,0,none⟩=some v0∧w.cell? ⟨g,1,none⟩=some v1∧w.cell? ⟨g,2,none⟩=some v2∧w.cell? ⟨g,3,none⟩=some v3∧w.cell? ⟨g,4,none⟩=some v4∧(∀k,w.frozen? ⟨g,k,none⟩=false)∧g<w.heap.size
theorem F5.grown {w w':World} {g:Nat} {v0 v1 v2 v3 v4:Value} {row:Option Nat} (h:F5 w g v0 v1 v2 v3 v4) (hg:w.grownBy w' row) (hne:row≠some g):F5 w' g v0 v1 v2 v3 v4:=by
 obtain⟨h0,h1,h2,h3,h4,hf,hl⟩:=h
 exact⟨hg.cell h0 (Ne.symm hne),hg.cell h1 (Ne.symm hne),hg.cell h2 (Ne.symm hne),hg.cell h3 (Ne.symm hne),hg.cell h4 (Ne.symm hne),fun k=>(World.frozen?_of_block (hg.block g hl (Ne.symm hne))).trans (hf k),Nat.lt_of_lt_of_le hl hg.size⟩
theorem F5.drewN {w:World} {g:Nat} {v0 v1 v2 v3 v4:Value} (h:F5 w g v0 v1 v2 v3 v4) (n:Nat):F5 (w.drewN n) g v0 v1 v2 v3 v4:=h
theorem F5.drew {w:World} {g:Nat} {v0 v1 v2 v3 v4:Value} (h:F5 w g v0 v1 v2 v3 v4):F5 w.drew g v0 v1 v2 v3 v4:=h
theorem F5.set0 {w:World} {g:Nat} {v0 v1 v2 v3 v4:Value} (h:F5 w g v0 v1 v2 v3 v4) (v:Value):F5 (w.setCell ⟨g,0,none⟩ v) g v v1 v2 v3 v4:=by
 obtain⟨h0,h1,h2,h3,h4,hf,hl⟩:=h
 exact⟨World.cell?_setCell_same _ _ _ h0,(World.cell?_setCell_other _ _ _ _ (by simp)).trans h1,(World.cell?_setCell_other _ _ _ _ (by simp)).trans h2,(World.cell?_setCell_other _ _ _ _ (by simp)).trans h3,(World.cell?_setCell_other _ _ _ _ (by simp)).trans h4,fun k=>(World.frozen?_setCell _ _ _ _).trans (hf k),by simpa[World.setCell] using hl⟩
theorem F5.set1 {w:World} {g:Nat} {v0 v1 v2 v3 v4:Value} (h:F5 w g v0 v1 v2 v3 v4) (v:Value):F5 (w.setCell ⟨g,1,none⟩ v) g v0 v v2 v3 v4:=by
 obtain⟨h0,h1,h2,h3,h4,hf,hl⟩:=h
 exact⟨(World.cell?_setCell_other _ _ _ _ (by simp)).trans h0,World.cell?_setCell_same _ _ _ h1,(World.cell?_setCell_other _ _ _ _ (by simp)).trans h2,(World.cell?_setCell_other _ _ _ _ (by simp)).trans h3,(World.cell?_setCell_other _ _ _ _ (by simp)).trans h4,fun k=>(World.frozen?_setCell _ _ _ _).trans (hf k),by simpa[World.setCell] using hl⟩
theorem F5.set2 {w:World} {g:Nat} {v0 v1 v2 v3 v4:Value} (h:F5 w g v0 v1 v2 v3 v4) (v:Value):F5 (w.setCell ⟨g,2,none⟩ v) g v0 v1 v v3 v4:=by
 obtain⟨h0,h1,h2,h3,h4,hf,hl⟩:=h
 exact⟨(World.cell?_setCell_other _ _ _ _ (by simp)).trans h0,(World.cell?_setCell_other _ _ _ _ (by simp)).trans h1,World.cell?_setCell_same _ _ _ h2,(World.cell?_setCell_other _ _ _ _ (by simp)).trans h3,(World.cell?_setCell_other _ _ _ _ (by simp)).trans h4,fun k=>(World.frozen?_setCell _ _ _ _).trans (hf k),by simpa[World.setCell] using hl⟩
theorem F5.set3 {w:World} {g:Nat} {v0 v1 v2 v3 v4:Value} (h:F5 w g v0 v1 v2 v3 v4) (v:Value):F5 (w.setCell ⟨g,3,none⟩ v) g v0 v1 v2 v v4:=by
 obtain⟨h0,h1,h2,h3,h4,hf,hl⟩:=h
 exact⟨(World.cell?_setCell_other _ _ _ _ (by simp)).trans h0,(World.cell?_setCell_other _ _ _ _ (by simp)).trans h1,(World.cell?_setCell_other _ _ _ _ (by simp)).trans h2,World.cell?_setCell_same _ _ _ h3,(World.cell?_setCell_other _ _ _ _ (by simp)).trans h4,fun k=>(World.frozen?_setCell _ _ _ _).trans (hf k),by simpa[World.setCell] using hl⟩
theorem F5.set4 {w:World} {g:Nat} {v0 v1 v2 v3 v4:Value} (h:F5 w g v0 v1 v2 v3 v4) (v:Value):F5 (w.setCell ⟨g,4,none⟩ v) g v0 v1 v2 v3 v:=by
 obtain⟨h0,h1,h2,h3,h4,hf,hl⟩:=h
 exact⟨(World.cell?_setCell_other _ _ _ _ (by simp)).trans h0,(World.cell?_setCell_other _ _ _ _ (by simp)).trans h1,(World.cell?_setCell_other _ _ _ _ (by simp)).trans h2,(World.cell?_setCell_other _ _ _ _ (by simp)).trans h3,World.cell?_setCell_same _ _ _ h4,fun k=>(World.frozen?_setCell _ _ _ _).trans (hf k),by simpa[World.setCell] using hl⟩
theorem F5.new (w:World) (v0 v1 v2 v3 v4:Value) (ty:TypeId):F5 (w.alloc (.cells #[v0,v1,v2,v3,v4] ty)) w.heap.size v0 v1 v2 v3 v4:=by
 refine⟨?_,?_,?_,?_,?_,fun k=>?_,?_⟩<;>simp[World.cell?_alloc_new]
def StB (w:World) (g:Nat) (n:Int) (i P b:Nat) (later:Bool):Prop:=F5 w g (.int .i64 n) (.int .i64 i) (.int .i64 P) (.int .i64 b) (.bool later)
theorem start_at (P:Nat) (w:World):Calls Tryz.prog 174 #[.int .i64 P] w fun e w'=>e = .returned (.agg #[.int .i64 128,.int .i64 0,.int .i64 P,.int .i64 72,.bool false])∧Below w.heap.size w w':=by
 go_enter Tryz.func174,Tryz.ntmps174
 go_wp2
 refine bodyPost_ret (results_cell_row rfl _ _ w.heap.size _ _ _ _ rfl (heap_alloc_new _ _) Tryz.underlying155 rfl (by kernel_rfl)) rfl ?_
 exact⟨rfl,(Below.refl _ _).alloc (Nat.le_refl _) _⟩
set_option maxHeartbeats 1000000 in
theorem steps_at (g : Nat) (n : Int) (i P b : Nat) (later : Bool) (c : Int) (j : Nat) (v : Int) (w : World) (hs : StB w g n i P b later) (hP : P ≤ 4096) (hn0 : 0 ≤ n) (hn1 : n ≤ 1114111) (hc0 : 0 ≤ c) (hc1 : c ≤ 1114111) (hi : i ≤ 4096) (hj : j ≤ 4096) (hv : Hid ((c - n) * ((P : Int) + 1) + j - i = v)) :
  Calls Tryz.prog 176 #[.pointer (some ⟨g,0,none⟩),.int .i64 c,.int .i64 j] w fun e w'=>e = .returned (.int .i64 v)∧∃q,w'=w.drewN q:=by
 obtain⟨h0,h1,h2,h3,h4,hf,hl⟩:=hs
 have hm : -4564517778≤(c-n)*((P:Int)+1)∧(c-n)*((P:Int)+1)≤4564517778:=by
  have e:(c-n).natAbs*(P+1)≤1114111*4097:=Nat.mul_le_mul (by omega) (by omega)
  have e2:((c-n)*((P:Int)+1)).natAbs=(c-n).natAbs*(P+1):=by
   rw[Int.natAbs_mul];congr 1
  omega
 obtain⟨M,hM⟩:∃M,(c-n)*((P:Int)+1)=M:=⟨_,rfl⟩
 rw[hM]at hm
 have hv2:M+j-i=v:=by rw[←hM];exact hv.out
 have w1:IntKind.i64.wrap (c-n)=c-n:=IntWalk.i64_in _ (by omega)
 have w2:IntKind.i64.wrap ((P:Int)+1)=(P:Int)+1:=IntWalk.i64_in _ (by omega)
 have w3:IntKind.i64.wrap ((c-n)*((P:Int)+1))=M:=by rw[hM];exact IntWalk.i64_in _ (by omega)
 have w4:IntKind.i64.wrap (M+(j:Int))=M+j:=IntWalk.i64_in _ (by omega)
 have w5:IntKind.i64.wrap (M+(j:Int)-(i:Int))=v:=by rw[IntWalk.i64_in _ (by omega)];exact hv2
 clear hv2 hM hv hm
 go_enter Tryz.func176,Tryz.ntmps176
 go_wp2
 go_quiet (fail)
 go_wp2
 go_ret
 exact⟨rfl,_,rfl⟩
set_option maxHeartbeats 1000000 in
theorem placedb_at (p : Option Addr) (n cap a P : Nat) (l : List Int) (w : World) (hin : IntsIn w p l) (hn : Hid (l.length = n)) (hn2 : n ≤ 1099511627776) (hcap : n ≤ cap) (ha : a < n) (hP : Hid (pbL l a = P)) :
  Calls Tryz.prog 177 #[.slice p n cap,.int .i64 a] w fun e w'=>e = .returned (.int .i64 P)∧∃q,w'=w.drewN q:=by
 have HI:=Lib.hid hin
 obtain⟨b,off,rfl,hca⟩:=hin a (by rw[hn.out];exact ha)
 obtain⟨y,hy⟩:∃y,l.getD a 0=y:=⟨_,rfl⟩
 rw[hy]at hca
 have hac:a≤cap:=by omega
 have HP:Hid (cntLe y (l.take a)=P):=by unfold Hid;rw[←hy];exact hP.out
 clear hin hy
 go_enter Tryz.func177,Tryz.ntmps177
 go_wp2
 go_loopw [5,12] (fun u v wr=>∃k m:Nat,u = .int .i64 m∧v = .int .i64 k∧k≤a∧m≤k∧Hid (cntLe y (l.take k)=m)∧∃q,wr=w.drewN q) (fun _ v _=>a-(intOf v).toNat)
 case atStart=>exact⟨0,0,rfl,rfl,Nat.zero_le _,Nat.le_refl _,rfl,0,rfl⟩
 case round =>
  obtain⟨k,m,rfl,rfl,hk,hmk,hm,q,rfl⟩:=hrel
  by_cases hlt:k<a
  ·have hkl:k<l.length:=by rw[hn.out];omega
   obtain⟨b2,off2,e2,hck⟩:=HI.out k hkl
   cases e2
   obtain⟨x,hx⟩:∃x,l.getD k 0=x:=⟨_,rfl⟩
   rw[hx]at hck
   have hck2:(w.drewN q).cell? ⟨b,off+k,none⟩=some (.int .i64 x):=hck
   have hca2:(w.drewN q).cell? ⟨b,off+a,none⟩=some (.int .i64 y):=hca
   have HS:Hid (cntLe y (l.take (k+1))=m+(if x≤y then 1 else 0)):=by
    unfold Hid;rw[take_snoc_int l k hkl,cntLe_append,hm.out,hx];simp[cntLe]
   have hkn:k<n:=by omega
   clear hx hkl hck
   by_cases hxy:x≤y
   ·have HS2:Hid (cntLe y (l.take (k+1))=m+1):=by unfold Hid;rw[HS.out,if_pos hxy]
    go_wp2
    go_roundw
    case rel=>exact⟨k+1,m+1,by go_num,by go_num,by omega,by omega,HS2,q,rfl⟩
    case measure=>simp[intOf];omega
   ·have HS2:Hid (cntLe y (l.take (k+1))=m):=by unfold Hid;rw[HS.out,if_neg hxy];rfl
    have hd:decide (x≤y)=false:=decide_eq_false hxy
    go_wp2
    go_roundw
    case rel=>exact⟨k+1,m,rfl,by go_num,by omega,by omega,HS2,q,rfl⟩
    case measure=>simp[intOf];omega
  ·obtain rfl:k=a:=by omega
   have HE:Hid (m=P):=by unfold Hid;rw[←hm.out,HP.out]
   go_wp2
   go_ret
   exact⟨by rw[HE.out];rfl,q,rfl⟩
def NumApp (B:Nat) (v:Value) (ys:List Int) (w:World) (e:Ending) (w':World):Prop :=
 ∃v',e = .returned v'∧OwnB w' B v' ys∧w.grownBy w' v.ownBlock∧∀b,b<w.heap.size→v.ownBlock≠some b→v'.ownBlock≠some b
set_option maxHeartbeats 2000000 in
theorem appnum_at (B : Nat) (v : Value) (xs ys : List Int) (N b : Nat) (w : World) (hB : B ≤ w.heap.size) (hown : OwnB w B v xs) (hx : xs.length ≤ 1099511627776) (hN : N ≤ 2147483647) (hb : b ≤ 70368744177664) (hY : Hid (xs ++ (pnumS b 0 N).map pdigB = ys)) :
  Calls Tryz.prog 178 #[v,.int .i64 N,.int .i64 b] w (NumApp B v ys w):=by
 have HO:=Lib.hid hown
 clear hown
 go_enter Tryz.func178,Tryz.ntmps178
 go_wp2
 go_loopw [0,1,7] (fun vv u t wr=>∃(M j:Nat) (zs:List Int),u = .int .i64 M∧t = .int .i64 j∧M≤2147483647∧j≤2147483648-M∧zs.length≤xs.length+j∧Hid (zs++(pnumS b j M).map pdigB=ys)∧Hid (OwnB wr B vv zs)∧Hid (w.grownBy wr v.ownBlock)∧Hid (∀k,k<w.heap.size→v.ownBlock≠some k→vv.ownBlock≠some k)) (fun _ u _ _=>(intOf u).toNat)
 case atStart=>exact⟨N,0,xs,rfl,rfl,hN,by omega,by omega,hY,HO,pun_refl _ _,fun _ _ h=>h⟩
 case round =>
  obtain⟨M,j,zs,rfl,rfl,hM,hj,hzl,hz,ho,hg,hoff⟩:=hrel
  obtain⟨T,hT⟩:∃T,thr b j=T:=⟨_,rfl⟩
  obtain⟨ht1,ht2⟩:=thr_bd b j
  rw[hT]at ht1 ht2
  have HT:=Lib.hid hT
  have HS:Hid (pnumS b j M=if M<T then [M] else(T+(M-T)%(36-T))::pnumS b (j+1) ((M-T) / (36-T))):=by
   unfold Hid;rw[pnumS,hT];split<;>rfl
  have HBB:Hid (B≤wr.heap.size):=Nat.le_trans hB hg.out.size
  clear hT
  by_cases hlt:M<T
  ·have HE:Hid (zs++[pdigB M]=ys):=by unfold Hid;rw[←hz.out,HS.out,if_pos hlt];rfl
   have hM36:M<36:=by omega
   go_wp2_with (first
    | (go_at_call 247;refine(thr_at j b T _ (by omega) (by omega) HT).mono ?_;rintro e w1 ⟨rfl,rfl⟩)
    | (go_at_call 248;refine(digit_at M (pdigB M) _ hM36 rfl).mono ?_;rintro e w2 ⟨rfl,rfl⟩)
    | (at_builtin;refine wpList_append_byte rfl _ _ rfl B _ zs rfl ho.out (pdigB M) 1 _ rfl rfl (by omega) HBB.out ?_;intro v1 w3 ho1 hg1 hf1))
   have HO1:Hid (OwnB w3 B v1 ys):=by rw[←HE.out];exact ho1
   have HG1:=Lib.hid (pun_step hg.out hg1 hoff.out)
   have HF1:=Lib.hid (pun_off hoff.out hf1 hg.out.size)
   clear ho1 hg1 hf1
   go_wp2
   go_ret
   exact⟨_,rfl,HO1.out,HG1.out,HF1.out⟩
  ·obtain⟨f,hf⟩:∃f,36-T=f:=⟨_,rfl⟩
   obtain⟨R,hR⟩:∃R,M-T=R:=⟨_,rfl⟩
   obtain⟨Q,hQ⟩:∃Q,R / f=Q:=⟨_,rfl⟩
   obtain⟨D,hD⟩:∃D,T+R%f=D:=⟨_,rfl⟩
   rw[hf,hR,hQ,hD,if_neg hlt]at HS
   have HE:Hid ((zs++[pdigB D])++(pnumS b (j+1) Q).map pdigB=ys):=by unfold Hid;rw[←hz.out,HS.out];simp
   have hf10:10≤f:=by omega
   have hmod:R%f<f:=Nat.mod_lt _ (by omega)
   have hD36:D<36:=by omega
   have hQR:Q≤R:=by rw[←hQ];exact Nat.div_le_self _ _
   have i1:(M:Int)-(T:Int)=(R:Int):=by omega
   have i2:(36:Int)-(T:Int)=(f:Int):=by omega
   have i3:(R:Int).tmod (f:Int)=((R%f:Nat):Int):=rfl
   have i5:(R:Int).tdiv (f:Int)=(Q:Int):=by rw[←hQ];rfl
   obtain⟨r,hr⟩:∃r,R%f=r:=⟨_,rfl⟩
   rw[hr]at i3 hmod hD
   have i4:(T:Int)+(r:Int)=(D:Int):=by omega
   have hnlt:¬((M:Int)<(T:Int)):=by omega
   have hRM:R+1≤M:=by omega
   clear hf hR hQ hD hr HS
   go_wp2_with (first
    | (go_at_call 247;refine(thr_at j b T _ (by omega) (by omega) HT).mono ?_;rintro e w1 ⟨rfl,rfl⟩)
    | (go_at_call 248;refine(digit_at D (pdigB D) _ hD36 rfl).mono ?_;rintro e w2 ⟨rfl,rfl⟩)
    | (at_builtin;refine wpList_append_byte rfl _ _ rfl B _ zs rfl ho.out (pdigB D) 1 _ rfl rfl (by omega) HBB.out ?_;intro v1 w3 ho1 hg1 hf1))
   have HO1:=Lib.hid ho1
   have HG1:=Lib.hid (pun_step hg.out hg1 hoff.out)
   have HF1:=Lib.hid (pun_off hoff.out hf1 hg.out.size)
   clear ho1 hg1 hf1
   go_wp2
   go_roundw
   case rel=>exact⟨Q,j+1,zs++[pdigB D],rfl,by go_num,by omega,by omega,by simp;omega,HE,HO1,HG1,HF1⟩
   case measure=>simp[intOf];omega
set_option maxRecDepth 100000 in
set_option maxHeartbeats 2000000 in
theorem put_at (g : Nat) (n : Int) (i P b : Nat) (later : Bool) (N C J A : Nat) (w : World) (hs : StB w g n i P b later) (hP : P + 1 ≤ 4096) (hn0 : 0 ≤ n) (hn1 : n ≤ 1099511627776) (hi : i ≤ 4096) (hN : N ≤ 2147483647) (hC : Hid ((N + i) / (P + 1) = C)) (hJ : Hid ((N + i) % (P + 1) = J)) (hA : Hid (adaptN N (P + 1) (!later) = A)) :
  Calls Tryz.prog 179 #[.pointer (some ⟨g,0,none⟩),.int .i64 N] w fun e w'=>e = .returned (.tuple #[.int .i64 (n+C),.int .i64 J])∧StB w' g (n+C) (J+1) (P+1) A true∧w.grownBy w' (some g):=by
 have HS:=Lib.hid hs
 obtain⟨h0,h1,h2,h3,h4,hf,hl⟩:=hs
 obtain⟨S,hS⟩:∃S,N+i=S:=⟨_,rfl⟩
 obtain⟨P1,hP1⟩:∃P1,P+1=P1:=⟨_,rfl⟩
 have hCS:C≤S:=by rw[←hC.out,hS];exact Nat.div_le_self _ _
 have hJP:J<P1:=by rw[←hJ.out,←hP1];exact Nat.mod_lt _ (by omega)
 have i1:(N:Int)+(i:Int)=(S:Int):=by omega
 have i2:(P:Int)+1=(P1:Int):=by omega
 have i3:(S:Int).tdiv (P1:Int)=(C:Int):=by rw[←hC.out,←hS,←hP1];rfl
 have i4:(S:Int).tmod (P1:Int)=(J:Int):=by rw[←hJ.out,←hS,←hP1];rfl
 have w1:IntKind.i64.wrap (P1:Int)=(P1:Int):=IntWalk.i64_in _ (by omega)
 have w2:IntKind.i64.wrap (C:Int)=(C:Int):=IntWalk.i64_in _ (by omega)
 have w3:IntKind.i64.wrap (n+(C:Int))=n+(C:Int):=IntWalk.i64_in _ (by omega)
 rw[hP1]at hP hA ⊢
 have HP1:=Lib.hid hP1
 have f0:=hf 0
 have f1:=hf 1
 have f2:=hf 2
 have f3:=hf 3
 have f4:=hf 4
 clear hS hP1 hC hJ hf
 go_enter Tryz.func179,Tryz.ntmps179
 go_wp2
 go_quiet (fail)
 go_upto_region 4 with(fail)
 have HS1:Hid (StB ((w.drewN nq).setCell ⟨g,2,none⟩ (.int .i64 P1)) g n i P1 b later):=(HS.out.drewN nq).set2 _
 have HG1:Hid (w.grownBy ((w.drewN nq).setCell ⟨g,2,none⟩ (.int .i64 P1)) (some g)):=grownBy_trans (grownBy_drewN (pun_refl w (some g)) nq) (grownBy_store _ g 2 _)
 generalize (w.drewN nq).setCell ⟨g,2,none⟩ (.int .i64 P1)=W1 at HS1 HG1 ⊢
 clear h0 h1 h2 h3 h4 hl f0 f1 f2 f3 f4
 obtain⟨h0,h1,h2,h3,h4,hf,hl⟩:=HS1.out
 have f3:=hf 3
 clear hf
 go_still_tail 14,(by kernel_rfl)
 still_call (adapt_at_in N P1 A _ _ (by omega) (by omega) hP hA)
 repeat still_step
 refine wpStill_nil ?_
 change wpList _ _ _ _ _ W1.drew
 have HS2:Hid (StB W1.drew g n i P1 b later):=HS1.out.drew
 have HG2:Hid (w.grownBy W1.drew (some g)):=grown_drew HG1.out
 clear h0 h1 h2 h3 h4 hl f3 HS1 HG1
 generalize W1.drew=W2 at HS2 HG2 ⊢
 obtain⟨h0,h1,h2,h3,h4,hf,hl⟩:=HS2.out
 have f3:=hf 3
 clear hf
 go_upto_region 5 with(fail)
 have HS3:Hid (StB (W2.setCell ⟨g,3,none⟩ (.int .i64 A)) g n i P1 A later):=HS2.out.set3 _
 have HG3:Hid (w.grownBy (W2.setCell ⟨g,3,none⟩ (.int .i64 A)) (some g)):=grownBy_trans HG2.out (grownBy_store _ g 3 _)
 clear h0 h1 h2 h3 h4 hl f3 HS2 HG2
 generalize W2.setCell ⟨g,3,none⟩ (.int .i64 A)=W3 at HS3 HG3 ⊢
 obtain⟨h0,h1,h2,h3,h4,hf,hl⟩:=HS3.out
 have f0:=hf 0
 have f1:=hf 1
 have f4:=hf 4
 obtain⟨J1,hJ1⟩:∃J1,J+1=J1:=⟨_,rfl⟩
 have hj1:(J:Int)+1=(J1:Int):=by omega
 have HJ1:=Lib.hid hJ1
 clear hf hJ1
 go_wp2
 go_ret2
 refine⟨rfl,?_,?_⟩
 ·rw[HJ1.out];exact((HS3.out.set0 _).set1 _).set4 _
 exact(grownBy_trans (grownBy_trans (grownBy_trans HG3.out (grownBy_store _ g 0 _)) (grownBy_store _ g 1 _)) (grownBy_store _ g 4 _))
end Go.Proofs.YtblcoicaeeiojaaGreatDoor
