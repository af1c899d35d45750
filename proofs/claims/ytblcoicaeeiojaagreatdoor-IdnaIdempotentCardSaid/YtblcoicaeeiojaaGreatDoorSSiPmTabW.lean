/- What the rules give, plain mathematics. decompose: plain mat -/
import Derived.Test.YtblcoicaeeiojaaGreatDoorSSiPmTabV
import Derived.Test.YtblcoicaeeiojaaGreatDoorSSiPmSplFact
import Derived.Test.YtblcoicaeeiojaaGreatDoorSSiPmOrdSpec
set_option linter.unusedSimpArgs false
set_option linter.unusedVariables false
namespace Go.Proofs.YtblcoicaeeiojaaGreatDoor
theorem r2_sp {T:Tb} (h:r2 T=true):ascB 0 T.cat=true∧ascB 0 T.cls=true∧ascB 0 T.joi=true∧ascB 0 T.bid=true∧ascB 0 T.scr=true∧ascB 0 T.sta=true∧ascB 0 T.ign=true:=by
 simp only[r2,spansT,spOk,Bool.and_eq_true,List.all_cons,List.all_nil]at h
 exact⟨h.1.1.1,h.1.2.1.1,h.1.2.2.1.1,h.1.2.2.2.1.1,h.1.2.2.2.2.1.1,h.1.2.2.2.2.2.1.1,h.1.2.2.2.2.2.2.1.1⟩
theorem r2_key {T:Tb} (h:r2 T=true):ascI 0 1114111 (froms T.ext)=true∧ascI 0 1114111 (froms T.map)=true∧ascI 0 1114111 (froms T.dec)=true∧ascI 0 1114111 (froms T.pro)=true∧ascI 0 1114111 T.exc=true:=by
 simp only[r2,keyOk,keyOkP,Bool.and_eq_true]at h
 exact⟨h.2.1.1,h.2.2.1.1,h.2.2.2.1.1,h.2.2.2.2.1.1,h.2.2.2.2.2.1⟩
theorem val_mem {l:List Sp} {c v:Int} (h:val l c=some v):∃s∈l,s.1≤c∧c≤s.2.1∧s.2.2=v:=by
 induction l with
 | nil=>cases h
 | cons s r ih =>
  rw[val_cons]at h
  by_cases hc:s.1≤c∧c≤s.2.1
  ·rw[if_pos hc]at h
   injection h with h
   exact⟨s,by simp,hc.1,hc.2,h⟩
  ·rw[if_neg hc]at h
   obtain⟨t,ht,h2⟩:=ih h
   exact⟨t,by simp[ht],h2⟩
theorem r3_cls {T:Tb} (h:r3 T=true) (c:Int):0≤clsT T c:=by
 simp only[r3,Bool.and_eq_true,valOk,List.all_eq_true,decide_eq_true_eq]at h
 unfold clsT
 cases hv:val T.cls c with
 | none=>simp
 | some v =>
  obtain⟨s,hs,_,_,rfl⟩:=val_mem hv
  have:=(h.2.1 s hs).1
  simp;omega
theorem r4_ne {T:Tb} (h:r4 T=true):∀m∈T.dec,m.2≠[]:=by
 simp only[r4,Bool.and_eq_true,List.all_eq_true,seqS,decide_eq_true_eq]at h
 intro m hm he
 have:=(h.2.2.1 m hm).1.1
 rw[he]at this;simp at this
theorem r4_sca {T:Tb} (h:r4 T=true):∀m∈T.dec,m.2.all scaB=true:=by
 simp only[r4,Bool.and_eq_true,List.all_eq_true,seqS,decide_eq_true_eq]at h
 intro m hm
 rw[List.all_eq_true]
 exact(h.2.2.1 m hm).2
theorem r6_fin {T:Tb} (h:r6 T=true) (c:Int):siz T.dec c≤18:=by
 simp only[r6,Bool.and_eq_true,List.all_eq_true,decide_eq_true_eq]at h
 cases hc:hasM T.dec c with
 | false=>rw[siz_nil (findM_nil hc)];omega
 | true=>exact h.2 _ (findM_has hc)
theorem cmpH_of {T:Tb} (h1:r1 T=true) (h2:r2 T=true) (h3:r3 T=true) (h4:r4 T=true) (h6:r6 T=true):CmpH T :=
 ⟨(r2_key h2).2.2.1,(r2_sp h2).2.1,(r2_key h2).2.2.2.2,(few_mp h1).2.2.1,r6_fin h6,r3_cls h3,r4_ne h4⟩
theorem check_1 {T:Tb} (h:r1 T=false):checkT T=1:=by simp[checkT,h]
theorem check_2 {T:Tb} (h1:r1 T=true) (h:r2 T=false):checkT T=2:=by simp[checkT,h1,h]
theorem check_3 {T:Tb} (h1:r1 T=true) (h2:r2 T=true) (h:r3 T=false):checkT T=3:=by simp[checkT,h1,h2,h]
theorem check_4 {T:Tb} (h1:r1 T=true) (h2:r2 T=true) (h3:r3 T=true) (h:r4 T=false):checkT T=4:=by simp[checkT,h1,h2,h3,h]
theorem check_5 {T:Tb} (h1:r1 T=true) (h2:r2 T=true) (h3:r3 T=true) (h4:r4 T=true) (h:r5 T=false):checkT T=5:=by simp[checkT,h1,h2,h3,h4,h]
theorem check_6 {T:Tb} (h1:r1 T=true) (h2:r2 T=true) (h3:r3 T=true) (h4:r4 T=true) (h5:r5 T=true) (h:r6 T=false):checkT T=6:=by simp[checkT,h1,h2,h3,h4,h5,h]
theorem check_7 {T:Tb} (h1:r1 T=true) (h2:r2 T=true) (h3:r3 T=true) (h4:r4 T=true) (h5:r5 T=true) (h6:r6 T=true):checkT T=if r7 T=false then 7 else if r8 T=false then 8 else if r9 T=false then 9 else 0:=by simp[checkT,h1,h2,h3,h4,h5,h6]
def expT (T:Tb) (c:Int):List Int:=if decS c=[]then ful T.dec c else decS c
def flatT (T:Tb) (l:List Int):List Int:=l.flatMap (expT T)
def Fin1 (T:Tb) (x:Int):Prop:=scaB x=true∧findM T.dec x=[]∧decS x=[]
theorem check_rules {T:Tb} (h:checkT T=0):r1 T=true∧r2 T=true∧r3 T=true∧r4 T=true∧r6 T=true:=by
 unfold checkT at h
 split at h
 ·omega
 split at h
 ·omega
 split at h
 ·omega
 split at h
 ·omega
 split at h
 ·omega
 split at h
 ·omega
 rename_i h1 h2 h3 h4 h5 h6
 exact⟨by simpa using h1,by simpa using h2,by simpa using h3,by simpa using h4,by simpa using h6⟩
theorem decS_nil {c:Int}:decS c=[]↔¬(44032≤c∧c≤55203):=by
 unfold decS
 constructor
 ·intro h hc
  rw[if_pos hc]at h
  split at h<;>cases h
 ·intro hc;rw[if_neg hc]
theorem decS_mem {c x:Int} (h:x∈decS c):(4352≤x∧x≤4370)∨(4449≤x∧x≤4469)∨(4520≤x∧x≤4546):=by
 unfold decS at h
 split at h
 ·rename_i hc
  split at h
  ·simp only[List.mem_cons,List.not_mem_nil,or_false]at h
   rcases h with rfl|rfl<;>omega
  ·simp only[List.mem_cons,List.not_mem_nil,or_false]at h
   rcases h with rfl|rfl|rfl<;>omega
 ·cases h
theorem decS_length (c:Int):(decS c).length≤3:=by
 unfold decS
 split
 ·split<;>simp
 ·simp
theorem dec_res {T:Tb} (h:checkT T=0) {x:Int} (hx:resB x=true):findM T.dec x=[]:=by
 obtain⟨_,h2,_⟩:=check_rules h
 apply Classical.byContradiction
 intro hne
 have hm:=has_of_find hne
 unfold r2 keyOk at h2
 simp only[Bool.and_eq_true,List.all_eq_true]at h2
 have:=h2.2.2.2.1.2 x hm
 rw[hx]at this
 cases this
theorem findM_mem {l:List Mp} {c:Int} (h:findM l c≠[]):(c,findM l c)∈l:=by
 cases hb:hasM l c with
 | false=>exact absurd (findM_nil hb) h
 | true=>exact findM_has hb
theorem dec_short {T:Tb} (h:checkT T=0):∀m∈T.dec,m.2.length≤18:=by
 intro m hm
 have h4:=(check_rules h).2.2.2.1
 unfold r4 at h4
 simp only[Bool.and_eq_true,List.all_eq_true]at h4
 have:=h4.2.2.1 m hm
 unfold seqS at this
 simp only[Bool.and_eq_true,decide_eq_true_eq]at this
 exact this.1.2
theorem dec_length {T:Tb} (h:checkT T=0) (c:Int):(findM T.dec c).length≤18:=by
 by_cases hf:findM T.dec c=[]
 ·rw[hf];simp
 ·exact dec_short h _ (findM_mem hf)
theorem dec_part {T:Tb} (h:checkT T=0) {c x:Int} (hx:x∈findM T.dec c):scaB x=true∧decS x=[]:=by
 obtain⟨_,_,_,h4,h6⟩:=check_rules h
 have hm:=findM_mem (ne_nil_of_mem' hx)
 have a:=r4_sca h4 _ hm
 rw[List.all_eq_true]at a
 refine⟨a x hx,?_⟩
 unfold r6 at h6
 simp only[Bool.and_eq_true,List.all_eq_true]at h6
 have b:=h6.1 _ hm
 unfold short2 at b
 simp only[Bool.and_eq_true,List.all_eq_true]at b
 have b2:=b.2 x hx
 rw[decS_nil]
 intro hc
 have:sylB x=true:=sylB_iff.2 hc
 unfold forb at b2
 rw[this]at b2
 simp at b2
theorem fin_jamo {T:Tb} (h:checkT T=0) {c x:Int} (hx:x∈decS c):Fin1 T x:=by
 have hj:=decS_mem hx
 refine⟨?_,dec_res h (resB_iff.2 (by omega)),decS_nil.2 (by omega)⟩
 unfold scaB
 simp
 omega
theorem ful_fin {T:Tb} (h:checkT T=0) (k:Nat) (c:Int) (hd:Dp T.dec k c) (hs:scaB c=true) (hn:decS c=[]):∀x∈fulF T.dec k c,Fin1 T x:=by
 induction k generalizing c with
 | zero =>
  intro x hx
  have:x=c:=by simpa[fulF] using hx
  subst this
  exact⟨hs,hd,hn⟩
 | succ k ih =>
  intro x hx
  by_cases hf:findM T.dec c=[]
  ·rw[fulF_nil _ hf]at hx
   have:x=c:=by simpa using hx
   subst this
   exact⟨hs,hf,hn⟩
  ·rw[fulF,if_neg hf,List.mem_flatMap]at hx
   obtain⟨y,hy,hx⟩:=hx
   have hp:=dec_part h hy
   exact ih y (hd y hy) hp.1 hp.2 x hx
theorem ful_len {l:List Mp} (k:Nat) (c:Int) (h:sz l k c≤18) (hd:Dp l k c):(fulF l k c).length=sz l k c:=by
 induction k generalizing c with
 | zero=>rw[sz_zero _ hd];rfl
 | succ k ih =>
  by_cases hf:findM l c=[]
  ·rw[fulF_nil _ hf,sz_zero _ hf];rfl
  ·rw[sz_succ _ hf]at h ⊢
   rw[fulF,if_neg hf,List.length_flatMap]
   have e:(findM l c).map (fun x=>(fulF l k x).length)=(findM l c).map (sz l k):=by
    refine List.map_congr_left fun x hx=>ih x ?_ (hd x hx)
    have:=sum_mem (sz l k) _ x hx
    omega
   rw[e];omega
theorem dec_few {T:Tb} (h:checkT T=0):T.dec.length≤256:=by
 obtain⟨h1,_⟩:=check_rules h
 unfold r1 mpsT fewM at h1
 simp only[List.all_cons,List.all_nil,Bool.and_eq_true,decide_eq_true_eq,and_true]at h1
 exact h1.2.1.2.2.1
theorem dec_dp {T:Tb} (h:checkT T=0) (c:Int):Dp T.dec 256 c:=siz_dp (dec_few h) (r6_fin (check_rules h).2.2.2.2 c)
theorem exp_fin {T:Tb} (h:checkT T=0) {c:Int} (hc:scaB c=true):∀x∈expT T c,Fin1 T x:=by
 intro x hx
 unfold expT at hx
 split at hx
 ·rename_i hn
  exact ful_fin h 256 c (dec_dp h c) hc hn x hx
 ·exact fin_jamo h hx
theorem exp_len {T:Tb} (h:checkT T=0) (c:Int):1≤(expT T c).length∧(expT T c).length≤18:=by
 unfold expT
 split
 ·have h2:=r6_fin (check_rules h).2.2.2.2 c
  have h3:=siz_bd T.dec c
  have h4:(ful T.dec c).length=siz T.dec c:=ful_len 256 c h2 (dec_dp h c)
  omega
 ·rename_i hn
  have:=decS_length c
  have:=List.length_pos_iff.2 hn
  omega
theorem Fin1.exp {T:Tb} {x:Int} (h:Fin1 T x):expT T x=[x]:=by
 unfold expT
 rw[if_pos h.2.2,ful_nil h.2.1]
theorem exp_rec {T:Tb} (h:checkT T=0) {c:Int} (hn:decS c=[]) (hf:findM T.dec c≠[]):expT T c=flatT T (findM T.dec c):=by
 unfold flatT
 rw[show expT T c=ful T.dec c by unfold expT;rw[if_pos hn],ful_eq (dec_dp h c) hf,List.flatMap_def,List.flatMap_def]
 congr 1
 refine List.map_congr_left fun x hx=>?_
 unfold expT
 rw[if_pos (dec_part h hx).2]
theorem exp_one {T:Tb} {c:Int} (hn:decS c=[]) (hf:findM T.dec c=[]):expT T c=[c]:=by
 unfold expT
 rw[if_pos hn,ful_nil hf]
theorem all_append (T:Tb) (a b:List Int):flatT T (a++b)=flatT T a++flatT T b:=by simp[flatT]
theorem all_cons (T:Tb) (c:Int) (b:List Int):flatT T (c::b)=expT T c++flatT T b:=by simp[flatT]
theorem all_take (T:Tb) (l:List Int) (k:Nat) (hk:k<l.length):flatT T (l.take (k+1))=flatT T (l.take k)++expT T (l.getD k 0):=by
 rw[take_snoc_int l k hk,all_append];simp[flatT]
theorem all_fin {T:Tb} (h:checkT T=0) {l:List Int} (hl:l.all scaB=true):∀x∈flatT T l,Fin1 T x:=by
 intro x hx
 rw[flatT,List.mem_flatMap]at hx
 obtain⟨c,hc,hx⟩:=hx
 rw[List.all_eq_true]at hl
 exact exp_fin h (hl c hc) x hx
theorem all_id {T:Tb} {l:List Int} (hl:∀x∈l,Fin1 T x):flatT T l=l:=by
 induction l with
 | nil=>rfl
 | cons x r ih =>
  rw[all_cons,(hl x (by simp)).exp,ih fun y hy=>hl y (by simp[hy])];rfl
theorem fin_sca {T:Tb} {l:List Int} (hl:∀x∈l,Fin1 T x):l.all scaB=true:=by
 rw[List.all_eq_true];exact fun x hx=>(hl x hx).1
theorem all_pre (T:Tb) (l:List Int) (k:Nat):(flatT T (l.take k)).length≤(flatT T l).length:=by
 conv=>rhs;rw[←List.take_append_drop k l]
 rw[all_append,List.length_append];omega
theorem ordS_left (k:Int→Int) (a b:List Int):ordS k (ordS k a++b)=ordS k (a++b):=by
 have e:ordR k [] (ordS k a)=ordR k [] a:=by
  rw[ordR_id k (ordS k a) [] (by simpa using ordS_inOrd k a),List.append_nil]
  unfold ordS
  rw[List.reverse_reverse]
 unfold ordS at e ⊢
 rw[ordR_append,ordR_append,e]
theorem ordS_right (k:Int→Int) (a b:List Int):ordS k (a++ordS k b)=ordS k (a++b):=by
 obtain⟨n,hn⟩:∃n,invs k b≤n:=⟨_,Nat.le_refl _⟩
 induction n generalizing b with
 | zero =>
  rw[(ordS_id_iff k b).2]
  rw[inOrd_iff]
  intro i hi hc
  have:=(swp_ord k b i hi hc.1 hc.2).2
  omega
 | succ n ih =>
  by_cases hin:inOrd k b
  ·rw[ordS_id k b hin]
  ·rw[inOrd_iff]at hin
   obtain⟨i,hi⟩:=Classical.not_forall.1 hin
   obtain⟨hi,hc⟩:=Classical.not_imp.1 hi
   have hc:=Classical.not_not.1 hc
   obtain⟨e1,e2⟩:=swp_ord k b i hi hc.1 hc.2
   obtain⟨p,q,_,f1,f2⟩:=swp_form b i hi
   have e3:ordS k (a++swp b i)=ordS k (a++b):=by
    have:=ordS_swap k (a++p) q hc.1 hc.2
    rw[f2]
    conv=>rhs;rw[f1]
    simpa using this.symm
   rw[←e1,ih (swp b i) (by omega),e3]
theorem ordS_parts (k:Int→Int) (a b:List Int):ordS k (ordS k a++ordS k b)=ordS k (a++b):=by rw[ordS_left,ordS_right]
theorem ord_fin {T:Tb} {l:List Int} (hl:∀x∈l,Fin1 T x):∀x∈ordS (clsT T) l,Fin1 T x:=fun x hx=>hl x ((ordS_perm _ l).mem_iff.1 hx)
end Go.Proofs.YtblcoicaeeiojaaGreatDoor
namespace Go.Proofs.YtblcoicaeeiojaaGreatDoor
open Go.RowKit
theorem rowsFew_at (x:TV) (T:Tb) (B:Bool) (w:World) (hx:TabV w x T) (hB:Hid (r1 T=B)):Calls Tryz.prog 140 #[x.agg] w (Gives (.bool B) w):=hB.out▸rowsFew_any x T w hx
theorem inOrder_at (x:TV) (T:Tb) (B:Bool) (w:World) (hx:TabV w x T) (hr:Rsv w) (h1:r1 T=true) (hB:Hid (r2 T=B)):Calls Tryz.prog 141 #[x.agg] w (Gives (.bool B) w):=hB.out▸inOrder_any x T w hx hr h1
theorem values_at (x:TV) (T:Tb) (B:Bool) (w:World) (hx:TabV w x T) (hB:Hid (r3 T=B)):Calls Tryz.prog 142 #[x.agg] w (Gives (.bool B) w):=hB.out▸values_any x T w hx
theorem seqsIn_at (x:TV) (T:Tb) (B:Bool) (w:World) (hx:TabV w x T) (hB:Hid (r4 T=B)):Calls Tryz.prog 143 #[x.agg] w (Gives (.bool B) w):=hB.out▸seqsIn_any x T w hx
theorem mapsOf_at (x:TV) (T:Tb) (B:Bool) (w:World) (hx:TabV w x T) (ha:ascB 0 T.sta=true) (hB:Hid (r5 T=B)):Calls Tryz.prog 144 #[x.agg] w (Gives (.bool B) w):=hB.out▸mapsOfStatus_any x T w hx ha
theorem finite_at (x:TV) (T:Tb) (B:Bool) (w:World) (hx:TabV w x T) (h1:r1 T=true) (h2:r2 T=true) (h4:r4 T=true) (hB:Hid (r6 T=B)):Calls Tryz.prog 145 #[x.agg] w (Gives (.bool B) w) :=
 hB.out▸finite_any x T w hx (few_mp h1).2.2.1 (r2_key h2).2.2.1 (r4_ne h4)
theorem excl_at (x:TV) (T:Tb) (B:Bool) (w:World) (hx:TabV w x T) (h2:r2 T=true) (hB:Hid (r7 T=B)):Calls Tryz.prog 146 #[x.agg] w (Gives (.bool B) w):=hB.out▸exclDecomps_any x T w hx (r2_key h2).2.2.1
theorem unique_at (x:TV) (T:Tb) (B:Bool) (w:World) (hx:TabV w x T) (H:CmpH T) (h4:r4 T=true) (hB:Hid (r8 T=B)):Calls Tryz.prog 147 #[x.agg] w (Gives (.bool B) w):=hB.out▸unique_any x T w hx H (r4_sca h4)
theorem protos_at (x:TV) (T:Tb) (B:Bool) (w:World) (hx:TabV w x T) (h2:r2 T=true) (hB:Hid (r9 T=B)):Calls Tryz.prog 148 #[x.agg] w (Gives (.bool B) w):=hB.out▸protos_any x T w hx (r2_key h2).2.2.1 (r2_key h2).2.2.2.1 (r2_sp h2).2.2.2.2.2.2
set_option maxHeartbeats 8000000 in
theorem check_tab (x : TV) (T : Tb) (w : World) (hx : TabV w x T) (hr : Rsv w) :
  Calls Tryz.prog 101 #[x.agg] w (Gives (.int .i64 (checkT T)) w):=by
 have HE:=Lib.hid (Env.new hx)
 have HR:=Lib.hid (hr.below (Env.new hx).bel)
 obtain⟨V,hV⟩:∃V,Hid (checkT T=V):=⟨_,rfl⟩
 rw[hV.out]
 obtain⟨B1,hB1⟩:∃B,Hid (r1 T=B):=⟨_,rfl⟩
 obtain⟨B2,hB2⟩:∃B,Hid (r2 T=B):=⟨_,rfl⟩
 obtain⟨B3,hB3⟩:∃B,Hid (r3 T=B):=⟨_,rfl⟩
 obtain⟨B4,hB4⟩:∃B,Hid (r4 T=B):=⟨_,rfl⟩
 obtain⟨B5,hB5⟩:∃B,Hid (r5 T=B):=⟨_,rfl⟩
 obtain⟨B6,hB6⟩:∃B,Hid (r6 T=B):=⟨_,rfl⟩
 obtain⟨B7,hB7⟩:∃B,Hid (r7 T=B):=⟨_,rfl⟩
 obtain⟨B8,hB8⟩:∃B,Hid (r8 T=B):=⟨_,rfl⟩
 obtain⟨B9,hB9⟩:∃B,Hid (r9 T=B):=⟨_,rfl⟩
 clear hx hr
 simp only[TV.agg]
 go_enter Tryz.func101,Tryz.ntmps101
 go_wp2_with fail
 refine(rowsFew_at x T B1 _ HE.out.tab hB1).mono ?_
 rintro e w1 ⟨rfl,hb⟩
 replace HR:=Lib.hid (HR.out.below hb)
 replace HE:=Lib.hid (HE.out.step hb)
 clear hb
 cases B1 with
 | false=>go_wp2;go_ret;exact⟨by rw[←hV.out,check_1 hB1.out];rfl,HE.out.bel⟩
 | true =>
  obtain⟨⟨k0,k1,k2,k3,k4,k5⟩,⟨k6,k7,k8,k9,k10,k11⟩⟩:=HE.out.box
  go_wp2_with fail
  refine(inOrder_at x T B2 _ HE.out.tab HR.out hB1.out hB2).mono ?_
  rintro e w2 ⟨rfl,hb⟩
  replace HE:=Lib.hid (HE.out.step hb)
  clear hb HR k0 k1 k2 k3 k4 k5 k6 k7 k8 k9 k10 k11
  cases B2 with
  | false=>go_wp2;go_ret;exact⟨by rw[←hV.out,check_2 hB1.out hB2.out];rfl,HE.out.bel⟩
  | true =>
   obtain⟨⟨k0,k1,k2,k3,k4,k5⟩,⟨k6,k7,k8,k9,k10,k11⟩⟩:=HE.out.box
   go_wp2_with fail
   refine(values_at x T B3 _ HE.out.tab hB3).mono ?_
   rintro e w3 ⟨rfl,hb⟩
   replace HE:=Lib.hid (HE.out.step hb)
   clear hb k0 k1 k2 k3 k4 k5 k6 k7 k8 k9 k10 k11
   cases B3 with
   | false=>go_wp2;go_ret;exact⟨by rw[←hV.out,check_3 hB1.out hB2.out hB3.out];rfl,HE.out.bel⟩
   | true =>
    obtain⟨⟨k0,k1,k2,k3,k4,k5⟩,⟨k6,k7,k8,k9,k10,k11⟩⟩:=HE.out.box
    go_wp2_with fail
    refine(seqsIn_at x T B4 _ HE.out.tab hB4).mono ?_
    rintro e w4 ⟨rfl,hb⟩
    replace HE:=Lib.hid (HE.out.step hb)
    clear hb k0 k1 k2 k3 k4 k5 k6 k7 k8 k9 k10 k11
    cases B4 with
    | false=>go_wp2;go_ret;exact⟨by rw[←hV.out,check_4 hB1.out hB2.out hB3.out hB4.out];rfl,HE.out.bel⟩
    | true =>
     obtain⟨⟨k0,k1,k2,k3,k4,k5⟩,⟨k6,k7,k8,k9,k10,k11⟩⟩:=HE.out.box
     go_wp2_with fail
     refine(mapsOf_at x T B5 _ HE.out.tab (r2_sp hB2.out).2.2.2.2.2.1 hB5).mono ?_
     rintro e w5 ⟨rfl,hb⟩
     replace HE:=Lib.hid (HE.out.step hb)
     clear hb k0 k1 k2 k3 k4 k5 k6 k7 k8 k9 k10 k11
     cases B5 with
     | false=>go_wp2;go_ret;exact⟨by rw[←hV.out,check_5 hB1.out hB2.out hB3.out hB4.out hB5.out];rfl,HE.out.bel⟩
     | true =>
      obtain⟨⟨k0,k1,k2,k3,k4,k5⟩,⟨k6,k7,k8,k9,k10,k11⟩⟩:=HE.out.box
      go_wp2_with fail
      refine(finite_at x T B6 _ HE.out.tab hB1.out hB2.out hB4.out hB6).mono ?_
      rintro e w6 ⟨rfl,hb⟩
      replace HE:=Lib.hid (HE.out.step hb)
      clear hb k0 k1 k2 k3 k4 k5 k6 k7 k8 k9 k10 k11
      cases B6 with
      | false=>go_wp2;go_ret;exact⟨by rw[←hV.out,check_6 hB1.out hB2.out hB3.out hB4.out hB5.out hB6.out];rfl,HE.out.bel⟩
      | true =>
       have HC:=Lib.hid (cmpH_of hB1.out hB2.out hB3.out hB4.out hB6.out)
       have HV:Hid (V=if B7=false then 7 else if B8=false then 8 else if B9=false then 9 else 0):=by
        unfold Hid;rw[←hV.out,check_7 hB1.out hB2.out hB3.out hB4.out hB5.out hB6.out,hB7.out,hB8.out,hB9.out]
       obtain⟨⟨k0,k1,k2,k3,k4,k5⟩,⟨k6,k7,k8,k9,k10,k11⟩⟩:=HE.out.box
       go_wp2_with fail
       refine(excl_at x T B7 _ HE.out.tab hB2.out hB7).mono ?_
       rintro e w7 ⟨rfl,hb⟩
       replace HE:=Lib.hid (HE.out.step hb)
       clear hb k0 k1 k2 k3 k4 k5 k6 k7 k8 k9 k10 k11
       cases B7 with
       | false=>go_wp2;go_ret;exact⟨by rw[HV.out];rfl,HE.out.bel⟩
       | true =>
        obtain⟨⟨k0,k1,k2,k3,k4,k5⟩,⟨k6,k7,k8,k9,k10,k11⟩⟩:=HE.out.box
        go_wp2_with fail
        refine(unique_at x T B8 _ HE.out.tab HC.out hB4.out hB8).mono ?_
        rintro e w8 ⟨rfl,hb⟩
        replace HE:=Lib.hid (HE.out.step hb)
        clear hb k0 k1 k2 k3 k4 k5 k6 k7 k8 k9 k10 k11
        cases B8 with
        | false=>go_wp2;go_ret;exact⟨by rw[HV.out];rfl,HE.out.bel⟩
        | true =>
         obtain⟨⟨k0,k1,k2,k3,k4,k5⟩,⟨k6,k7,k8,k9,k10,k11⟩⟩:=HE.out.box
         go_wp2_with fail
         refine(protos_at x T B9 _ HE.out.tab hB2.out hB9).mono ?_
         rintro e w9 ⟨rfl,hb⟩
         replace HE:=Lib.hid (HE.out.step hb)
         clear hb k0 k1 k2 k3 k4 k5 k6 k7 k8 k9 k10 k11
         cases B9 with
         | false=>go_wp2;go_ret;exact⟨by rw[HV.out];rfl,HE.out.bel⟩
         | true=>go_wp2;go_ret;exact⟨by rw[HV.out];rfl,HE.out.bel⟩
theorem check_tab_at (x : TV) (T : Tb) (V : Int) (w : World) (hx : TabV w x T) (hr : Rsv w) (hV : Hid (checkT T = V)) :
  Calls Tryz.prog 101 #[x.agg] w (Gives (.int .i64 V) w):=hV.out▸check_tab x T w hx hr
end Go.Proofs.YtblcoicaeeiojaaGreatDoor
