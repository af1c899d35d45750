/- split: contracts of the references Labels, Join, Strings, Ch -/
import Derived.Test.YtblcoicaeeiojaaGreatDoorSSiPmOwn
import Derived.Test.YtblcoicaeeiojaaGreatDoorSSiPmSplFact
import Derived.Deep.QuietTactic
import Derived.BigQuiet
import Derived.BigRegion
import Derived.StillTailTactics
import Derived.Test.YtblcoicaeeiojaaGreatDoorSSiPmRanChk
set_option linter.unusedSimpArgs false
set_option linter.unusedVariables false
namespace Go.Proofs.YtblcoicaeeiojaaGreatDoor
open Go.RowKit
theorem Labs.start (w:World) (B:Nat) (hB:B≤w.heap.size):Labs (w.alloc (.cells #[.slice none 0 0] 22)) B (.slice (some ⟨w.heap.size,0,none⟩) 1 1) [[]] [.slice none 0 0] where
 own:=World.ownsRow_lit w #[.slice none 0 0] 1 hB (by unfold maxLen;omega) rfl
 len:=rfl
 lab:=fun k hk=>by
  have:k=0:=by simp at hk;exact hk
  subst this
  exact Lab.nil _ _
 off:=fun k b hk h=>by
  have:k=0:=by simp at hk;exact hk
  subst this
  cases h
theorem getD_app_lt {α:Type} (l r:List α) (k:Nat) (d:α) (h:k<l.length):(l++r).getD k d=l.getD k d:=by
 simp[List.getD,List.getElem?_append_left h]
theorem getD_app_at {α:Type} (l:List α) (x d:α):(l++[x]).getD l.length d=x:=by
 simp[List.getD]
theorem sgetD_set_ne {α:Type} (l:List α) (i k:Nat) (x d:α) (h:i≠k):(l.set i x).getD k d=l.getD k d:=by
 simp[List.getD,List.getElem?_set_ne h]
theorem sgetD_set_eq {α:Type} (l:List α) (i:Nat) (x d:α) (h:i<l.length):(l.set i x).getD i d=x:=by
 simp[List.getD,h]
theorem Labs.push {w w1 w4 : World} {B : Nat} {u v' : Value} {L : List (List Int)} {Vs : List Value} (h : Labs w B u L Vs) (ha : w.grownBy w1 none)
  (ho:w4.ownsRow B 22 1 v' (L.length+1) (Vs++[.slice none 0 0])) (hg:w1.grownBy w4 u.ownBlock) (hv:v'.ownBlock=u.ownBlock∨v'.ownBlock=some w1.heap.size) :
  Labs w4 B v' (L++[[]]) (Vs++[.slice none 0 0]):=by
 have hlab:∀k,k<L.length→Lab w4 B (Vs.getD k (.slice none 0 0)) (L.getD k []):=fun k hk =>
  ((h.lab k hk).kept ha (fun b _ e=>by cases e)).kept hg (fun b hb=>h.off k b hk hb)
 refine⟨by simpa using ho,by simp[h.len],fun k hk=>?_,fun k b hk hb=>?_⟩
 ·by_cases e:k=L.length
  ·subst e
   rw[getD_app_at,←h.len,getD_app_at]
   exact Lab.nil _ _
  ·have hk2:k<L.length:=by simp at hk;omega
   rw[getD_app_lt _ _ _ _ hk2,getD_app_lt _ _ _ _ (by rw[h.len];exact hk2)]
   exact hlab k hk2
 ·by_cases e:k=L.length
  ·subst e
   rw[←h.len,getD_app_at]at hb
   cases hb
  ·have hk2:k<L.length:=by simp at hk;omega
   rw[getD_app_lt _ _ _ _ (by rw[h.len];exact hk2)]at hb
   rcases hv with hv|hv
   ·rw[hv];exact h.off k b hk2 hb
   ·rw[hv]
    intro e2
    cases e2
    have h1:=((h.lab k hk2).lt hb).2
    have h2:=ha.size
    omega
theorem Labs.put {w w6 : World} {B g cap n : Nat} {v6 : Value} {D : List (List Int)} {cur x : List Int} {Vs : List Value} (h : Labs w B (.slice (some ⟨g, 0, none⟩) n cap) (D ++ [cur]) Vs)
  (h6:Ints w6 w.heap.size v6 x) (hg6:w.grownBy w6 none) (hB:B≤w.heap.size) :
  Labs (w6.setCell ⟨g,D.length,none⟩ v6) B (.slice (some ⟨g,0,none⟩) n cap) (D++[x]) (Vs.set D.length v6):=by
 have hgl:g<w.heap.size:=(World.ownsRow.lt h.own g rfl).2
 have hlen:Vs.length=D.length+1:=by have:=h.len;simpa using this
 have ho6:w6.ownsRow B 22 1 (.slice (some ⟨g,0,none⟩) n cap) (D++[cur]).length Vs:=World.ownsRow.kept h.own hg6 (by simp[Value.ownBlock])
 have hnn:n=(D++[cur]).length:=by
  rcases h.own.2 with⟨h1,_⟩|⟨g',cap',cur',h1,_⟩
  ·cases h1
  ·injection h1 with _ e _
 subst hnn
 have hst:=ho6.stored D.length v6
 have hl6:=Lab.ofInts h6
 refine⟨by simpa using hst.1,by simp[hlen],fun k hk=>?_,fun k b hk hb=>?_⟩
 ·by_cases e:k=D.length
  ·subst e
   rw[getD_app_at,sgetD_set_eq _ _ _ _ (by omega)]
   refine(hl6.1.mono hB).kept hst.2 (fun b hb e2=>?_)
   have h1:=(hl6.1.lt hb).1
   simp only[Option.some.injEq]at e2
   subst e2
   exact absurd hgl (by omega)
  ·have hk2:k<D.length:=by simp at hk;omega
   have h1:=h.lab k (by simp;omega)
   rw[getD_app_lt _ _ _ _ hk2]at h1
   rw[getD_app_lt _ _ _ _ hk2,sgetD_set_ne _ _ _ _ _ (by omega)]
   refine(h1.kept hg6 (fun b _ e2=>by cases e2)).kept hst.2 (fun b hb e2=>?_)
   cases e2
   exact h.off k g (by simp;omega) hb rfl
 ·by_cases e:k=D.length
  ·subst e
   rw[sgetD_set_eq _ _ _ _ (by omega)]at hb
   have h1:=(hl6.1.lt hb).1
   intro e2
   simp only[Value.ownBlock,Option.some.injEq]at e2
   subst e2
   exact absurd hgl (by omega)
  ·have hk2:k<D.length:=by simp at hk;omega
   rw[sgetD_set_ne _ _ _ _ _ (by omega)]at hb
   exact h.off k b (by simp;omega) hb
theorem grownBy_off {a b c:World} {row:Option Nat} (h:a.grownBy b none) (k:b.grownBy c row) (hr:∀j,row=some j→a.heap.size≤j):a.grownBy c none :=
 ⟨k.os.trans h.os,k.tape.trans h.tape,k.output.trans h.output,Nat.le_trans h.size k.size,fun i hi hne=>(k.block i (Nat.lt_of_lt_of_le hi h.size) (fun e=>by have:=hr i e.symm;omega)).trans (h.block i hi hne)⟩
theorem ints_oneS (w:World) (c:Int):IntsIn (w.alloc (.cells #[.int .i64 c] 3)) (some ⟨w.heap.size,0,none⟩) [c]:=by
 intro k hk
 have:k=0:=by simp at hk;exact hk
 subst this
 exact⟨_,_,rfl,by simp[World.cell?_alloc_new]⟩
def LabPost (L:List (List Int)) (w:World) (e:Ending) (w':World):Prop :=
 ∃g cap,e = .returned (.slice (some ⟨g,0,none⟩) L.length cap)∧LsNew w' w.heap.size g cap L∧Below w.heap.size w w'
theorem joinD_take:∀(L:List (List Int)) (k:Nat),(joinD (L.take k)).length≤(joinD L).length
 | [],k=>by simp
 | x::t,0=>by simp[joinD]
 | x::t,k+1=>by
  rw[List.take_succ_cons]
  by_cases h:t.take k=[]
  ·rw[h]
   cases t with
   | nil=>exact Nat.le_refl _
   | cons y r=>rw[joinD_cons x (t:=y::r) (by simp)];simp[joinD]
  ·have ht:t≠[]:=fun e=>h (by rw[e];simp)
   have:=joinD_take t k
   rw[joinD_cons x h,joinD_cons x ht]
   simp;omega
def JoiPost (X:List Int) (w:World) (e:Ending) (w':World):Prop:=∃v,e = .returned v∧Ints w' w.heap.size v X∧Below w.heap.size w w'
def StsPost (L:List ByteArray) (w:World) (e:Ending) (w':World):Prop:=∃v,e = .returned v∧Strs w' w.heap.size v L∧Below w.heap.size w w'
theorem one_byteS (s:ByteArray) (k:Nat) (h:k<s.size) (c:Int) (hc:(s[k].toNat:Int)=c) (cur:List Int):strOfNums (cur++[c])=strOfNums cur++s.extract k (k+1):=by
 rw[sstr_append,←hc,←nums_oneN s k h,sOfN]
set_option maxRecDepth 100000 in
set_option maxHeartbeats 4000000 in
theorem rstrings_at (s : ByteArray) (L : List ByteArray) (w : World) (hs : s.size ≤ 1099511627776) (hL : Hid (strsD s = L)) :
  Calls Tryz.prog 21 #[.string s] w (StsPost L w):=by
 obtain⟨i0,hi,hz0,hz1,hz2⟩:=info_parts Tryz.info9
 have hs0:Strs (w.alloc (.cells #[.string ByteArray.empty] 9)) w.heap.size (.slice (some ⟨w.heap.size,0,none⟩) 1 1) ([[]].map strOfNums):=World.ownsRow_lit w #[.string ByteArray.empty] 1 (Nat.le_refl _) (by unfold maxLen;omega) rfl
 have HS0:=Lib.hid hs0
 have HB0:=Lib.hid ((Below.refl w.heap.size w).alloc (Nat.le_refl _) (.cells #[.string ByteArray.empty] 9))
 clear hs0
 go_enter Tryz.func21,Tryz.ntmps21
 go_wp2
 go_loopw [3,4] (fun u i wr=>∃(k dn:Nat) (D:List (List Int)) (cur:List Int) (g cp:Nat),k≤s.size∧i = .int .i64 k∧u = .slice (some ⟨g,0,none⟩) (dn+1) cp∧Hid (D.length=dn)∧dn≤k∧cur.length≤k∧Hid (cutG D cur ((nums s).drop k)=cutD (nums s))∧Hid (Strs wr w.heap.size (.slice (some ⟨g,0,none⟩) (dn+1) cp) ((D++[cur]).map strOfNums))∧Hid (Below w.heap.size w wr)) (fun _ i _=>s.size-(intOf i).toNat)
 case atStart=>exact⟨0,0,[],[],w.heap.size,1,Nat.zero_le _,rfl,rfl,rfl,Nat.le_refl _,Nat.le_refl _,rfl,HS0,HB0⟩
 case round =>
  clear HS0 HB0
  obtain⟨k,dn,D,cur,g,cp,hk,rfl,rfl,HDN,hD,hcur,hcut,hst,hbel⟩:=hrel
  have hown:=hst.out
  unfold Strs at hown
  have hml:((D++[cur]).map strOfNums).length=dn+1:=by simp[HDN.out]
  rw[hml]at hown
  have HOWN:=Lib.hid hown
  have hgB:=(World.ownsRow.lt hown g rfl).1
  have HSZ:=Lib.hid hbel.out.size
  clear hown hml hst
  by_cases hlt:k<s.size
  ·have hkl:k<(nums s).length:=by rw[nums_length];exact hlt
   have hgd:=nums_getN2 s k hlt
   obtain⟨c,hc⟩:∃c:Int,(s[k].toNat:Int)=c:=⟨_,rfl⟩
   rw[hc]at hgd
   by_cases e:c=46
   ·have d1:(c==46)=true:=by simp[e]
    have HC:Hid (cutG (D++[cur]) [] ((nums s).drop (k+1))=cutD (nums s)):=by unfold Hid;rw[←cut_dot hkl (by rw[hgd];exact e)];exact hcut.out
    clear hkl hgd e hcut
    go_wp2_with (at_builtin;refine wpList_append_own_at _ rfl _ _ 43 rfl w.heap.size 9 i0 (.string ByteArray.empty) 1 16 Tryz.underlying43 hi hz0 hz1 hz2 rfl (by decide) (.slice (some ⟨g,0,none⟩) (dn+1) cp) (dn+1) _ rfl (World.ownsRow.alloc HOWN.out (.cells #[.string ByteArray.empty] 9)) ⟨_,0,none⟩ 1 1 [.string ByteArray.empty] rfl rfl (cell_one_new _ _ _) (by intro u hu;simp at hu;subst hu;rfl) (by unfold maxLen;omega) (by omega) (by have:=HSZ.out;simp;omega) ?_;intro v5 w5 ho5 hg5 _ _)
    have hS5:Strs w5 w.heap.size v5 (((D++[cur])++[[]]).map strOfNums):=by
     unfold Strs
     have hl5:(((D++[cur])++[[]]).map strOfNums).length=dn+1+1:=by simp[HDN.out]
     rw[hl5]
     have e:(((D++[cur])++[[]]).map strOfNums).map Value.string=((D++[cur]).map strOfNums).map Value.string++[.string ByteArray.empty]:=by
      rw[List.map_append,List.map_append];rfl
     rw[e]
     exact ho5
    have HB5:Hid (Below w.heap.size w w5):=(hbel.out.alloc hbel.out.size _).grown hg5 (by have:=HSZ.out;simp;omega) (by rintro j ⟨⟩;exact hgB)
    have HDN5:Hid ((D++[cur]).length=dn+1):=by simp[Hid,HDN.out]
    obtain⟨g5,c5,e5⟩:∃g5 c5,v5 = .slice (some ⟨g5,0,none⟩) (dn+1+1) c5:=by
     rcases ho5.2 with⟨_,h⟩|⟨g5,c5,cur5,h,_⟩
     ·omega
     ·exact⟨g5,c5,h⟩
    subst e5
    have HS5:=Lib.hid hS5
    clear hS5 ho5 hg5 HOWN
    go_wp2
    go_roundw
    case rel=>exact⟨k+1,dn+1,D++[cur],[],g5,c5,by omega,by go_num,rfl,HDN5,by omega,by simp,HC,HS5,HB5⟩
    case measure=>simp[intOf];omega
   ·have d1:(c==46)=false:=by simp[e]
    have HC:Hid (cutG D (cur++[c]) ((nums s).drop (k+1))=cutD (nums s)):=by unfold Hid;rw[←cut_no hkl hgd e];exact hcut.out
    obtain⟨S,hS⟩:∃S,strOfNums cur=S:=⟨_,rfl⟩
    obtain⟨X,hX⟩:∃X,s.extract k (k+1)=X:=⟨_,rfl⟩
    have HX:Hid (strOfNums (cur++[c])=S++X):=by unfold Hid;rw[one_byteS s k hlt c hc,hS,hX]
    have hSs:S.size=cur.length:=by rw[←hS,strOfNums_size]
    have hXs:X.size=1:=by rw[←hX,ByteArray.size_extract];omega
    have hcell:=World.ownsRow.cellAt HOWN.out dn (by omega)
    have hcell2:wr.cell? ⟨g,dn,none⟩=some (.string S):=by
     rw[hcell,←hS,←HDN.out];simp
    have hfz:=World.ownsRow.frozenAt HOWN.out dn
    have hod:wr.ownsRow w.heap.size 9 1 (.slice (some ⟨g,0,none⟩) (dn+1) cp) (dn+1) (((D++[cur]).map strOfNums).map Value.string):=HOWN.out
    have hst:=World.ownsRow.stored hod dn (.string (S++X))
    have hset:(((D++[cur]).map strOfNums).map Value.string).set dn (.string (S++X))=((D++[cur++[c]]).map strOfNums).map Value.string:=by
     rw[←HX.out,←HDN.out]
     simp
    rw[hset]at hst
    have HST:Hid (Strs (wr.setCell ⟨g,dn,none⟩ (.string (S++X))) w.heap.size (.slice (some ⟨g,0,none⟩) (dn+1) cp) ((D++[cur++[c]]).map strOfNums)):=by
     unfold Hid Strs
     rw[show ((D++[cur++[c]]).map strOfNums).length=dn+1 by simp[HDN.out]]
     exact hst.1
    have HB6:=Lib.hid (hbel.out.setCell (p:=⟨g,dn,none⟩) hgB (.string (S++X)))
    have hw1:IntKind.i64.wrap ((dn:Int)+1-1)=dn:=by rw[IntWalk.i64_in _ (by omega)];omega
    have hw2:IntKind.i64.wrap (dn:Int)=dn:=IntWalk.i64_in _ (by omega)
    obtain⟨k1,hk1⟩:∃k1,k+1=k1:=⟨_,rfl⟩
    have i1:(k:Int)+1=(k1:Int):=by omega
    have w1:IntKind.i64.wrap (k1:Int)=(k1:Int):=IntWalk.i64_in _ (by omega)
    have hk1s:k1≤s.size:=by omega
    have hkk1:k≤k1:=by omega
    rw[hk1]at hX
    have HK1:=Lib.hid hk1
    have HSX:=Lib.hid hSs
    clear hkl hgd e hcut hcell hset hst hod hk1 hS
    go_wp2
    go_region
    go_wp2
    go_roundw
    case rel=>exact⟨k+1,dn,D,cur++[c],g,cp,by omega,by go_num,rfl,HDN,by omega,by simp;omega,HC,HST.out,HB6.out.drew⟩
    case measure=>simp[intOf];omega
  ·obtain rfl:k=s.size:=by omega
   have HE:Hid ((D++[cur]).map strOfNums=L):=by
    have:=hcut.out
    rw[cut_end (by rw[nums_length];exact Nat.le_refl _)]at this
    unfold Hid;rw[this];exact hL.out
   have HO:Hid (Strs wr w.heap.size (.slice (some ⟨g,0,none⟩) (dn+1) cp) L):=by
    unfold Hid Strs
    rw[←HE.out,show ((D++[cur]).map strOfNums).length=dn+1 by simp[HDN.out]]
    exact HOWN.out
   clear hcut HOWN
   go_wp2
   go_ret
   exact⟨_,rfl,HO.out,hbel.out⟩
theorem getD_map_size (L:List ByteArray) (k:Nat) (h:k<L.length):(L.map ByteArray.size).getD k 0=(L.getD k ByteArray.empty).size:=by simp[List.getD,h]
theorem chkK_at:∀(k:Nat) (L:List Nat) (i:Nat),i<L.length→(∀j,j<i→1≤L.getD j 0∧L.getD j 0≤63)→L.getD i 0=0∨63<L.getD i 0→chkK k L=some (k+i,if L.getD i 0=0 then 10 else 11)
 | k,[],i,h,_,_=>by simp at h
 | k,m::r,0,h,_,hb=>by
  simp only[List.getD_cons_zero]at hb ⊢
  rw[chkK]
  rcases hb with e|e
  ·rw[if_pos e,if_pos e];rfl
  ·rw[if_neg (by omega),if_pos e,if_neg (by omega)];rfl
 | k,m::r,i+1,h,hg,hb=>by
  have h0:=hg 0 (by omega)
  simp only[List.getD_cons_zero]at h0
  rw[chkK,if_neg (by omega),if_neg (by omega)]
  have ih:=chkK_at (k+1) r i (by simpa using h) (fun j hj=>by have:=hg (j+1) (by omega);simpa only[List.getD_cons_succ] using this) (by simpa only[List.getD_cons_succ] using hb)
  rw[ih]
  simp only[List.getD_cons_succ]
  rw[show k+1+i=k+(i+1) by omega]
theorem chkD_at {L:List Nat} {i:Nat} (h:i<L.length) (hg:∀j,j<i→1≤L.getD j 0∧L.getD j 0≤63) (hb:L.getD i 0=0∨63<L.getD i 0):chkD L=(i,if L.getD i 0=0 then 10 else 11):=by
 unfold chkD
 rw[if_neg (by intro e;rw[e]at h;simp at h),chkK_at 0 L i h hg hb]
 simp
theorem chkD_end {L:List Nat} (hne:L≠[]) (hg:∀j,j<L.length→1≤L.getD j 0∧L.getD j 0≤63):chkD L=if 127<L.length∨253<L.sum+(L.length-1) then(0,11) else(0,0):=by
 unfold chkD
 rw[if_neg hne,chkK_all 0 L (fun n hn=>by
  obtain⟨j,hj,rfl⟩:=List.getElem_of_mem hn
  have:=hg j hj
  simpa[List.getD,hj] using this)]
theorem sum_take_snoc (L:List Nat) (k:Nat) (h:k<L.length):(L.take (k+1)).sum=(L.take k).sum+L.getD k 0:=by
 rw[List.take_succ_eq_append_getElem h,List.sum_append];simp[h]
set_option maxRecDepth 100000 in
set_option maxHeartbeats 4000000 in
theorem srcheck_at (p : Option Addr) (n cap K : Nat) (E : Int) (L : List ByteArray) (w : World) (hin : StrIn w p L) (hn : Hid (L.length = n)) (hn2 : n ≤ 17592186043904) (hE : Hid (chkD (L.map ByteArray.size) = (K, E))) :
  Calls Tryz.prog 22 #[.slice p n cap] w fun e w'=>e = .returned (.tuple #[.int .i64 K,.int .i64 E])∧w'=w:=by
 have HI:=Lib.hid hin
 clear hin
 by_cases h0:n=0
 ·have hl0:L=[]:=List.eq_nil_of_length_eq_zero (by rw[hn.out];exact h0)
  have hE':=hE.out
  rw[hl0]at hE'
  injection hE' with e1 e2
  subst e1;subst e2;subst h0
  clear hE
  go_enter Tryz.func22,Tryz.ntmps22
  go_wp2
  go_ret2
  exact⟨rfl,rfl⟩
 have d0:((n:Int)==0)=false:=by simp;omega
 have hne:L≠[]:=fun e=>h0 (by rw[←hn.out,e];rfl)
 have HNE:=Lib.hid hne
 have hn1:1≤n:=by omega
 obtain⟨n1,hn11⟩:∃n1,n-1=n1:=⟨_,rfl⟩
 have iw:(n:Int)-1=(n1:Int):=by omega
 have HN1:=Lib.hid hn11
 clear h0 hne hn11
 go_enter Tryz.func22,Tryz.ntmps22
 go_wp2
 go_loopw [4,15] (fun u i wr=>∃(k t:Nat),k≤n∧i = .int .i64 k∧u = .int .i64 t∧t≤n+63*k∧Hid (t=n1+((L.map ByteArray.size).take k).sum)∧Hid (∀j,j<k→1≤(L.map ByteArray.size).getD j 0∧(L.map ByteArray.size).getD j 0≤63)∧wr=w) (fun _ i _=>n-(intOf i).toNat)
 case atStart=>exact⟨0,n1,Nat.zero_le _,rfl,by go_num,by omega,by simp[Hid],fun j hj=>by omega,rfl⟩
 case round =>
  obtain⟨k,t,hk,rfl,rfl,htb,ht,hg,rfl⟩:=hrel
  by_cases hlt:k<n
  ·have hkl:k<L.length:=by rw[hn.out];exact hlt
   obtain⟨b,off,rfl,hck⟩:=HI.out k hkl
   obtain⟨x,hx⟩:∃x,L.getD k ByteArray.empty=x:=⟨_,rfl⟩
   rw[hx]at hck
   have hms:=getD_map_size L k hkl
   rw[hx]at hms
   have hml:k<(L.map ByteArray.size).length:=by simpa using hkl
   by_cases hx0:x.size=0
   ·have d1:=size_zeroN x hx0
    have HK:Hid (K=k∧E=10):=by
     have:=hE.out
     rw[chkD_at hml hg.out (.inl (by rw[hms];exact hx0)),hms,if_pos hx0]at this
     injection this with e1 e2
     exact⟨e1.symm,e2.symm⟩
    obtain⟨e1,e2⟩:=HK.out
    subst e1;subst e2
    clear hE HK hms hml hkl hx hx0
    go_wp2
    go_ret2
    exact⟨rfl,rfl⟩
   ·have d1:=size_posN x hx0
    by_cases hx63:63<x.size
    ·have HK:Hid (K=k∧E=11):=by
      have:=hE.out
      rw[chkD_at hml hg.out (.inr (by rw[hms];exact hx63)),hms,if_neg hx0]at this
      injection this with e1 e2
      exact⟨e1.symm,e2.symm⟩
     obtain⟨e1,e2⟩:=HK.out
     subst e1;subst e2
     clear hE HK hms hml hkl hx hx0
     go_wp2
     go_ret2
     exact⟨rfl,rfl⟩
    ·have HT:Hid (t+x.size=n1+((L.map ByteArray.size).take (k+1)).sum):=by unfold Hid;rw[sum_take_snoc _ _ hml,hms,ht.out];omega
     have HG:Hid (∀j,j<k+1→1≤(L.map ByteArray.size).getD j 0∧(L.map ByteArray.size).getD j 0≤63):=fun j hj=>by
      by_cases e:j=k
      ·subst e;rw[hms];omega
      ·exact hg.out j (by omega)
     clear hms hml hkl hx hx0 ht hg
     go_wp2
     go_roundw
     case rel=>exact⟨k+1,t+x.size,by omega,by go_num,by go_num,by omega,HT,HG,by first|rfl|trivial⟩
     case measure=>simp[intOf];omega
  ·obtain rfl:k=n:=by omega
   have HK:Hid ((127<k∨253<t)∧K=0∧E=11∨¬(127<k∨253<t)∧K=0∧E=0):=by
    have h1:=hE.out
    have h2:=ht.out
    rw[List.take_of_length_le (by simp[hn.out])]at h2
    rw[chkD_end (by simpa using HNE.out) (fun j hj=>hg.out j (by simpa[hn.out] using hj)),List.length_map,hn.out]at h1
    have h3:=HN1.out
    by_cases hc:127<k∨253<(L.map ByteArray.size).sum+(k-1)
    ·rw[if_pos hc]at h1
     injection h1 with e1 e2
     exact .inl ⟨by omega,e1.symm,e2.symm⟩
    ·rw[if_neg hc]at h1
     injection h1 with e1 e2
     exact .inr ⟨by omega,e1.symm,e2.symm⟩
   rcases HK.out with⟨hc,e1,e2⟩|⟨hc,e1,e2⟩
   ·subst e1;subst e2
    clear hE HK ht hg
    by_cases h127:127<k
    ·clear hc
     go_wp2
     go_ret2
     exact⟨rfl,rfl⟩
    ·have h253:253<t:=by omega
     clear hc
     go_wp2
     go_ret2
     exact⟨rfl,rfl⟩
   ·subst e1;subst e2
    have h127:¬127<k:=by omega
    have h253:¬253<t:=by omega
    clear hE HK ht hg hc
    go_wp2
    go_ret2
    exact⟨rfl,rfl⟩
theorem name_takeS (L:List ByteArray) (k:Nat):(nameB (L.take k)).size≤(nameB L).size:=by
 unfold nameB
 rw[strOfNums_size,strOfNums_size,List.map_take]
 exact joinD_take _ k
def Part (kd:IntKind) (w:World) (v:Value) (x:List Int):Prop:=∃q c,v = .slice q x.length c∧x.length≤c∧RowIn kd w q x
theorem Part.below {kd:IntKind} {w w':World} {v:Value} {x:List Int} (h:Part kd w v x) (hb:Below w.heap.size w w'):Part kd w' v x:=by
 obtain⟨q,c,e,hl,hi⟩:=h
 exact⟨q,c,e,hl,hi.below hb⟩
structure Parts (kd:IntKind) (T:TypeId) (w0 w:World) (B:Nat) (u:Value) (L:List (List Int)) (Vs:List Value):Prop where
 own:w.ownsRow B T 1 u L.length Vs
 len:Vs.length=L.length
 part:∀j,j<L.length→Part kd w0 (Vs.getD j (.slice none 0 0)) (L.getD j [])
theorem Parts.nil (kd:IntKind) (T:TypeId) (w0 w:World) (B:Nat):Parts kd T w0 w B (.slice none 0 0) [] []:=⟨World.ownsRow_nil _ _ _ _,rfl,fun j h=>by simp at h⟩
theorem Parts.push {kd : IntKind} {T : TypeId} {w0 w w4 : World} {B n : Nat} {u v' x : Value} {L : List (List Int)} {Vs : List Value} {y : List Int} (h : Parts kd T w0 w B u L Vs) (hn : L.length = n)
  (ho:w4.ownsRow B T 1 v' (n+1) (Vs++[x])) (hx:Part kd w0 x y):Parts kd T w0 w4 B v' (L++[y]) (Vs++[x]):=by
 subst hn
 refine⟨by simpa using ho,by simp[h.len],fun j hj=>?_⟩
 by_cases e:j=L.length
 ·subst e
  rw[getD_app_at,←h.len,getD_app_at]
  exact hx
 ·have hj2:j<L.length:=by simp at hj;omega
  rw[getD_app_lt _ _ _ _ hj2,getD_app_lt _ _ _ _ (by rw[h.len];exact hj2)]
  exact h.part j hj2
theorem row_cut {kd:IntKind} {w:World} {b off:Nat} {l:List Int} (hin:RowIn kd w (some ⟨b,off,none⟩) l) (st k:Nat) (hk:k≤l.length):RowIn kd w (some ⟨b,off+st,none⟩) ((l.take k).drop st):=by
 intro j hj
 have hj2:st+j<k:=by simp at hj;omega
 obtain⟨b',off',e,hc⟩:=hin (st+j) (by omega)
 cases e
 refine⟨_,_,rfl,?_⟩
 rw[show off+st+j=off+(st+j) by omega,hc]
 have h1:st+j<l.length:=by omega
 simp[List.getD,hj2,h1]
theorem cut_len (l:List Int) (st k:Nat) (hk:k≤l.length):((l.take k).drop st).length=k-st:=by simp;omega
theorem take_drop_snoc (l:List Int) (st k:Nat) (hs:st≤k) (hk:k<l.length):(l.take (k+1)).drop st=(l.take k).drop st++[l.getD k 0]:=by
 rw[take_snoc_int l k hk,List.drop_append_of_le_length (by simp;omega)]
def DivPost (kd:IntKind) (T:TypeId) (L:List (List Int)) (w:World) (e:Ending) (w':World):Prop :=
 ∃g c Vs,e = .returned (.slice (some ⟨g,0,none⟩) L.length c)∧L.length≤c∧Parts kd T w w' w.heap.size (.slice (some ⟨g,0,none⟩) L.length c) L Vs∧Below w.heap.size w w'
set_option maxRecDepth 100000 in
set_option maxHeartbeats 4000000 in
theorem divI_at (p : Option Addr) (n cap : Nat) (l : List Int) (w : World) (hin : RowIn .i64 w p l) (hn : Hid (l.length = n)) (hcap : n ≤ cap) (hn2 : n ≤ 1099511627776) :
  Calls Tryz.prog 105 #[.slice p n cap] w (DivPost .i64 22 (cutD l) w):=by
 have HI:=Lib.hid hin
 clear hin
 obtain⟨i0,hi,hz0,hz1,hz2⟩:=info_parts Tryz.info22
 by_cases hp:∃b off,p=some ⟨b,off,none⟩
 ·obtain⟨b,off,rfl⟩:=hp
  go_enter Tryz.func105,Tryz.ntmps105
  go_wp2
  go_loopw [3,4,9] (fun u s i wr=>∃(k st dn:Nat) (D:List (List Int)) (Vs:List Value),k≤n∧st≤k∧i = .int .i64 k∧s = .int .i64 st∧dn≤k∧Hid (D.length=dn)∧Hid (cutG D ((l.take k).drop st) (l.drop k)=cutD l)∧Hid (Parts .i64 22 w wr w.heap.size u D Vs)∧Hid (Below w.heap.size w wr)) (fun _ _ i _=>n-(intOf i).toNat)
  case atStart=>exact⟨0,0,0,[],[],Nat.zero_le _,Nat.le_refl _,rfl,rfl,Nat.le_refl _,rfl,rfl,Parts.nil _ _ _ _ _,Below.refl _ _⟩
  case round =>
   obtain⟨k,st,dn,D,Vs,hk,hst,rfl,rfl,hd,HDN,hcut,hps,hbel⟩:=hrel
   have hown:=hps.out.own
   rw[HDN.out]at hown
   have HOWN:=Lib.hid hown
   have HSZ:=Lib.hid hbel.out.size
   clear hown
   by_cases hlt:k<n
   ·have hkl:k<l.length:=by rw[hn.out];exact hlt
    obtain⟨b',off',e,hck⟩:=(HI.out.below hbel.out) k hkl
    cases e
    obtain⟨c,hc⟩:∃c,l.getD k 0=c:=⟨_,rfl⟩
    rw[hc]at hck
    by_cases e:c=46
    ·subst e
     have hcs:¬cap=st:=by omega
     have hPT:Part .i64 w (.slice (some ⟨b,off+st,none⟩) (k-st) (cap-st)) ((l.take k).drop st) :=
      ⟨some ⟨b,off+st,none⟩,cap-st,by rw[cut_len l st k (by omega)],by rw[cut_len l st k (by omega)];omega,row_cut HI.out st k (by omega)⟩
     have HPT:=Lib.hid hPT
     have HC:Hid (cutG (D++[(l.take k).drop st]) ((l.take (k+1)).drop (k+1)) (l.drop (k+1))=cutD l):=by
      unfold Hid
      rw[List.drop_of_length_le (l:=l.take (k+1)) (by simp;omega),←cut_dot hkl hc];exact hcut.out
     clear hc hkl hcut hPT
     go_wp2_with (at_builtin;refine wpList_append_own_at _ rfl _ _ 53 rfl w.heap.size 22 i0 (.slice none 0 0) 1 24 Tryz.underlying53 hi hz0 hz1 hz2 rfl (by decide) _ dn Vs rfl (World.ownsRow.alloc HOWN.out (.cells #[.slice (some ⟨b,off+st,none⟩) (k-st) (cap-st)] 22)) ⟨_,0,none⟩ 1 1 [.slice (some ⟨b,off+st,none⟩) (k-st) (cap-st)] rfl rfl (cell_one_new _ _ _) (by intro u hu;simp at hu;subst hu;rfl) (by unfold maxLen;omega) (by omega) (by have:=HSZ.out;simp;omega) ?_;intro v5 w5 ho5 hg5 _ hv5)
     have HP5:Hid (Parts .i64 22 w w5 w.heap.size v5 (D++[(l.take k).drop st]) (Vs++[.slice (some ⟨b,off+st,none⟩) (k-st) (cap-st)])):=hps.out.push HDN.out ho5 HPT.out
     have HB5:Hid (Below w.heap.size w w5):=(hbel.out.alloc HSZ.out _).grown hg5 (by have:=HSZ.out;simp;omega) (fun j hj=>(World.ownsRow.lt HOWN.out j hj).1)
     have HDN5:Hid ((D++[(l.take k).drop st]).length=dn+1):=by unfold Hid;simp[HDN.out]
     clear ho5 hg5 hv5 HOWN hps HPT
     go_wp2
     go_roundw
     case rel=>exact⟨k+1,k+1,dn+1,_,_,by omega,by omega,by go_num,by go_num,by omega,HDN5,HC,HP5,HB5⟩
     case measure=>simp[intOf];omega
    ·have d1:(c==46)=false:=by simp[e]
     have HC:Hid (cutG D ((l.take (k+1)).drop st) (l.drop (k+1))=cutD l):=by
      unfold Hid
      rw[take_drop_snoc l st k hst hkl,hc,←cut_no hkl hc e];exact hcut.out
     clear hc hkl hcut e HOWN
     go_wp2
     go_roundw
     case rel=>exact⟨k+1,st,dn,D,Vs,by omega,by omega,by go_num,rfl,by omega,HDN,HC,hps,hbel⟩
     case measure=>simp[intOf];omega
   ·obtain rfl:k=n:=by omega
    obtain⟨P,hP⟩:∃P,(if cap=st then some (⟨b,off,none⟩:Addr)else some ⟨b,off+st,none⟩)=P:=⟨_,rfl⟩
    have HE:Hid (D++[l.drop st]=cutD l):=by
     have:=hcut.out
     rwa[cut_end (by rw[hn.out];exact Nat.le_refl _),List.take_of_length_le (by rw[hn.out];exact Nat.le_refl _)]at this
    have hPT:Part .i64 w (.slice P (k-st) (cap-st)) (l.drop st):=by
     refine⟨P,cap-st,by simp[hn.out],by simp[hn.out];omega,?_⟩
     have h1:=row_cut HI.out st k (by rw[hn.out];exact Nat.le_refl _)
     rw[List.take_of_length_le (by rw[hn.out];exact Nat.le_refl _)]at h1
     rw[←hP]
     by_cases e:cap=st
     ·rw[List.drop_of_length_le (by rw[hn.out];omega)]
      intro j hj
      simp at hj
     ·rw[if_neg e];exact h1
    have HPT:=Lib.hid hPT
    clear hPT hcut
    go_wp2_with (at_builtin;refine wpList_append_own_at _ rfl _ _ 53 rfl w.heap.size 22 i0 (.slice none 0 0) 1 24 Tryz.underlying53 hi hz0 hz1 hz2 rfl (by decide) _ dn Vs rfl (World.ownsRow.alloc HOWN.out (.cells #[.slice P (k-st) (cap-st)] 22)) ⟨_,0,none⟩ 1 1 [.slice P (k-st) (cap-st)] rfl rfl (cell_one_new _ _ _) (by intro u hu;simp at hu;subst hu;rfl) (by unfold maxLen;omega) (by omega) (by have:=HSZ.out;simp;omega) ?_;intro v5 w5 ho5 hg5 _ hv5)
    have hp5:Parts .i64 22 w w5 w.heap.size v5 (D++[l.drop st]) (Vs++[.slice P (k-st) (cap-st)]):=hps.out.push HDN.out ho5 HPT.out
    rw[HE.out]at hp5
    have HP5:=Lib.hid hp5
    have HB5:Hid (Below w.heap.size w w5):=(hbel.out.alloc HSZ.out _).grown hg5 (by have:=HSZ.out;simp;omega) (fun j hj=>(World.ownsRow.lt HOWN.out j hj).1)
    have HL5:Hid ((cutD l).length=dn+1):=by unfold Hid;rw[←HE.out];simp[HDN.out]
    obtain⟨g5,c5,rfl,hc5⟩:∃g5 c5,v5 = .slice (some ⟨g5,0,none⟩) (dn+1) c5∧dn+1≤c5:=by
     rcases ho5.2 with⟨_,h⟩|⟨g5,c5,cur5,h,_,_,hc5,_⟩
     ·omega
     ·exact⟨g5,c5,h,hc5⟩
    clear ho5 hg5 hv5 HOWN hps HPT hp5 hP
    go_wp2
    go_ret
    exact⟨g5,c5,_,by rw[HL5.out];rfl,by rw[HL5.out];exact hc5,by rw[HL5.out];exact HP5.out,HB5.out⟩
 ·have hl:l=[]:=by
   cases l with
   | nil=>rfl
   | cons x r =>
    obtain⟨b,off,e,_⟩:=HI.out 0 (by simp)
    exact absurd ⟨b,off,e⟩ hp
  subst hl
  have hn0:n=0:=hn.out.symm
  subst hn0
  clear hp hn HI
  go_enter Tryz.func105,Tryz.ntmps105
  go_wp2
  go_loopw [3,4,9] (fun u s i wr=>s = .int .i64 (0:Nat)∧i = .int .i64 (0:Nat)∧Hid (Parts .i64 22 w wr w.heap.size u [] [])∧wr=w) (fun _ _ i _=>0)
  case atStart=>exact⟨rfl,rfl,Parts.nil _ _ _ _ _,rfl⟩
  case round =>
   obtain⟨rfl,rfl,hps,rfl⟩:=hrel
   have HOWN:=Lib.hid hps.out.own
   go_wp2_with (at_builtin;refine wpList_append_own_at _ rfl _ _ 53 rfl wr.heap.size 22 i0 (.slice none 0 0) 1 24 Tryz.underlying53 hi hz0 hz1 hz2 rfl (by decide) _ 0 [] rfl (World.ownsRow.alloc HOWN.out (.cells #[.slice p 0 cap] 22)) ⟨_,0,none⟩ 1 1 [.slice p 0 cap] rfl rfl (cell_one_new _ _ _) (by intro u hu;simp at hu;subst hu;rfl) (by unfold maxLen;omega) (by omega) (by simp) ?_;intro v5 w5 ho5 hg5 _ hv5)
   have hp5:Parts .i64 22 wr w5 wr.heap.size v5 ([]++[[]]) ([]++[.slice p 0 cap]):=hps.out.push rfl ho5 ⟨p,cap,rfl,Nat.zero_le _,fun j hj=>by simp at hj⟩
   have HP5:=Lib.hid hp5
   have HB5:Hid (Below wr.heap.size wr w5):=((Below.refl _ _).alloc (Nat.le_refl _) _).grown hg5 (by simp) (fun j hj=>(World.ownsRow.lt HOWN.out j hj).1)
   obtain⟨g5,c5,rfl,hc5⟩:∃g5 c5,v5 = .slice (some ⟨g5,0,none⟩) 1 c5∧1≤c5:=by
    rcases ho5.2 with⟨_,h⟩|⟨g5,c5,cur5,h,_,_,hc5,_⟩
    ·omega
    ·exact⟨g5,c5,h,hc5⟩
   clear ho5 hg5 hv5 HOWN hps hp5
   go_wp2
   go_ret
   exact⟨g5,c5,_,rfl,hc5,HP5.out,HB5.out⟩
end Go.Proofs.YtblcoicaeeiojaaGreatDoor
