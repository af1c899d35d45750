/- The contract of keep.Same at int. The example of chapter 1:  -/
import Derived.Test.YtblcoicaeeiojaaGreatDoorSSiPmOwn
import Derived.Deep.QuietTactic
import Derived.BigQuiet
import Derived.Test.YtblcoicaeeiojaaGreatDoorSSiPmUtfD
import Derived.Test.YtblcoicaeeiojaaGreatDoorSSiPmUtfSpec
import Derived.Test.YtblcoicaeeiojaaGreatDoorSSiPmPunDecB
import Derived.Test.YtblcoicaeeiojaaGreatDoorSSiPmPunEncA
import Derived.Test.YtblcoicaeeiojaaGreatDoorSSiPmPunSpec3
set_option linter.unusedSimpArgs false
set_option linter.unusedVariables false
namespace Go.Proofs.YtblcoicaeeiojaaGreatDoor
open Go.RowKit
theorem beq_take_snoc (xs ys:List Int) (k:Nat) (hx:k<xs.length) (hy:k<ys.length) (h:xs.take k=ys.take k) (he:xs.getD k 0=ys.getD k 0):xs.take (k+1)=ys.take (k+1):=by
 rw[take_snoc_int xs k hx,take_snoc_int ys k hy,h,he]
theorem ne_of_getD (xs ys:List Int) (k:Nat) (he:xs.getD k 0≠ys.getD k 0):(xs==ys)=false:=by
 simp only[beq_eq_false_iff_ne,ne_eq]
 rintro rfl
 exact he rfl
set_option maxHeartbeats 1000000 in
theorem same_any (p q : Option Addr) (c d : Nat) (xs ys : List Int) (w : World) (hx : IntsIn w p xs) (hy : IntsIn w q ys) (hxl : xs.length ≤ maxLen) (hyl : ys.length ≤ maxLen) :
  Calls Tryz.prog 64 #[.slice p xs.length c,.slice q ys.length d] w fun e w'=>e = .returned (.bool (xs==ys))∧Below w.heap.size w w':=by
 unfold maxLen at hxl hyl
 by_cases hl:xs.length=ys.length
 ·have hne:((xs.length:Int) !=(ys.length:Int))=false:=by simp[hl]
  have HX:=Lib.hid hx
  have HY:=Lib.hid hy
  have HL:=Lib.hid hl
  clear hl hx hy
  go_enter Tryz.func64,Tryz.ntmps64
  go_wp2
  go_loopw [13] (fun i wr=>∃k:Nat,k≤xs.length∧i = .int .i64 k∧Hid (xs.take k=ys.take k)∧Below w.heap.size w wr) (fun i _=>xs.length-(intOf i).toNat)
  case atStart=>exact⟨0,Nat.zero_le _,rfl,rfl,Below.refl _ _⟩
  case round =>
   obtain⟨k,hk,rfl,ht,hbel⟩:=hrel
   by_cases hlt:k<xs.length
   ·obtain⟨b1,o1,rfl,hc1⟩:=(HX.out.below hbel) k hlt
    obtain⟨b2,o2,rfl,hc2⟩:=(HY.out.below hbel) k (by rw[←HL.out];exact hlt)
    have hlt2:k<ys.length:=by rw[←HL.out];exact hlt
    obtain⟨x,hxx⟩:∃x,xs.getD k 0=x:=⟨_,rfl⟩
    obtain⟨y,hyy⟩:∃y,ys.getD k 0=y:=⟨_,rfl⟩
    rw[hxx]at hc1
    rw[hyy]at hc2
    by_cases hxy:x=y
    ·have hb:(x !=y)=false:=by simp[hxy]
     have HS:Hid (xs.take (k+1)=ys.take (k+1)):=beq_take_snoc xs ys k hlt hlt2 ht.out (by rw[hxx,hyy,hxy])
     clear hxx hyy hxy
     go_wp2
     go_quiet (fail)
     go_wp2
     go_roundw
     case rel=>exact⟨k+1,by omega,by go_num,HS,below_drewN hbel _⟩
     case measure=>simp[intOf];omega
    ·have hb:(x !=y)=true:=by simp[hxy]
     have HS:Hid ((xs==ys)=false):=ne_of_getD xs ys k (by rw[hxx,hyy];exact hxy)
     clear hxx hyy hxy
     go_wp2
     go_quiet (fail)
     go_wp2
     go_ret
     rw[HS.out]
     exact⟨rfl,below_drewN hbel _⟩
   ·obtain rfl:k=xs.length:=by omega
    have HS:Hid ((xs==ys)=true):=by
     have:=ht.out
     rw[List.take_length,HL.out,List.take_length]at this
     simp[Hid,this]
    go_wp2
    go_ret
    rw[HS.out]
    exact⟨rfl,hbel⟩
 ·have hne:((xs.length:Int) !=(ys.length:Int))=true:=by simp;omega
  have HE:Hid ((xs==ys)=false):=by
   simp only[Hid,beq_eq_false_iff_ne,ne_eq]
   rintro rfl
   exact hl rfl
  clear hl hx hy
  go_enter Tryz.func64,Tryz.ntmps64
  go_wp2
  go_ret
  rw[HE.out]
  exact⟨rfl,Below.refl _ _⟩
set_option maxHeartbeats 400000 in
theorem scalar_any (c : Int) (w : World) :
  Calls Tryz.prog 44 #[.int .i64 c] w fun e w'=>e = .returned (.bool (!(lenS c==0)))∧w=w':=by
 by_cases h1:c<0
 ·have e:lenS c=0:=by unfold lenS;omega
  go_enter Tryz.func44,Tryz.ntmps44
  go_wp2
  go_ret
  exact⟨rfl,rfl⟩
 by_cases h2:1114111<c
 ·have e:lenS c=0:=by unfold lenS;omega
  go_enter Tryz.func44,Tryz.ntmps44
  go_wp2
  go_ret
  exact⟨rfl,rfl⟩
 by_cases h3:c<55296
 ·have e:(lenS c==0)=false:=by unfold lenS;simp;omega
  go_enter Tryz.func44,Tryz.ntmps44
  go_wp2
  go_ret
  exact⟨rfl,rfl⟩
 by_cases h4:57343<c
 ·have e:(lenS c==0)=false:=by unfold lenS;simp;omega
  go_enter Tryz.func44,Tryz.ntmps44
  go_wp2
  go_ret
  exact⟨rfl,rfl⟩
 ·have e:lenS c=0:=by unfold lenS;omega
  go_enter Tryz.func44,Tryz.ntmps44
  go_wp2
  go_ret
  exact⟨rfl,rfl⟩
theorem scalar_at (c : Int) (b : Bool) (w : World) (h : Hid ((!(lenS c == 0)) = b)) :
  Calls Tryz.prog 44 #[.int .i64 c] w fun e w'=>e = .returned (.bool b)∧w=w':=h.out▸scalar_any c w
set_option maxHeartbeats 400000 in
theorem refLength_any (c : Int) (w : World) :
  Calls Tryz.prog 71 #[.int .i64 c] w fun e w'=>e = .returned (.int .i64 (lenS c))∧w=w':=by
 by_cases h:lenS c=0
 ·have HS:Hid ((!(lenS c==0))=false):=by simp[Hid,h]
  rw[h]
  clear h
  go_enter Tryz.func71,Tryz.ntmps71
  go_wp2_with (go_at_call 44;refine(scalar_at _ _ _ HS).mono ?_;rintro e w' ⟨rfl,rfl⟩)
  go_ret
  exact⟨rfl,rfl⟩
 ·have HS:Hid ((!(lenS c==0))=true):=by simp[Hid,h]
  have hb:lenS c=if c≤127 then 1 else if c≤2047 then 2 else if c≤65535 then 3 else 4:=by unfold lenS at *;omega
  rw[hb]
  clear hb h
  go_enter Tryz.func71,Tryz.ntmps71
  go_wp2_with (go_at_call 44;refine(scalar_at _ _ _ HS).mono ?_;rintro e w' ⟨rfl,rfl⟩)
  all_goals
   go_ret
   exact⟨rfl,rfl⟩
set_option maxHeartbeats 400000 in
theorem one_1 (c : Int) (w : World) (h0 : 0 ≤ c) (h1 : c ≤ 127) :
  Calls Tryz.prog 45 #[.int .i64 c] w fun e w'=>e = .returned (.string (strOfNums [c]))∧Below w.heap.size w w':=by
 have hl1:((lenS c:Int)==1)=true:=by unfold lenS;simp;omega
 have e0:(c)%256=c:=by omega
 have hcv:=conv_lit w #[.int .u8 (c)] [c] 1 rfl rfl
 obtain⟨X,hX⟩:∃X,strOfNums [c]=X:=⟨_,rfl⟩
 rw[hX]at hcv ⊢
 clear hX
 go_enter Tryz.func45,Tryz.ntmps45
 go_wp2_with (go_at_call 71;refine(refLength_any _ _).mono ?_;rintro e w' ⟨rfl,rfl⟩)
 go_ret
 exact⟨rfl,(Below.refl _ _).alloc (Nat.le_refl _) _⟩
set_option maxHeartbeats 400000 in
theorem one_2 (c : Int) (w : World) (h0 : 128 ≤ c) (h1 : c ≤ 2047) :
  Calls Tryz.prog 45 #[.int .i64 c] w fun e w'=>e = .returned (.string (strOfNums [192+c / 64,128+c%64]))∧Below w.heap.size w w':=by
 have hl1:((lenS c:Int)==1)=false:=by unfold lenS;simp;omega
 have hl2:((lenS c:Int)==2)=true:=by unfold lenS;simp;omega
 have e0:(192+c / 64)%256=192+c / 64:=by omega
 have e1:(128+c%64)%256=128+c%64:=by omega
 have hcv:=conv_lit w #[.int .u8 (192+c / 64),.int .u8 (128+c%64)] [192+c / 64,128+c%64] 2 rfl rfl
 obtain⟨X,hX⟩:∃X,strOfNums [192+c / 64,128+c%64]=X:=⟨_,rfl⟩
 rw[hX]at hcv ⊢
 clear hX
 go_enter Tryz.func45,Tryz.ntmps45
 go_wp2_with (go_at_call 71;refine(refLength_any _ _).mono ?_;rintro e w' ⟨rfl,rfl⟩)
 go_ret
 exact⟨rfl,(Below.refl _ _).alloc (Nat.le_refl _) _⟩
set_option maxHeartbeats 400000 in
theorem one_3 (c : Int) (w : World) (h0 : 2048 ≤ c) (h1 : c ≤ 65535) (h2 : ¬ (55296 ≤ c ∧ c ≤ 57343)) :
  Calls Tryz.prog 45 #[.int .i64 c] w fun e w'=>e = .returned (.string (strOfNums [224+c / 4096,128+c / 64%64,128+c%64]))∧Below w.heap.size w w':=by
 have hl1:((lenS c:Int)==1)=false:=by unfold lenS;simp;omega
 have hl2:((lenS c:Int)==2)=false:=by unfold lenS;simp;omega
 have hl3:((lenS c:Int)==3)=true:=by unfold lenS;simp;omega
 have e0:(224+c / 4096)%256=224+c / 4096:=by omega
 have e1:(128+c / 64%64)%256=128+c / 64%64:=by omega
 have e2:(128+c%64)%256=128+c%64:=by omega
 have hcv:=conv_lit w #[.int .u8 (224+c / 4096),.int .u8 (128+c / 64%64),.int .u8 (128+c%64)] [224+c / 4096,128+c / 64%64,128+c%64] 3 rfl rfl
 clear h2
 obtain⟨X,hX⟩:∃X,strOfNums [224+c / 4096,128+c / 64%64,128+c%64]=X:=⟨_,rfl⟩
 rw[hX]at hcv ⊢
 clear hX
 go_enter Tryz.func45,Tryz.ntmps45
 go_wp2_with (go_at_call 71;refine(refLength_any _ _).mono ?_;rintro e w' ⟨rfl,rfl⟩)
 go_ret
 exact⟨rfl,(Below.refl _ _).alloc (Nat.le_refl _) _⟩
set_option maxHeartbeats 400000 in
theorem one_4 (c : Int) (w : World) (h0 : 65536 ≤ c) (h1 : c ≤ 1114111) :
  Calls Tryz.prog 45 #[.int .i64 c] w fun e w'=>e = .returned (.string (strOfNums [240+c / 262144,128+c / 4096%64,128+c / 64%64,128+c%64]))∧Below w.heap.size w w':=by
 have hl1:((lenS c:Int)==1)=false:=by unfold lenS;simp;omega
 have hl2:((lenS c:Int)==2)=false:=by unfold lenS;simp;omega
 have hl3:((lenS c:Int)==3)=false:=by unfold lenS;simp;omega
 have e0:(240+c / 262144)%256=240+c / 262144:=by omega
 have e1:(128+c / 4096%64)%256=128+c / 4096%64:=by omega
 have e2:(128+c / 64%64)%256=128+c / 64%64:=by omega
 have e3:(128+c%64)%256=128+c%64:=by omega
 have hcv:=conv_lit w #[.int .u8 (240+c / 262144),.int .u8 (128+c / 4096%64),.int .u8 (128+c / 64%64),.int .u8 (128+c%64)] [240+c / 262144,128+c / 4096%64,128+c / 64%64,128+c%64] 4 rfl rfl
 obtain⟨X,hX⟩:∃X,strOfNums [240+c / 262144,128+c / 4096%64,128+c / 64%64,128+c%64]=X:=⟨_,rfl⟩
 rw[hX]at hcv ⊢
 clear hX
 go_enter Tryz.func45,Tryz.ntmps45
 go_wp2_with (go_at_call 71;refine(refLength_any _ _).mono ?_;rintro e w' ⟨rfl,rfl⟩)
 go_ret
 exact⟨rfl,(Below.refl _ _).alloc (Nat.le_refl _) _⟩
theorem one_any (c : Int) (w : World) (hc : lenS c ≠ 0) :
  Calls Tryz.prog 45 #[.int .i64 c] w fun e w'=>e = .returned (.string (strOfNums (encB c)))∧Below w.heap.size w w':=by
 unfold lenS at hc
 unfold encB
 split
 ·exact one_1 c w (by omega) (by omega)
 split
 ·exact one_2 c w (by omega) (by omega)
 split
 ·exact one_3 c w (by omega) (by omega) (by omega)
 ·exact one_4 c w (by omega) (by omega)
end Go.Proofs.YtblcoicaeeiojaaGreatDoor
namespace Go.Proofs.YtblcoicaeeiojaaGreatDoor
open Go.RowKit Go.Sort
def pmadeInts (c:Nat):Obj := .cells (madeCells (Value.cells (.int .i64 0)) (c*1)) 3
theorem prun_make_ints (c : Nat) (hc : c ≤ 4194304) (w : World) :
  (Instr.makeSlice 22 (.int .i64 0) (.int .i64 (c:Int))).run Tryz.prog w = .ok (.slice (some ⟨w.heap.size,0,none⟩) 0 c) (w.alloc (pmadeInts c)):=by
 obtain⟨i0,hi,hz0,hz1,hz2⟩:=info_parts Tryz.info3
 have h:=pun_make_rowN (P:=Tryz.prog) 22 3 i0 _ Tryz.underlying22 hi hz0 .i64 .i64 0 c (Nat.zero_le _) (by rw[hz2];omega) (by omega) w
 rw[hz1]at h
 exact h
theorem SRow.made (w:World) (c:Nat):SRow (w.alloc (pmadeInts c)) w.heap.size c ([]:List Int).toArray :=
 ⟨_,heap_alloc_new w _,by rw[size_madeCells];simp[Value.cells],Nat.zero_le _,fun i hi=>by simp at hi⟩
theorem OwnB.bytes {w:World} {B:Nat} {v:Value} {xs:List Int} (h:OwnB w B v xs):∃g cap,v = .slice (some ⟨g,0,none⟩) xs.length cap∧B≤g∧g<w.heap.size∧RowIn .u8 w (some ⟨g,0,none⟩) xs:=by
 obtain⟨g,cap,cur,fz,rfl,hb,hg,hf,hn,hc,hs,ht⟩:=h
 refine⟨g,cap,rfl,hb,(Array.getElem?_eq_some_iff.1 hg).1,fun k hk=>⟨g,0,rfl,?_⟩⟩
 rw[cell_of_row w g (0+k) cur _ fz hg,Nat.zero_add]
 have e:(cur.toList.take xs.length)[k]? = (xs.map (Value.int .u8))[k]? := by rw[ht]
 rw[List.getElem?_take,if_pos hk]at e
 simpa[List.getD,List.getElem?_eq_getElem hk] using e
def RetDec (out:List Int) (er:Int) (w:World) (e:Ending) (w':World):Prop :=
 ∃v,e = .returned (.tuple #[v,.int .i64 er])∧Ints w' w.heap.size v out∧Below w.heap.size w w'
theorem RetDec.nil (er:Int) {w w':World} (h:Below w.heap.size w w'):RetDec [] er w (.returned (.tuple #[.slice none 0 0,.int .i64 er])) w':=⟨_,rfl,Ints.nil _ _,h⟩
theorem decP_long {L:List Int} (h:2048<L.length):decP L=([],7):=by unfold decP;rw[if_pos h]
theorem decP_any {L:List Int} (h:L.length≤2048) (h2:((L.take (hyS L)).any fun c=>decide (127<c))=true):decP L=([],12):=by unfold decP;rw[if_neg (by omega),if_pos h2]
theorem decP_go {L:List Int} (h:L.length≤2048) (h2:((L.take (hyS L)).any fun c=>decide (127<c))=false):decP L=pdecL L.length (L.take (hyS L)) 128 0 72 true (L.drop (if hyS L=0 then 0 else hyS L+1)):=by unfold decP;rw[if_neg (by omega),if_neg (by rw[h2];simp)]
theorem any_bad {P:List Int} {k:Nat} (hk:k<P.length) (h:basB (P.getD k 0)=false):(P.any fun c=>decide (127<c))=true:=by
 rw[List.any_eq_true]
 refine⟨P.getD k 0,by simp[hk],?_⟩
 have:=of_decide_eq_false (show decide (P.getD k 0<128)=false from h)
 exact decide_eq_true (by omega)
theorem any_ok {P:List Int} (h:∀k,k<P.length→basB (P.getD k 0)=true):(P.any fun c=>decide (127<c))=false:=by
 rw[List.any_eq_false]
 intro c hc
 obtain⟨k,hk,rfl⟩:=List.getElem_of_mem hc
 have h1:=h k hk
 rw[List.getD_eq_getElem?_getD,List.getElem?_eq_getElem hk,Option.getD_some]at h1
 have:=of_decide_eq_true (show decide (P[k]<128)=true from h1)
 simp;omega
structure DecSt (w0 w:World) (gs gl cap:Nat) (P:List Int) (n:Int) (i b:Nat) (later:Bool):Prop where
 st:StB w gs n i P.length b later
 row:SRow w gl cap P.toArray
 bel:Below w0.heap.size w0 w
 gs0:w0.heap.size≤gs
 gl0:w0.heap.size≤gl
 ne:gs≠gl
theorem DecSt.drewN {w0 w:World} {gs gl cap:Nat} {P:List Int} {n:Int} {i b:Nat} {later:Bool} (h:DecSt w0 w gs gl cap P n i b later) (m:Nat):DecSt w0 (w.drewN m) gs gl cap P n i b later :=
 ⟨h.st.drewN m,h.row.drewN m,below_drewN h.bel m,h.gs0,h.gl0,h.ne⟩
def slLen (v:Value):Nat:=match v with | .slice _ n _=>n|_=>0
set_option maxRecDepth 100000 in
set_option maxHeartbeats 8000000 in
theorem pdecode_at (s : ByteArray) (out : List Int) (er : Int) (w : World) (hs : s.size ≤ 140737488355328) (hE : Hid (decP (nums s) = (out, er))) :
  Calls Tryz.prog 272 #[.string s] w (RetDec out er w):=by
 by_cases hbig:2048<s.size
 ·have hE':=hE.out
  rw[decP_long (by rw[nums_length];exact hbig)]at hE'
  injection hE' with e1 e2
  subst e1;subst e2
  clear hE
  go_enter Tryz.func272,Tryz.ntmps272
  go_wp2
  go_ret2
  exact RetDec.nil 7 (Below.refl _ _)
 have hsb:s.size≤2048:=by omega
 obtain⟨h,hh⟩:∃h,hyS (nums s)=h:=⟨_,rfl⟩
 have HH:=Lib.hid hh
 clear hbig hh
 go_enter Tryz.func272,Tryz.ntmps272
 go_wp2_with fail
 refine(cut_at s _ (by omega)).mono ?_
 rintro ex w1 ⟨B,G,rfl,hB,hG,q,hw1⟩
 have HB1:Hid (Below w.heap.size w w1):=by rw[hw1];exact below_drewN (Below.refl _ _) q
 rw[HH.out]at hB hG
 have hBl:B.size≤s.size:=by
  rw[←nums_length,hB,←nums_length];simp;omega
 have HBn:=Lib.hid hB
 have HGn:=Lib.hid hG
 have hmk:=prun_make_ints s.size (by omega)
 have HR2:=Lib.hid (SRow.made w1 s.size)
 have HB2:=Lib.hid (HB1.out.alloc HB1.out.size (pmadeInts s.size))
 have HZ2:Hid ((w1.alloc (pmadeInts s.size)).heap.size=w1.heap.size+1):=by unfold Hid;simp
 clear hB hG hw1
 go_upto_region 5 with(fail)
 obtain⟨gl,hgl⟩:∃gl,w1.heap.size=gl:=⟨_,rfl⟩
 have HGL0:Hid (w.heap.size≤gl):=by unfold Hid;rw[←hgl];exact HB1.out.size
 rw[hgl]at HR2 HZ2 ⊢
 generalize w1.alloc (pmadeInts s.size)=W2 at HR2 HB2 HZ2 ⊢
 obtain⟨vb,W3,hcv,ho3,hb3⟩:=conv_bytes_own W2 B (by unfold maxLen;omega)
 obtain⟨gb,cb,rfl,hgb,hgb2,hbin⟩:=ho3.bytes
 have HR3:Hid (SRow W3 gl s.size ([]:List Int).toArray):=HR2.out.grown (below_grownBy hb3 none) (by simp)
 have HB3:=Lib.hid (HB2.out.trans (hb3.mono HB2.out.size))
 have HBI:=Lib.hid hbin
 have hgbl:gl<gb:=by have:=HZ2.out;omega
 have HGB2:=Lib.hid hgb2
 clear ho3 hb3 hbin hgb hgb2 hmk
 rw[nums_length]at hcv
 obtain⟨P,hP⟩:∃P,nums B=P:=⟨_,rfl⟩
 obtain⟨m,hm⟩:∃m,B.size=m:=⟨_,rfl⟩
 have hPm:P.length=m:=by rw[←hP,nums_length,hm]
 have HPM:=Lib.hid hPm
 have HPB:Hid (∀x∈P,0≤x∧x<256):=by rw[←hP];exact nums_bytes B
 rw[hP]at HBI HBn
 rw[hm]at hBl hcv
 clear hP hm hPm
 go_wp2
 go_loopw [6,29] (fun vv u wr=>∃k:Nat,u = .int .i64 k∧k≤m∧vv = .slice (some ⟨gl,0,none⟩) k s.size∧Hid (∀j,j<k→basB (P.getD j 0)=true)∧Hid (SRow wr gl s.size (P.take k).toArray)∧Hid (RowIn .u8 wr (some ⟨gb,0,none⟩) P)∧Hid (gb<wr.heap.size)∧Hid (Below w.heap.size w wr)) (fun _ u _=>m-(intOf u).toNat)
 case atStart=>exact⟨0,rfl,Nat.zero_le _,rfl,fun j hj=>by omega,HR3,HBI,HGB2,HB3⟩
 case round =>
  clear HR3 HB3 HBI HGB2 hcv HR2 HB2 HZ2
  obtain⟨k,rfl,hk,rfl,hbs,hsr,hbi,hgb,hbe⟩:=hrel
  by_cases hlt:k<m
  ·have hkP:k<P.length:=by rw[HPM.out];exact hlt
   obtain⟨b1,o1,e1,hck⟩:=hbi.out k hkP
   cases e1
   rw[Nat.zero_add]at hck
   obtain⟨y,hy⟩:∃y,P.getD k 0=y:=⟨_,rfl⟩
   rw[hy]at hck
   have hyb:=HPB.out y (by rw[←hy];simp[hkP])
   obtain⟨hy0,hy1⟩:=hyb
   cases hbb:basB y with
   | false =>
    have HBB:=Lib.hid hbb
    have hE':=hE.out
    rw[decP_any (by rw[nums_length];exact hsb) (by rw[HH.out,←HBn.out];exact any_bad hkP (by rw[hy];exact hbb))]at hE'
    injection hE' with e1 e2
    subst e1;subst e2
    clear hE hbb hy hkP
    go_wp2_with (go_at_call 243;refine(isbasic_at y false _ HBB).mono ?_;rintro e w5 ⟨rfl,rfl⟩)
    go_ret2
    exact RetDec.nil 12 hbe.out
   | true =>
    have HBB:=Lib.hid hbb
    have HBS2:Hid (∀j,j<k+1→basB (P.getD j 0)=true):=fun j hj=>by
     by_cases e:j=k
     ·subst e;rw[hy];exact hbb
     ·exact hbs.out j (by omega)
    have htk:(P.take k).length=k:=by simp;omega
    have hsrA:=hsr.out.grown (World.grownBy_alloc _ (.cells #[.int .i64 y] 3) none) (by simp)
    obtain⟨hpu,hsp,hfz⟩:=hsrA.push (by rw[htk];omega) y
    rw[htk]at hpu hsp hfz
    rw[←hy,←take_snoc_int P k hkP,hy]at hpu
    have HPU:=Lib.hid hpu
    have HSP:=Lib.hid hsp
    have HFZ:=Lib.hid hfz
    have HSRC:Hid (Go.Src Tryz.prog 1 22 (.slice (some ⟨World.heap _ |>.size,0,none⟩) 1 1) 1 [.int .i64 y] (World.alloc _ (.cells #[.int .i64 y] 3))):=Go.Src.ofSlice (World.alloc wr (.cells #[.int .i64 y] 3)) Tryz.underlying22 ⟨wr.heap.size,0,none⟩ 1 1 [.int .i64 y] (by simp) (fun j u hj=>by
     rw[Addr.add_lit]
     cases j with
     | zero=>simp at hj;subst hj;simp[World.cell?_alloc_new]
     | succ j=>simp at hj) (by simp[Value.oneCell'])
    have HBI2:Hid (RowIn .u8 ((World.alloc wr (.cells #[.int .i64 y] 3)).setCells gl k [.int .i64 y]) (some ⟨gb,0,none⟩) P) :=
     (hbi.out.alloc _).grown (grown_setCells gl _ _ _) (fun b off e=>by cases e;omega)
    have HGB2:Hid (gb<((World.alloc wr (.cells #[.int .i64 y] 3)).setCells gl k [.int .i64 y]).heap.size):=by
     have h1:=hgb.out
     have h2:=(grown_setCells gl [.int .i64 y] k (World.alloc wr (.cells #[.int .i64 y] 3))).size
     simp only[World.size_alloc]at h2
     unfold Hid;omega
    have HBE2:Hid (Below w.heap.size w ((World.alloc wr (.cells #[.int .i64 y] 3)).setCells gl k [.int .i64 y])) :=
     (hbe.out.alloc hbe.out.size _).grown (grown_setCells gl _ _ _) (by have:=hbe.out.size;simp;omega) (by rintro j ⟨⟩;exact HGL0.out)
    clear hpu hsp hfz hsrA hy hbb hkP hsr hbi hgb hbe
    go_wp2_with (first
     | (go_at_call 243;refine(isbasic_at y true _ HBB).mono ?_;rintro e w5 ⟨rfl,rfl⟩)
     | (at_builtin;refine wpList_append_room1 _ rfl _ _ 22 22 rfl 3 _ _ Tryz.underlying22 Tryz.info3 gl 0 k s.size rfl _ rfl 1 [.int .i64 y] HSRC.out (by omega) HSP.out HFZ.out ?_))
    go_roundw
    case rel=>exact⟨k+1,by go_num,by omega,rfl,HBS2,HPU,HBI2,HGB2,HBE2⟩
    case measure=>simp[intOf];omega
  ·obtain rfl:k=m:=by omega
   have HOKB:Hid ((P.any fun c=>decide (127<c))=false):=any_ok (fun j hj=>hbs.out j (by rw[HPM.out]at hj;exact hj))
   have HD0:Hid (pdecL (nums s).length P 128 0 72 true (nums G)=(out,er)):=by
    have:=hE.out
    rw[decP_go (by rw[nums_length];exact hsb) (by rw[HH.out,←HBn.out];exact HOKB.out),HH.out,←HBn.out,←HGn.out]at this
    exact this
   have hsr2:=hsr.out
   rw[List.take_of_length_le (by rw[HPM.out];exact Nat.le_refl _)]at hsr2
   have HSR:=Lib.hid hsr2
   have HGL:Hid ((nums G).length+k≤s.size):=by
    unfold Hid;rw[HGn.out,←HPM.out,HBn.out,List.length_drop,List.length_take,nums_length]
    split<;>omega
   clear hsr2 hE hbs hsr HOKB hbi hgb HPB HBn HGn HB1
   go_wp2_with fail
   refine(start_at k _).mono ?_
   rintro ex w6 ⟨rfl,hb6⟩
   have HSR6:=Lib.hid (HSR.out.grown (below_grownBy hb6 none) (by simp))
   have HB6:=Lib.hid (hbe.out.trans (hb6.mono hbe.out.size))
   have HNEW:=Lib.hid (F5.new w6 (.int .i64 128) (.int .i64 0) (.int .i64 k) (.int .i64 72) (.bool false) 155)
   have HDS:Hid (DecSt w (w6.alloc (.cells #[.int .i64 128,.int .i64 0,.int .i64 k,.int .i64 72,.bool false] 155)) w6.heap.size gl s.size P 128 0 72 false):=by
    refine⟨by unfold StB;rw[HPM.out];exact HNEW.out,HSR6.out.grown (World.grownBy_alloc _ _ none) (by simp),HB6.out.alloc HB6.out.size _,HB6.out.size,HGL0.out,fun e=>?_⟩
    have:=HSR6.out.lt
    omega
   clear hb6 HSR HNEW HSR6 HB6 hbe
   go_upto_region 13 with(fail)
   generalize w6.alloc (.cells #[.int .i64 128,.int .i64 0,.int .i64 k,.int .i64 72,.bool false] 155)=W7 at HDS ⊢
   generalize w6.heap.size=gs at HDS ⊢
   have hGL:=HGL.out
   rw[nums_length]at hGL
   have hGs:G.size≤(nums s).length:=by rw[nums_length];omega
   go_wp2
   go_loopw [5,6] (fun vs vv wx=>∃(G':ByteArray) (P':List Int) (n:Int) (i b f pn:Nat) (later:Bool),vs = .string G'∧vv = .slice (some ⟨gl,0,none⟩) pn s.size∧G'.size+pn≤s.size∧G'.size≤f∧0≤n∧n≤1114111∧i≤pn∧b≤70368744177664∧Hid (P'.length=pn)∧Hid (DecSt w wx gs gl s.size P' n i b later)∧Hid (pdecL f P' n i b (!later) (nums G')=(out,er))) (fun _ vv _=>s.size-slLen vv)
   case atStart=>exact⟨G,P,128,0,72,(nums s).length,k,false,rfl,rfl,hGL,hGs,by omega,by omega,by omega,by omega,HPM,HDS,HD0⟩
   case round =>
    clear HDS HD0 HGL hGL hGs HPM
    obtain⟨G',P',n,i,b,f,pn,later,rfl,rfl,hGp,hGf,hn0,hn1,hi,hb,hpn,hds,hde⟩:=hrel
    by_cases hG:0<G'.size
    ·obtain⟨f',rfl⟩:∃f',f=f'+1:=⟨f-1,by omega⟩
     obtain⟨⟨v,mm,e⟩,hrd⟩:∃y,rdN b (nums G')=y:=⟨_,rfl⟩
     have hne:nums G'≠[]:=by
      intro e0
      have:=nums_length G'
      rw[e0]at this
      simp at this;omega
     obtain⟨st1,st2⟩:=pdecL_step (f:=f') (P:=P') (n:=n) (i:=i) (first := !later) hne hrd
     have HRD:=Lib.hid hrd
     have c3:=hds.out.st.2.2.2.1
     clear hne hrd
     by_cases he:e=0
     ·subst he
      obtain⟨m1,m2,hv,hst⟩:=st2 rfl
      rw[nums_length]at m2
      rw[hpn.out]at hst
      obtain⟨C,hC⟩:∃C,(v+i) / (pn+1)=C:=⟨_,rfl⟩
      obtain⟨J,hJ⟩:∃J,(v+i)%(pn+1)=J:=⟨_,rfl⟩
      obtain⟨A,hA⟩:∃A,adaptN v (pn+1) (!later)=A:=⟨_,rfl⟩
      have hAb:A≤2199023255588:=by rw[←hA];exact adaptN_bd v _ _ (by omega)
      have hJp:J<pn+1:=by rw[←hJ];exact Nat.mod_lt _ (by omega)
      rw[hC,hJ,hA]at hst
      obtain⟨c,hc⟩:∃c:Int,n+(C:Int)=c:=⟨_,rfl⟩
      rw[hc]at hst
      have hc0:0≤c:=by omega
      have HDE:Hid ((if 1114111<c then(([]:List Int),(8:Int))else if scpB c=false then([],12)else pdecL f' (putD P' c J) c (J+1) A false (List.drop mm (nums G')))=(out,er)):=by
       unfold Hid;rw[←hst];exact hde.out
      have HC:=Lib.hid hC
      have HJ:=Lib.hid hJ
      have HA:=Lib.hid hA
      have HCC:=Lib.hid hc
      have HST0:Hid (StB wr gs n i pn b later):=by unfold Hid;rw[←hpn.out];exact hds.out.st
      clear st1 st2 hst hde hC hJ hA
      go_wp2_with fail
      refine(readnum_at G' b v mm 0 _ (by omega) hb HRD).mono ?_
      rintro ex w8 ⟨rfl,rfl⟩
      go_wp2_with fail
      refine(put_at gs n i pn b later v C J A _ HST0.out (by omega) hn0 (by omega) (by omega) hv HC HJ HA).mono ?_
      rintro ex w9 ⟨rfl,hs9,hg9⟩
      have HROW9:=Lib.hid (hds.out.row.grown hg9 (by intro e;cases e;exact hds.out.ne rfl))
      have HBEL9:=Lib.hid (hds.out.bel.grown hg9 hds.out.bel.size (by rintro j ⟨⟩;exact hds.out.gs0))
      have HGS9:=Lib.hid hds.out.gs0
      have HNE9:=Lib.hid hds.out.ne
      rw[hc]at hs9
      have HST9:=Lib.hid hs9
      clear hs9 hg9 hds c3 HST0
      rw[hc]
      clear hc
      by_cases hcm:1114111<c
      ·have hE:=HDE.out
       rw[if_pos hcm]at hE
       injection hE with e1 e2
       subst e1;subst e2
       clear HDE
       go_wp2
       go_ret2
       exact RetDec.nil 8 HBEL9.out
      ·cases hsc:scpB c with
       | false =>
        have hE:=HDE.out
        rw[if_neg hcm,if_pos hsc]at hE
        injection hE with e1 e2
        subst e1;subst e2
        have HSC:=Lib.hid hsc
        clear HDE hsc
        go_wp2_with (go_at_call 74;refine(len_no c _ HSC.out).mono ?_;rintro ex wa ⟨rfl,rfl⟩)
        go_ret2
        exact RetDec.nil 12 HBEL9.out
       | true =>
        have HSC:=Lib.hid hsc
        have HDE2:Hid (pdecL f' (putD P' c J) c (J+1) A (!true) (nums (G'.extract mm G'.size))=(out,er)):=by
         unfold Hid
         rw[nums_extE]
         have:=HDE.out
         rw[if_neg hcm,if_neg (by rw[hsc];simp)]at this
         exact this
        have HPL:Hid ((putD P' c J).length=pn+1):=by unfold Hid;rw[putD_length (by rw[hpn.out];omega),hpn.out]
        have HGE:Hid ((G'.extract mm G'.size).size=G'.size-mm):=by unfold Hid;simp
        clear hsc HDE
        go_wp2_with fail
        refine(len_yes c _ HSC.out).mono ?_
        rintro ex wa ⟨⟨z,hz1,hz4,rfl⟩,rfl⟩
        have d0:((z:Int)==0)=false:=by simp;omega
        go_wp2_with fail
        refine(insert_at gl s.size pn P' (putD P' c J) c J _ HROW9.out hpn (by omega) (by omega) (by omega) rfl).mono ?_
        rintro ex wb ⟨rfl,hrb,hgb⟩
        have HDS2:Hid (DecSt w wb gs gl s.size (putD P' c J) c (J+1) A true):=by
         refine⟨by rw[HPL.out];exact F5.grown HST9.out hgb (by intro e;cases e;exact HNE9.out rfl),hrb,HBEL9.out.grown hgb HBEL9.out.size (by rintro j ⟨⟩;exact HGL0.out),HGS9.out,HGL0.out,HNE9.out⟩
        rw[HPL.out]
        clear hrb hgb HROW9 HBEL9 HST9
        go_wp2
        go_roundw
        case rel=>exact⟨G'.extract mm G'.size,putD P' c J,c,J+1,A,f',pn+1,true,rfl,rfl,by rw[HGE.out];omega,by rw[HGE.out];omega,hc0,by omega,by omega,by omega,HPL,HDS2,HDE2⟩
        case measure=>simp[slLen];omega
     ·have hE:=st1 he
      rw[hde.out]at hE
      injection hE with e1 e2
      subst e1;subst e2
      have d1:(er !=0)=true:=by simp[he]
      have HBEL:=Lib.hid hds.out.bel
      clear st1 st2 hde hds
      go_wp2_with (go_at_call 286;refine(readnum_at G' b v mm er _ (by omega) hb HRD).mono ?_;rintro ex w8 ⟨rfl,rfl⟩)
      go_ret2
      exact RetDec.nil er HBEL.out
    ·have hG0:G'.size=0:=by omega
     have hE:Hid (P'=out∧er=0):=by
      have h1:=hde.out
      have h2:nums G'=[]:=List.eq_nil_of_length_eq_zero (by rw[nums_length];exact hG0)
      rw[h2]at h1
      cases f<;>(rw[pdecL]at h1;injection h1 with a1 a2;exact⟨a1,a2.symm⟩)
     obtain⟨e1,e2⟩:=hE.out
     subst e1;subst e2
     have HIN:Hid (Ints wr w.heap.size (.slice (some ⟨gl,0,none⟩) pn s.size) P'):=by
      have:=hds.out.row.toInts HGL0.out (by unfold maxLen;omega)
      unfold Hid
      rw[←hpn.out]
      simpa using this
     have HBEL:=Lib.hid hds.out.bel
     clear hde hds hE
     go_wp2
     go_ret2
     exact⟨_,rfl,HIN.out,HBEL.out⟩
end Go.Proofs.YtblcoicaeeiojaaGreatDoor
namespace Go.Proofs.YtblcoicaeeiojaaGreatDoor
open Go.RowKit
set_option maxRecDepth 100000
theorem encP_byteA {l X:List Int} {e:Int} (h:encP l=(X,e)):(∀c∈X,0≤c∧c<256)∧X.length≤4096:=by
 unfold encP at h
 split at h
 ·injection h with h1 h2;rw[←h1];simp
 ·split at h
  ·injection h with h1 h2;rw[←h1];simp
  ·rename_i h0 h3
   injection h with h1 h2
   have hs:∀c∈l,scpB c=true:=by
    have:l.all scpB=true:=by simpa using h3
    simpa using this
   refine⟨fun c hc=>?_,?_⟩
   ·rw[←h1]at hc
    rcases List.mem_append.1 hc with hc|hc
    ·unfold frontS at hc
     rcases List.mem_append.1 hc with hc|hc
     ·have h4:=basS_lt l c hc
      have h5:=scp_bd (hs c (placed_mem _ _ c hc))
      omega
     ·split at hc
      ·simp at hc
      ·simp at hc;omega
    ·have:=pencL_dig l _ _ _ _ _ _ c hc
     omega
   ·rw[←h1,List.length_append]
    have h4:=pencL_len l hs (by omega) (l.length-(basS l).length) (basF l) 128 0 72 true (by simp[basF]) (by omega)
    have h5:(basS l).length≤l.length:=placed_len _ _
    have h6:(frontS (basS l)).length≤(basS l).length+1:=by unfold frontS;rw[List.length_append];split<;>simp
    omega
theorem xn_front (X:List Int):ByteArray.mk #[120,110,45,45]++strOfNums X=strOfNums (xnS++X):=by
 have e:ByteArray.mk #[120,110,45,45]=strOfNums xnS:=by decide +kernel
 rw[e]
 apply ByteArray.ext
 apply Array.ext'
 simp[strOfNums]
set_option maxHeartbeats 2000000 in
theorem alab_at (p : Option Addr) (n cap : Nat) (l X : List Int) (er : Int) (S : ByteArray) (w : World) (hin : IntsIn w p l) (hn : Hid (l.length = n)) (hcap : n ≤ cap) (hn2 : n ≤ 17592186043904) (hE : Hid (labS l = (X, er))) (hS : Hid (strOfNums X = S)) :
  Calls Tryz.prog 72 #[.slice p n cap] w (StrErr S er w):=by
 have HI:=Lib.hid hin
 clear hin
 by_cases h0:n=0
 ·have hl0:l=[]:=List.eq_nil_of_length_eq_zero (by rw[hn.out];exact h0)
  have hE':=hE.out
  rw[hl0,labS_nil]at hE'
  injection hE' with e1 e2
  subst e1;subst e2
  have HS:Hid (S=ByteArray.mk #[]):=hS.out.symm
  subst h0
  clear hE hS
  go_enter Tryz.func72,Tryz.ntmps72
  go_wp2
  go_ret2
  exact⟨by rw[HS.out];rfl,Below.refl _ _⟩
 have hne:l≠[]:=fun e=>h0 (by rw[←hn.out,e];rfl)
 have d0:((n:Int)==0)=false:=by simp;omega
 cases ha:ascQ l with
 | true =>
  have HA:=Lib.hid ha
  have HE:Hid (longE l=(X,er)):=by unfold Hid;rw[←labS_asc hne ha];exact hE.out
  clear hE ha hne
  go_enter Tryz.func72,Tryz.ntmps72
  go_wp2_with fail
  refine(ascii_at p n cap l true _ HI.out hn hn2 HA).mono ?_
  rintro e w1 ⟨rfl,rfl⟩
  go_wp2_with fail
  refine(encasc_at p n cap l X er S _ HI.out hn hn2 HA HE hS).mono ?_
  rintro e w2 ⟨rfl,hb2⟩
  go_wp2
  go_ret2
  exact⟨rfl,hb2⟩
 | false =>
  have HA:=Lib.hid ha
  obtain⟨Y,f,hY⟩:∃Y f,encP l=(Y,f):=⟨_,_,rfl⟩
  obtain⟨T,hT⟩:∃T,strOfNums Y=T:=⟨_,rfl⟩
  have HY:=Lib.hid hY
  have HT:=Lib.hid hT
  have hTs:T.size≤4096:=by rw[←hT,strOfNums_size];exact(encP_byteA hY).2
  by_cases hf:f=0
  ·subst hf
   have hE':=hE.out
   rw[labS_enc hne ha hY]at hE'
   unfold longE at hE'
   have hxl:(xnS++Y).length=4+T.size:=by rw[←hT,strOfNums_size];simp[xnS];omega
   rw[hxl]at hE'
   by_cases hbig:63<4+T.size
   ·rw[if_pos hbig]at hE'
    injection hE' with e1 e2
    subst e1;subst e2
    have HS:Hid (S=ByteArray.mk #[]):=hS.out.symm
    have hbig2:(63:Int)<4+(T.size:Int):=by omega
    clear hE ha hne hY hT hS hxl
    go_enter Tryz.func72,Tryz.ntmps72
    go_wp2_with fail
    refine(ascii_at p n cap l false _ HI.out hn hn2 HA).mono ?_
    rintro e w1 ⟨rfl,rfl⟩
    go_wp2_with fail
    refine(pencode_at p n cap l Y 0 T _ HI.out hn hcap hn2 HY HT).mono ?_
    rintro e w2 ⟨rfl,hb2⟩
    go_wp2
    go_ret2
    exact⟨by rw[HS.out];rfl,hb2⟩
   ·rw[if_neg hbig]at hE'
    injection hE' with e1 e2
    subst e2
    have HS:Hid (ByteArray.mk #[120,110,45,45]++T=S):=by
     unfold Hid;rw[←hS.out,←e1,←hT];exact xn_front Y
    have hbig2:¬(63:Int)<4+(T.size:Int):=by omega
    have h45:(ByteArray.mk #[120,110,45,45]).size=4:=rfl
    clear hE ha hne hY hT hS hxl e1
    go_enter Tryz.func72,Tryz.ntmps72
    go_wp2_with fail
    refine(ascii_at p n cap l false _ HI.out hn hn2 HA).mono ?_
    rintro e w1 ⟨rfl,rfl⟩
    go_wp2_with fail
    refine(pencode_at p n cap l Y 0 T _ HI.out hn hcap hn2 HY HT).mono ?_
    rintro e w2 ⟨rfl,hb2⟩
    go_wp2
    go_ret2
    exact⟨by rw[←HS.out];rfl,hb2⟩
  ·have hE':=hE.out
   rw[labS_err hne ha hY hf]at hE'
   injection hE' with e1 e2
   subst e1;subst e2
   have HS:Hid (S=ByteArray.mk #[]):=hS.out.symm
   have d1:(f !=0)=true:=by simp[hf]
   clear hE ha hne hY hT hS
   go_enter Tryz.func72,Tryz.ntmps72
   go_wp2_with fail
   refine(ascii_at p n cap l false _ HI.out hn hn2 HA).mono ?_
   rintro e w1 ⟨rfl,rfl⟩
   go_wp2_with fail
   refine(pencode_at p n cap l Y f T _ HI.out hn hcap hn2 HY HT).mono ?_
   rintro e w2 ⟨rfl,hb2⟩
   go_wp2
   go_ret2
   exact⟨by rw[HS.out];rfl,hb2⟩
theorem ints_capA {w:World} {B:Nat} {v:Value} {zs:List Int} (h:Ints w B v zs):∃p cap,v = .slice p zs.length cap∧IntsIn w p zs∧zs.length≤cap:=by
 obtain⟨h1,h2⟩:=h
 rcases h2 with⟨rfl,h3⟩|⟨g,cap,cur,rfl,hB,hg,hn,hc,hs,ht⟩
 ·have:zs=[]:=List.eq_nil_of_length_eq_zero h3
  subst this
  exact⟨none,0,rfl,fun k hk=>by simp at hk,Nat.le_refl _⟩
 ·obtain⟨p,c,e,hi⟩:=Ints.inn (w:=w) (B:=B) (zs:=zs) ⟨h1,.inr ⟨g,cap,cur,rfl,hB,hg,hn,hc,hs,ht⟩⟩
  injection e with e1 e2 e3
  subst e1;subst e3
  exact⟨_,cap,rfl,hi,hn⟩
set_option maxHeartbeats 2000000 in
theorem decpuny_at (t : ByteArray) (s out : List Int) (er : Int) (w : World) (hs : t.size ≤ 63) (h4 : 4 ≤ t.size) (hL : Hid (nums t = lowS s)) (hE : Hid (ptsX s (decP (lowS (s.drop 4))) = (out, er))) :
  Calls Tryz.prog 231 #[.string t] w (RetDec out er w):=by
 obtain⟨l,f,hD⟩:∃l f,decP (lowS (s.drop 4))=(l,f):=⟨_,_,rfl⟩
 have hx:nums (t.extract 4 t.size)=lowS (s.drop 4):=by rw[nums_extE,hL.out];unfold lowS;rw[List.map_drop]
 obtain⟨u,hu⟩:∃u,t.extract 4 t.size=u:=⟨_,rfl⟩
 rw[hu]at hx
 have hus:u.size≤63:=by rw[←hu,ByteArray.size_extract];omega
 have HD:Hid (decP (nums u)=(l,f)):=by unfold Hid;rw[hx];exact hD
 have HU:=Lib.hid hu
 have hll:=(decP_out HD.out).1
 have HLL:Hid (l.length≤2048):=hll
 have hE':=hE.out
 rw[hD]at hE'
 unfold ptsX at hE'
 simp only at hE'
 clear hE hx hu hD hll
 by_cases hf:f=0
 ·subst hf
  rw[if_neg (by simp)]at hE'
  obtain⟨X,g,hX⟩:∃X g,labS l=(X,g):=⟨_,_,rfl⟩
  obtain⟨R,hR⟩:∃R,strOfNums X=R:=⟨_,rfl⟩
  have hXb:=labS_byte hX (fun Y f h=>(encP_byteA h).1)
  have hRn:nums R=X:=by rw[←hR];exact nums_of X hXb
  have hq:(R.toList==t.toList)=decide (X=lowS s):=by rw[beq_nums,hRn,hL.out]
  rw[hX]at hE'
  simp only at hE'
  have HX:=Lib.hid hX
  have HR:=Lib.hid hR
  clear hX hR hXb hRn
  cases ha:ascQ l with
  | true =>
   have HA:=Lib.hid ha
   rw[if_pos (.inl ha)]at hE'
   injection hE' with e1 e2
   subst e1;subst e2
   clear ha hq
   go_enter Tryz.func231,Tryz.ntmps231
   go_wp2_with fail
   rw[HU.out]
   refine(pdecode_at u l 0 _ (by omega) HD).mono ?_
   rintro e w1 ⟨v1,rfl,hi1,hb1⟩
   obtain⟨p1,c1,rfl,hin1,hc1⟩:=ints_capA hi1
   have HI1:=Lib.hid hin1
   have HB1:=Lib.hid hb1
   obtain⟨n,hn⟩:∃n,l.length=n:=⟨_,rfl⟩
   have HN:=Lib.hid hn
   have hnl:=HLL.out
   rw[hn]at hnl hc1
   rw[hn]
   clear hi1 hin1 hb1 hn
   go_wp2_with fail
   refine(ascii_at p1 n c1 l true _ HI1.out HN (by omega) HA).mono ?_
   rintro e w2 ⟨rfl,rfl⟩
   go_wp2
   go_ret2
   exact RetDec.nil 12 HB1.out
  | false =>
   have HA:=Lib.hid ha
   have hE2:(if g≠0∨X≠lowS s then(([]:List Int),(12:Int)) else(l,0))=(out,er):=by
    rw[←hE',ha];simp
   have HE2:=Lib.hid hE2
   clear hE' hE2 ha
   go_enter Tryz.func231,Tryz.ntmps231
   go_wp2_with fail
   rw[HU.out]
   refine(pdecode_at u l 0 _ (by omega) HD).mono ?_
   rintro e w1 ⟨v1,rfl,hi1,hb1⟩
   obtain⟨p1,c1,rfl,hin1,hc1⟩:=ints_capA hi1
   have HI0:=Lib.hid hi1
   have HI1:=Lib.hid hin1
   have HB1:=Lib.hid hb1
   obtain⟨n,hn⟩:∃n,l.length=n:=⟨_,rfl⟩
   have HN:=Lib.hid hn
   have hnl:=HLL.out
   rw[hn]at hnl hc1 HI0
   rw[hn]
   clear hi1 hin1 hb1 hn
   go_wp2_with fail
   refine(ascii_at p1 n c1 l false _ HI1.out HN (by omega) HA).mono ?_
   rintro e w2 ⟨rfl,rfl⟩
   go_wp2_with fail
   refine(alab_at p1 n c1 l X g R _ HI1.out HN hc1 (by omega) HX HR).mono ?_
   rintro e w3 ⟨rfl,hb3⟩
   have HB3:=Lib.hid (HB1.out.trans (hb3.mono HB1.out.size))
   have HI3:=Lib.hid (HI0.out.below hb3)
   clear hb3 HI0 HI1 HB1
   by_cases hg:g=0
   ·subst hg
    by_cases hXs:X=lowS s
    ·have hE:=HE2.out
     rw[if_neg (by simp[hXs])]at hE
     injection hE with e1 e2
     subst e1;subst e2
     have hq1:(R.toList==t.toList)=true:=by rw[hq];exact decide_eq_true hXs
     have hq2:(R.toList !=t.toList)=false:=by unfold bne;rw[hq1];rfl
     have HQ:=Lib.hid hXs
     clear hXs hq HE2
     go_wp2
     go_ret2
     exact⟨_,rfl,HI3.out,HB3.out⟩
    ·have hE:=HE2.out
     rw[if_pos (.inr hXs)]at hE
     injection hE with e1 e2
     subst e1;subst e2
     have hq1:(R.toList==t.toList)=false:=by rw[hq];exact decide_eq_false hXs
     have hq2:(R.toList !=t.toList)=true:=by unfold bne;rw[hq1];rfl
     clear hXs hq HE2
     go_wp2
     go_ret2
     exact RetDec.nil 12 HB3.out
   ·have hE:=HE2.out
    rw[if_pos (.inl hg)]at hE
    injection hE with e1 e2
    subst e1;subst e2
    have d1:(g !=0)=true:=by simp[hg]
    clear hg hq HE2
    go_wp2
    go_ret2
    exact RetDec.nil 12 HB3.out
 ·rw[if_pos hf]at hE'
  injection hE' with e1 e2
  subst e1;subst e2
  have d1:(f !=0)=true:=by simp[hf]
  have HF:=Lib.hid hf
  clear hf
  go_enter Tryz.func231,Tryz.ntmps231
  go_wp2_with fail
  rw[HU.out]
  refine(pdecode_at u l f _ (by omega) HD).mono ?_
  rintro e w1 ⟨v1,rfl,hi1,hb1⟩
  obtain⟨p1,c1,rfl,hin1,hc1⟩:=ints_capA hi1
  have HB1:=Lib.hid hb1
  clear hi1 hin1 hb1
  go_wp2
  go_ret2
  exact RetDec.nil f HB1.out
set_option maxHeartbeats 2000000 in
theorem adecode_at (s : ByteArray) (out : List Int) (er : Int) (w : World) (hs : s.size ≤ 140737488355328) (hE : Hid (ptsS (nums s) = (out, er))) :
  Calls Tryz.prog 159 #[.string s] w (RetDec out er w):=by
 have hE':=hE.out
 unfold ptsS at hE'
 by_cases h0:s.size=0
 ·have hl0:nums s=[]:=List.eq_nil_of_length_eq_zero (by rw[nums_length];exact h0)
  rw[if_pos hl0]at hE'
  injection hE' with e1 e2
  subst e1;subst e2
  have d1:=size_zero_eqA s h0
  clear hE hl0 h0
  go_enter Tryz.func159,Tryz.ntmps159
  go_wp2
  go_ret2
  exact RetDec.nil 10 (Below.refl _ _)
 have hne:nums s≠[]:=fun e=>h0 (by rw[←nums_length,e];rfl)
 rw[if_neg hne]at hE'
 have d1:=size_pos_neA s h0
 clear hne h0
 cases hany:(nums s).any fun c=>decide (127<c) with
 | true =>
  have HO:Hid (((nums s).any fun c=>decide (127<c)) = !false):=by unfold Hid;rw[hany];rfl
  rw[if_pos hany]at hE'
  injection hE' with e1 e2
  subst e1;subst e2
  clear hE hany
  go_enter Tryz.func159,Tryz.ntmps159
  go_wp2_with fail
  refine(onlyasc_at s false _ hs HO).mono ?_
  rintro e w1 ⟨rfl,rfl⟩
  go_wp2
  go_ret2
  exact RetDec.nil 12 (Below.refl _ _)
 | false =>
  have HO:Hid (((nums s).any fun c=>decide (127<c)) = !true):=by unfold Hid;rw[hany];rfl
  rw[if_neg (by rw[hany];simp),nums_length]at hE'
  clear hE hany
  by_cases hbig:63<s.size
  ·rw[if_pos hbig]at hE'
   injection hE' with e1 e2
   subst e1;subst e2
   go_enter Tryz.func159,Tryz.ntmps159
   go_wp2_with fail
   refine(onlyasc_at s true _ hs HO).mono ?_
   rintro e w1 ⟨rfl,rfl⟩
   go_wp2
   go_ret2
   exact RetDec.nil 11 (Below.refl _ _)
  ·rw[if_neg hbig]at hE'
   have hs63:s.size≤63:=by omega
   cases hx:isX (nums s) with
   | false =>
    have HX:=Lib.hid hx
    rw[if_pos hx]at hE'
    injection hE' with e1 e2
    subst e2
    have HE1:=Lib.hid e1
    clear hx e1
    go_enter Tryz.func159,Tryz.ntmps159
    go_wp2_with fail
    refine(onlyasc_at s true _ hs HO).mono ?_
    rintro e w1 ⟨rfl,rfl⟩
    go_wp2_with fail
    refine(is_at s false _ hs HX).mono ?_
    rintro e w2 ⟨rfl,hb2⟩
    have HB2:=Lib.hid hb2
    clear hb2
    go_wp2_with fail
    refine(elems_at s _ (by omega)).mono ?_
    rintro e w3 ⟨v3,rfl,hi3,hb3⟩
    obtain⟨p3,c3,rfl,hin3,hc3⟩:=ints_capA hi3
    have HI3:=Lib.hid (ownsRow_mono hi3 HB2.out.size)
    have HB3:=Lib.hid (HB2.out.trans (hb3.mono HB2.out.size))
    clear hi3 hin3 hb3 HB2
    go_wp2
    go_ret2
    refine⟨_,rfl,?_,HB3.out⟩
    rw[←HE1.out]
    exact HI3.out
   | true =>
    have HX:=Lib.hid hx
    rw[if_neg (by rw[hx];simp)]at hE'
    have HE:=Lib.hid hE'
    have h4:4≤s.size:=by have:=isX_len hx;rwa[nums_length]at this
    obtain⟨t,ht⟩:∃t,lowBy s=t:=⟨_,rfl⟩
    have hts:t.size=s.size:=by rw[←ht];exact lowB_size s
    have HT:=Lib.hid ht
    have HTN:Hid (nums t=lowS (nums s)):=by unfold Hid;rw[←ht];exact nums_lowB s
    have ht63:t.size≤63:=by omega
    have ht4:4≤t.size:=by omega
    clear hx hE' ht hts
    go_enter Tryz.func159,Tryz.ntmps159
    go_wp2_with fail
    refine(onlyasc_at s true _ hs HO).mono ?_
    rintro e w1 ⟨rfl,rfl⟩
    go_wp2_with fail
    refine(is_at s true _ hs HX).mono ?_
    rintro e w2 ⟨rfl,hb2⟩
    have HB2:=Lib.hid hb2
    clear hb2
    go_wp2_with fail
    refine(lower_at s t _ hs HT).mono ?_
    rintro e w3 ⟨rfl,hb3⟩
    have HB3:=Lib.hid (HB2.out.trans (hb3.mono HB2.out.size))
    clear hb3 HB2
    go_wp2_with fail
    refine(decpuny_at t (nums s) out er _ ht63 ht4 HTN HE).mono ?_
    rintro e w4 ⟨v4,rfl,hi4,hb4⟩
    have HI4:=Lib.hid (ownsRow_mono hi4 HB3.out.size)
    have HB4:=Lib.hid (HB3.out.trans (hb4.mono HB3.out.size))
    clear hi4 hb4 HB3
    go_wp2
    go_ret2
    exact⟨_,rfl,HI4.out,HB4.out⟩
set_option maxRecDepth 100000
theorem encode_at (p : Option Addr) (cap n : Nat) (zs : List Int) (U : ByteArray) (er : Int) (w : World) (hr : IntsIn w p zs) (hs : zs.length ≤ maxLen) (hl : zs.length = n) (he : Hid (encodeS zs = (U, er))) :
  Calls Tryz.prog 47 #[.slice p n cap] w fun e w'=>e = .returned (.tuple #[.string U,.int .i64 er])∧Below w.heap.size w w':=by
 subst hl
 have:=encode_any p cap zs w hr hs
 rw[he.out]at this
 exact this
theorem str_ext {a b:ByteArray} (h:a.data.toList=b.data.toList):a=b:=by
 cases a;cases b;congr 1;exact Array.toList_inj.1 h
set_option maxRecDepth 100000
theorem one_str (c : Int) (X : ByteArray) (w : World) (hc : Hid (lenS c ≠ 0)) (h : Hid (strOfNums (encB c) = X)) :
  Calls Tryz.prog 45 #[.int .i64 c] w fun e w'=>e = .returned (.string X)∧Below w.heap.size w w':=h.out▸one_any c w hc.out
theorem str_append (xs ys:List Int):strOfNums xs++strOfNums ys=strOfNums (xs++ys):=by
 apply str_ext
 rw[ByteArray.data_append,Array.toList_append,strOfNums_data,strOfNums_data,strOfNums_data,List.map_append]
set_option maxHeartbeats 1000000 in
theorem refEncode_any (p : Option Addr) (cap : Nat) (zs : List Int) (w : World) (hr : IntsIn w p zs) (hs : zs.length ≤ maxLen) :
  Calls Tryz.prog 16 #[.slice p zs.length cap] w fun e w'=>e = .returned (.tuple #[.string (encodeS zs).1,.int .i64 (encodeS zs).2])∧Below w.heap.size w w':=by
 unfold maxLen at hs
 by_cases hbig:4096<zs.length
 ·have HE:Hid (encodeS zs=(ByteArray.empty,7)):=by simp[Hid,encodeS,hbig]
  clear hr
  go_enter Tryz.func16,Tryz.ntmps16
  go_wp2
  go_ret2
  rw[HE.out]
  exact⟨rfl,Below.refl _ _⟩
 have HR:=Lib.hid hr
 clear hr
 go_enter Tryz.func16,Tryz.ntmps16
 go_wp2
 go_loopw [4,12] (fun v i wr=>∃k:Nat,∃T:ByteArray,k≤zs.length∧i = .int .i64 k∧v = .string T∧Hid (allS (zs.take k)=true∧T=strOfNums (flat (zs.take k)))∧T.size≤4*k∧Below w.heap.size w wr) (fun _ i _=>zs.length-(intOf i).toNat)
 case atStart=>exact⟨0,ByteArray.empty,Nat.zero_le _,rfl,rfl,⟨rfl,rfl⟩,by simp,Below.refl _ _⟩
 case round =>
  obtain⟨k,T,hk,rfl,rfl,hT,hTs,hbel⟩:=hrel
  by_cases hlt:k<zs.length
  ·obtain⟨b,off,rfl,hck⟩:=(HR.out.below hbel) k hlt
   obtain⟨x,hx⟩:∃x,zs.getD k 0=x:=⟨_,rfl⟩
   have hts:=take_snoc_int zs k hlt
   rw[hx]at hck hts
   by_cases h0:lenS x=0
   ·have HZ:Hid ((!(lenS x==0))=false):=by simp[Hid,h0]
    have HE:Hid (encodeS zs=(ByteArray.empty,3)):=by
     have:allS zs=false:=by
      rw[←List.take_append_drop (k+1) zs,hts]
      simp[allS,h0]
     rw[Hid,encodeS,if_neg hbig,this]
     rfl
    clear hts hx h0
    go_wp2_with (go_at_call 44;refine(scalar_at _ _ _ HZ).mono ?_;rintro e w1 ⟨rfl,rfl⟩)
    go_ret2
    rw[HE.out]
    exact⟨rfl,hbel⟩
   ·have HZ:Hid ((!(lenS x==0))=true):=by simp[Hid,h0]
    have HN:=Lib.hid h0
    obtain⟨X,hX⟩:∃X,strOfNums (encB x)=X:=⟨_,rfl⟩
    have hXs:X.size≤4:=by rw[←hX,strOfNums_size];exact encB_bd x
    have hsz:(T++X).size≤4*(k+1):=by rw[ByteArray.size_append];omega
    have HS:=Lib.hid hsz
    have HA:Hid (allS (zs.take (k+1))=true∧T++X=strOfNums (flat (zs.take (k+1)))):=by
     rw[hts]
     refine⟨by simp[allS_snoc,hT.out.1,h0],?_⟩
     rw[hT.out.2,←hX,str_append,flat_snoc]
    have HX:=Lib.hid hX
    clear hts hx h0 hX hsz
    go_wp2_with (first
     | (go_at_call 44;refine(scalar_at _ _ _ HZ).mono ?_;rintro e w1 ⟨rfl,rfl⟩)
     | (go_at_call 45;refine(one_str _ X _ HN HX).mono ?_;rintro e w1 ⟨rfl,hb1⟩))
    go_roundw
    case rel=>exact⟨k+1,T++X,by omega,by go_num,rfl,HA,HS.out,hbel.trans (hb1.mono hbel.size)⟩
    case measure=>simp[intOf];omega
  ·obtain rfl:k=zs.length:=by omega
   have HE:Hid (encodeS zs=(T,0)):=by
    have:=hT.out
    rw[List.take_length]at this
    rw[Hid,encodeS,if_neg hbig,if_pos this.1,this.2]
   go_wp2
   go_ret2
   rw[HE.out]
   exact⟨rfl,hbel⟩
end Go.Proofs.YtblcoicaeeiojaaGreatDoor
