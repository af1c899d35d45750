/- The contract of utf.scalarAt. 'string(b)' of bytes. The cont -/
import Derived.Test.YtblcoicaeeiojaaGreatDoorSSiPmUtfSpec
import Derived.Lib.Hide
import Derived.Test.YtblcoicaeeiojaaGreatDoorSSiPmOwn
set_option linter.unusedSimpArgs false
set_option linter.unusedVariables false
namespace Go.Proofs.YtblcoicaeeiojaaGreatDoor
open Go.RowKit
set_option maxHeartbeats 400000 in
theorem scalarAt_none (s : ByteArray) (at' : Nat) (w : World) (hs : s.size ≤ maxLen) (h : at' < s.size) (hn : sfN s[at'].toNat = 0 ∨ (s.size : Int) - at' < sfN s[at'].toNat) :
  Calls Tryz.prog 149 #[.string s,.int .i64 at'] w fun e w'=>e = .returned (.tuple #[.int .i64 0,.int .i64 0])∧w=w':=by
 unfold maxLen at hs
 have hb:=s[at'].toNat_lt
 have hbd:=sf_bd s[at'].toNat (by omega) (by omega)
 obtain⟨hb1,hb2,hb3,hb4⟩:=hbd
 by_cases h0:sfN s[at'].toNat=0
 ·have h1:(sfN s[at'].toNat==0)=true:=by simp[h0]
  clear hn h0
  go_enter Tryz.func149,Tryz.ntmps149
  go_wp2_with (first
   | (go_at_call 218;refine(splitFirst_any _ _ (by omega) (by omega)).mono ?_;rintro e w' ⟨rfl,rfl⟩))
  go_ret2
  exact⟨rfl,rfl⟩
 ·have h1:(sfN s[at'].toNat==0)=false:=by simp[h0]
  have h2:(s.size:Int)-at'<sfN s[at'].toNat:=by omega
  clear hn h0
  go_enter Tryz.func149,Tryz.ntmps149
  go_wp2_with (first
   | (go_at_call 218;refine(splitFirst_any _ _ (by omega) (by omega)).mono ?_;rintro e w' ⟨rfl,rfl⟩))
  go_ret2
  exact⟨rfl,rfl⟩
theorem getD_at (l:List UInt8) (j:Nat) (h:j<l.length):l.getD j 0=l[j]:=by simp[h]
theorem take_snoc_getD (l:List UInt8) (k:Nat) (h:k<l.length):l.take (k+1)=l.take k++[l.getD k 0]:=by
 rw[List.take_succ_eq_append_getElem h,getD_at l k h]
theorem splitFirst_at (b : Int) (m c : Int) (w : World) (h0 : 0 ≤ b) (h1 : b ≤ 255) (hm : Hid (sfN b = m)) (hc : Hid (sfC b = c)) :
  Calls Tryz.prog 218 #[.int .u8 b] w fun e w'=>e = .returned (.tuple #[.int .i64 c,.int .i64 m])∧w=w':=by
 rw[←hm.out,←hc.out];exact splitFirst_any b w h0 h1
theorem conv_bytes (w : World) (s : ByteArray) : ∃ b cap W', (convert 9 47 (.string s)).run Tryz.prog w = .ok (.slice (some ⟨b, 0, none⟩) s.size cap) W' ∧
  (∀j (h:j<s.size),W'.cell? ⟨b,j,none⟩=some (.int .u8 (s[j].toNat:Int)))∧w.heap.size≤b∧Below w.heap.size w W':=by
 refine⟨_,_,_,run_bytes_of_string w _ _ _ s Tryz.underlying9 Tryz.underlying47 Tryz.underlying5,?_,Nat.le_refl _,?_⟩
 ·intro j h
  have e:∀(C:Array Value) f,(w.drew.alloc (.cells C 5 f)).cell? ⟨w.heap.size,j,none⟩=C[j]? := by
   intro C f
   have h:(w.drew.alloc (.cells C 5 f)).heap[w.heap.size]? = some (.cells C 5 f):=by
    show (w.heap.push (.cells C 5 f))[w.heap.size]? = _
    simp
   unfold World.cell?
   rw[h]
   rfl
  rw[e,bytesRow_at s _ j h]
  rfl
 ·exact((Below.refl _ _).drew).alloc (Nat.le_refl _) _
def restS (c0:Int) (m:Int) (l:List UInt8):Int × Int :=
 match contS c0 l with
 | none=>(0,0)
 | some c=>if lenS c=m then(c,m) else(0,0)
set_option maxRecDepth 100000 in
set_option maxHeartbeats 1000000 in
theorem scalarAt_some (s : ByteArray) (at' n : Nat) (w : World) (hs : s.size ≤ maxLen) (h : at' < s.size) (hm : Hid (sfN s[at'].toNat = n + 1)) (hm2 : n + 1 + at' ≤ s.size) (hm4 : n ≤ 3) :
  Calls Tryz.prog 149 #[.string s,.int .i64 at'] w fun e w' =>
   e = .returned (.tuple #[.int .i64 (restS (sfC s[at'].toNat) (n+1) (s.extract (at'+1) (at'+(n+1))).data.toList).1,.int .i64 (restS (sfC s[at'].toNat) (n+1) (s.extract (at'+1) (at'+(n+1))).data.toList).2])∧Below w.heap.size w w':=by
 unfold maxLen at hs
 have hb:=s[at'].toNat_lt
 have h1:((n:Int)+1==0)=false:=by simp;omega
 obtain⟨b,cap,W,hcv,hcell,hbb,hbel⟩:=conv_bytes w (s.extract (at'+1) (at'+(n+1)))
 have hsz:(s.extract (at'+1) (at'+(n+1))).size=n:=by simp;omega
 obtain⟨hc0,hc1,_,_⟩:=sf_bd s[at'].toNat (by omega) (by omega)
 rw[hsz]at hcv
 obtain⟨C,hC⟩:∃C,sfC s[at'].toNat=C:=⟨_,rfl⟩
 obtain⟨X,hX⟩:∃X,(s.extract (at'+1) (at'+(n+1))).data.toList=X:=⟨_,rfl⟩
 have hlen:X.length=n:=by rw[←hX];exact hsz
 have hcell':∀j (h:j<n),W.cell? ⟨b,j,none⟩=some (.int .u8 ((X.getD j 0).toNat:Int)):=by
  intro j hj
  rw[hcell j (by omega)]
  subst hX
  rw[getD_at _ _ (by rw[hlen];exact hj)]
  rfl
 rw[hC,hX]
 rw[hC]at hc0 hc1
 have HC:=Lib.hid hC
 have Hcell:=Lib.hid hcell'
 have Hlen:=Lib.hid hlen
 clear hC hX hcell hcell' hsz hlen
 go_enter Tryz.func149,Tryz.ntmps149
 go_wp2_with (first
  | (go_at_call 218;refine(splitFirst_at _ (n+1) C _ (by omega) (by omega) hm HC).mono ?_;rintro e w' ⟨rfl,rfl⟩))
 go_loop [4,5,34] (fun c z i=>∃k:Nat,∃d:Int,k≤n∧i = .int .i64 k∧c = .int .i64 d∧z = .int .i64 (n+1)∧Hid (contS C (X.take k)=some d)) (fun _ _ i=>n-(intOf i).toNat)
 case atStart=>exact⟨0,C,Nat.zero_le _,rfl,rfl,rfl,by simp[Hid,contS]⟩
 case round =>
  obtain⟨k,d,hk,rfl,rfl,rfl,hd⟩:=hrel
  obtain⟨hd0,hd1⟩:=contS_small _ C d hd.out hc0 hc1 (by simp;omega)
  by_cases hlt:k<n
  ·obtain⟨x,hx⟩:∃x,X.getD k 0=x:=⟨_,rfl⟩
   have hcellk:W.cell? ⟨b,k,none⟩=some (.int .u8 (x.toNat:Int)):=by rw[Hcell.out k hlt,hx]
   have hts:=take_snoc_getD X k (by rw[Hlen.out];exact hlt)
   rw[hx]at hts
   have hsn:=contS_snoc x (X.take k) C
   rw[hd.out,←hts]at hsn
   have hx8:=x.toNat_lt
   by_cases hf:128≤(x.toNat:Int)∧(x.toNat:Int)<192
   ·have HS:Hid (contS C (X.take (k+1))=some (d*64+((x.toNat:Int)-128))):=by rw[hsn];simp[Hid,hf]
    clear hsn hts hx
    obtain⟨hf1,hf2⟩:=hf
    have ho:bits .or .i64 (d*64) ((x.toNat:Int)-128)=d*64+((x.toNat:Int)-128):=i64_or6 _ _ (by omega) (by omega) (by omega) (by omega) (by omega)
    go_wp2_with (go_at_call 219;refine(isFurther_yes _ _ (by omega) (by omega)).mono ?_;rintro e w' ⟨rfl,rfl⟩)
    go_round
    case rel=>exact⟨k+1,_,by omega,by go_num,rfl,rfl,HS⟩
    case measure=>simp[intOf];omega
   ·have HS:Hid (restS C (n+1) X=(0,0)):=by
     have h1:contS C X=none:=by
      rw[←List.take_append_drop (k+1) X]
      apply contS_none
      rw[hsn]
      simp[hf]
     simp[Hid,restS,h1]
    clear hsn hts hx
    have hf':(x.toNat:Int)<128∨192≤(x.toNat:Int):=by omega
    clear hf
    go_wp2_with (go_at_call 219;refine(isFurther_no _ _ (by omega)).mono ?_;rintro e w' ⟨rfl,rfl⟩)
    go_ret2
    rw[HS.out]
    exact⟨rfl,hbel⟩
  ·obtain rfl:k=n:=by omega
   have hall:contS C X=some d:=by rw[←hd.out,List.take_of_length_le (by rw[Hlen.out];omega)]
   by_cases hl:lenS d=k+1
   ·have HS:Hid (restS C (k+1) X=(d,(k:Int)+1)):=by simp[Hid,restS,hall,hl]
    have hl':(lenS d !=(k:Int)+1)=false:=by simp[hl]
    clear hall hl
    go_wp2_with (go_at_call 74;refine(length_any _ _).mono ?_;rintro e w' ⟨rfl,rfl⟩)
    go_ret2
    rw[HS.out]
    exact⟨rfl,hbel⟩
   ·have HS:Hid (restS C (k+1) X=(0,0)):=by simp[Hid,restS,hall,hl]
    have hl':(lenS d !=(k:Int)+1)=true:=by simp[hl]
    clear hall hl
    go_wp2_with (go_at_call 74;refine(length_any _ _).mono ?_;rintro e w' ⟨rfl,rfl⟩)
    go_ret2
    rw[HS.out]
    exact⟨rfl,hbel⟩
theorem extract_take (s:ByteArray) (a b:Nat):(s.extract a b).data.toList=(s.data.toList.drop a).take (b-a):=by
 rw[ByteArray.data_extract,Array.toList_extract]
theorem scalarAt_any (s : ByteArray) (at' : Nat) (w : World) (hs : s.size ≤ maxLen) (h : at' < s.size) :
  Calls Tryz.prog 149 #[.string s,.int .i64 at'] w fun e w' =>
   e = .returned (.tuple #[.int .i64 (firstS (s.data.toList.drop at')).1,.int .i64 (firstS (s.data.toList.drop at')).2])∧Below w.heap.size w w':=by
 have hd:s.data.toList.drop at'=s[at']::s.data.toList.drop (at'+1):=List.drop_eq_getElem_cons (by simpa using h)
 have hlen:(s.data.toList.drop (at'+1)).length=s.size-(at'+1):=by simp
 have hb:=s[at'].toNat_lt
 have hbd:=sf_bd s[at'].toNat (by omega) (by omega)
 rw[hd]
 unfold firstS
 by_cases h1:sfN s[at'].toNat=0∨((s.data.toList.drop (at'+1)).length:Int)+1<sfN s[at'].toNat
 ·simp only[if_pos h1]
  exact(scalarAt_none s at' w hs h (by omega)).mono fun e w' ⟨he,hw⟩=>⟨he,hw▸Below.refl _ _⟩
 ·simp only[if_neg h1]
  obtain⟨n,hn⟩:∃n:Nat,sfN s[at'].toNat=(n:Int)+1:=⟨(sfN s[at'].toNat-1).toNat,by omega⟩
  have hx:(s.extract (at'+1) (at'+(n+1))).data.toList=(s.data.toList.drop (at'+1)).take (sfN s[at'].toNat-1).toNat:=by
   rw[hn,extract_take,show at'+(n+1)-(at'+1)=n by omega,show ((n:Int)+1-1).toNat=n by omega]
  refine(scalarAt_some s at' n w hs h hn (by omega) (by omega)).mono ?_
  rintro e w' ⟨rfl,hw⟩
  rw[hx,hn]
  refine⟨?_,hw⟩
  unfold restS
  split<;>rename_i hh<;>rw[hh]
theorem conv_own {w : World} {B : Nat} {v : Value} {xs : List Int} {n : Nat} (h : w.ownsRow B 5 1 v n (xs.map (.int .u8))) :
  (convert 47 9 v).run Tryz.prog w = .ok (.string (strOfNums xs)) w:=by
 obtain⟨h1,h2⟩:=h
 rcases h2 with⟨rfl,h3⟩|⟨g,cap,cur,rfl,hB,hg,hn,hc,hs,ht⟩
 ·subst h3
  have:xs=[]:=List.eq_nil_of_length_eq_zero (by simpa using h1)
  subst this
  exact run_convert_bytes_nil w _ _ Tryz.underlying47 Tryz.underlying5 _ _ _ Tryz.underlying9
 ·have hl:xs.length=n:=by simpa using h1
  refine run_convert_bytes_arg w _ _ Tryz.underlying47 Tryz.underlying5 g 0 n cap xs hl ?_ _ Tryz.underlying9
  intro k hk
  rw[cell_of_row w g (0+k) cur _ (0,0) hg,Nat.zero_add]
  have e:(cur.toList.take (n*1))[k]? = (xs.map (Value.int .u8))[k]? := by rw[ht]
  rw[List.getElem?_take,if_pos (by omega)]at e
  simpa[List.getD,List.getElem?_eq_getElem (show k<xs.length by omega)] using e
theorem conv_lit (w : World) (C : Array Value) (xs : List Int) (n : Nat) (hn : xs.length = n) (h : C.toList = xs.map (.int .u8)) :
  (convert 47 9 (.slice (some ⟨w.heap.size,0,none⟩) n n)).run Tryz.prog (w.alloc (.cells C 5)) = .ok (.string (strOfNums xs)) (w.alloc (.cells C 5)):=by
 refine run_convert_bytes_arg _ _ _ Tryz.underlying47 Tryz.underlying5 w.heap.size 0 n n xs hn ?_ _ Tryz.underlying9
 intro i hi
 rw[Nat.zero_add,World.cell?_alloc_new,←Array.getElem?_toList,h]
 simp[show i<xs.length by omega]
set_option maxRecDepth 100000
theorem scalarAt_at (s : ByteArray) (at' : Nat) (c z : Int) (w : World) (hs : s.size ≤ maxLen) (h : at' < s.size) (hf : Hid (firstS (s.data.toList.drop at') = (c, z))) :
  Calls Tryz.prog 149 #[.string s,.int .i64 at'] w fun e w'=>e = .returned (.tuple #[.int .i64 c,.int .i64 z])∧Below w.heap.size w w':=by
 have:=scalarAt_any s at' w hs h
 rw[hf.out]at this
 exact this
def decodeS (L:List UInt8):List Int × Int × Int :=
 if 4096<L.length then([],0,7)else if(dec L).2<L.length then([],((dec L).2:Int),9) else((dec L).1,0,0)
def RetInts2 (r:List Int × Int × Int) (w:World) (e:Ending) (w':World):Prop :=
 ∃v,e = .returned (.tuple #[v,.int .i64 r.2.1,.int .i64 r.2.2])∧Ints w' w.heap.size v r.1∧Below w.heap.size w w'
set_option maxHeartbeats 1000000 in
theorem decode_any (s : ByteArray) (w : World) (hs : s.size ≤ maxLen) :
  Calls Tryz.prog 102 #[.string s] w (RetInts2 (decodeS s.data.toList) w):=by
 have hs':=hs
 unfold maxLen at hs
 obtain⟨L,hL⟩:∃L,s.data.toList=L:=⟨_,rfl⟩
 have hlen:L.length=s.size:=by rw[←hL];rfl
 rw[hL]
 by_cases hbig:4096<s.size
 ·have HE:Hid (decodeS L=([],0,7)):=by simp[Hid,decodeS,hlen,hbig]
  clear hlen hL
  go_enter Tryz.func102,Tryz.ntmps102
  go_wp2
  go_ret3
  rw[HE.out]
  exact⟨_,rfl,Ints.nil _ _,Below.refl _ _⟩
 have HL:=Lib.hid hL
 have Hlen:=Lib.hid hlen
 clear hL hlen
 obtain⟨i0,hi,hz0,hz1,hz2⟩:=info_parts Tryz.info3
 go_enter Tryz.func102,Tryz.ntmps102
 go_wp2_with (at_make;refine wpList_make_own _ rfl _ _ 22 rfl w.heap.size 3 i0 (.int .i64 0) 1 Tryz.underlying22 hi hz0 hz1 .i64 .i64 _ s.size rfl rfl rfl (by rw[hz2];omega) hs' (Nat.le_refl _) ?_;intro w0 hown0 hgrow0)
 go_loopw [5,6] (fun v i wr=>∃p:Nat,∃xs:List Int,p≤s.size∧i = .int .i64 p∧Hid ((dec L).1=xs++(dec (L.drop p)).1∧(dec L).2=p+(dec (L.drop p)).2)∧Ints wr w.heap.size v xs∧xs.length≤p∧Below w.heap.size w wr) (fun _ i _=>s.size-(intOf i).toNat)
 case atStart=>exact⟨0,[],Nat.zero_le _,rfl,by simp[Hid],hown0,Nat.zero_le _,(Below.refl _ _).grown hgrow0 (Nat.le_refl _) (by simp)⟩
 case round =>
  obtain⟨p,xs,hp,rfl,hd,hown,hxs,hbel⟩:=hrel
  clear hown0 hgrow0
  by_cases hlt:p<s.size
  ·obtain⟨c,z,hcz⟩:∃c z,firstS (L.drop p)=(c,z):=⟨_,_,rfl⟩
   have hz:=firstS_bd (L.drop p)
   rw[hcz]at hz
   simp only[List.length_drop,Hlen.out]at hz
   obtain⟨hlo,hhi⟩:=hz
   by_cases h0:z=0
   ·have hz':(z==0)=true:=by simp[h0]
    have HE:Hid (decodeS L=([],(p:Int),9)):=by
     have:=hd.out.2
     rw[dec_zero (L.drop p) (by rw[hcz];exact h0)]at this
     simp only[Nat.add_zero]at this
     have hl:=Hlen.out
     rw[Hid,decodeS,if_neg (by omega),if_pos (by omega),this]
    rw[←HL.out]at hcz
    have HC:=Lib.hid hcz
    clear hcz h0
    go_wp2_with (go_at_call 149;refine(scalarAt_at s p c z _ hs' hlt HC).mono ?_;rintro e w1 ⟨rfl,hb1⟩)
    go_ret3
    rw[HE.out]
    exact⟨_,rfl,Ints.nil _ _,hbel.trans (hb1.mono hbel.size)⟩
   ·have hz':(z==0)=false:=by simp[h0]
    obtain⟨m,rfl⟩:∃m:Nat,z=((m+1:Nat):Int):=⟨(z-1).toNat,by omega⟩
    have HE:Hid ((dec L).1=(xs++[c])++(dec (L.drop (p+(m+1)))).1∧(dec L).2=(p+(m+1))+(dec (L.drop (p+(m+1)))).2):=by
     have:=hd.out
     rw[dec_step (L.drop p) c m hcz,List.drop_drop]at this
     refine⟨?_,?_⟩
     ·rw[this.1];simp
     ·simp only at this;omega
    rw[←HL.out]at hcz
    have HC:=Lib.hid hcz
    clear hcz h0
    go_wp2_with (first
     | (go_at_call 149;refine(scalarAt_at s p c _ _ hs' hlt HC).mono ?_;rintro e w1 ⟨rfl,hb1⟩)
     | (at_builtin;refine wpList_append_own _ rfl _ _ 22 rfl w.heap.size 3 i0 (.int .i64 0) 1 8 Tryz.underlying22 hi hz0 hz1 hz2 rfl (by decide) _ _ _ rfl ((hown.below (by assumption)).alloc _) ⟨_,0,none⟩ 1 1 [.int .i64 c] rfl rfl (cell_one_new _ _ _) ?c2 ?c3 ?c4 ?c5 ?_))
    case c2=>intro u hu;simp at hu;subst hu;rfl
    case c3=>unfold maxLen;omega
    case c4=>omega
    case c5=>have:=hbel.size;have:=hb1.size;simp;omega
    intro v' w2 hown2 hg2 _
    have hB1:=hbel.trans (hb1.mono hbel.size)
    have hB2:Below w.heap.size w w2:=(hB1.alloc hB1.size _).grown hg2 (by have:=hB1.size;simp;omega) (fun k hk=>(hown.lt k hk).1)
    have hI:Ints w2 w.heap.size v' (xs++[c]):=by unfold Ints;simpa using hown2
    clear hown2 hg2 hB1
    go_wp2
    go_roundw
    case rel=>exact⟨p+(m+1),xs++[c],by omega,by go_num,HE,hI,by simp;omega,hB2⟩
    case measure=>simp[intOf];omega
  ·obtain rfl:p=s.size:=by omega
   have HE:Hid (decodeS L=(xs,0,0)):=by
    have:=hd.out
    rw[List.drop_of_length_le (by rw[Hlen.out];exact Nat.le_refl _),dec_zero [] rfl]at this
    simp only[List.append_nil,Nat.add_zero]at this
    have hl:=Hlen.out
    rw[Hid,decodeS,if_neg (by omega),if_neg (by omega),this.1]
   go_wp2
   go_ret3
   rw[HE.out]
   exact⟨_,rfl,hown,hbel⟩
set_option maxRecDepth 100000
theorem length_at (c z : Int) (w : World) (h : Hid (lenS c = z)) :
  Calls Tryz.prog 74 #[.int .i64 c] w fun e w'=>e = .returned (.int .i64 z)∧w=w':=h.out▸length_any c w
set_option maxHeartbeats 1000000 in
theorem encode_any (p : Option Addr) (cap : Nat) (zs : List Int) (w : World) (hr : IntsIn w p zs) (hs : zs.length ≤ maxLen) :
  Calls Tryz.prog 47 #[.slice p zs.length cap] w fun e w'=>e = .returned (.tuple #[.string (encodeS zs).1,.int .i64 (encodeS zs).2])∧Below w.heap.size w w':=by
 unfold maxLen at hs
 by_cases hbig:4096<zs.length
 ·have HE:Hid (encodeS zs=(ByteArray.empty,7)):=by simp[Hid,encodeS,hbig]
  clear hr
  go_enter Tryz.func47,Tryz.ntmps47
  go_wp2
  go_ret2
  rw[HE.out]
  exact⟨rfl,Below.refl _ _⟩
 have HR:=Lib.hid hr
 clear hr
 obtain⟨i0,hi,hz0,hz1,hz2⟩:=info_parts Tryz.infu5
 go_enter Tryz.func47,Tryz.ntmps47
 go_wp2_with (at_make;refine wpList_make_own _ rfl _ _ 47 rfl w.heap.size 5 i0 (.int .u8 0) 1 Tryz.underlying47 hi hz0 hz1 .i64 .i64 _ zs.length rfl rfl rfl (by rw[hz2];omega) (by unfold maxLen;omega) (Nat.le_refl _) ?_;intro w0 hown0 hgrow0)
 go_loopw [4,15] (fun v i wr=>∃k:Nat,k≤zs.length∧i = .int .i64 k∧Hid (allS (zs.take k)=true)∧wr.ownsRow w.heap.size 5 1 v (flat (zs.take k)).length ((flat (zs.take k)).map (.int .u8))∧Below w.heap.size w wr) (fun _ i _=>zs.length-(intOf i).toNat)
 case atStart=>exact⟨0,Nat.zero_le _,rfl,rfl,hown0,(Below.refl _ _).grown hgrow0 (Nat.le_refl _) (by simp)⟩
 case round =>
  obtain⟨k,hk,rfl,ha,hown,hbel⟩:=hrel
  clear hown0 hgrow0
  by_cases hlt:k<zs.length
  ·obtain⟨b,off,rfl,hck⟩:=(HR.out.below hbel) k hlt
   obtain⟨x,hx⟩:∃x,zs.getD k 0=x:=⟨_,rfl⟩
   have hts:=take_snoc_int zs k hlt
   rw[hx]at hck hts
   have hfb:=flat_bd (zs.take k)
   have htk:(zs.take k).length≤k:=List.length_take_le _ _
   obtain⟨z,hz⟩:∃z,lenS x=z:=⟨_,rfl⟩
   have HZ:=Lib.hid hz
   by_cases h0:z=0
   ·have h0':(z==0)=true:=by simp[h0]
    have HE:Hid (encodeS zs=(ByteArray.empty,3)):=by
     have:allS zs=false:=by
      rw[←List.take_append_drop (k+1) zs,hts]
      simp[allS,hz,h0]
     rw[Hid,encodeS,if_neg hbig,this]
     rfl
    clear hts hx hz h0
    go_wp2_with (go_at_call 74;refine(length_at _ z _ HZ).mono ?_;rintro e w1 ⟨rfl,rfl⟩)
    go_ret2
    rw[HE.out]
    exact⟨rfl,hbel⟩
   ·have h0':(z==0)=false:=by simp[h0]
    have HA:Hid (allS (zs.take (k+1))=true):=by rw[hts];simp[Hid,allS_snoc,ha.out,hz,h0]
    have HF:Hid (flat (zs.take (k+1))=flat (zs.take k)++encB x):=by rw[hts,flat_snoc];rfl
    have hn0:lenS x≠0:=by rw[hz];exact h0
    have HN:=Lib.hid hn0
    clear hts hx hz h0 hn0
    go_wp2_with (first
     | (go_at_call 74;refine(length_at _ z _ HZ).mono ?_;rintro e w1 ⟨rfl,rfl⟩)
     | (go_at_call 75;refine(appendScalar_any w.heap.size _ _ _ _ _ hbel.size hown (by omega) HN.out).mono ?_;rintro e w1 ⟨v',rfl,hown1,hb1⟩))
    go_roundw
    case rel=>exact⟨k+1,by omega,by go_num,HA,by rw[HF.out];simpa using hown1,hbel.trans hb1⟩
    case measure=>simp[intOf];omega
  ·obtain rfl:k=zs.length:=by omega
   rw[List.take_length]at hown ha
   have hcv:=conv_own hown
   have HE:Hid (encodeS zs=(strOfNums (flat zs),0)):=by
    rw[Hid,encodeS,if_neg hbig,if_pos ha.out]
   go_wp2
   go_ret2
   rw[HE.out]
   exact⟨rfl,hbel⟩
end Go.Proofs.YtblcoicaeeiojaaGreatDoor
