/- Plain mathematics of UTF-8: lengths, encodings, and the long -/
import Derived.WalkKit
import Derived.Laws.BytesArg
import Derived.Laws.BitsLemmas
import Derived.Test.YtblcoicaeeiojaaGreatDoorRows
import Derived.WalkSpells
import Derived.WalkLawsBesides
set_option linter.unusedSimpArgs false
set_option linter.unusedVariables false
namespace Go.Proofs.YtblcoicaeeiojaaGreatDoor
def lenS (c:Int):Int :=
 if c<0 then 0 else if 1114111<c then 0 else if 55296≤c∧c≤57343 then 0 else if c≤127 then 1 else if c≤2047 then 2 else if c≤65535 then 3 else 4
theorem lenS_bd (c:Int):0≤lenS c∧lenS c≤4:=by unfold lenS;omega
def sfC (b:Int):Int:=if b<128 then b else if b<192 then 0 else if b<224 then b-192 else if b<240 then b-224 else if b<248 then b-240 else 0
def sfN (b:Int):Int:=if b<128 then 1 else if b<192 then 0 else if b<224 then 2 else if b<240 then 3 else if b<248 then 4 else 0
def contS (c:Int):List UInt8→Option Int
 | []=>some c
 | b::r=>if 128≤(b.toNat:Int)∧(b.toNat:Int)<192 then contS (c*64+((b.toNat:Int)-128)) r else none
theorem contS_snoc (x : UInt8) : ∀ (l : List UInt8) (c : Int), contS c (l ++ [x]) = match contS c l with
  | none=>none
  | some d=>if 128≤(x.toNat:Int)∧(x.toNat:Int)<192 then some (d*64+((x.toNat:Int)-128))else none
 | [],c=>by simp[contS]
 | b::r,c=>by
  simp only[List.cons_append,contS]
  by_cases h:128≤(b.toNat:Int)∧(b.toNat:Int)<192
  ·simp only[if_pos h];exact contS_snoc x r _
  ·simp only[if_neg h]
theorem contS_none (m:List UInt8):∀(l:List UInt8) (c:Int),contS c l=none→contS c (l++m)=none
 | [],c,h=>by simp[contS]at h
 | b::r,c,h=>by
  simp only[List.cons_append,contS]at *
  by_cases hb:128≤(b.toNat:Int)∧(b.toNat:Int)<192
  ·simp only[if_pos hb]at *;exact contS_none m r _ h
  ·simp only[if_neg hb]
theorem contS_bd:∀(l:List UInt8) (c d:Int),contS c l=some d→0≤c→0≤d∧d<(c+1)*64^l.length
 | [],c,d,h,hc=>by simp[contS]at h;simp;omega
 | b::r,c,d,h,hc=>by
  simp only[contS]at h
  by_cases hb:128≤(b.toNat:Int)∧(b.toNat:Int)<192
  ·rw[if_pos hb]at h
   have:=contS_bd r _ d h (by omega)
   refine⟨this.1,Int.lt_of_lt_of_le this.2 ?_⟩
   rw[List.length_cons,Int.pow_succ,Int.mul_comm (64^r.length) 64,←Int.mul_assoc]
   exact Int.mul_le_mul_of_nonneg_right (by omega) (Int.pow_nonneg (by omega))
  ·rw[if_neg hb]at h;cases h
theorem contS_small (l:List UInt8) (c d:Int) (h:contS c l=some d) (h0:0≤c) (h1:c≤127) (hl:l.length≤3):0≤d∧d<33554432:=by
 have:=contS_bd l c d h h0
 refine⟨this.1,Int.lt_of_lt_of_le this.2 ?_⟩
 match l.length,hl with
 | 0,_=>omega
 | 1,_=>omega
 | 2,_=>omega
 | 3,_=>omega
def firstS:List UInt8→Int × Int
 | []=>(0,0)
 | b::r =>
  if sfN b.toNat=0∨(r.length:Int)+1<sfN b.toNat then(0,0) else
  match contS (sfC b.toNat) (r.take (sfN b.toNat-1).toNat) with
  | none=>(0,0)
  | some c=>if lenS c=sfN b.toNat then(c,sfN b.toNat) else(0,0)
theorem sf_bd (b:Int) (h0:0≤b) (h1:b≤255):0≤sfC b∧sfC b≤127∧0≤sfN b∧sfN b≤4:=by unfold sfC sfN;omega
theorem firstS_bd (l:List UInt8):0≤(firstS l).2∧(firstS l).2≤l.length:=by
 unfold firstS
 split
 ·simp
 ·rename_i b r
  have:=sf_bd b.toNat (by omega) (by have:=b.toNat_lt;omega)
  split
  ·simp;omega
  ·split
   ·simp;omega
   ·split<;>simp<;>omega
def encB (c:Int):List Int :=
 if c≤127 then [c]else if c≤2047 then [192+c / 64,128+c%64]else if c≤65535 then [224+c / 4096,128+c / 64%64,128+c%64]
 else [240+c / 262144,128+c / 4096%64,128+c / 64%64,128+c%64]
theorem encB_len (c:Int) (h:lenS c≠0):((encB c).length:Int)=lenS c:=by
 unfold encB lenS at *;repeat' split
 all_goals simp_all
 all_goals omega
def decUS:Nat→List UInt8→List Int × Nat
 | 0,_=>([],0)
 | k+1,l =>
  if(firstS l).2=0 then([],0) else
  let r:=decUS k (l.drop (firstS l).2.toNat)
  ((firstS l).1::r.1,(firstS l).2.toNat+r.2)
def flat (zs:List Int):List Int:=zs.flatMap encB
theorem encB_bd (c:Int):(encB c).length≤4:=by
 unfold encB;repeat' split
 all_goals simp
theorem flat_bd (zs:List Int):(flat zs).length≤4*zs.length:=by
 induction zs with
 | nil=>simp[flat]
 | cons c r ih =>
  have:=encB_bd c
  simp only[flat,List.flatMap_cons,List.length_append,List.length_cons]at *
  omega
theorem flat_snoc (zs:List Int) (c:Int):flat (zs++[c])=flat zs++encB c:=by simp[flat]
def allS (zs:List Int):Bool:=zs.all fun c => !(lenS c==0)
theorem allS_snoc (zs:List Int) (c:Int):allS (zs++[c])=(allS zs && !(lenS c==0)):=by simp[allS]
def encodeS (zs:List Int):ByteArray × Int :=
 if 4096<zs.length then(ByteArray.empty,7)else if allS zs=true then(strOfNums (flat zs),0) else(ByteArray.empty,3)
theorem decS_fuel:∀(k j:Nat) (l:List UInt8),l.length≤k→l.length≤j→decUS k l=decUS j l
 | 0,0,l,_,_=>rfl
 | 0,j+1,l,h,_=>by
  obtain rfl:l=[]:=List.eq_nil_of_length_eq_zero (by omega)
  simp[decUS,firstS]
 | k+1,0,l,_,h=>by
  obtain rfl:l=[]:=List.eq_nil_of_length_eq_zero (by omega)
  simp[decUS,firstS]
 | k+1,j+1,l,h,h'=>by
  unfold decUS
  by_cases h0:(firstS l).2=0
  ·simp[h0]
  ·have hb:=firstS_bd l
   rw[if_neg h0,if_neg h0,decS_fuel k j _ (by simp;omega) (by simp;omega)]
def dec (l:List UInt8):List Int × Nat:=decUS l.length l
theorem dec_zero (l:List UInt8) (h:(firstS l).2=0):dec l=([],0):=by
 unfold dec
 cases l with
 | nil=>rfl
 | cons b r=>rw[List.length_cons,decUS,if_pos h]
theorem dec_step (l:List UInt8) (c:Int) (z:Nat) (h:firstS l=(c,((z+1:Nat):Int))):dec l=(c::(dec (l.drop (z+1))).1,z+1+(dec (l.drop (z+1))).2):=by
 have hb:=firstS_bd l
 rw[h]at hb
 simp only at hb
 unfold dec
 cases l with
 | nil=>rw[List.length_nil]at hb;omega
 | cons b r =>
  have h0:(firstS (b::r)).2≠0:=by rw[h];simp only;omega
  rw[List.length_cons,decUS,if_neg h0,h]
  simp only[Int.toNat_natCast]
  rw[decS_fuel r.length _ _ (by simp) (Nat.le_refl _)]
theorem dec_bd:∀(k:Nat) (l:List UInt8),l.length≤k→(dec l).2≤l.length∧(dec l).1.length≤(dec l).2
 | k,l,hk=>by
  by_cases h0:(firstS l).2=0
  ·rw[dec_zero l h0];simp
  ·have hb:=firstS_bd l
   obtain⟨z,hz⟩:∃z:Nat,(firstS l).2=((z+1:Nat):Int):=⟨(firstS l).2.toNat-1,by omega⟩
   rw[dec_step l _ z (Prod.ext rfl hz)]
   match k,hk with
   | 0,hk=>omega
   | k+1,hk =>
    have:=dec_bd k (l.drop (z+1)) (by simp;omega)
    simp only[List.length_drop,List.length_cons]at *
    omega
def encU (c:Int):List UInt8:=(encB c).map fun n=>UInt8.ofNat n.toNat
def flatU (zs:List Int):List UInt8:=zs.flatMap encU
theorem strOfNums_flat (zs:List Int):(strOfNums (flat zs)).data.toList=flatU zs:=by
 rw[strOfNums_data,flat,flatU,List.map_flatMap];rfl
theorem toNat_ofNat (n:Int) (h0:0≤n) (h1:n≤255):((UInt8.ofNat n.toNat).toNat:Int)=n:=by
 rw[UInt8.toNat_ofNat']
 omega
theorem firstS_encU (c:Int) (r:List UInt8) (h:lenS c≠0):firstS (encU c++r)=(c,lenS c):=by
 have hl:=encB_len c h
 unfold lenS at h
 by_cases h1:c≤127
 ·have e:encB c=[c]:=by simp[encB,h1]
  have en:lenS c=1:=by unfold lenS;omega
  have t:=toNat_ofNat c (by omega) (by omega)
  simp only[encU,e,List.map_cons,List.map_nil,List.cons_append,List.nil_append,firstS,t]
  have s1:sfN c=1:=by unfold sfN;omega
  have s2:sfC c=c:=by unfold sfC;omega
  rw[s1,s2,if_neg (by omega)]
  simp[contS,en]
 by_cases h2:c≤2047
 ·have e:encB c=[192+c / 64,128+c%64]:=by simp[encB,h1,h2]
  have en:lenS c=2:=by unfold lenS;omega
  have t1:=toNat_ofNat (192+c / 64) (by omega) (by omega)
  have t2:=toNat_ofNat (128+c%64) (by omega) (by omega)
  simp only[encU,e,List.map_cons,List.map_nil,List.cons_append,List.nil_append,firstS,t1]
  have s1:sfN (192+c / 64)=2:=by unfold sfN;omega
  have s2:sfC (192+c / 64)=c / 64:=by unfold sfC;omega
  rw[s1,s2,if_neg (by simp;omega)]
  have e2:c / 64*64+(128+c%64-128)=c:=by omega
  simp only[show ((2:Int)-1).toNat=1 by decide,List.take_succ_cons,List.take_zero,contS,t2]
  rw[if_pos (by omega),e2]
  simp only[en,if_true]
 by_cases h3:c≤65535
 ·have e:encB c=[224+c / 4096,128+c / 64%64,128+c%64]:=by simp[encB,h1,h2,h3]
  have en:lenS c=3:=by unfold lenS;omega
  have t1:=toNat_ofNat (224+c / 4096) (by omega) (by omega)
  have t2:=toNat_ofNat (128+c / 64%64) (by omega) (by omega)
  have t3:=toNat_ofNat (128+c%64) (by omega) (by omega)
  simp only[encU,e,List.map_cons,List.map_nil,List.cons_append,List.nil_append,firstS,t1]
  have s1:sfN (224+c / 4096)=3:=by unfold sfN;omega
  have s2:sfC (224+c / 4096)=c / 4096:=by unfold sfC;omega
  rw[s1,s2,if_neg (by simp;omega)]
  have e2:(c / 4096*64+(128+c / 64%64-128))*64+(128+c%64-128)=c:=by omega
  simp only[show ((3:Int)-1).toNat=2 by decide,List.take_succ_cons,List.take_zero,contS,t2,t3]
  rw[if_pos (by omega),if_pos (by omega),e2]
  simp only[en,if_true]
 ·have e:encB c=[240+c / 262144,128+c / 4096%64,128+c / 64%64,128+c%64]:=by simp[encB,h1,h2,h3]
  have en:lenS c=4:=by unfold lenS;omega
  have t1:=toNat_ofNat (240+c / 262144) (by omega) (by omega)
  have t2:=toNat_ofNat (128+c / 4096%64) (by omega) (by omega)
  have t3:=toNat_ofNat (128+c / 64%64) (by omega) (by omega)
  have t4:=toNat_ofNat (128+c%64) (by omega) (by omega)
  simp only[encU,e,List.map_cons,List.map_nil,List.cons_append,List.nil_append,firstS,t1]
  have s1:sfN (240+c / 262144)=4:=by unfold sfN;omega
  have s2:sfC (240+c / 262144)=c / 262144:=by unfold sfC;omega
  rw[s1,s2,if_neg (by simp;omega)]
  have e2:((c / 262144*64+(128+c / 4096%64-128))*64+(128+c / 64%64-128))*64+(128+c%64-128)=c:=by omega
  simp only[show ((4:Int)-1).toNat=3 by decide,List.take_succ_cons,List.take_zero,contS,t2,t3,t4]
  rw[if_pos (by omega),if_pos (by omega),if_pos (by omega),e2]
  simp only[en,if_true]
theorem dec_encU (c:Int) (r:List UInt8) (h:lenS c≠0):dec (encU c++r)=(c::(dec r).1,(encU c).length+(dec r).2):=by
 have hb:=lenS_bd c
 obtain⟨z,hz⟩:∃z:Nat,lenS c=((z+1:Nat):Int):=⟨(lenS c).toNat-1,by omega⟩
 have hl:(encU c).length=z+1:=by
  have:=encB_len c h
  unfold encU
  rw[List.length_map]
  omega
 have hf:=firstS_encU c r h
 rw[hz]at hf
 rw[dec_step _ c z hf,←hl,List.drop_left]
theorem dec_flatU (r:List UInt8):∀(zs:List Int),allS zs=true→dec (flatU zs++r)=(zs++(dec r).1,(flatU zs).length+(dec r).2)
 | [],_=>by simp[flatU]
 | c::zs,h=>by
  simp only[allS,List.all_cons,Bool.and_eq_true,Bool.not_eq_true',beq_eq_false_iff_ne]at h
  have e:flatU (c::zs)++r=encU c++(flatU zs++r):=by simp[flatU]
  rw[e,dec_encU c _ h.1,dec_flatU r zs h.2]
  simp[flatU]
  omega
theorem wraps_i64 (n:Int) (h₀:0≤n) (h₁:n<2^63):IntKind.i64.wrap n=n:=by rw[IntKind.wrap_i64];omega
theorem i64_and63 (x:Int) (h₀:0≤x) (h₁:x<2^63):bits .and .i64 x 63=x%64:=bits_mask .i64 63 (by decide) wraps_i64 6 (by decide) x h₀ h₁
theorem i64_or128 (y:Int) (h₀:0≤y) (h₁:y<128):bits .or .i64 128 y=128+y :=
 bits_join .i64 63 (by decide) wraps_i64 7 128 y (by decide) (by decide) (by decide) h₀ h₁ (by omega)
theorem i64_or192 (y:Int) (h₀:0≤y) (h₁:y<64):bits .or .i64 192 y=192+y :=
 bits_join .i64 63 (by decide) wraps_i64 6 192 y (by decide) (by decide) (by decide) h₀ h₁ (by omega)
theorem i64_or224 (y:Int) (h₀:0≤y) (h₁:y<32):bits .or .i64 224 y=224+y :=
 bits_join .i64 63 (by decide) wraps_i64 5 224 y (by decide) (by decide) (by decide) h₀ h₁ (by omega)
theorem i64_or240 (y:Int) (h₀:0≤y) (h₁:y<16):bits .or .i64 240 y=240+y :=
 bits_join .i64 63 (by decide) wraps_i64 4 240 y (by decide) (by decide) (by decide) h₀ h₁ (by omega)
theorem i64_or6 (x y:Int) (hx₀:0≤x) (hx:x%64=0) (hx₁:x<2^62) (h₀:0≤y) (h₁:y<64):bits .or .i64 x y=x+y :=
 bits_join .i64 63 (by decide) wraps_i64 6 x y (by omega) (by omega) (by omega) h₀ (by omega) (by omega)
end Go.Proofs.YtblcoicaeeiojaaGreatDoor
namespace Go.Proofs.YtblcoicaeeiojaaGreatDoor
open Go.RowKit
set_option maxHeartbeats 400000 in
theorem length_any (c : Int) (w : World) :
  Calls Tryz.prog 74 #[.int .i64 c] w fun e w'=>e = .returned (.int .i64 (lenS c))∧w=w':=by
 unfold lenS
 by_cases h1:c<0
 ·go_enter Tryz.func74,Tryz.ntmps74
  go_wp2
  go_ret
  exact⟨rfl,rfl⟩
 by_cases h2:1114111<c
 ·go_enter Tryz.func74,Tryz.ntmps74
  go_wp2
  go_ret
  exact⟨rfl,rfl⟩
 go_enter Tryz.func74,Tryz.ntmps74
 go_wp2
 all_goals
  go_ret
  exact⟨rfl,rfl⟩
set_option maxHeartbeats 400000 in
theorem isFurther_yes (b : Int) (w : World) (h0 : 128 ≤ b) (h1 : b < 192) :
  Calls Tryz.prog 219 #[.int .u8 b] w fun e w'=>e = .returned (.bool true)∧w=w':=by
 go_enter Tryz.func219,Tryz.ntmps219
 go_wp2
 go_ret
 exact⟨rfl,rfl⟩
set_option maxHeartbeats 400000 in
theorem isFurther_no (b : Int) (w : World) (h0 : b < 128 ∨ 192 ≤ b) :
  Calls Tryz.prog 219 #[.int .u8 b] w fun e w'=>e = .returned (.bool false)∧w=w':=by
 by_cases h1:b<128
 ·go_enter Tryz.func219,Tryz.ntmps219
  go_wp2
  go_ret
  exact⟨rfl,rfl⟩
 ·have h2:192≤b:=by omega
  clear h0
  go_enter Tryz.func219,Tryz.ntmps219
  go_wp2
  go_ret
  exact⟨by simp;omega,rfl⟩
set_option maxHeartbeats 400000 in
theorem splitFirst_any (b : Int) (w : World) (h0 : 0 ≤ b) (h1 : b ≤ 255) :
  Calls Tryz.prog 218 #[.int .u8 b] w fun e w'=>e = .returned (.tuple #[.int .i64 (sfC b),.int .i64 (sfN b)])∧w=w':=by
 unfold sfC sfN
 by_cases h2:128≤b∧b<192
 ·obtain⟨h3,h4⟩:=h2
  go_enter Tryz.func218,Tryz.ntmps218
  go_wp2_with (go_at_call 219;refine(isFurther_yes _ _ (by assumption) (by assumption)).mono ?_;rintro e w' ⟨rfl,rfl⟩)
  go_ret2
  exact⟨rfl,rfl⟩
 ·have h3:b<128∨192≤b:=by omega
  clear h2
  go_enter Tryz.func218,Tryz.ntmps218
  go_wp2_with (go_at_call 219;refine(isFurther_no _ _ (by assumption)).mono ?_;rintro e w' ⟨rfl,rfl⟩)
  all_goals
   go_ret2
   exact⟨rfl,rfl⟩
set_option maxHeartbeats 400000 in
theorem further_any (c : Int) (w : World) (h0 : 0 ≤ c) (h1 : c ≤ 1114111) :
  Calls Tryz.prog 119 #[.int .i64 c] w fun e w'=>e = .returned (.int .u8 (128+c%64))∧w=w':=by
 have hm:=i64_and63 c h0 (by omega)
 have ho:=i64_or128 (c%64) (by omega) (by omega)
 have hw:IntKind.u8.wrap (128+c%64)=128+c%64:=by rw[IntKind.wrap_u8];omega
 go_enter Tryz.func119,Tryz.ntmps119
 go_wp2
 go_ret
 exact⟨rfl,rfl⟩
theorem Tryz.infu5:(Tryz.prog.info? 5).map (fun i=>(i.zero,i.size,i.bytes))=some (some (.int .u8 0),1,1):=by kernel_rfl
def Appended (B:Nat) (n:Nat) (xs:List Value) (news:List Int) (w:World) (e:Ending) (w':World):Prop :=
 ∃v',e = .returned v'∧w'.ownsRow B 5 1 v' (n+news.length) (xs++news.map (.int .u8))∧Below B w w'
set_option maxHeartbeats 400000 in
theorem appendScalar_1 (B : Nat) (v : Value) (n : Nat) (xs : List Value) (c : Int) (w : World) (hB : B ≤ w.heap.size) (hown : w.ownsRow B 5 1 v n xs) (hn : n ≤ 1099511627776)
  (h0:0≤c) (h1:c≤127) :
  Calls Tryz.prog 75 #[v,.int .i64 c] w (Appended B n xs [c] w):=by
 have hl:((lenS c:Int)==1)=true:=by unfold lenS;simp;omega
 obtain⟨i0,hi,hz0,hz1,hz2⟩:=info_parts Tryz.infu5
 have hw:IntKind.u8.wrap c=c:=by rw[IntKind.wrap_u8];omega
 go_enter Tryz.func75,Tryz.ntmps75
 go_wp2_with (first
  | (go_at_call 74;refine(length_any _ _).mono ?_;rintro e w' ⟨rfl,rfl⟩)
  | (at_builtin;refine wpList_append_own _ rfl _ _ 47 rfl B 5 i0 (.int .u8 0) 1 1 Tryz.underlying47 hi hz0 hz1 hz2 rfl (by decide) _ _ _ rfl (hown.alloc _) ⟨w.heap.size,0,none⟩ 1 1 [.int .u8 c] rfl rfl ?c1 ?c2 ?c3 ?c4 ?c5 ?_))
 case c1=>exact cell_one_new _ _ _
 case c2=>intro u hu;simp at hu;subst hu;rfl
 case c3=>unfold maxLen;omega
 case c4=>omega
 case c5=>simp;omega
 intro v' w1 hown1 hg _
 go_wp2
 go_ret
 exact⟨_,rfl,hown1,((Below.refl _ _).alloc hB _).grown hg (by simp;omega) (fun k hk=>(hown.lt k hk).1)⟩
theorem cells_lit_new (w:World) (C:Array Value) (t:TypeId) (l:List Value) (h:C.toList=l):∀j u,l[j]? = some u→(w.alloc (.cells C t)).cell? ((⟨w.heap.size,0,none⟩:Addr).add j)=some u:=by
 intro j u hu
 subst h
 rw[Addr.add_lit,World.cell?_alloc_new]
 simpa using hu
set_option maxHeartbeats 400000 in
theorem appendScalar_2 (B : Nat) (v : Value) (n : Nat) (xs : List Value) (c : Int) (w : World) (hB : B ≤ w.heap.size) (hown : w.ownsRow B 5 1 v n xs) (hn : n ≤ 1099511627776)
  (h0:128≤c) (h1:c≤2047) :
  Calls Tryz.prog 75 #[v,.int .i64 c] w (Appended B n xs [192+c / 64,128+c%64] w):=by
 have hl1:((lenS c:Int)==1)=false:=by unfold lenS;simp;omega
 have hl2:((lenS c:Int)==2)=true:=by unfold lenS;simp;omega
 obtain⟨i0,hi,hz0,hz1,hz2⟩:=info_parts Tryz.infu5
 have b1:bits .or .i64 192 (c / 64)=192+c / 64:=i64_or192 _ (by omega) (by omega)
 have e1:(192+c / 64)%256=192+c / 64:=by omega
 go_enter Tryz.func75,Tryz.ntmps75
 go_wp2_with (first
  | (go_at_call 74;refine(length_any _ _).mono ?_;rintro e w' ⟨rfl,rfl⟩)
  | (go_at_call 119;refine(further_any _ _ (by omega) (by omega)).mono ?_;rintro e w' ⟨rfl,rfl⟩)
  | (at_builtin;refine wpList_append_own _ rfl _ _ 47 rfl B 5 i0 (.int .u8 0) 1 1 Tryz.underlying47 hi hz0 hz1 hz2 rfl (by decide) _ _ _ rfl (hown.alloc _) ⟨w.heap.size,0,none⟩ 2 2 [.int .u8 (192+c / 64),.int .u8 (128+c%64)] rfl rfl ?c1 ?c2 ?c3 ?c4 ?c5 ?_))
 case c1=>exact cells_lit_new _ _ _ _ rfl
 case c2=>intro u hu;simp at hu;rcases hu with rfl|rfl<;>rfl
 case c3=>unfold maxLen;omega
 case c4=>omega
 case c5=>simp;omega
 intro v' w1 hown1 hg _
 go_wp2
 go_ret
 exact⟨_,rfl,hown1,((Below.refl _ _).alloc hB _).grown hg (by simp;omega) (fun k hk=>(hown.lt k hk).1)⟩
set_option maxHeartbeats 400000 in
theorem appendScalar_3 (B : Nat) (v : Value) (n : Nat) (xs : List Value) (c : Int) (w : World) (hB : B ≤ w.heap.size) (hown : w.ownsRow B 5 1 v n xs) (hn : n ≤ 1099511627776)
  (h0:2048≤c) (h1:c≤65535) (h2:¬(55296≤c∧c≤57343)) :
  Calls Tryz.prog 75 #[v,.int .i64 c] w (Appended B n xs [224+c / 4096,128+c / 64%64,128+c%64] w):=by
 have hl1:((lenS c:Int)==1)=false:=by unfold lenS;simp;omega
 have hl2:((lenS c:Int)==2)=false:=by unfold lenS;simp;omega
 have hl3:((lenS c:Int)==3)=true:=by unfold lenS;simp;omega
 obtain⟨i0,hi,hz0,hz1,hz2⟩:=info_parts Tryz.infu5
 have b1:bits .or .i64 224 (c / 4096)=224+c / 4096:=i64_or224 _ (by omega) (by omega)
 have e1:(224+c / 4096)%256=224+c / 4096:=by omega
 clear h2
 go_enter Tryz.func75,Tryz.ntmps75
 go_wp2_with (first
  | (go_at_call 74;refine(length_any _ _).mono ?_;rintro e w' ⟨rfl,rfl⟩)
  | (go_at_call 119;refine(further_any _ _ (by omega) (by omega)).mono ?_;rintro e w' ⟨rfl,rfl⟩)
  | (at_builtin;refine wpList_append_own _ rfl _ _ 47 rfl B 5 i0 (.int .u8 0) 1 1 Tryz.underlying47 hi hz0 hz1 hz2 rfl (by decide) _ _ _ rfl (hown.alloc _) ⟨w.heap.size,0,none⟩ 3 3 [.int .u8 (224+c / 4096),.int .u8 (128+c / 64%64),.int .u8 (128+c%64)] rfl rfl ?c1 ?c2 ?c3 ?c4 ?c5 ?_))
 case c1=>exact cells_lit_new _ _ _ _ rfl
 case c2=>intro u hu;simp at hu;rcases hu with rfl|rfl|rfl<;>rfl
 case c3=>unfold maxLen;omega
 case c4=>omega
 case c5=>simp;omega
 intro v' w1 hown1 hg _
 go_wp2
 go_ret
 exact⟨_,rfl,hown1,((Below.refl _ _).alloc hB _).grown hg (by simp;omega) (fun k hk=>(hown.lt k hk).1)⟩
set_option maxHeartbeats 400000 in
theorem appendScalar_4 (B : Nat) (v : Value) (n : Nat) (xs : List Value) (c : Int) (w : World) (hB : B ≤ w.heap.size) (hown : w.ownsRow B 5 1 v n xs) (hn : n ≤ 1099511627776)
  (h0:65536≤c) (h1:c≤1114111) :
  Calls Tryz.prog 75 #[v,.int .i64 c] w (Appended B n xs [240+c / 262144,128+c / 4096%64,128+c / 64%64,128+c%64] w):=by
 have hl1:((lenS c:Int)==1)=false:=by unfold lenS;simp;omega
 have hl2:((lenS c:Int)==2)=false:=by unfold lenS;simp;omega
 have hl3:((lenS c:Int)==3)=false:=by unfold lenS;simp;omega
 obtain⟨i0,hi,hz0,hz1,hz2⟩:=info_parts Tryz.infu5
 have b1:bits .or .i64 240 (c / 262144)=240+c / 262144:=i64_or240 _ (by omega) (by omega)
 have e1:(240+c / 262144)%256=240+c / 262144:=by omega
 go_enter Tryz.func75,Tryz.ntmps75
 go_wp2_with (first
  | (go_at_call 74;refine(length_any _ _).mono ?_;rintro e w' ⟨rfl,rfl⟩)
  | (go_at_call 119;refine(further_any _ _ (by omega) (by omega)).mono ?_;rintro e w' ⟨rfl,rfl⟩)
  | (at_builtin;refine wpList_append_own _ rfl _ _ 47 rfl B 5 i0 (.int .u8 0) 1 1 Tryz.underlying47 hi hz0 hz1 hz2 rfl (by decide) _ _ _ rfl (hown.alloc _) ⟨w.heap.size,0,none⟩ 4 4 [.int .u8 (240+c / 262144),.int .u8 (128+c / 4096%64),.int .u8 (128+c / 64%64),.int .u8 (128+c%64)] rfl rfl ?c1 ?c2 ?c3 ?c4 ?c5 ?_))
 case c1=>exact cells_lit_new _ _ _ _ rfl
 case c2=>intro u hu;simp at hu;rcases hu with rfl|rfl|rfl|rfl<;>rfl
 case c3=>unfold maxLen;omega
 case c4=>omega
 case c5=>simp;omega
 intro v' w1 hown1 hg _
 go_wp2
 go_ret
 exact⟨_,rfl,hown1,((Below.refl _ _).alloc hB _).grown hg (by simp;omega) (fun k hk=>(hown.lt k hk).1)⟩
theorem appendScalar_any (B : Nat) (v : Value) (n : Nat) (xs : List Value) (c : Int) (w : World) (hB : B ≤ w.heap.size) (hown : w.ownsRow B 5 1 v n xs) (hn : n ≤ 1099511627776)
  (hc:lenS c≠0) :
  Calls Tryz.prog 75 #[v,.int .i64 c] w (Appended B n xs (encB c) w):=by
 unfold lenS at hc
 unfold encB
 split
 ·exact appendScalar_1 B v n xs c w hB hown hn (by omega) (by omega)
 split
 ·exact appendScalar_2 B v n xs c w hB hown hn (by omega) (by omega)
 split
 ·exact appendScalar_3 B v n xs c w hB hown hn (by omega) (by omega) (by omega)
 ·exact appendScalar_4 B v n xs c w hB hown hn (by omega) (by omega)
end Go.Proofs.YtblcoicaeeiojaaGreatDoor
