/- . -/
import Derived.Test.YtbnhkplhmanmoaaGreatTkG
import Derived.Test.YtbnhkplhmanmoaaGreatChecked
import Derived.Tactics
import Derived.Tactics2
import Derived.LoopTactic
import Derived.OpenShut
import Derived.Test.YtbnhkplhmanmoaaGreatLineC3G
import Derived.Test.YtbnhkplhmanmoaaGreatVaultAskG
namespace Go.Proofs.YtbnhkplhmanmoaaGreat
open Go.RowKit
set_option maxRecDepth 20000
theorem jjY (n:Int) (s:Int) (w:World) (hn:0<=n/\n<=18446744073709551615) (hs:1<=s/\s<=8) :
  Calls Tryz.prog 167 #[.int .u64 n,.int .i64 s] w fun e w'=>e=.returned (.bool (jfk n s))/\w=w':=by
 go_enter Tryz.func167,Tryz.ntmps167;go_wp2;go_ret;refine ⟨jnV ?_,rfl⟩;obtain ⟨k,rfl⟩:∃ k:Nat,s=k:=⟨s.toNat,by omega⟩;have e:((8:Int) * (k:Int)).toNat=8 * k:=by omega
 rw [e,jqk];unfold jfk;have hp:=pow_pos k
 have hd:n / 256 ^ k=0↔n < 256 ^ k:=by
  constructor
  ·intro h;have:=Int.lt_ediv_add_one_mul_self n hp;rw [h] at this;omega
  ·intro h;exact Int.ediv_eq_zero_of_lt hn.1 h
 rw [Int.toNat_natCast,Bool.eq_iff_iff];simp only [beq_iff_eq,decide_eq_true_eq];exact hd
theorem jeJ (A:Option Addr) (c B:Nat) (ss:List Int) (w:World) (hr:jaO w B .i64 A ss) (h:szs ss=true) :
  Calls Tryz.prog 166 #[.slice A ss.length c] w fun e w'=>e=.returned (.tuple #[.int .i64 (jbw ss),.int .i64 0])/\w=w':=by
 simp only [szs,Bool.and_eq_true,decide_eq_true_eq] at h;obtain ⟨h1,h2⟩:=h;have hh:¬ (4096 < (ss.length:Int)):=by omega
 go_enter Tryz.func166,Tryz.ntmps166;go_wp2
 go_loop [4,12] (fun t i=>∃ k:Nat,k<=ss.length/\i=.int .i64 k/\t=.int .i64 (jbw (ss.take k))) (fun _ i=>ss.length - (intOf i).toNat)
 case atStart=>exact ⟨0,Nat.zero_le _,rfl,rfl⟩
 case round =>
  obtain ⟨k,hk,rfl,rfl⟩:=hrel;by_cases hlt:k < ss.length
  ·obtain ⟨b,off,rfl,_,hc⟩:=hr k hlt;have hm:jfh (ss.getD k 0)=true:=List.all_eq_true.1 h2 _ (jb6 hlt);have hm2:1<=ss.getD k 0/\ss.getD k 0<=8:=by simpa only [jfh,decide_eq_true_eq] using hm
   have htk:=jb9 ss k hlt;have htb:=jco (ss.take k) (by rw [List.all_eq_true] at h2 ⊢;exact fun x hx=>h2 x (List.mem_of_mem_take hx));have hln:(ss.take k).length=k:=by simp;omega
   rw [hln] at htb;have HT:Hid (jbw (ss.take (k + 1))=jbw (ss.take k) + ss.getD k 0):=by rw [htk];exact jeA _ _
   clear htk hln hm h2;obtain ⟨x,hx⟩:∃ x,x=ss.getD k 0:=⟨_,rfl⟩;rw [<- hx] at hc hm2 HT;clear hx;obtain ⟨hm3,hm4⟩:=hm2;have hn1:¬ x < 1:=by omega
   have hn2:¬ 8 < x:=by omega
   go_wp2;go_round
   case rel=>exact ⟨k + 1,by omega,by go_num,by rw [HT.out]⟩
   case measure=>simp [intOf];omega
  ·have:k=ss.length:=by omega
   subst this;go_wp2;go_ret2;exact ⟨rfl,rfl⟩
theorem jmK (A:Option Addr) (c B:Nat) (ss:List Int) (w:World) (hr:jaO w B .i64 A ss) (h:szs ss=false) :
  Calls Tryz.prog 166 #[.slice A ss.length c] w fun e w'=>e=.returned (.tuple #[.int .i64 0,.int .i64 1])/\w=w':=by
 by_cases h4:4096 < ss.length
 ·have hh:(4096 < (ss.length:Int)):=by omega
  go_enter Tryz.func166,Tryz.ntmps166;go_wp2;go_ret2;exact ⟨rfl,rfl⟩
 ·have hh:¬ (4096 < (ss.length:Int)):=by omega
  have h2:ss.all jfh=false:=by
   unfold szs at h;rw [decide_eq_true (by omega:ss.length<=4096)] at h;simpa using h
  have hb64:ss.length<=4096:=by omega
  clear h h4;have H2:=Lib.hid h2;clear h2;go_enter Tryz.func166,Tryz.ntmps166;go_wp2
  go_loop [4,12] (fun t i=>∃ k:Nat,k<=ss.length/\i=.int .i64 k/\t=.int .i64 (jbw (ss.take k))/\(ss.take k).all jfh=true) (fun _ i=>ss.length - (intOf i).toNat)
  case atStart=>exact ⟨0,Nat.zero_le _,rfl,rfl,rfl⟩
  case round =>
   obtain ⟨k,hk,rfl,rfl,hall⟩:=hrel;by_cases hlt:k < ss.length
   ·obtain ⟨b,off,rfl,_,hc⟩:=hr k hlt;have htb:=jco (ss.take k) hall;have hln:(ss.take k).length=k:=by simp;omega
    rw [hln] at htb;have HT:Hid (jbw (ss.take (k + 1))=jbw (ss.take k) + ss.getD k 0):=by rw [jb9 ss k hlt];exact jeA _ _
    have HA:Hid (jfh (ss.getD k 0)=true->(ss.take (k + 1)).all jfh=true):=fun hz=>by
     rw [jb9 ss k hlt,List.all_append,hall,List.all_cons,hz];rfl
    clear hln hall;obtain ⟨x,hx⟩:∃ x,x=ss.getD k 0:=⟨_,rfl⟩;rw [<- hx] at hc HT HA;clear hx;by_cases ho:1<=x/\x<=8
    ·obtain ⟨hm3,hm4⟩:=ho;have hn1:¬ x < 1:=by omega
     have hn2:¬ 8 < x:=by omega
     go_wp2;go_round
     case rel=>exact ⟨k + 1,by omega,by go_num,by rw [HT.out],HA.out (by simp only [jfh,decide_eq_true_eq];omega)⟩
     case measure=>simp [intOf];omega
    ·clear HT HA htb;by_cases hn1:x < 1
     ·go_wp2;go_ret2;exact ⟨rfl,rfl⟩
     ·have hn2:8 < x:=by omega
      clear ho;go_wp2;go_ret2;exact ⟨rfl,rfl⟩
   ·have:k=ss.length:=by omega
    subst this;rw [List.take_length] at hall;have:=H2.out;rw [hall] at this;cases this
theorem jo1 (v x:Int) (hv:0<=v/\v < 72057594037927936) (hx:0<=x/\x<=255):bits .or .u64 (v * 256) x=v * 256 + x:=by
 rw [u64_or _ _ (by omega) (by omega) (by omega) (by omega),nat_join 8 _ _ (by omega) (by omega)];omega
theorem jkU (A:Option Addr) (c B:Nat) (zs:List Int) (w:World) (hr:jaO w B .u8 A zs) (hz:∀ z∈zs,0<=z/\z<=255) (h8:zs.length<=8) :
  Calls Tryz.prog 170 #[.slice A zs.length c] w fun e w'=>e=.returned (.int .u64 (jaD zs))/\w=w':=by
 have HZ:=Lib.hid hz;clear hz;go_enter Tryz.func170,Tryz.ntmps170;go_wp2
 go_loop [3,8] (fun t i=>∃ k:Nat,k<=zs.length/\i=.int .i64 k/\t=.int .u64 (jaD (zs.take k))) (fun _ i=>zs.length - (intOf i).toNat)
 case atStart=>exact ⟨0,Nat.zero_le _,rfl,rfl⟩
 case round =>
  obtain ⟨k,hk,rfl,rfl⟩:=hrel;by_cases hlt:k < zs.length
  ·obtain ⟨b,off,rfl,_,hc⟩:=hr k hlt;have hx:=HZ.out _ (jb6 hlt);have hv:=jj6 (zs.take k) fun z hz=>HZ.out z (List.mem_of_mem_take hz)
   have hln:(zs.take k).length=k:=by simp;omega
   rw [hln] at hv;have hp:=jle k (by omega);have HT:Hid (jaD (zs.take (k + 1))=jaD (zs.take k) * 256 + zs.getD k 0):=by rw [jb9 zs k hlt];exact jex _ _
   obtain ⟨x,hx'⟩:∃ x,x=zs.getD k 0:=⟨_,rfl⟩;rw [<- hx'] at hc HT hx;obtain ⟨v,hv'⟩:∃ v,v=jaD (zs.take k):=⟨_,rfl⟩;rw [<- hv'] at HT hv ⊢;have hv1:v < 72057594037927936:=by omega
   clear hx' hv' hln hp;obtain ⟨hv0,_⟩:=hv;obtain ⟨hx0,hx1⟩:=hx;go_wp2;go_round
   case rel=>exact ⟨k + 1,by omega,by go_num,by rw [HT.out,jo1 v x ⟨hv0,hv1⟩ ⟨hx0,hx1⟩]⟩
   case measure=>simp [intOf];omega
  ·have:k=zs.length:=by omega
   subst this;go_wp2;go_ret;exact ⟨rfl,rfl⟩
theorem Tryz.infoU8:(Tryz.prog.info? 5).map (fun i=>(i.zero,i.size,i.bytes))=some (some (.int .u8 0),1,1):=by kernel_rfl
theorem jpl (base:Nat) (v:Value) (xs:List Int) (n:Int) (s:Nat) (w:World) (hown:w.ownsRow base 5 1 v xs.length (xs.map (Value.int .u8))) (hb:base<=w.heap.size)
  (hs:1<=s/\s<=8) (hx:xs.length<=1000000) :
  Calls Tryz.prog 168 #[v,.int .u64 n,.int .i64 s] w fun e w' =>
   ∃ v',e=.returned v'/\w'.ownsRow base 5 1 v' (xs ++ bytesOf n s).length ((xs ++ bytesOf n s).map (Value.int .u8))/\Below base w w':=by
 obtain ⟨i0,hi,hz0,hz1,hz2⟩:=info_parts Tryz.infoU8;go_enter Tryz.func168,Tryz.ntmps168;go_wp2
 go_loopw [0,7] (fun v i wr=>∃ k:Nat,k<=s/\i=.int .i64 (8 * ((s:Int) - 1 - k))/\wr.ownsRow base 5 1 v (xs ++ jbj n s k).length ((xs ++ jbj n s k).map (Value.int .u8))/\Below base w wr)
  (fun _ i _=>(intOf i + 8).toNat)
 case atStart=>exact ⟨0,Nat.zero_le _,by go_num,by simpa [jeP] using hown,Below.refl _ _⟩
 case round =>
  obtain ⟨k,hk,rfl,hownr,hbel⟩:=hrel;by_cases hlt:k < s
  ·obtain ⟨sh,hsh⟩:∃ sh:Int,sh=8 * ((s:Int) - 1 - k):=⟨_,rfl⟩;rw [<- hsh];have hsh0:0<=sh:=by omega
   have hsh1:sh<=56:=by omega
   have HS:=Lib.hid hsh;clear hsh;have hln:(xs ++ jbj n s k).length<=1000008:=by rw [List.length_append,jfw];omega
   obtain ⟨ys,hys⟩:∃ ys,ys=xs ++ jbj n s k:=⟨_,rfl⟩;rw [<- hys] at hln hownr;have HY:=Lib.hid hys;clear hys
   go_wp2_with (at_builtin;refine wpList_append_own_at _ rfl _ _ 54 rfl base 5 i0 (.int .u8 0) 1 1 Tryz.underlying54 hi hz0 hz1 hz2 rfl (by decide) _ _ _ rfl (hownr.alloc _) ⟨wr.heap.size,0,none⟩ 1 1 [_] rfl rfl (cell_one_new _ _ _) ?c2 ?c3 ?c4 ?c5 ?_)
   case c2=>intro u hu;simp at hu;subst hu;rfl
   case c3=>unfold maxLen;omega
   case c4=>omega
   case c5=>have:=hbel.size;simp;omega
   intro v1 w1 hown1 hgrow _ _
   have R:w1.ownsRow base 5 1 v1 (xs ++ jbj n s (k + 1)).length ((xs ++ jbj n s (k + 1)).map (Value.int .u8))/\Below base w w1:=by
    have e1:xs ++ jbj n s (k + 1)=ys ++ [n / 2 ^ sh.toNat % 256]:=by
     rw [jeO,HY.out,List.append_assoc,HS.out,show (8 * ((s:Int) - 1 - k)).toNat=8 * (s - 1 - k) by omega,jqk]
    rw [e1,List.length_append,List.map_append];refine ⟨hown1,(hbel.alloc (Nat.le_trans hb hbel.size) _).grown hgrow (by have:=hbel.size;simp;omega) fun q hq=>?_⟩;exact (hownr.lt q hq).1
   clear hown1 hgrow hownr hbel;go_wp2;go_roundw
   case rel=>exact ⟨k + 1,by omega,by have:=HS.out;go_num,R.1,R.2⟩
   case measure=>have:=HS.out;simp [intOf];omega
  ·have:k=s:=by omega
   subst this;go_wp2;go_ret;exact ⟨_,rfl,hownr,hbel⟩
set_option maxHeartbeats 6400000
theorem jjx.nil {w w':World} {E:Int} (hb:Below w.heap.size w w'):jjx w E [] (.returned (.tuple #[.slice none 0 0,.int .i64 E])) w' :=
 ⟨none,0,rfl,Nat.le_refl _,jaO.nil _ _ _ _,hb⟩
theorem jn2 (A1 A2:Option Addr) (c1 c2 B:Nat) (sizes list:List Int) (w:World) (hs:jaO w B .i64 A1 sizes) (h:szs sizes=false∨list.length≠sizes.length) :
  Calls Tryz.prog 142 #[.slice A1 sizes.length c1,.slice A2 list.length c2] w (jjx w 1 []):=by
 by_cases hz:szs sizes=false
 ·go_enter Tryz.func142,Tryz.ntmps142
  go_wp2_with (go_at_call 166;refine (jmK A1 c1 B sizes _ hs hz).mono ?_;rintro e w' ⟨rfl,rfl⟩)
  go_ret2;exact jjx.nil (Below.refl _ _)
 ·have hz':szs sizes=true:=by simpa using hz
  have hl:list.length≠sizes.length:=h.resolve_left hz;have hl1:((list.length:Int) == (sizes.length:Int))=false:=by simp;omega
  have hl2:((list.length:Int) != (sizes.length:Int))=true:=by simp;omega
  clear h hz hl;have HZ:=Lib.hid hz';clear hz';go_enter Tryz.func142,Tryz.ntmps142
  go_wp2_with (go_at_call 166;refine (jeJ A1 c1 B sizes _ hs HZ.out).mono ?_;rintro e w' ⟨rfl,rfl⟩)
  go_ret2;exact jjx.nil (Below.refl _ _)
def ji7 (w:World) (E:Int) (l:List Int) (e:Ending) (w':World):Prop :=
 ∃ A c,e=.returned (.tuple #[.slice A l.length c,.int .i64 E])/\l.length<=c/\jaO w' w'.heap.size .u8 A l/\Below w.heap.size w w'/\(E=0->w'.ownsRow w.heap.size 5 1 (.slice A l.length c) l.length (l.map (Value.int .u8)))
theorem ji7.made {w w':World} {E:Int} {l:List Int} {e:Ending} (h:ji7 w E l e w'):jjx w E l e w':=by
 obtain ⟨A,c,h1,h2,h3,h4,_⟩:=h;exact ⟨A,c,h1,h2,h3,h4⟩
theorem jny (A1 A2:Option Addr) (c1 c2:Nat) (sizes list:List Int) (w:World) (hs:jaO w w.heap.size .i64 A1 sizes) (hn:jaO w w.heap.size .u64 A2 list)
  (hb:∀ z∈list,0<=z/\z<=18446744073709551615) (hz:szs sizes=true) (hl:list.length=sizes.length) :
  Calls Tryz.prog 142 #[.slice A1 sizes.length c1,.slice A2 list.length c2] w (ji7 w (ja4 list sizes) (jbA list sizes)):=by
 obtain ⟨i0,hi,hz0,hz1,hz2⟩:=info_parts Tryz.infoU8;have hz3:=hz;simp only [szs,Bool.and_eq_true,decide_eq_true_eq] at hz3;obtain ⟨hz4,hz5⟩:=hz3;have htot:=jco sizes hz5;obtain ⟨T,hT⟩:∃ T:Nat,(T:Int)=jbw sizes:=⟨(jbw sizes).toNat,by omega⟩;have hT1:T<=32768:=by omega
 have HT:=Lib.hid hT;have HZ:=Lib.hid hz;have HZ5:=Lib.hid hz5;have HL:=Lib.hid hl;have HB:=Lib.hid hb
 have hext:∀ W:World,jaO W w.heap.size .i64 A1 sizes->Calls Tryz.prog 166 #[.slice A1 sizes.length c1] W fun e w'=>e=.returned (.tuple #[.int .i64 T,.int .i64 0])/\W=w':=fun W hW=>by
  have:=jeJ A1 c1 w.heap.size sizes W hW hz;rw [<- hT] at this;exact this
 have hl1:((list.length:Int) == (sizes.length:Int))=true:=by simp;omega
 have hl2:((list.length:Int) != (sizes.length:Int))=false:=by simp;omega
 have hlb:list.length<=4096:=by omega
 clear hT hz hz5 hl hb htot;have HX:=Lib.hid hext;clear hext;go_enter Tryz.func142,Tryz.ntmps142
 go_wp2_with (first
  | (go_at_call 166;refine (HX.out _ hs).mono ?_;rintro e w' ⟨rfl,rfl⟩)
  | (at_make;refine wpList_make_own _ rfl _ _ 54 rfl w.heap.size 5 i0 (.int .u8 0) 1 Tryz.underlying54 hi hz0 hz1 .i64 .i64 (T:Int) T rfl rfl rfl (by rw [hz2];omega) (by unfold maxLen;omega) (Nat.le_refl _) ?_;intro w1 hown1 hg1))
 have hbel1:Below w.heap.size w w1:=(Below.refl _ _).grown hg1 (Nat.le_refl _) (fun _ h=>by cases h);clear hg1
 go_loopw [8,28] (fun v i wr=>∃ k:Nat,k<=list.length/\i=.int .i64 k/\wr.ownsRow w.heap.size 5 1 v (jbx list sizes k).length ((jbx list sizes k).map (Value.int .u8)) /\
   Below w.heap.size w wr/\Hid (((list.zip sizes).take k).all (fun p=>jfk p.1 p.2)=true)) (fun _ i _=>list.length - (intOf i).toNat)
 case atStart=>exact ⟨0,Nat.zero_le _,rfl,by simpa [jhl] using hown1,hbel1,by simp [Hid]⟩
 case round =>
  obtain ⟨k,hk,rfl,hown,hbel,hall⟩:=hrel;clear hown1 hbel1;by_cases hlt:k < list.length
  ·have hlt2:k < sizes.length:=by have:=HL.out;omega
   obtain ⟨b1,o1,rfl,_,hc1⟩:=hs.below hbel k hlt2;obtain ⟨b2,o2,rfl,_,hc2⟩:=hn.below hbel k hlt;have hm:jfh (sizes.getD k 0)=true:=List.all_eq_true.1 HZ5.out _ (jb6 hlt2);have hm2:1<=sizes.getD k 0/\sizes.getD k 0<=8:=by simpa only [jfh,decide_eq_true_eq] using hm
   have hx:=HB.out _ (jb6 hlt);have hfl:=jh4 list sizes HZ5.out k;have HF:=Lib.hid (jd8 list sizes k hlt hlt2);have HA:=Lib.hid (jep list sizes k hlt hlt2);have HR:=Lib.hid (jgQ HZ.out HL.out k hlt);obtain ⟨x,hx'⟩:∃ x,x=list.getD k 0:=⟨_,rfl⟩;obtain ⟨s,hs'⟩:∃ s:Nat,(s:Int)=sizes.getD k 0:=⟨(sizes.getD k 0).toNat,by omega⟩;rw [<- hx'] at hc2 hx HF HA HR;rw [<- hs'] at hc1 hm2 HF HA HR;clear hx' hs' hm;obtain ⟨ys,hys⟩:∃ ys,ys=jbx list sizes k:=⟨_,rfl⟩;rw [<- hys] at hown hfl HF;clear hys;by_cases hf:jfk x s=true
   ·go_wp2_with (first
     | (go_at_call 167;refine (jjY x s _ hx hm2).mono ?_;rintro e w' ⟨rfl,rfl⟩)
     | (go_at_call 168;refine (jpl w.heap.size _ ys x s _ hown hbel.size (by omega) (by omega)).mono ?_;rintro e w2 ⟨v2,rfl,hown2,hbel2⟩))
    go_roundw
    case rel =>
     refine ⟨k + 1,by omega,by go_num,?_,hbel.trans hbel2,?_⟩
     ·rw [HF.out];exact hown2
     ·unfold Hid;rw [HA.out,List.all_append,hall.out,List.all_cons,hf];rfl
    case measure=>simp [intOf];omega
   ·have hf':jfk x s=false:=by simpa using hf
    clear hf
    go_wp2_with (go_at_call 167;refine (jjY x s _ hx hm2).mono ?_;rintro e w' ⟨rfl,rfl⟩)
    go_ret2;have R:=HR.out hf';rw [R.1,R.2];exact ⟨none,0,rfl,Nat.le_refl _,jaO.nil _ _ _ _,hbel,fun h=>by cases h⟩
  ·have:k=list.length:=by omega
   subst this;go_wp2;go_ret2;have R:=jkK HZ.out HL.out hall.out;obtain ⟨A,c,hv⟩:=jeb hown;subst hv;rw [R.1,R.2];exact ⟨A,c,rfl,jif hown,jaO.of_own hown,hbel,fun _=>hown⟩
theorem jpk (A1 A2:Option Addr) (c1 c2:Nat) (sizes list:List Int) (w:World) (hs:jaO w w.heap.size .i64 A1 sizes) (hn:jaO w w.heap.size .u64 A2 list)
  (hb:∀ z∈list,0<=z/\z<=18446744073709551615) (hz:szs sizes=true) (hl:list.length=sizes.length) :
  Calls Tryz.prog 142 #[.slice A1 sizes.length c1,.slice A2 list.length c2] w (jjx w (ja4 list sizes) (jbA list sizes)) :=
 (jny A1 A2 c1 c2 sizes list w hs hn hb hz hl).mono fun _ _ h=>h.made
theorem jjI (A1 A2:Option Addr) (c1 c2:Nat) (sizes list:List Int) (w:World) (hs:jaO w w.heap.size .i64 A1 sizes) (hn:jaO w w.heap.size .u64 A2 list)
  (hb:∀ z∈list,0<=z/\z<=18446744073709551615) :
  Calls Tryz.prog 142 #[.slice A1 sizes.length c1,.slice A2 list.length c2] w (jjx w (ja4 list sizes) (jbA list sizes)):=by
 by_cases h:szs sizes=false∨list.length≠sizes.length
 ·have R:=jji h;rw [R.1,R.2];exact jn2 A1 A2 c1 c2 _ sizes list w hs h
 ·have h1:szs sizes=true:=by
   cases e:szs sizes
   ·exact absurd (Or.inl e) h
   ·rfl
  have h2:list.length=sizes.length:=by
   rcases Nat.decEq list.length sizes.length with e | e
   ·exact absurd (Or.inr e) h
   ·exact e
  exact jpk A1 A2 c1 c2 sizes list w hs hn hb h1 h2
theorem jjx.below {w0 w w':World} {E:Int} {l:List Int} {e:Ending} (h:jjx w E l e w') (hb:Below w0.heap.size w0 w):jjx w0 E l e w':=by
 obtain ⟨A,c,he,hc,hi,hw⟩:=h;exact ⟨A,c,he,hc,hi,hb.trans (hw.mono hb.size)⟩
theorem jkN (A1 A2:Option Addr) (c1 c2:Nat) (sizes list:List Int) (w:World) (hs:jaO w w.heap.size .i64 A1 sizes) (hn:jaO w w.heap.size .u64 A2 list)
  (hb:∀ z∈list,0<=z/\z<=18446744073709551615) :
  Calls Tryz.prog 113 #[.slice A2 list.length c2,.slice A1 sizes.length c1] w (jjx w (ja4 list sizes) (jbA list sizes)):=by
 have HJ:=Lib.hid (jjI A1 A2 c1 c2 sizes list w hs hn hb);clear hb;go_enter Tryz.func113,Tryz.ntmps113
 go_wp2_with (go_at_call 142;refine Calls.mono HJ.out ?_;rintro e w1 ⟨A,c,rfl,hcap,hi,hbel⟩)
 go_ret2;exact ⟨A,c,rfl,hcap,hi,hbel⟩
theorem jpu (n s:Int) (w:World) (hn:0<=n/\n<=18446744073709551615) :
  Calls Tryz.prog 116 #[.int .u64 n,.int .i64 s] w (jjx w (ja4 [n] [s]) (jbA [n] [s])):=by
 have HJ:∀ t1 t2:Nat,Hid (Calls Tryz.prog 142 #[.slice (some ⟨w.heap.size,0,none⟩) 1 1,.slice (some ⟨w.heap.size + 1,0,none⟩) 1 1] ((w.alloc (.cells #[.int .i64 s] t1)).alloc (.cells #[.int .u64 n] t2))
   (jjx w (ja4 [n] [s]) (jbA [n] [s]))):=fun t1 t2=>by
  have hb:Below w.heap.size w ((w.alloc (.cells #[.int .i64 s] t1)).alloc (.cells #[.int .u64 n] t2)):=((Below.refl _ _).alloc (Nat.le_refl _) _).alloc (by simp) _;refine Calls.mono (jjI (some ⟨w.heap.size,0,none⟩) (some ⟨w.heap.size + 1,0,none⟩) 1 1 [s] [n] _ ?_ ?_ ?_) fun e w' h=>h.below hb
  ·exact ((jaO.new w t1 .i64 [s] #[.int .i64 s] rfl).alloc (by simp) _).more (by simp)
  ·have:=jaO.new (w.alloc (.cells #[.int .i64 s] t1)) t2 .u64 [n] #[.int .u64 n] rfl;simp only [World.size_alloc] at this ⊢;exact this
  ·intro z hz;simp only [List.mem_singleton] at hz;subst hz;exact hn
 go_enter Tryz.func116,Tryz.ntmps116
 go_wp2_with (go_at_call 142;refine Calls.mono (HJ _ _).out ?_;rintro e w1 ⟨A,c,rfl,hcap,hi,hbel⟩)
 go_ret2;exact ⟨A,c,rfl,hcap,hi,hbel⟩
theorem jqc:szs szL=true:=by decide
theorem jkL {l:Ln} (hE:jdj l=0):ja4 (joa l) szL=0/\jbA (joa l) szL=jbY l:=by
 obtain ⟨hr,hk⟩:=jbB.1 hE;obtain ⟨q1,q2,q3,q4,q5,q6,q7⟩:=(jcq l).1 hr;have hlast:0<=jcE l.last/\jcE l.last<=1:=by unfold jcE;split <;> decide
 have hf:∀ (x s m:Int),x<=m->m < 256 ^ s.toNat->jfk x s=true:=fun x s m h1 h2=>by unfold jfk;exact decide_eq_true (by omega)
 have h0:ja4 (joa l) szL=0:=by
  unfold ja4;rw [if_pos ⟨jqc,rfl⟩];refine if_pos ?_;show ((jfk 21324 2 && (jfk l.g 4 && (jfk l.s 4 && (jfk (jcE l.last) 1 && (jfk l.r.k 1 && (jfk l.r.a 7 && (jfk l.r.b 7 && (jfk l.r.c 7 && (jfk l.r.d 7 && (jfk ((l.r.key.size:Nat):Int) 1 && true))))))))))=true)
  rw [hf 21324 2 21324 (by omega) (by decide),hf l.g 4 2147483647 (by omega) (by decide),hf l.s 4 2147483647 (by omega) (by decide),hf (jcE l.last) 1 1 (by omega) (by decide),hf l.r.k 1 9 (by omega) (by decide),
   hf l.r.a 7 1099511627776 (by omega) (by decide),hf l.r.b 7 1099511627776 (by omega) (by decide),hf l.r.c 7 1099511627776 (by omega) (by decide),hf l.r.d 7 1099511627776 (by omega) (by decide),hf ((l.r.key.size:Nat):Int) 1 16 (by omega) (by decide)]
  rfl
 refine ⟨h0,?_⟩;unfold jbA;rw [if_pos h0];show bytesOf 21324 2 ++ (bytesOf l.g 4 ++ (bytesOf l.s 4 ++ (bytesOf (jcE l.last) 1 ++ (bytesOf l.r.k 1 ++ (bytesOf l.r.a 7 ++ (bytesOf l.r.b 7 ++ (bytesOf l.r.c 7 ++ (bytesOf l.r.d 7 ++ (bytesOf ((l.r.key.size:Nat):Int) 1 ++ [])))))))))=_;rw [List.append_nil,show bytesOf 21324 2=[83,76] by decide];rfl
theorem jgo {n:Int} (h0:0<=n) (h1:n<=4294967295):ja4 [n] [4]=0/\jbA [n] [4]=bytesOf n 4:=by
 have hf:jfk n 4=true:=by
  unfold jfk;have:(256:Int) ^ (4:Int).toNat=4294967296:=by decide
  exact decide_eq_true (by omega)
 have e:ja4 [n] [4]=0:=by
  unfold ja4;rw [if_pos ⟨by decide,rfl⟩];refine if_pos ?_;show ((jfk n 4 && true)=true);rw [hf];rfl
 refine ⟨e,?_⟩;unfold jbA;rw [if_pos e];show bytesOf n 4 ++ []=_;rw [List.append_nil]
theorem jqy (l:Ln):jeC (List.replicate 64 0) 0 (jbY l)=jbY l ++ List.replicate 23 0:=by
 unfold jeC;rw [jbL,List.drop_replicate,List.take_zero,List.nil_append]
theorem jqf {l:Ln} (hk:l.r.key.size<=19):jeC (jbY l ++ List.replicate 23 0) 41 (jiA l.r.key)=jci l ++ List.replicate 4 0:=by
 unfold jeC jci;rw [je3,List.take_left' (jbL l),List.drop_append,List.drop_eq_nil_of_le (by rw [jbL];omega),List.nil_append,jbL,List.drop_replicate,List.append_assoc,List.append_assoc,List.replicate_append_replicate]
 congr 3
 omega
theorem jqo {l:Ln} (hk:l.r.key.size<=19):jeC (jci l ++ List.replicate 4 0) 60 (jnu (jci l))=jcA l:=by
 unfold jeC jcA;rw [jfb,List.take_left' (jcg hk),List.drop_eq_nil_of_le (by rw [List.length_append,jcg hk,List.length_replicate];omega),List.append_nil]
theorem jhA (l:Ln) (w:World) (hE:jdj l≠0) :
  Calls Tryz.prog 80 #[.agg (lnV l)] w fun e w'=>∃ A c,e=.returned (.tuple #[.slice A 0 c,.int .i64 (jdj l)])/\Below w.heap.size w w':=by
 have HCK:=Lib.hid (fun W=>jgG l W);obtain ⟨E,hEE⟩:∃ E,E=jdj l:=⟨_,rfl⟩;rw [<- hEE] at hE HCK ⊢;have hinf:(Tryz.prog.info? 135).map (·.size)=some (lnV l).size:=Tryz.infoLine;have HQ:=Lib.hid (heap_alloc_new w (.cells (lnV l) 135));have hb:=(Below.refl w.heap.size w).alloc (Nat.le_refl _) (.cells (lnV l) 135);have e1:(E != 0)=true:=by rw [bne_iff_ne];exact hE
 obtain ⟨L,hL⟩:∃ L,L=lnV l:=⟨_,rfl⟩;rw [<- hL] at hinf HQ HCK hb ⊢;clear hEE hE hL;go_enter Tryz.func80,Tryz.ntmps80
 go_wp2_with (first
  | (refine wpList_load_row rfl 135 _ rfl w.heap.size rfl 135 _ (0,0) _ HQ.out Tryz.underlying135 rfl hinf ?_)
  | (go_at_call 112;with_reducible (refine Calls.mono (HCK.out _) ?_);rintro e w1 ⟨rfl,hb1⟩))
 go_ret2;exact ⟨_,_,rfl,hb.trans (hb1.mono hb.size)⟩
theorem jgn (l:Ln) (w:World) (hE:jdj l=0) :
  Calls Tryz.prog 80 #[.agg (lnV l)] w fun e w'=>∃ A c,e=.returned (.tuple #[.slice A 64 c,.int .i64 0])/\64<=c/\c<=9223372036854775807/\jov w w' A (jcA l)/\Below w.heap.size w w':=by
 have hk16:=(jbB.1 hE).2;have hk19:l.r.key.size<=19:=by omega
 obtain ⟨hfE,hfB⟩:=jkL hE;have HCK:=Lib.hid (fun W=>jgG l W);rw [hE] at HCK;have HNU:=Lib.hid (fun W=>jjg l W hE)
 have HNB:∀ z∈joa l,0<=z/\z<=18446744073709551615:=fun z hz=>by
  have ht:=jjT hE;rcases List.mem_cons.1 hz with rfl | hz
  ·decide
  ·obtain ⟨i,hi,rfl⟩:=List.getElem_of_mem hz;have:=ht i (by simpa [jkS] using hi);rw [List.getD_eq_getElem?_getD,List.getElem?_eq_getElem hi] at this;simp only [Option.getD_some] at this;omega
 have HFI:Hid (∀ (W:World) A c,jaO W W.heap.size .u64 A (joa l)->Calls Tryz.prog 113 #[.slice A 10 c,.slice (some ⟨W.heap.size,0,none⟩) 10 10] (W.alloc (.cells (ICs szL) 3)) fun e w'=>∃ A c,e=.returned (.tuple #[.slice A 41 c,.int .i64 0])/\jaO w' w'.heap.size .u8 A (jbY l)/\Below W.heap.size W w'):=fun W A c hi=>by
  have hb:Below W.heap.size W (W.alloc (.cells (ICs szL) 3)):=(Below.refl _ _).alloc (Nat.le_refl _) _;have h:=jkN (some ⟨W.heap.size,0,none⟩) A 10 c szL (joa l) _ (jgi.new W 3 szL).ints ((hi.below hb).more hb.size) HNB;rw [hfE,hfB] at h;refine h.mono fun e w' ⟨A',c',h1,_,h3,h4⟩=>⟨A',c',by rw [jbL] at h1;exact h1,h3,hb.trans (h4.mono hb.size)⟩
 have hsum:=jnD 0 (nb (jci l));obtain ⟨sm,hsm⟩:∃ s:Int,s=((jhQ 0 (nb (jci l)):Nat):Int):=⟨_,rfl⟩;have hsm1:0<=sm/\sm<=4294967295:=by omega
 have hsB:jnu (jci l)=bytesOf sm 4:=by rw [hsm];rfl
 have HPU:Hid (∀ W,Calls Tryz.prog 116 #[.int .u64 sm,.int .i64 4] W fun e w'=>∃ A c,e=.returned (.tuple #[.slice A 4 c,.int .i64 0])/\jaO w' w'.heap.size .u8 A (jnu (jci l))/\Below W.heap.size W w'):=fun W=>by
  have h:=jpu sm 4 W (by omega);rw [(jgo hsm1.1 hsm1.2).1,(jgo hsm1.1 hsm1.2).2,<- hsB] at h;refine h.mono fun e w' ⟨A',c',h1,_,h3,h4⟩=>⟨A',c',by rw [jfb] at h1;exact h1,h3,h4⟩
 have HSU:Hid (∀ (W:World) g,jc7 5 g (jci l ++ List.replicate 4 0) W->Calls Tryz.prog 117 #[.slice (some ⟨g,0,none⟩) 60 64] W fun e w'=>e=.returned (.int .u32 sm)/\Below W.heap.size W w'):=fun W g h=>by
  have hi:=h.ints.take 60;rw [List.take_left' (jcg hk19)] at hi;have:=jkh (some ⟨g,0,none⟩) 64 (jci l) W hi (jhW l) (by rw [jcg hk19];omega) (by rw [jcg hk19];omega);rw [jcg hk19,<- hsm] at this;exact this
 have HV1:=Lib.hid (jqy l);have HV2:Hid (jeC (jbY l ++ List.replicate 23 0) 41 (jo3 l.r.key)=jci l ++ List.replicate 4 0):=jqf hk19;have HV3:=Lib.hid (jqo hk19);have hmk:∀ w:World,(Instr.makeSlice 54 (.int .i64 64) (.int .i64 64)).run Tryz.prog w=.ok (.slice (some ⟨w.heap.size,0,none⟩) 64 64) (w.alloc (.cells (UB (List.replicate 64 0)) 5)):=jl9 64 (by decide);have hn1:(jbY l).length=41:=jbL l;have hn2:(jnu (jci l)).length=4:=jfb _;have hn3:(jcA l).length=64:=jff hE;have m0:(List.replicate 64 (0:Int)).length=64:=by simp
 have m1:(jbY l ++ List.replicate 23 (0:Int)).length=64:=by simp [hn1]
 have m2:(jci l ++ List.replicate 4 (0:Int)).length=64:=by rw [List.length_append,jcg hk19,List.length_replicate]
 obtain ⟨O0,hO0⟩:∃ O,O=List.replicate 64 (0:Int):=⟨_,rfl⟩;obtain ⟨O1,hO1⟩:∃ O,O=jbY l ++ List.replicate 23 (0:Int):=⟨_,rfl⟩;obtain ⟨O2,hO2⟩:∃ O,O=jci l ++ List.replicate 4 (0:Int):=⟨_,rfl⟩;obtain ⟨O3,hO3⟩:∃ O,O=jcA l:=⟨_,rfl⟩;obtain ⟨F,hF⟩:∃ O,O=jbY l:=⟨_,rfl⟩;obtain ⟨S,hS⟩:∃ O,O=jnu (jci l):=⟨_,rfl⟩;rw [<- hO0,<- hO1,<- hF] at HV1;rw [<- hO1,<- hO2] at HV2;rw [<- hO2,<- hO3,<- hS] at HV3;rw [<- hO0] at hmk m0;rw [<- hO1] at m1;rw [<- hO2] at m2 HSU;rw [<- hF] at HFI hn1;rw [<- hS] at HPU hn2;rw [<- hO3] at hn3 ⊢;have M0:=Lib.hid m0;have M1:=Lib.hid m1;have M3:=Lib.hid hn3;have M2:=Lib.hid m2;have N1:=Lib.hid hn1;have N2:=Lib.hid hn2;have hinf:(Tryz.prog.info? 135).map (·.size)=some (lnV l).size:=Tryz.infoLine;obtain ⟨key,hkey⟩:∃ k,k=l.r.key:=⟨_,rfl⟩;have HKEY:Hid (∀ V:World,V.heap[w.heap.size]? = some (.cells (lnV l) 135 (0,0))->V.cell? ⟨w.heap.size,8,none⟩=some (.string key)):=fun V h=>by rw [cell_of_row _ _ _ _ _ _ h,hkey];rfl
 rw [<- hkey] at HV2 hk19;have HQ:Hid (∀ V,Below (w.heap.size + 1) (w.alloc (.cells (lnV l) 135)) V->V.heap[w.heap.size]? = some (.cells (lnV l) 135 (0,0))):=fun V h=>(h.block _ (Nat.lt_succ_self _)).trans (heap_alloc_new _ _)
 have b0:Below (w.heap.size + 1) (w.alloc (.cells (lnV l) 135)) (w.alloc (.cells (lnV l) 135)):=Below.refl _ _;have hsz:w.heap.size + 1<=(w.alloc (.cells (lnV l) 135)).heap.size:=by simp
 have hbw:Below w.heap.size w (w.alloc (.cells (lnV l) 135)):=(Below.refl _ _).alloc (Nat.le_refl _) _;have hwr:IntKind.u64.wrap sm=sm:=IntWalk.u64_in _ (by omega);have hsi:=fun W=>jht W
 have HSI:=Lib.hid hsi;obtain ⟨L,hL⟩:∃ L,L=lnV l:=⟨_,rfl⟩;simp only [<- hL] at hinf HQ HCK HNU HKEY b0 hsz hbw;rw [<- hL];obtain ⟨Z,hZ⟩:∃ Z,Z=ICs szL:=⟨_,rfl⟩;simp only [<- hZ] at HFI HSI;clear hsi hL hkey hO0 hO1 hO2 hO3 hF hS m0 m1 m2 hn1 hn2 hn3 hsB hsum hsm hfE hfB HNB hE hk16 hsm1 hZ;go_enter Tryz.func80,Tryz.ntmps80
 go_wp2_with (first
  | (refine wpList_load_row rfl 135 _ rfl w.heap.size rfl 135 _ (0,0) _ (HQ.out _ b0) Tryz.underlying135 rfl hinf ?_)
  | (go_at_call 112;with_reducible (refine Calls.mono (HCK.out _) ?_);rintro e w1 ⟨rfl,hb1⟩;have b1:=b0.trans (hb1.mono hsz);have s1:=Nat.le_trans hsz hb1.size;clear b0 HCK)
  | (refine wpList_load_row rfl 135 _ rfl w.heap.size rfl 135 _ (0,0) _ (HQ.out _ b1) Tryz.underlying135 rfl hinf ?_)
  | (go_at_call 114;with_reducible (refine Calls.mono (HNU.out _) ?_);rintro e w2 ⟨A2,c2,rfl,hi2,hb2⟩;have b2:=b1.trans (hb2.mono s1);have s2:=Nat.le_trans s1 hb2.size;clear b1 HNU)
  | (go_at_call 115;with_reducible (refine Calls.mono (HSI.out _) ?_);rintro e wq ⟨rfl,rfl⟩)
  | (go_at_call 113;with_reducible (refine Calls.mono (HFI.out w2 A2 c2 hi2) ?_);rintro e w3 ⟨A3,c3,rfl,hi3,hb3⟩;have b3:=b2.trans (hb3.mono s2);have s3:=Nat.le_trans s2 hb3.size;clear b2 HFI)
  | (have hguard:=hi3;clear hguard;with_reducible (refine jdh rfl _ _ rfl w3.heap.size 0 64 64 A3 41 c3 rfl rfl F O0 O1 N1.out (by decide) 5 (jc7.new w3 5 O0) _ (hi3.below ((Below.refl _ _).alloc (Nat.le_refl _) _)) (by rw [M0.out];decide) HV1.out (w.heap.size + 1) _ (b3.alloc s3 _) s3 ?_);intro w4 hr4 b4;have hr4':=Lib.hid hr4;clear hr4 hi3))
 have hcell:=HKEY.out w4 (HQ.out w4 b4);have hle:key.size<=23:=by omega
 have hft:41 + key.size<=O1.length:=by rw [M1.out];omega
 have hb4:=b4.drew;simp only [Act.put,List.setIfInBounds_toArray,List.set_cons_succ,List.set_cons_zero]
 go_region_law (refine jf8 rfl (.tmp 27) (.tmp 30) rfl w3.heap.size 41 23 23 key rfl rfl O1 O2 hle 5 hr4'.out hft HV2.out (w.heap.size + 1) (w.alloc (.cells L 135)) hb4 s3 ?_;intro w5 hr5 b5)
 all_goals
  have s5:=Nat.le_trans hsz b5.size;have l5:=hr5.out.lt;clear hcell hr4' b4 hb4 hle hft HKEY hmk
  go_wp2_with (first
   | (go_at_call 117;with_reducible (refine Calls.mono (HSU.out w5 w3.heap.size hr5.out) ?_);rintro e w6 ⟨rfl,hb6⟩;have b6:=b5.trans (hb6.mono s5);have s6:=Nat.le_trans s5 hb6.size;have l6:=Nat.lt_of_lt_of_le l5 hb6.size;have hr6:=Lib.hid (hr5.out.below hb6 l5);clear HSU)
   | (go_at_call 116;with_reducible (refine Calls.mono (HPU.out _) ?_);rintro e w7 ⟨A7,c7,rfl,hi7,hb7⟩;have b7:=b6.trans (hb7.mono s6);have hr7:=Lib.hid (hr6.out.below hb7 l6);clear HPU)
   | (have hguard:=hi7;clear hguard;with_reducible (refine jdh rfl _ _ rfl w3.heap.size 60 4 4 A7 4 c7 rfl rfl S O2 O3 N2.out (by decide) 5 hr7.out _ hi7 (by rw [M2.out];decide) HV3.out (w.heap.size + 1) _ b7 s3 ?_);intro w8 hr8 b8;have hr8':=Lib.hid hr8;clear hr8 hi7))
  go_wp2;go_ret2;have hr:=hr8'.out;have hl:=M3.out;refine ⟨_,_,rfl,by decide,by decide,⟨w3.heap.size,0,rfl,by omega,hr.lt,fun i hi=>?_⟩,hbw.trans (b8.mono (Nat.le_succ _))⟩;rw [Nat.zero_add];exact ⟨hr.cell hi,hr.thaw i⟩
end Go.Proofs.YtbnhkplhmanmoaaGreat
