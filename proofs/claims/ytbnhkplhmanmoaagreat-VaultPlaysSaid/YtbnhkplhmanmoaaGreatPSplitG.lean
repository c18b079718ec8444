/- . -/
import Derived.Test.YtbnhkplhmanmoaaGreatTkG
import Derived.Test.YtbnhkplhmanmoaaGreatLowG
namespace Go.Proofs.YtbnhkplhmanmoaaGreat
open Go.RowKit
set_option maxHeartbeats 6400000
set_option maxRecDepth 20000
def jqU (w:World) (E:Int) (l:List Int) (e:Ending) (w':World):Prop :=
 ∃ A c,e=.returned (.tuple #[.slice A l.length c,.int .i64 E])/\l.length<=c/\jaO w' w'.heap.size .u64 A l/\Below w.heap.size w w'
def jb0 (sizes:List Int) (k:Nat):Nat:=(jbw (sizes.take k)).toNat
theorem jfC (sizes:List Int):jb0 sizes 0=0:=by simp [jb0,jbw]
theorem je2 {sizes:List Int} (h:sizes.all jfh=true) (k:Nat):(sizes.take k).all jfh=true:=by
 rw [List.all_eq_true] at h ⊢;exact fun x hx=>h x (List.mem_of_mem_take hx)
theorem jjc {sizes:List Int} (h:sizes.all jfh=true) (k:Nat) (hk:k < sizes.length):(jb0 sizes (k + 1):Int)=jb0 sizes k + sizes.getD k 0:=by
 have h1:=jco _ (je2 h k);have h2:=jco _ (je2 h (k + 1));unfold jb0;have e:jbw (sizes.take (k + 1))=jbw (sizes.take k) + sizes.getD k 0:=by rw [jb9 sizes k hk,jeA]
 omega
theorem jlp {sizes:List Int} (h:sizes.all jfh=true) (k:Nat):(jb0 sizes k:Int)<=jbw sizes:=by
 have h1:=jco _ (je2 h k)
 have e:jbw sizes=jbw (sizes.take k) + jbw (sizes.drop k):=by
  have:∀ a b:List Int,jbw (a ++ b)=jbw a + jbw b:=by
   intro a b
   induction a with
   | nil=>simp [jbw]
   | cons x a ih=>rw [List.cons_append,jdA,jdA,ih];omega
  rw [<- this,List.take_append_drop]
 have h2:=jco (sizes.drop k) (by rw [List.all_eq_true] at h ⊢;exact fun x hx=>h x (List.mem_of_mem_drop hx));unfold jb0;omega
def jeK (zs sizes:List Int) (k:Nat):List Int:=ja3 zs (sizes.take k) ++ List.replicate (sizes.length - k) 0
theorem jmZ (zs sizes:List Int) (k:Nat) (hk:k<=sizes.length):(jeK zs sizes k).length=sizes.length:=by
 unfold jeK;rw [List.length_append,jdR,List.length_replicate,List.length_take];omega
theorem jkQ (zs sizes:List Int):jeK zs sizes 0=List.replicate sizes.length 0:=by simp [jeK,ja3]
theorem jlq (zs sizes:List Int):jeK zs sizes sizes.length=ja3 zs sizes:=by simp [jeK]
theorem jkY {zs sizes:List Int} (h:sizes.all jfh=true) (k:Nat) (hk:k < sizes.length) :
  (jeK zs sizes k).set k (jaD ((zs.drop (jb0 sizes k)).take (sizes.getD k 0).toNat))=jeK zs sizes (k + 1):=by
 unfold jeK;rw [jb9 sizes k hk,jgh _ _ _ (je2 h k)];have hl:(ja3 zs (sizes.take k)).length=k:=by rw [jdR,List.length_take];omega
 have hr:List.replicate (sizes.length - k) (0:Int)=0 :: List.replicate (sizes.length - (k + 1)) 0:=by
  rw [show sizes.length - k=(sizes.length - (k + 1)) + 1 by omega,List.replicate_succ]
 rw [hr,List.set_append_right _ _ (by omega),hl,Nat.sub_self,List.set_cons_zero];simp [ja3,jb0]
theorem Tryz.infoU64:(Tryz.prog.info? 163).map (fun i=>(i.zero,i.size,i.bytes))=some (some (.int .u64 0),1,8):=by kernel_rfl
theorem jlw (A1 A2:Option Addr) (c1 c2:Nat) (sizes zs:List Int) (w:World) (hs:jaO w w.heap.size .i64 A1 sizes) (hn:jaO w w.heap.size .u8 A2 zs) (hc:zs.length<=c2)
  (hb:∀ z∈zs,0<=z/\z<=255) (hz:szs sizes=true) (hl:jbw sizes=zs.length) :
  Calls Tryz.prog 145 #[.slice A2 zs.length c2,.slice A1 sizes.length c1] w fun e w'=>∃ c,e=.returned (.tuple #[.slice (some ⟨w.heap.size,0,none⟩) (ja3 zs sizes).length c,.int .i64 0])/\(ja3 zs sizes).length<=c/\jaO w' w'.heap.size .u64 (some ⟨w.heap.size,0,none⟩) (ja3 zs sizes)/\Below w.heap.size w w':=by
 obtain ⟨i0,hi,hz0,hz1,hz2⟩:=info_parts Tryz.infoU64;have hext:=jeJ A1 c1 _ sizes w hs hz;rw [hl] at hext;have hz3:=hz;simp only [szs,Bool.and_eq_true,decide_eq_true_eq] at hz3;obtain ⟨hz4,hz5⟩:=hz3;have htot:=jco sizes hz5;have hzl:zs.length<=32768:=by omega
 have HE:=Lib.hid hext;have HZ5:=Lib.hid hz5;have HL:=Lib.hid hl;have HB:=Lib.hid hb;clear hext hz hz5 hl hb htot;go_enter Tryz.func145,Tryz.ntmps145
 go_wp2_with (first
  | (go_at_call 166;refine Calls.mono HE.out ?_;rintro e w' ⟨rfl,rfl⟩)
  | (at_make;refine wpList_make_full _ rfl _ _ 159 rfl w.heap.size 163 i0 (.int .u64 0) 1 Tryz.underlying159 hi hz0 hz1 .i64 .i64 (sizes.length:Int) (sizes.length:Int) sizes.length rfl rfl rfl rfl (by rw [hz2];omega) (by unfold maxLen;omega) (Nat.le_refl _) ?_;intro w1 hown1 hg1))
 have hbel1:Below w.heap.size w w1:=(Below.refl _ _).grown hg1 (Nat.le_refl _) (fun _ h=>by cases h);clear hg1
 go_loopw [0,32] (fun b i wr=>∃ (k L c':Nat) (A':Option Addr),k<=sizes.length/\i=.int .i64 k/\b=.slice A' L c'/\Hid (L=(zs.drop (jb0 sizes k)).length)/\L<=c'/\jaO wr w.heap.size .u8 A' (zs.drop (jb0 sizes k)) /\
   wr.ownsRow w.heap.size 163 1 (.slice (some ⟨w.heap.size,0,none⟩) sizes.length sizes.length) sizes.length ((jeK zs sizes k).map (Value.int .u64))/\Below w.heap.size w wr)
  (fun _ i _=>sizes.length - (intOf i).toNat)
 case atStart =>
  refine ⟨0,zs.length,c2,A2,Nat.zero_le _,rfl,rfl,by rw [jfC];rfl,hc,by rw [jfC];exact hn.below hbel1,?_,hbel1⟩;have h:=hown1;rw [show (Value.int IntKind.u64 0).cells=#[Value.int .u64 0] from rfl,toList_madeCells_one,Nat.mul_one] at h;rw [jkQ,List.map_replicate];exact h
 case round =>
  obtain ⟨k,L,c',A',hk,rfl,rfl,hLL,hLc,hds,hown,hbel⟩:=hrel;clear hown1 hbel1 hn hc;by_cases hlt:k < sizes.length
  ·have hso:jfh (sizes.getD k 0)=true:=List.all_eq_true.1 HZ5.out _ (jb6 hlt);have hs1:1<=sizes.getD k 0/\sizes.getD k 0<=8:=by simpa only [jfh,decide_eq_true_eq] using hso
   have hsucc:=jjc HZ5.out k hlt;have hle:=jlp HZ5.out (k + 1);have HRW:=Lib.hid (jkY (zs:=zs) HZ5.out k hlt);obtain ⟨b1,o1,e1,_,hc1⟩:=hs.below hbel k hlt;obtain ⟨s,hs'⟩:∃ s:Nat,(s:Int)=sizes.getD k 0:=⟨(sizes.getD k 0).toNat,by omega⟩;rw [<- hs'] at hs1 hsucc HRW hc1;have hHL:=HL.out;have hLe:L=zs.length - jb0 sizes k:=by have:=hLL.out;rw [List.length_drop] at this;exact this
   have hsL:s<=L:=by omega
   have HD:=Lib.hid (show (zs.drop (jb0 sizes k)).drop s=zs.drop (jb0 sizes (k + 1)) by rw [List.drop_drop];congr 1;omega);obtain ⟨ds,hds'⟩:∃ ds,ds=zs.drop (jb0 sizes k):=⟨_,rfl⟩;have hdm:∀ z∈ds,0<=z/\z<=255:=fun z hz=>HB.out z (List.mem_of_mem_drop (by rw [<- hds'];exact hz))
   rw [<- hds'] at hds HRW HD hLL;have hlen:(ds.take s).length=s:=by rw [List.length_take,<- hLL.out];omega
   have hn':=fun w1 (h:jaO w1 w.heap.size .u8 A' ds)=>jkU A' c' _ (ds.take s) w1 (h.take s) (fun z hz=>hdm z (List.mem_of_mem_take hz)) (by omega)
   rw [hlen] at hn';have hwr:=hown.cellAt k (by omega);have hfz:=hown.frozenAt k;have hrl:=jmZ zs sizes k (by omega);rw [List.getElem?_map,List.getElem?_eq_getElem (by omega),Option.map_some] at hwr;obtain ⟨y,hy⟩:∃ y,y=(jeK zs sizes k)[k]'(by omega):=⟨_,rfl⟩;rw [<- hy] at hwr;have hst:=hown.stored k (.int .u64 (jaD (ds.take s)));rw [<- List.map_set] at hst;have hrs:(jeK zs sizes k).set k (jaD (ds.take s))=jeK zs sizes (k + 1):=HRW.out;rw [hrs] at hst;have hbs:Below w.heap.size wr (wr.setCell ⟨w.heap.size,k,none⟩ (.int .u64 (jaD (ds.take s)))):=(Below.refl _ _).setCell (p:=⟨w.heap.size,k,none⟩) (Nat.le_refl w.heap.size) _;have hcut:=(hds.below hbs).cut (n:=s) (c:=c') (by rw [<- hLL.out];exact hsL) (by rw [<- hLL.out];exact hLc);rw [HD.out] at hcut;have HN:=Lib.hid hn';have hsc:s<=c':=by omega
   have HLn:=Lib.hid (show L - s=(zs.drop (jb0 sizes (k + 1))).length by rw [List.length_drop];omega)
   have hA':∃ b2 o2,A'=some ⟨b2,o2,none⟩:=by
    obtain ⟨b2,o2,e,_⟩:=hds.at_ (by rw [<- hLL.out];omega);exact ⟨b2,o2,e⟩
   obtain ⟨b2,o2,rfl⟩:=hA';have HST:=Lib.hid hst;have HDS:=Lib.hid hds;have HBL:=Lib.hid (hbel.trans hbs);obtain ⟨x,hx⟩:∃ x,x=jaD (ds.take s):=⟨_,rfl⟩;rw [<- hx] at HN HST hcut HBL;obtain rfl:=e1;have hs11:=hs1.1;clear hs' hso hsucc hle hHL hLe hdm hlen hn' hrl hy hst hrs hbs HRW hds hx hs1 hds';by_cases hcs:c'=s
   ·rw [if_pos hcs] at hcut;subst hcs;have HC:=Lib.hid hcut;clear hcut
    go_wp2_with (go_at_call 170;refine Calls.mono (HN.out _ HDS.out) ?_;rintro e w' ⟨rfl,rfl⟩)
    go_roundw
    case rel=>exact ⟨k + 1,0,_,_,by omega,by go_num,rfl,(show 0=(zs.drop (jb0 sizes (k + 1))).length by have:=HLn.out;omega),by omega,HC.out,HST.out.1,HBL.out⟩
    case measure=>simp [intOf];omega
   ·rw [if_neg hcs] at hcut
    have hcut':jaO (wr.setCell ⟨w.heap.size,k,none⟩ (.int .u64 x)) w.heap.size .u8 (some ⟨b2,o2 + s,none⟩) (zs.drop (jb0 sizes (k + 1))):=by
     have:(some (⟨b2,o2,none⟩:Addr)).map (·.add s)=some ⟨b2,o2 + s,none⟩:=by simp [Addr.add];omega
     rw [this] at hcut;exact hcut
    have HC:=Lib.hid hcut';clear hcut hcut'
    go_wp2_with (go_at_call 170;refine Calls.mono (HN.out _ HDS.out) ?_;rintro e w' ⟨rfl,rfl⟩)
    go_roundw
    case rel=>exact ⟨k + 1,L - s,_,_,by omega,by go_num,rfl,HLn.out,by omega,HC.out,HST.out.1,HBL.out⟩
    case measure=>simp [intOf];omega
  ·have hks:k=sizes.length:=by omega
   subst hks;rw [jlq] at hown;have hle:=jif hown;have hpl:=jdR zs sizes
   have hown2:wr.ownsRow w.heap.size 163 1 (.slice (some ⟨w.heap.size,0,none⟩) sizes.length sizes.length) (ja3 zs sizes).length ((ja3 zs sizes).map (Value.int .u64)):=by
    rw [hpl];exact hown
   have hres:=jaO.of_own hown2;clear hds hLL hown hown2;go_wp2;go_ret2;exact ⟨sizes.length,by rw [hpl];rfl,by omega,hres,hbel⟩
def jby (zs:List Int):List Int:=[jaD (sub zs 0 2),jaD (sub zs 2 6),jaD (sub zs 6 10),jaD (sub zs 10 11),jaD (sub zs 11 12),jaD (sub zs 12 19),jaD (sub zs 19 26),jaD (sub zs 26 33),jaD (sub zs 33 40),jaD (sub zs 40 41)]
theorem jk1 (zs:List Int):ja3 (zs.take 41) szL=jby zs:=by
 simp [ja3,szL,jby,sub,List.drop_take,List.take_take]
theorem jiq (x:Int):jaD [x]=x:=by simp [jaD]
theorem jgD {zs:List Int} {i:Nat} (h:i < zs.length):sub zs i (i + 1)=[zs.getD i 0]:=by
 unfold sub;rw [show i + 1 - i=1 by omega,List.drop_eq_getElem_cons h,List.getD_eq_getElem?_getD,List.getElem?_eq_getElem h];rfl
theorem jbW (zs:List Int):(jby zs).length=10:=rfl
theorem jbC {zs:List Int} (hz:∀ z∈zs,0<=z/\z<=255) (i j:Nat) (h:j - i<=7):0<=jaD (sub zs i j)/\jaD (sub zs i j)<=9223372036854775807:=by
 have h1:=jj6 (sub zs i j) fun z hz'=>hz z (List.mem_of_mem_drop (List.mem_of_mem_take hz'))
 have hl:(sub zs i j).length<=7:=by unfold sub;rw [List.length_take];omega
 have:=jle _ hl;omega
theorem jlU (w:World):Calls Tryz.prog 115 #[] w fun e w'=>∃ g,e=.returned (.slice (some ⟨g,0,none⟩) 10 10)/\jgi 3 g szL w'/\Below w.heap.size w w' :=
 (jht w).mono fun e w' ⟨h1,h2⟩=>⟨w.heap.size,h1,by rw [h2];exact jgi.new w 3 szL,by rw [h2];exact (Below.refl _ _).alloc (Nat.le_refl _) _⟩
theorem jil {w:World} {B g g' o i:Nat} {k:IntKind} {zs:List Int} (h:jaO w B k (some ⟨g,o,none⟩) zs) (hne:g≠g') (v:Value) (hB:B<=w.heap.size):jaO (w.setCell ⟨g',i,none⟩ v) (w.setCell ⟨g',i,none⟩ v).heap.size k (some ⟨g,o,none⟩) zs:=fun j hj=>by
 obtain ⟨b,off,e,hlt,hc⟩:=h j hj;refine ⟨b,off,e,by simp [World.setCell];omega,?_⟩;injection e with e
 injection e with e1 e2
 subst e1;rw [World.cell?_of_block (w:=w) (Below.heap_setCell _ _ _ _ hne)];exact hc
theorem jhM (w:World) (g i:Nat) (v:Value) (C:Array Value) (t:TypeId) (h:w.heap[g]? = some (.cells C t (0,0))):(w.setCell ⟨g,i,none⟩ v).heap[g]? = some (.cells (C.setIfInBounds i v) t (0,0)):=by
 simp [World.setCell,Array.getElem?_modify,h]
theorem jnE (b o c:Nat) (zs:List Int) (w:World) (h:jaO w w.heap.size .u8 (some ⟨b,o,none⟩) zs) (hz:∀ z∈zs,0<=z/\z<=255) (hl:zs.length=64) (hc:64<=c) :
  Calls Tryz.prog 122 #[.slice (some ⟨b,o,none⟩) 64 c] w fun e w'=>e=.returned (.agg (lnV (ja9 zs)))/\Below w.heap.size w w':=by
 have HI:=Lib.hid h;have HSI:=Lib.hid (fun W=>jlU W)
 have HSP:Hid (∀ (W:World) g,Below w.heap.size w W->jgi 3 g szL W->Calls Tryz.prog 145 #[.slice (some ⟨b,o,none⟩) 41 c,.slice (some ⟨g,0,none⟩) 10 10] W fun e w'=>∃ c,e=.returned (.tuple #[.slice (some ⟨W.heap.size,0,none⟩) 10 c,.int .i64 0])/\jaO w' w'.heap.size .u64 (some ⟨W.heap.size,0,none⟩) (jby zs)/\Below W.heap.size W w'):=fun W g hb hr=>by
  have hi:=((h.below hb).more hb.size).take 41;have hl41:(zs.take 41).length=41:=by rw [List.length_take];omega
  have:=jlw (some ⟨g,0,none⟩) (some ⟨b,o,none⟩) 10 c szL (zs.take 41) W hr.ints hi (by rw [hl41];omega) (fun z hz'=>hz z (List.mem_of_mem_take hz')) (by decide) (by rw [hl41];decide);rw [hl41,jk1] at this;exact this.mono fun e w' ⟨c,q1,_,q3,q4⟩=>⟨c,q1,q3,q4⟩
 have hbz:Below w.heap.size w (w.alloc (.cells jbt 135)):=(Below.refl _ _).alloc (Nat.le_refl _) _;have hc41:(41:Int)<=(c:Int):=by omega
 obtain ⟨P,hP⟩:∃ P,P=lnV (ja9 zs):=⟨_,rfl⟩;have HPP:=Lib.hid hP;rw [<- hP];clear hP;have hs0:w.heap.size + 1<=(w.alloc (.cells jbt 135)).heap.size:=by simp
 have hb0:Below (w.heap.size + 1) (w.alloc (.cells jbt 135)) (w.alloc (.cells jbt 135)).drew:=(Below.refl _ _).drew;have hb2:Below (w.heap.size + 1) (w.alloc (.cells jbt 135)) ((w.alloc (.cells jbt 135)).alloc (.cells #[.slice none 0 0] 159)).drew:=((Below.refl _ _).alloc hs0 _).drew
 have HQ0:Hid (((w.alloc (.cells jbt 135)).alloc (.cells #[.slice none 0 0] 159)).drew.heap[w.heap.size + 1]? = some (.cells #[.slice none 0 0] 159 (0,0))):=by
  have:=heap_alloc_new (w.alloc (.cells jbt 135)) (.cells #[.slice none 0 0] 159)
  rwa [show (w.alloc (.cells jbt 135)).heap.size=w.heap.size + 1 by simp] at this
 have hs1:w.heap.size + 1 < ((w.alloc (.cells jbt 135)).alloc (.cells #[.slice none 0 0] 159)).drew.heap.size:=(Array.getElem?_eq_some_iff.1 HQ0.out).1;unfold jbt at hbz hs0 hb0 hs1 hb2 HQ0;clear h;go_enter Tryz.func122,Tryz.ntmps122;go_wp2
 go_cut [3,4] (fun v3 v4 wq=>∃ q A c',v3=.pointer (some ⟨q,0,none⟩)/\v4=.int .i64 0/\Hid (wq.heap[q]? = some (.cells #[.slice A 10 c'] 159 (0,0))/\jaO wq wq.heap.size .u64 A (jby zs)/\w.heap.size + 1<=q/\Below (w.heap.size + 1) (w.alloc (.cells jbt 135)) wq))
 case first =>
  go_region_with (first
   | (go_at_call 115;with_reducible (refine Calls.mono (HSI.out _) ?_);rintro e w1 ⟨g1,rfl,hr1,hb1⟩;have q:=hb1.mono (Nat.le_of_lt hs1);have x1:=hb2.trans q;have hq1:=(hb1.block _ hs1).trans HQ0.out;have z1:=hbz.trans (x1.mono (Nat.le_succ _));have l1:=hr1.lt;clear q)
   | (go_at_call 115;with_reducible (refine Calls.mono (HSI.out _) ?_);rintro e w1 ⟨g1,rfl,hr1,hb1⟩;have q:=hb1.mono hs0;have x1:=hb0.trans q;have z1:=hbz.trans (x1.mono (Nat.le_succ _));have l1:=hr1.lt;clear q)
   | (have hguard:=hq1;clear hguard;go_at_call 145;with_reducible (refine Calls.mono (HSP.out w1 g1 z1 hr1) ?_);rintro e w2 ⟨c2,rfl,hi2,hb3⟩;have x2:=x1.trans (hb3.mono (Nat.le_trans hs0 x1.size));have hq2:=(hb3.block _ (Nat.lt_of_lt_of_le hs1 (Nat.le_trans (Nat.le_of_eq rfl) hb1.size))).trans hq1;have hcq:=cell_of_row _ _ 0 _ _ _ hq2;have hfq:=frozen_of_row _ _ 0 _ _ hq2)
   | (go_at_call 145;with_reducible (refine Calls.mono (HSP.out w1 g1 z1 hr1) ?_);rintro e w2 ⟨c2,rfl,hi2,hb3⟩;have x2:=x1.trans (hb3.mono (Nat.le_trans hs0 x1.size)))
   | (go_at_call 145;with_reducible (refine Calls.mono (HSP.out (w1.alloc _) g1 (z1.alloc z1.size _) (hr1.below ((Below.refl _ _).alloc (Nat.le_refl _) _) l1)) ?_);rintro e w2 ⟨c2,rfl,hi2,hb3⟩;have x2:=(x1.alloc (Nat.le_trans hs0 x1.size) _).trans (hb3.mono (Nat.le_trans (Nat.le_trans hs0 x1.size) (by simp)));have hq2:=(hb3.block w1.heap.size (by simp)).trans (heap_alloc_new w1 (.cells #[.slice none 0 0] 159));have hcq:=cell_of_row _ _ 0 _ _ _ hq2;have hfq:=frozen_of_row _ _ 0 _ _ hq2)
   | fail)
  all_goals
   go_wp2;go_meet
  ·refine ⟨_,some ⟨w1.heap.size,0,none⟩,c2,rfl,rfl,?_⟩;exact ⟨heap_alloc_new _ _,(hi2.below ((Below.refl _ _).alloc (Nat.le_refl _) _)).more (by simp),Nat.le_trans hs0 x2.size,x2.alloc (Nat.le_trans hs0 x2.size) _⟩
  ·refine ⟨_,some ⟨w1.heap.size + 1,0,none⟩,c2,rfl,rfl,?_⟩;refine ⟨jhM _ _ _ _ _ _ hq2,jil (by rw [show (w1.alloc (.cells #[.slice none 0 0] 159)).heap.size=w1.heap.size + 1 by simp] at hi2;exact hi2) (Nat.succ_ne_self _) _ (Nat.le_refl _),Nat.le_trans hs0 x1.size,x2.setCell (p:=⟨w1.heap.size,0,none⟩) (Nat.le_trans hs0 x1.size) _⟩
  ·refine ⟨_,some ⟨w1.heap.size,0,none⟩,c2,rfl,rfl,?_⟩;refine ⟨jhM _ _ _ _ _ _ hq2,jil hi2 (by have:=hb1.size;omega) _ (Nat.le_refl _),Nat.le_refl _,x2.setCell (p:=⟨w.heap.size + 1,0,none⟩) (Nat.le_refl _) _⟩
 case rest =>
  obtain ⟨q,A,c',rfl,rfl,hS⟩:=hcut;obtain ⟨hq,hia,hq1,hbl⟩:=hS.out
  have hbd:∀ k,k < 10->0<=(jby zs).getD k 0/\(jby zs).getD k 0<=9223372036854775807:=fun k hk=>by
   match k,hk with
   | 0,_=>exact jbC hz 0 2 (by decide)
   | 1,_=>exact jbC hz 2 6 (by decide)
   | 2,_=>exact jbC hz 6 10 (by decide)
   | 3,_=>exact jbC hz 10 11 (by decide)
   | 4,_=>exact jbC hz 11 12 (by decide)
   | 5,_=>exact jbC hz 12 19 (by decide)
   | 6,_=>exact jbC hz 19 26 (by decide)
   | 7,_=>exact jbC hz 26 33 (by decide)
   | 8,_=>exact jbC hz 33 40 (by decide)
   | 9,_=>exact jbC hz 40 41 (by decide)
  have P1:Hid (Calls Tryz.prog 146 #[.int .i64 1,.pointer (some ⟨q,0,none⟩)] wc fun e w'=>e=.returned (.int .i64 ((jby zs).getD 1 0))/\w'=wc):=jc2 q A c' (jby zs) 1 wc hq hia (by rw [jbW];decide) (by decide) (hbd 1 (by decide));have P2:Hid (Calls Tryz.prog 146 #[.int .i64 2,.pointer (some ⟨q,0,none⟩)] wc fun e w'=>e=.returned (.int .i64 ((jby zs).getD 2 0))/\w'=wc):=jc2 q A c' (jby zs) 2 wc hq hia (by rw [jbW];decide) (by decide) (hbd 2 (by decide));have P3:Hid (Calls Tryz.prog 146 #[.int .i64 3,.pointer (some ⟨q,0,none⟩)] wc fun e w'=>e=.returned (.int .i64 ((jby zs).getD 3 0))/\w'=wc):=jc2 q A c' (jby zs) 3 wc hq hia (by rw [jbW];decide) (by decide) (hbd 3 (by decide));have P4:Hid (Calls Tryz.prog 146 #[.int .i64 4,.pointer (some ⟨q,0,none⟩)] wc fun e w'=>e=.returned (.int .i64 ((jby zs).getD 4 0))/\w'=wc):=jc2 q A c' (jby zs) 4 wc hq hia (by rw [jbW];decide) (by decide) (hbd 4 (by decide));have P5:Hid (Calls Tryz.prog 146 #[.int .i64 5,.pointer (some ⟨q,0,none⟩)] wc fun e w'=>e=.returned (.int .i64 ((jby zs).getD 5 0))/\w'=wc):=jc2 q A c' (jby zs) 5 wc hq hia (by rw [jbW];decide) (by decide) (hbd 5 (by decide));have P6:Hid (Calls Tryz.prog 146 #[.int .i64 6,.pointer (some ⟨q,0,none⟩)] wc fun e w'=>e=.returned (.int .i64 ((jby zs).getD 6 0))/\w'=wc):=jc2 q A c' (jby zs) 6 wc hq hia (by rw [jbW];decide) (by decide) (hbd 6 (by decide));have P7:Hid (Calls Tryz.prog 146 #[.int .i64 7,.pointer (some ⟨q,0,none⟩)] wc fun e w'=>e=.returned (.int .i64 ((jby zs).getD 7 0))/\w'=wc):=jc2 q A c' (jby zs) 7 wc hq hia (by rw [jbW];decide) (by decide) (hbd 7 (by decide));have P8:Hid (Calls Tryz.prog 146 #[.int .i64 8,.pointer (some ⟨q,0,none⟩)] wc fun e w'=>e=.returned (.int .i64 ((jby zs).getD 8 0))/\w'=wc):=jc2 q A c' (jby zs) 8 wc hq hia (by rw [jbW];decide) (by decide) (hbd 8 (by decide));have hqlt:q < wc.heap.size:=(Array.getElem?_eq_some_iff.1 hq).1;have P9:Hid (∀ u,Calls Tryz.prog 146 #[.int .i64 9,.pointer (some ⟨q,0,none⟩)] (wc.alloc (.cells u 135)) fun e w'=>e=.returned (.int .i64 ((jby zs).getD 9 0))/\w'=wc.alloc (.cells u 135)):=fun u=>jc2 q A c' (jby zs) 9 (wc.alloc (.cells u 135)) (by rw [Below.heap_alloc _ _ _ hqlt];exact hq) ((hia.alloc (Nat.le_refl _) _).more (by simp)) (by rw [jbW];decide) (by decide) (hbd 9 (by decide))
  have hx10:jaD (sub zs 10 11)=zs.getD 10 0:=by rw [jgD (by omega),jiq]
  have hx40:jaD (sub zs 40 41)=zs.getD 40 0:=by rw [jgD (by omega),jiq]
  obtain ⟨V1,hV1⟩:∃ V,V=jaD (sub zs 2 6):=⟨_,rfl⟩;rw [show (jby zs).getD 1 0=jaD (sub zs 2 6) from rfl,<- hV1] at P1;obtain ⟨V2,hV2⟩:∃ V,V=jaD (sub zs 6 10):=⟨_,rfl⟩;rw [show (jby zs).getD 2 0=jaD (sub zs 6 10) from rfl,<- hV2] at P2;obtain ⟨V3,hV3⟩:∃ V,V=jaD (sub zs 10 11):=⟨_,rfl⟩;rw [show (jby zs).getD 3 0=jaD (sub zs 10 11) from rfl,<- hV3] at P3;obtain ⟨V4,hV4⟩:∃ V,V=jaD (sub zs 11 12):=⟨_,rfl⟩;rw [show (jby zs).getD 4 0=jaD (sub zs 11 12) from rfl,<- hV4] at P4;obtain ⟨V5,hV5⟩:∃ V,V=jaD (sub zs 12 19):=⟨_,rfl⟩;rw [show (jby zs).getD 5 0=jaD (sub zs 12 19) from rfl,<- hV5] at P5;obtain ⟨V6,hV6⟩:∃ V,V=jaD (sub zs 19 26):=⟨_,rfl⟩;rw [show (jby zs).getD 6 0=jaD (sub zs 19 26) from rfl,<- hV6] at P6;obtain ⟨V7,hV7⟩:∃ V,V=jaD (sub zs 26 33):=⟨_,rfl⟩;rw [show (jby zs).getD 7 0=jaD (sub zs 26 33) from rfl,<- hV7] at P7;obtain ⟨V8,hV8⟩:∃ V,V=jaD (sub zs 33 40):=⟨_,rfl⟩;rw [show (jby zs).getD 8 0=jaD (sub zs 33 40) from rfl,<- hV8] at P8;obtain ⟨V9,hV9⟩:∃ V,V=jaD (sub zs 40 41):=⟨_,rfl⟩;have e9:(jby zs).getD 9 0=V9:=hV9.symm;simp only [e9] at P9
  have HP:Hid (lnV (ja9 zs)=#[.int .i64 V1,.int .i64 V2,.bool (V3 == 1),.int .i64 V4,.int .i64 V5,.int .i64 V6,.int .i64 V7,.int .i64 V8,.string (if V9=16 then strOfNums (sub zs 41 57) else ⟨#[]⟩)]):=by
   have d1:decide (zs.getD 10 0=1)=(zs.getD 10 0 == 1):=by rw [Bool.eq_iff_iff];simp
   unfold Hid;rw [hV1,hV2,hV3,hV4,hV5,hV6,hV7,hV8,hV9,hx10,hx40,<- d1];rfl
  have hr0:wc.heap[w.heap.size]? = some (.cells jbt 135 (0,0)):=(hbl.block _ (Nat.lt_succ_self _)).trans (heap_alloc_new _ _);have hbw:Below w.heap.size w wc:=((Below.refl w.heap.size w).alloc (Nat.le_refl _) _).trans (hbl.mono (Nat.le_succ _));have hlt0:w.heap.size < wc.heap.size:=(Array.getElem?_eq_some_iff.1 hr0).1;have hinf:(Tryz.prog.info? 135).map (·.size)=some (lnV (ja9 zs)).size:=Tryz.infoLine;have hone:=jdP (ja9 zs);have hsz:Hid (jbt.size=(lnV (ja9 zs)).size):=rfl
  have HKEY:Hid (∀ W,Below w.heap.size w W->(convert 54 9 (.slice (some ⟨b,o + 41,none⟩) 16 (c - 41))).run Tryz.prog W=.ok (.string (strOfNums (sub zs 41 57))) W):=fun W hb=>by
   have hi:=(HI.out.cut (n:=41) (c:=c) (by omega) (by omega)).take 16;rw [if_neg (by omega)] at hi;have e:(some (⟨b,o,none⟩:Addr)).map (·.add 41)=some ⟨b,o + 41,none⟩:=by simp [Addr.add]
   rw [e] at hi;exact (hi.below hb).textAs Tryz.underlying54 Tryz.underlying5 Tryz.underlying9 (by rw [List.length_take,List.length_drop];omega) rfl _
  have hlq:(c:Int) - 41=((c - 41:Nat):Int):=by omega
  have c57:(57:Int)<=(c:Int):=by omega
  have e41:¬ c=41:=by omega
  obtain ⟨kk,hkk⟩:∃ k,k=strOfNums (sub zs 41 57):=⟨_,rfl⟩;rw [<- hkk] at HP HKEY;rw [<- HPP.out] at HP hinf hone hsz;clear HI HSI HSP hz hl hc hbz hs0 hb0 hs1 hb2 HQ0 hS hq hia hq1 hbl hbd hx10 hx40 e9 hqlt hV1 hV2 hV3 hV4 hV5 hV6 hV7 hV8 hV9 hkk HPP;by_cases h16:V9=16
  ·rw [if_pos h16] at HP;subst h16;have hcv:∀ u,(convert 54 9 (.slice (some ⟨b,o + 41,none⟩) 16 (c - 41))).run Tryz.prog (wc.alloc (.cells u 135))=.ok (.string kk) (wc.alloc (.cells u 135)):=fun u=>HKEY.out _ (hbw.alloc hbw.size _)
   have HW:Hid (∀ u,(wc.alloc (.cells u 135)).heap[wc.heap.size]? = some (.cells u 135 (0,0))/\(wc.alloc (.cells u 135)).heap[w.heap.size]? = some (.cells jbt 135 (0,0))/\Below w.heap.size w (wc.alloc (.cells u 135))):=fun u =>
    ⟨heap_alloc_new _ _,by rw [Below.heap_alloc _ _ _ hlt0];exact hr0,hbw.alloc hbw.size _⟩
   go_wp2_with (first
    | (go_at_call_of 146 (Value.int .i64 1);with_reducible (refine Calls.mono P1.out ?_);rintro e wq ⟨rfl,hwq⟩;obtain rfl:=hwq.symm)
    | (go_at_call_of 146 (Value.int .i64 2);with_reducible (refine Calls.mono P2.out ?_);rintro e wq ⟨rfl,hwq⟩;obtain rfl:=hwq.symm)
    | (go_at_call_of 146 (Value.int .i64 3);with_reducible (refine Calls.mono P3.out ?_);rintro e wq ⟨rfl,hwq⟩;obtain rfl:=hwq.symm)
    | (go_at_call_of 146 (Value.int .i64 4);with_reducible (refine Calls.mono P4.out ?_);rintro e wq ⟨rfl,hwq⟩;obtain rfl:=hwq.symm)
    | (go_at_call_of 146 (Value.int .i64 5);with_reducible (refine Calls.mono P5.out ?_);rintro e wq ⟨rfl,hwq⟩;obtain rfl:=hwq.symm)
    | (go_at_call_of 146 (Value.int .i64 6);with_reducible (refine Calls.mono P6.out ?_);rintro e wq ⟨rfl,hwq⟩;obtain rfl:=hwq.symm)
    | (go_at_call_of 146 (Value.int .i64 7);with_reducible (refine Calls.mono P7.out ?_);rintro e wq ⟨rfl,hwq⟩;obtain rfl:=hwq.symm)
    | (go_at_call_of 146 (Value.int .i64 8);with_reducible (refine Calls.mono P8.out ?_);rintro e wq ⟨rfl,hwq⟩;obtain rfl:=hwq.symm)
    | (go_at_call_of 146 (Value.int .i64 9);with_reducible (refine Calls.mono (P9.out _) ?_);rintro e wq ⟨rfl,hwq⟩;obtain rfl:=hwq.symm)
    | (rw [<- HP.out];refine wpList_load_row rfl 135 _ rfl wc.heap.size rfl 135 _ (0,0) _ (HW.out P).1 Tryz.underlying135 rfl hinf ?_)
    | (refine jad rfl 135 _ _ rfl w.heap.size P rfl rfl 135 _ (HW.out P).2.1 hinf hsz.out hone (HW.out P).2.2 (Nat.le_refl _) ?_;intro W hW hbW hkW hsW;clear hkW hsW))
   refine bodyPost_ret (v:=.agg P) ?_ rfl ⟨rfl,hbW⟩;exact results_cell_row rfl _ _ w.heap.size 135 _ (0,0) _ rfl hW Tryz.underlying135 rfl hinf
  ·rw [if_neg h16] at HP;have hcb:(V9 == 16)=false:=by rw [beq_eq_false_iff_ne];exact h16
   have HW:Hid (∀ u,(wc.alloc (.cells u 135)).heap[wc.heap.size]? = some (.cells u 135 (0,0))/\(wc.alloc (.cells u 135)).heap[w.heap.size]? = some (.cells jbt 135 (0,0))/\Below w.heap.size w (wc.alloc (.cells u 135))):=fun u =>
    ⟨heap_alloc_new _ _,by rw [Below.heap_alloc _ _ _ hlt0];exact hr0,hbw.alloc hbw.size _⟩
   go_wp2_with (first
    | (go_at_call_of 146 (Value.int .i64 1);with_reducible (refine Calls.mono P1.out ?_);rintro e wq ⟨rfl,hwq⟩;obtain rfl:=hwq.symm)
    | (go_at_call_of 146 (Value.int .i64 2);with_reducible (refine Calls.mono P2.out ?_);rintro e wq ⟨rfl,hwq⟩;obtain rfl:=hwq.symm)
    | (go_at_call_of 146 (Value.int .i64 3);with_reducible (refine Calls.mono P3.out ?_);rintro e wq ⟨rfl,hwq⟩;obtain rfl:=hwq.symm)
    | (go_at_call_of 146 (Value.int .i64 4);with_reducible (refine Calls.mono P4.out ?_);rintro e wq ⟨rfl,hwq⟩;obtain rfl:=hwq.symm)
    | (go_at_call_of 146 (Value.int .i64 5);with_reducible (refine Calls.mono P5.out ?_);rintro e wq ⟨rfl,hwq⟩;obtain rfl:=hwq.symm)
    | (go_at_call_of 146 (Value.int .i64 6);with_reducible (refine Calls.mono P6.out ?_);rintro e wq ⟨rfl,hwq⟩;obtain rfl:=hwq.symm)
    | (go_at_call_of 146 (Value.int .i64 7);with_reducible (refine Calls.mono P7.out ?_);rintro e wq ⟨rfl,hwq⟩;obtain rfl:=hwq.symm)
    | (go_at_call_of 146 (Value.int .i64 8);with_reducible (refine Calls.mono P8.out ?_);rintro e wq ⟨rfl,hwq⟩;obtain rfl:=hwq.symm)
    | (go_at_call_of 146 (Value.int .i64 9);with_reducible (refine Calls.mono (P9.out _) ?_);rintro e wq ⟨rfl,hwq⟩;obtain rfl:=hwq.symm)
    | (rw [<- HP.out];refine wpList_load_row rfl 135 _ rfl wc.heap.size rfl 135 _ (0,0) _ (HW.out P).1 Tryz.underlying135 rfl hinf ?_)
    | (refine jad rfl 135 _ _ rfl w.heap.size P rfl rfl 135 _ (HW.out P).2.1 hinf hsz.out hone (HW.out P).2.2 (Nat.le_refl _) ?_;intro W hW hbW hkW hsW;clear hkW hsW))
   refine bodyPost_ret (v:=.agg P) ?_ rfl ⟨rfl,hbW⟩;exact results_cell_row rfl _ _ w.heap.size 135 _ (0,0) _ rfl hW Tryz.underlying135 rfl hinf
end Go.Proofs.YtbnhkplhmanmoaaGreat
