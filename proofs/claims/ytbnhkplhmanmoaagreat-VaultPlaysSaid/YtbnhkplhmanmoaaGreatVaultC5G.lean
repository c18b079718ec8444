/- . -/
import Derived.Test.YtbnhkplhmanmoaaGreatTableC9G
namespace Go.Proofs.YtbnhkplhmanmoaaGreat
open Go.RowKit
set_option maxHeartbeats 6400000
set_option maxRecDepth 20000
theorem jkt (A:Option Addr) (c B:Nat) (l:List Int) (x:Int) (w:World) (h:jaO w B .i64 A l) (hl:l.length<=4096) :
  Calls Tryz.prog 140 #[.slice A l.length c,.int .i64 x] w fun e w'=>∃ r:Int,e=.returned (.int .i64 r)/\(0<=r↔x∈l)/\w'=w:=by
 have HA:=Lib.hid h
 have HY:Hid (∀ k,k < l.length->l.getD k 0=x->x∈l):=fun k hk e=>by
  rw [<- e,List.getD_eq_getElem?_getD,List.getElem?_eq_getElem hk];exact List.getElem_mem hk
 have HNo:Hid ((∀ j,j < l.length->l.getD j 0≠x)->¬ x∈l):=fun hall hx=>by
  obtain ⟨j,hj,e⟩:=List.getElem_of_mem hx;exact hall j hj (by rw [List.getD_eq_getElem?_getD,List.getElem?_eq_getElem hj];exact e)
 obtain ⟨V,hV⟩:∃ V:Prop,V=(x∈l):=⟨_,rfl⟩;rw [<- hV] at HY HNo ⊢;obtain ⟨N,hN⟩:∃ N,N=l.length:=⟨_,rfl⟩;have HN:=Lib.hid hN;have n1:(N:Int)<=4096:=by omega
 rw [<- hN] at HY HNo ⊢;clear h hV hN hl;go_enter Tryz.func140,Tryz.ntmps140;go_wp2
 go_loopw [8] (fun i wr=>∃ k:Nat,k<=N/\i=.int .i64 k/\Hid (∀ j,j < k->l.getD j 0≠x)/\wr=w) (fun i _=>N - (intOf i).toNat)
 case atStart=>exact ⟨0,Nat.zero_le _,rfl,fun j hj=>absurd hj (Nat.not_lt_zero j),rfl⟩
 case round =>
  obtain ⟨k,hk,rfl,hall,rfl⟩:=hrel;by_cases hlt:k < N
  ·obtain ⟨b,o,rfl,_,q0⟩:=HA.out k (by have:=HN.out;omega);have k1:(k:Int) < (N:Int):=by omega
   have k0:(0:Int)<=(k:Int):=by omega
   by_cases he:l.getD k 0=x
   ·have H2:=Lib.hid (HY.out k hlt he);rw [he] at q0;clear hall HA HY HNo he;go_wp2;go_ret;exact ⟨_,rfl,by simp [H2.out],rfl⟩
   ·have H2:Hid (∀ j,j < k + 1->l.getD j 0≠x):=fun j hj=>by
     rcases Nat.lt_or_ge j k with g | g
     ·exact hall.out j g
     ·rw [show j=k by omega];exact he
    obtain ⟨y,hy⟩:∃ y,y=l.getD k 0:=⟨_,rfl⟩;rw [<- hy] at q0 he;have he2:¬ x=y:=fun e=>he e.symm
    clear hall HA HY HNo hy he;go_wp2;go_roundw
    case rel=>first | exact ⟨k + 1,by omega,by go_num,H2.out,by first | rfl | trivial⟩ | ((repeat apply Exists.intro);exact ⟨⟨k + 1,by omega,by go_num,H2.out,by first | rfl | trivial⟩,rfl⟩)
    case measure=>simp [intOf];omega
  ·have hk8:k=N:=by omega
   subst hk8;have hn:=Lib.hid (HNo.out hall.out);clear hall HA HY HNo;have k1:¬ (k:Int) < (k:Int):=by omega
   go_wp2;go_ret;exact ⟨-1,rfl,by simp [hn.out],rfl⟩
theorem jhm (A:Option Addr) (c B:Nat) (l:List Int) (x:Int) (w:World) (h:jaO w B .i64 A l) (hl:l.length<=4096) :
  Calls Tryz.prog 111 #[.slice A l.length c,.int .i64 x] w fun e w'=>e=.returned (.bool (decide (x∈l)))/\w'=w:=by
 have HI:=Lib.hid (jkt A c B l x w h hl);obtain ⟨V,hV⟩:∃ V,V=decide (x∈l):=⟨_,rfl⟩;have HV:Hid (∀ r:Int,(0<=r↔x∈l)->decide (0<=r)=V):=fun r hr=>by rw [hV];exact decide_eq_decide.2 hr
 rw [<- hV];obtain ⟨N,hN⟩:∃ N,N=l.length:=⟨_,rfl⟩;rw [<- hN] at HI ⊢;clear h hV hN hl;go_enter Tryz.func111,Tryz.ntmps111
 go_wp2_with (go_at_call 140;with_reducible (refine Calls.mono HI.out ?_);rintro e w2 ⟨r,rfl,hr,rfl⟩;have hv:=Lib.hid (HV.out r hr);clear hr HV)
 go_ret;exact ⟨by rw [<- hv.out];rfl,rfl⟩
def jdv (T:List (List Int)):Nat->List Int
 | 0=>[]
 | k + 1=>if (jbF (T.getD k [])).1=0 then jdv T k ++ [(jbF (T.getD k [])).2.g] else jdv T k
theorem jhL (T:List (List Int)):∀ k,(jdv T k).length<=k
 | 0=>Nat.le_refl _
 | k + 1=>by
  have:=jhL T k;unfold jdv;split
  ·rw [List.length_append];simp;omega
  ·omega
theorem jfl (T:List (List Int)):∀ {k:Nat} {x:Int},x∈jdv T k↔∃ j,j < k/\(jbF (T.getD j [])).1=0/\(jbF (T.getD j [])).2.g=x
 | 0,x=>by simp [jdv]
 | k + 1,x=>by
  have ih:=jfl T (k:=k) (x:=x);unfold jdv;split
  ·rename_i h;rw [List.mem_append,ih,List.mem_singleton];constructor
   ·rintro (⟨j,h1,h2⟩ | rfl)
    ·exact ⟨j,by omega,h2⟩
    ·exact ⟨k,by omega,h,rfl⟩
   ·rintro ⟨j,h1,h2,h3⟩;by_cases e:j=k
    ·subst e;exact .inr h3.symm
    ·exact .inl ⟨j,by omega,h2,h3⟩
  ·rename_i h;rw [ih];constructor
   ·rintro ⟨j,h1,h2⟩;exact ⟨j,by omega,h2⟩
   ·rintro ⟨j,h1,h2,h3⟩;by_cases e:j=k
    ·subst e;exact absurd h2 h
    ·exact ⟨j,by omega,h2,h3⟩
structure TkS (w wr:World) (v:Value) (l:List Int):Prop where
 below:Below w.heap.size w wr
 row:wr.ownsRow w.heap.size 3 1 v l.length (l.map (Value.int .i64))
theorem TkS.later {w wr X:World} {v:Value} {l:List Int} (h:TkS w wr v l) (hb:Below wr.heap.size wr X):TkS w X v l:=⟨jaa h.below hb,jcn h.row hb⟩
theorem Tryz.infoIntV:(Tryz.prog.info? 3).map (fun i=>(i.zero,i.size,i.bytes))=some (some (.int .i64 0),1,8):=by kernel_rfl
section
variable {Rep:World->Nat->(Nat->Prop)->Dk->Prop} (L:jbX Rep)
include L
theorem jkv (A:Option Addr) (c:Nat) (T:List (List Int)) (g K:Int) (w:World) (h:jdp w w.heap.size A T) (hg:0<=g) (hgK:g<=K) (hK:K<=2147483600) (hle:∀ j,j < 192->(jbF (T.getD j [])).1=0->(jbF (T.getD j [])).2.g<=K) :
  Calls Tryz.prog 78 #[.slice A 192 c,.int .i64 g] w fun e w'=>∃ g':Int,e=.returned (.int .i64 g')/\g < g'/\g'<=K + 1/\jef T g'/\Below w.heap.size w w':=by
 obtain ⟨i1,hf1,hz10,hz11,hz12⟩:=info_parts Tryz.infoIntV;have HA:=Lib.hid h;have HDE:Hid (∀ (k:Nat) (A:Option Addr) (c:Nat) (W:World),(T.getD k []).length=64->jaO W W.heap.size .u8 A (T.getD k [])->(∀ z∈T.getD k [],0<=z/\z<=255)->64<=c->Calls Tryz.prog 86 #[.slice A 64 c] W fun e w'=>e=.returned (.tuple #[.agg (lnV (jbF (T.getD k [])).2),.int .i64 (jbF (T.getD k [])).1])/\Below W.heap.size W w'):=fun k A c W q0 q1 q2 q3=>L.dec q1 q2 q0 q3
 have HLE:=Lib.hid hle;obtain ⟨X,hX⟩:∃ X:Nat->List Int,X=jdv T:=⟨_,rfl⟩;have HXL:Hid (∀ k,(X k).length<=k):=by rw [hX];exact jhL T
 have HXN:Hid (∀ k,X (k + 1)=if (jbF (T.getD k [])).1=0 then X k ++ [(jbF (T.getD k [])).2.g] else X k):=fun k=>by rw [hX];rfl
 have HX0:Hid (X 0=[]):=by unfold Hid;rw [hX];rfl
 have HXE:Hid (∀ x,¬ x∈X 192->jef T x):=fun x hx j hj hd e=>hx (by rw [hX];exact (jfl T).2 ⟨j,hj,hd,e⟩)
 have HXK:Hid (∀ x,x∈X 192->x<=K):=fun x hx=>by
  rw [hX] at hx;obtain ⟨j,h1,h2,h3⟩:=(jfl T).1 hx;rw [<- h3];exact hle j h1 h2
 have HNEW:=Lib.hid (fun W:World=>heap_alloc_new W (.cells #[.int .i64 0,.int .i64 0,.bool false,.int .i64 0,.int .i64 0,.int .i64 0,.int .i64 0,.int .i64 0,.string ⟨#[]⟩] 135));have HAL:=Lib.hid (fun W:World=>(Below.refl W.heap.size W).alloc (Nat.le_refl _) (.cells #[.int .i64 0,.int .i64 0,.bool false,.int .i64 0,.int .i64 0,.int .i64 0,.int .i64 0,.int .i64 0,.string ⟨#[]⟩] 135));have HST:Hid (TkS w w (.slice none 0 0) (X 0)):=by rw [HX0.out];exact ⟨Below.refl _ _,rfl,.inl ⟨rfl,rfl⟩⟩
 have hx0:(X 0).length=0:=by rw [HX0.out];rfl
 have HX0L:=Lib.hid hx0;have HFO:Hid (∀ (y:Int) (W:World),0<=y->y<=2147483646->Calls Tryz.prog 110 #[.int .i64 y] W fun e w'=>e=.returned (.int .i64 (y + 1))/\W=w'):=fun y W h1 h2=>jgM y W h1 h2
 clear h hle hX L hx0;go_enter Tryz.func78,Tryz.ntmps78;go_wp2
 go_loopw [5,13] (fun v i wr=>∃ k:Nat,k<=192/\i=.int .i64 k/\(∃ A c,v=.slice A (X k).length c)/\Hid (TkS w wr v (X k))) (fun _ i _=>192 - (intOf i).toNat)
 case atStart=>exact ⟨0,Nat.zero_le _,rfl,⟨none,0,by rw [HX0L.out]⟩,HST.out⟩
 case round =>
  clear HST;obtain ⟨k,hk,rfl,⟨A1,c1,rfl⟩,hR⟩:=hrel;by_cases hlt:k < 192
  ·have k1:(k:Int) < 192:=by omega
   have k0:(0:Int)<=(k:Int):=by omega
   have hbw:=hR.out.below;obtain ⟨b,off,A0,c0,rfl,_,y0,y1,y2,y3,y4⟩:=(HA.out.below hbw) k hlt;have hDEC:=Lib.hid (HDE.out k A0 c0 wr y3 (y1.more hbw.size) y2 y4);have hxn:=HXN.out k;obtain ⟨E,hE⟩:∃ E,E=(jbF (T.getD k [])).1:=⟨_,rfl⟩;obtain ⟨D,hD⟩:∃ D,D=(jbF (T.getD k [])).2:=⟨_,rfl⟩;rw [<- hE,<- hD] at hDEC hxn;have HXK1:=Lib.hid hxn;have hinf:(Tryz.prog.info? 135).map (·.size)=some (lnV D).size:=Tryz.infoLine;have hone:=jdP D;have hold:Hid (9=(lnV D).size):=rfl;have HLC:Hid (∀ (q:Nat) (W W':World),W.heap[q]? = some (.cells (lnV D) 135 (0,0))->Below W.heap.size W W'->W'.cell? ⟨q,0,none⟩=some (.int .i64 D.g)):=fun q W W' q1 q2=>(jav q1 q2).1
   obtain ⟨LN,hLN⟩:∃ LN,LN=lnV D:=⟨_,rfl⟩;rw [<- hLN] at hinf hone hold hDEC;simp only [<- hLN] at HLC;obtain ⟨Xn,hXn⟩:∃ n,n=(X k).length:=⟨_,rfl⟩;have hxl:=HXL.out k;rw [<- hXn] at hxl;have HXn:=Lib.hid hXn
   have HRW:Hid (∀ W,Below wr.heap.size wr W->W.ownsRow w.heap.size 3 1 (.slice A1 Xn c1) Xn ((X k).map (Value.int .i64))/\w.heap.size<=W.heap.size):=fun W hb=>by
    have:=hR.out.later hb;have h2:=this.row;rw [<- hXn] at h2;exact ⟨h2,this.below.size⟩
   rw [<- hXn] at hR ⊢;clear hE hD hLN hXn HDE y1 y2 y3 y4 hxn HXN HXE HXK hbw HFO HX0 HX0L;by_cases hz:E=0
   ·rw [if_pos hz] at HXK1;subst hz;have hL2:(X (k + 1)).length=Xn + 1:=by rw [HXK1.out,List.length_append,<- HXn.out];rfl
    go_wp2_with (first
     | (go_at_call 86;with_reducible (refine Calls.mono hDEC.out ?_);rintro e w2 ⟨rfl,hb2⟩;have HB2:=Lib.hid hb2;clear hb2 y0)
     | (refine jad rfl 135 _ _ rfl w2.heap.size LN rfl rfl 135 _ (HNEW.out _) hinf hold.out hone (HAL.out _) (Nat.le_refl _) ?_;intro W3 hW3 hbW3 hkW hsW
        have l3:=HLC.out _ _ _ hW3 (Below.refl _ _);have HB3:=Lib.hid (jaa HB2.out hbW3);have how:=(HRW.out _ HB3.out).1;have hsz:=(HRW.out _ HB3.out).2;clear hW3 hkW hsW hbW3)
     | (at_builtin;refine wpList_append_own_at _ rfl _ _ 31 rfl w.heap.size 3 i1 (.int .i64 0) 1 8 Tryz.underlying31 hf1 hz10 hz11 hz12 rfl (by decide) _ _ _ rfl (how.alloc _) ⟨W3.heap.size,0,none⟩ 1 1 [.int .i64 D.g] rfl rfl (cell_one_new _ _ _) ?d1 ?d2 ?d3 ?d4 ?_))
    case d1=>intro u hu;simp at hu;subst hu;rfl
    case d2=>unfold maxLen;omega
    case d3=>omega
    case d4=>simp;omega
    intro v5 w5 hown5 hg5 _ _;obtain ⟨A5,c5,rfl⟩:=jeb hown5
    have R9:Hid (TkS w w5 (.slice A5 (X (k + 1)).length c5) (X (k + 1))):=by
     rw [hL2,HXK1.out];have hb3:=(hR.out.later HB3.out).below;have hba:Below w.heap.size w (W3.alloc (.cells #[.int .i64 D.g] 3)):=hb3.alloc hb3.size _;refine ⟨hba.grown hg5 hba.size fun q hq=>(how.lt q hq).1,?_⟩;rw [List.length_append,List.map_append,<- HXn.out];exact hown5
    have HL2:=Lib.hid hL2;have HA5:Hid (∃ A c,(Value.slice A5 (Xn + 1) c5)=.slice A (X (k + 1)).length c):=⟨A5,c5,by rw [HL2.out]⟩;rw [HL2.out] at R9;clear hown5 hg5 how hsz HB3 HB2 HRW hR HLC hDEC hinf hone hold hL2 l3 HXn HXK1;go_wp2;go_roundw
    case rel=>first | exact ⟨k + 1,by omega,by go_num,HA5.out,R9⟩ | ((repeat apply Exists.intro);exact ⟨⟨k + 1,by omega,by go_num,HA5.out,R9⟩,rfl⟩)
    case measure=>first | (simp [intOf];done) | (simp [intOf];omega)
   ·rw [if_neg hz] at HXK1;have hz2:(E == 0)=false:=beq_eq_false_iff_ne.2 hz
    go_wp2_with (first
     | (go_at_call 86;with_reducible (refine Calls.mono hDEC.out ?_);rintro e w2 ⟨rfl,hb2⟩;have HB2:=Lib.hid hb2;clear hb2 y0)
     | (refine jad rfl 135 _ _ rfl w2.heap.size LN rfl rfl 135 _ (HNEW.out _) hinf hold.out hone (HAL.out _) (Nat.le_refl _) ?_;intro W3 hW3 hbW3 hkW hsW
        have HB3:=Lib.hid (jaa HB2.out hbW3);clear hW3 hkW hsW hbW3))
    have R9:Hid (TkS w W3 (.slice A1 Xn c1) (X (k + 1))):=by
     rw [HXK1.out];exact hR.out.later HB3.out
    have HA5:Hid (∃ A c,(Value.slice A1 Xn c1)=.slice A (X (k + 1)).length c):=⟨A1,c1,by rw [HXK1.out,HXn.out]⟩;clear HB3 HB2 HRW hR HLC hDEC hinf hone hold HXn HXK1;go_roundw
    case rel=>first | exact ⟨k + 1,by omega,by go_num,HA5.out,R9⟩ | ((repeat apply Exists.intro);exact ⟨⟨k + 1,by omega,by go_num,HA5.out,R9⟩,rfl⟩)
    case measure=>first | (simp [intOf];done) | (simp [intOf];omega)
  ·have hk9:k=192:=by omega
   subst hk9;have k1:¬ ((192:Nat):Int) < 192:=by omega
   have hf0:g<=2147483646:=by omega
   have hxl:=HXL.out 192;obtain ⟨Y,hY⟩:∃ Y,Y=X 192:=⟨_,rfl⟩;rw [<- hY] at HXE HXK hxl hR ⊢
   have HCO:Hid (∀ (y:Int) (W:World),W=wr->Calls Tryz.prog 111 #[.slice A1 Y.length c1,.int .i64 y] W fun e w'=>e=.returned (.bool (decide (y∈Y)))/\w'=W):=fun y W e=>by
    subst e;exact jhm A1 c1 W.heap.size Y y W (jaO.of_own (n:=Y.length) (c:=c1) hR.out.row) (by omega)
   have HBW:=Lib.hid hR.out.below;obtain ⟨Yn,hYn⟩:∃ n,n=Y.length:=⟨_,rfl⟩;rw [<- hYn] at HCO ⊢;clear HXL HXN HX0 HX0L HDE hY hR hxl hYn HNEW HAL HA;have HF1:=Lib.hid (HFO.out g wr hg hf0)
   go_wp2_with (go_at_call 110;with_reducible (refine Calls.mono HF1.out ?_);rintro e w2 ⟨rfl,rfl⟩)
   clear HF1
   go_loopw [10] (fun y wx=>∃ z:Int,g < z/\z<=K + 1/\y=.int .i64 z/\wx=wr) (fun y _=>(K + 2 - intOf y).toNat)
   case atStart=>exact ⟨g + 1,by omega,by omega,rfl,rfl⟩
   case round =>
    obtain ⟨z,hz1,hz2,rfl,rfl⟩:=hrel;by_cases hm:z∈Y
    ·have hzK:=HXK.out z hm;have HC:=HCO.out z wr rfl;rw [decide_eq_true hm] at HC;have HC:=Lib.hid HC;have HF:=Lib.hid (HFO.out z wr (by omega) (by omega));clear HCO HFO HXE HXK hm
     go_wp2_with (first
      | (go_at_call 111;with_reducible (refine Calls.mono HC.out ?_);rintro e w2 ⟨rfl,rfl⟩)
      | (go_at_call 110;with_reducible (refine Calls.mono HF.out ?_);rintro e w3 ⟨rfl,rfl⟩))
     go_roundw
     case rel=>exact ⟨z + 1,by omega,by omega,by go_num,by first | rfl | trivial⟩
     case measure=>simp [intOf];omega
    ·have HC:=HCO.out z wr rfl;rw [decide_eq_false hm] at HC;have HC:=Lib.hid HC;have HU:=Lib.hid (HXE.out z hm);clear HCO HFO HXE HXK hm
     go_wp2_with (go_at_call 111;with_reducible (refine Calls.mono HC.out ?_);rintro e w2 ⟨rfl,rfl⟩)
     go_ret;exact ⟨z,rfl,hz1,hz2,HU.out,HBW.out⟩
end
theorem jaL.other2 {w W:World} {B B0 g:Nat} {A A0:Option Addr} {ts ts0:List (List Rc)} {t:TypeId} {x y:Int} {c0:Nat} (h:jaL w B A ts) (hne:∀ r∈ts,r≠[]) (h0:jaL w B0 A0 ts0) (hg:w.heap[g]? = some (.cells #[.int .i64 x,.int .i64 y,.slice A0 ts0.length c0] t (0,0))) (hk:∀ k,k≠g->W.heap[k]? = w.heap[k]?):jaL W B A ts:=fun i hi=>by
 obtain ⟨b,off,Ai,ci,e,hl,hc,hle,hr⟩:=h i hi;have hn0:=List.length_pos_iff.2 (hne _ (List.getElem_mem hi))
 have hb:b≠g:=fun q=>by
  subst q;rw [cell_of_row _ _ _ _ _ _ hg] at hc
  match off + i,hc with
  | 0,hc=>simp at hc
  | 1,hc=>simp at hc
  | 2,hc =>
   simp at hc;obtain ⟨rfl,hl0,_⟩:=hc;obtain ⟨b1,o1,_,_,e1,_,d1,_⟩:=h0 0 (by omega);obtain ⟨b2,o2,e2,_,d2,_⟩:=hr 0 hn0;rw [e1] at e2;injection e2 with e2
   injection e2 with e3 e4
   subst e3 e4;rw [show o1 + 6 * 0=o1 + 0 from rfl,d1] at d2;simp at d2
  | n + 3,hc=>simp at hc
 refine ⟨b,off,Ai,ci,e,hl,by rw [World.cell?_of_block (hk b hb)];exact hc,hle,fun k hk2=>?_⟩;obtain ⟨b2,o2,e2,hl2,c0,c1,c2,c3,c4,c5⟩:=hr k hk2
 have hb2:b2≠g:=fun q=>by
  subst q;rw [cell_of_row _ _ _ _ _ _ hg] at c5
  match o2 + 6 * k + 5,c5 with
  | 0,hc=>simp at hc
  | 1,hc=>simp at hc
  | 2,hc=>simp at hc
  | n + 3,hc=>simp at hc
 have hx:=hk b2 hb2;exact ⟨b2,o2,e2,hl2,by rw [World.cell?_of_block hx];exact c0,by rw [World.cell?_of_block hx];exact c1,by rw [World.cell?_of_block hx];exact c2,by rw [World.cell?_of_block hx];exact c3,by rw [World.cell?_of_block hx];exact c4,by rw [World.cell?_of_block hx];exact c5⟩
theorem jgU (last:List (List Nat)):∀ k,∀ r∈(jhc last k).whole,r≠[]
 | 0,r,h=>by cases h
 | k + 1,r,h=>by
  unfold jhc at h;split at h
  ·exact jg0 _ r h
  ·exact jgU last k r h
structure NwS (w wr:World) (H:Hd):Prop where
 below:Below w.heap.size w wr
 res:wr.heap[w.heap.size]? = some (.cells #[.int .i64 0,.int .i64 0,.slice none 0 0] 87 (0,0))
 new:∃ A c,wr.heap[w.heap.size + 1]? = some (.cells #[.int .i64 H.area,.int .i64 H.gen,.slice A H.whole.length c] 87 (0,0))/\H.whole.length<=c/\jaL wr wr.heap.size A H.whole
theorem NwS.later {w wr X:World} {H:Hd} (h:NwS w wr H) (hb:Below wr.heap.size wr X):NwS w X H:=by
 obtain ⟨A,c,q1,q2,q3⟩:=h.new;exact ⟨jaa h.below hb,(hb.block _ (Array.getElem?_eq_some_iff.1 h.res).1).trans h.res,A,c,(hb.block _ (Array.getElem?_eq_some_iff.1 q1).1).trans q1,q2,(q3.below hb).more hb.size⟩
theorem NwS.take {w wr:World} {H:Hd} (h:NwS w wr H) {a g:Int} {A:Option Addr} {ts:List (List Rc)} {c:Nat} (ht:jaL wr wr.heap.size A ts) (hne:∀ r∈ts,r≠[]) (hc:ts.length<=c) :
  NwS w (((wr.setCell ⟨w.heap.size + 1,0,none⟩ (.int .i64 a)).setCell ⟨w.heap.size + 1,1,none⟩ (.int .i64 g)).setCell ⟨w.heap.size + 1,2,none⟩ (.slice A ts.length c)) ⟨a,g,ts⟩:=by
 obtain ⟨A0,c0,q1,q2,q3⟩:=h.new;have hs:=jd4 (.int .i64 a) (.int .i64 g) (.slice A ts.length c) q1;have hk:∀ k,k≠w.heap.size + 1->(((wr.setCell ⟨w.heap.size + 1,0,none⟩ (.int .i64 a)).setCell ⟨w.heap.size + 1,1,none⟩ (.int .i64 g)).setCell ⟨w.heap.size + 1,2,none⟩ (.slice A ts.length c)).heap[k]? = wr.heap[k]?:=fun k hk=>jaq (w.heap.size + 1) k hk [.int .i64 a,.int .i64 g,.slice A ts.length c] 0 wr
 exact ⟨jae h.below hs.2 h.below.size (Nat.le_succ _),(hk _ (by omega)).trans h.res,A,c,hs.1,hc,(ht.other2 hne q3 q1 hk).more hs.2.size⟩
section
variable {Rep:World->Nat->(Nat->Prop)->Dk->Prop} (L:jbX Rep)
include L
theorem jkr (p:Nat) (F:Nat->Prop) (s:Dk) (w:World) (h:Rep w p F s) (ho:s.off=false) (hpe:s.pend=[]) (hl:384<=s.last.length) :
  Calls Tryz.prog 34 #[.pointer (some ⟨p,0,none⟩)] w fun e w'=>∃ A c,e=.returned (.tuple #[.agg (hdV (jbI s.last).area (jbI s.last).gen A (jbI s.last).whole.length c),.int .i64 0])/\(jbI s.last).whole.length<=c/\jaL w' w'.heap.size A (jbI s.last).whole/\Below w.heap.size w w':=by
 have hb0:Below w.heap.size w (w.alloc (.cells #[.int .i64 0,.int .i64 0,.slice none 0 0] 87)):=(Below.refl _ _).alloc (Nat.le_refl _) _;have hg0:=heap_alloc_new w (.cells #[.int .i64 0,.int .i64 0,.slice none 0 0] 87);obtain ⟨W0,hW0⟩:∃ W,W=w.alloc (.cells #[.int .i64 0,.int .i64 0,.slice none 0 0] 87):=⟨_,rfl⟩;rw [<- hW0] at hb0 hg0;have hsz:W0.heap.size=w.heap.size + 1:=by rw [hW0];simp
 obtain ⟨N,hN⟩:∃ N:Nat->Hd,N=jhc s.last:=⟨_,rfl⟩;obtain ⟨HD,hHD⟩:∃ H:Nat->Hd,H=jeB s.last:=⟨_,rfl⟩
 have HS0:Hid (∀ W1,W1.heap[w.heap.size + 1]? = some (.cells #[.int .i64 1,.int .i64 0,.slice none 0 0] 87 (0,0))->Below W0.heap.size W0 W1->NwS w W1 (N 0)):=fun W1 q1 q2=>by
  rw [hN];exact ⟨jaa hb0 q2,(q2.block _ (Array.getElem?_eq_some_iff.1 hg0).1).trans hg0,none,0,q1,Nat.le_refl _,fun i hi=>absurd hi (Nat.not_lt_zero i)⟩
 have HHE:Hid (∀ (k:Nat) (W:World),k < 2->Below w.heap.size w W->Calls Tryz.prog 58 #[.pointer (some ⟨p,0,none⟩),.int .i64 (k:Int)] W fun e w'=>∃ A c,e=.returned (.tuple #[.agg #[.int .i64 (HD k).area,.int .i64 (HD k).gen,.slice A (HD k).whole.length c],.int .i64 0])/\(HD k).whole.length<=c/\jaL w' w'.heap.size A (HD k).whole/\Below W.heap.size W w'):=fun k W hk hb=>by
  rw [hHD];exact jno L p F s k W (L.keep h hb) ho hpe hl hk
 have HNX:Hid (∀ k,N (k + 1)=if jdO (HD k) (N k)=true then HD k else N k):=fun k=>by rw [hN,hHD];rfl
 have HNE:Hid (∀ k,∀ r∈(HD k).whole,r≠[]):=fun k r hr=>by rw [hHD] at hr;exact jg0 _ r hr
 have HNN2:Hid (∀ r∈(N 2).whole,r≠[]):=by rw [hN];exact jgU _ 2
 have HEND:Hid (jbI s.last=N 2):=by rw [hN];rfl
 rw [HEND.out];have HSZ:=Lib.hid hsz;have HNEW:=Lib.hid (fun W:World=>heap_alloc_new W (.cells #[.int .i64 0,.int .i64 0,.slice none 0 0] 87));have HAL:=Lib.hid (fun W:World=>(Below.refl W.heap.size W).alloc (Nat.le_refl _) (.cells #[.int .i64 0,.int .i64 0,.slice none 0 0] 87));have hinf:=Tryz.infoHolding;unfold hdV;clear h ho hpe hl hN hHD hb0 hg0 hsz L;go_enter Tryz.func34,Tryz.ntmps34
 go_wp2_with fail
 rw [<- hW0];clear hW0;go_wp2;have hR0:=HS0.out (W0.alloc (.cells #[.int .i64 1,.int .i64 0,.slice none 0 0] 87)) (by rw [<- HSZ.out];exact heap_alloc_new _ _) ((Below.refl _ _).alloc (Nat.le_refl _) _);have HR0:=Lib.hid hR0;clear hR0 HS0 HSZ
 go_loopw [9] (fun i wr=>∃ k:Nat,k<=2/\i=.int .i64 k/\Hid (NwS w wr (N k))) (fun i _=>2 - (intOf i).toNat)
 case atStart=>exact ⟨0,Nat.zero_le _,rfl,HR0⟩
 case round =>
  clear HR0;obtain ⟨k,hk,rfl,hR⟩:=hrel;by_cases hlt:k < 2
  ·have k1:(k:Int) < 2:=by omega
   have k0:(0:Int)<=(k:Int):=by omega
   have HH:=Lib.hid (HHE.out k wr hlt hR.out.below);have HN1:=Lib.hid (HNX.out k);have HNK:=Lib.hid (HNE.out k);obtain ⟨H1,hH1⟩:∃ H,H=HD k:=⟨_,rfl⟩;obtain ⟨H0,hH0⟩:∃ H,H=N k:=⟨_,rfl⟩;rw [<- hH1] at HH HN1 HNK;rw [<- hH0] at HN1 hR;obtain ⟨NX,hNX⟩:∃ H,H=N (k + 1):=⟨_,rfl⟩;have HNX1:Hid (NX=N (k + 1)):=hNX;rw [<- hNX] at HN1;have HOV:Hid (∀ A n c A2 c2 W,n=H1.whole.length->Calls Tryz.prog 59 #[.agg #[.int .i64 H1.area,.int .i64 H1.gen,.slice A n c],.agg #[.int .i64 H0.area,.int .i64 H0.gen,.slice A2 H0.whole.length c2]] W fun e w'=>e=.returned (.bool (jdO H1 H0))/\Below W.heap.size W w'):=fun A n c A2 c2 W hn=>by rw [hn];exact jnJ _ _ _ _ _ _ _ _ _ _ W
   clear hH1 hH0 hNX HNX HNE HHE;obtain ⟨n1,hn1⟩:∃ n,n=H1.whole.length:=⟨_,rfl⟩;rw [<- hn1] at HH;have HNN:=Lib.hid hn1;clear hn1;have hov:jdO H1 H0=true∨jdO H1 H0=false:=by cases jdO H1 H0 <;> simp
   obtain ⟨OV,hOV⟩:∃ b,b=jdO H1 H0:=⟨_,rfl⟩;rw [<- hOV] at hov HN1;simp only [<- hOV] at HOV;clear hOV;have hbo:=Lib.hid (fun (W:World) (x:Value)=>(Below.refl W.heap.size W).alloc (Nat.le_refl _) (.cells #[.int .i64 H1.area,.int .i64 H1.gen,x] 87));rcases hov with rfl | rfl
   ·rw [if_pos rfl] at HN1
    go_wp2_with (first
     | (go_at_call 58;with_reducible (refine Calls.mono HH.out ?_);rintro e w2 ⟨A,c,rfl,hc2,ht2,hb2⟩
        have hba:=hbo.out w2 (.slice A n1 c);have HS3:=Lib.hid (hR.out.later (jaa hb2 hba));have HT3:=Lib.hid ((ht2.below hba).more hba.size);have HC2:=Lib.hid hc2;have HX3:=Lib.hid (heap_alloc_new w2 (.cells #[.int .i64 H1.area,.int .i64 H1.gen,.slice A n1 c] 87));obtain ⟨A0,c0,q1,_,_⟩:=HS3.out.new;obtain ⟨y0,y1,y2⟩:=jai q1;clear hc2 ht2 hb2 hba q1 hbo)
     | (go_at_call 59;with_reducible (refine Calls.mono (HOV.out _ _ _ _ _ _ HNN.out) ?_);rintro e w4 ⟨rfl,hb4⟩
        have HS4:=Lib.hid (HS3.out.later hb4);have HT4:=Lib.hid ((HT3.out.below hb4).more hb4.size);have hx4:=(hb4.block _ (Array.getElem?_eq_some_iff.1 HX3.out).1).trans HX3.out;obtain ⟨x0,x1,x2⟩:=jai hx4;obtain ⟨A5,c5,q1,_,_⟩:=HS4.out.new;obtain ⟨z0,z1,z2⟩:=jai q1;have z3:=frozen_of_row _ _ 0 _ _ q1;have z4:=frozen_of_row _ _ 1 _ _ q1;have z5:=frozen_of_row _ _ 2 _ _ q1;clear q1 y0 y1 y2 hx4 HX3 hb4))
    have R9:Hid (NwS w (((w4.setCell ⟨w.heap.size + 1,0,none⟩ (.int .i64 H1.area)).setCell ⟨w.heap.size + 1,1,none⟩ (.int .i64 H1.gen)).setCell ⟨w.heap.size + 1,2,none⟩ (.slice A n1 c)) (N (k + 1))):=by
     rw [HNN.out,<- HNX1.out,HN1.out];exact HS4.out.take HT4.out HNK.out (by rw [<- HNN.out];exact HC2.out)
    clear x0 x1 x2 z0 z1 z2 z3 z4 z5 HS4 HT4 HT3 HS3 HC2 HNN HN1 HNX1 HNK HOV HH hR;go_roundw
    case rel=>first | exact ⟨k + 1,by omega,by go_num,R9⟩ | ((repeat apply Exists.intro);exact ⟨⟨k + 1,by omega,by go_num,R9⟩,rfl⟩)
    case measure=>first | (simp [intOf];done) | (simp [intOf];omega)
   ·rw [if_neg (by decide)] at HN1
    go_wp2_with (first
     | (go_at_call 58;with_reducible (refine Calls.mono HH.out ?_);rintro e w2 ⟨A,c,rfl,hc2,ht2,hb2⟩
        have hba:=hbo.out w2 (.slice A n1 c);have HS3:=Lib.hid (hR.out.later (jaa hb2 hba));have HT3:=Lib.hid ((ht2.below hba).more hba.size);have HC2:=Lib.hid hc2;have HX3:=Lib.hid (heap_alloc_new w2 (.cells #[.int .i64 H1.area,.int .i64 H1.gen,.slice A n1 c] 87));obtain ⟨A0,c0,q1,_,_⟩:=HS3.out.new;obtain ⟨y0,y1,y2⟩:=jai q1;clear hc2 ht2 hb2 hba q1 hbo)
     | (go_at_call 59;with_reducible (refine Calls.mono (HOV.out _ _ _ _ _ _ HNN.out) ?_);rintro e w4 ⟨rfl,hb4⟩
        have HS4:=Lib.hid (HS3.out.later hb4);clear y0 y1 y2 HX3 hb4))
    have R9:Hid (NwS w w4 (N (k + 1))):=by
     rw [<- HNX1.out,HN1.out];exact HS4.out
    clear HS4 HT3 HS3 HC2 HNN HN1 HNX1 HNK HOV HH hR;go_roundw
    case rel=>first | exact ⟨k + 1,by omega,by go_num,R9⟩ | ((repeat apply Exists.intro);exact ⟨⟨k + 1,by omega,by go_num,R9⟩,rfl⟩)
    case measure=>first | (simp [intOf];done) | (simp [intOf];omega)
  ·have hk9:k=2:=by omega
   subst hk9;have k1:¬ ((2:Nat):Int) < 2:=by omega
   obtain ⟨A5,c5,q1,q2,q3⟩:=hR.out.new;have q0:=hR.out.res;obtain ⟨y0,y1,y2⟩:=jai q1;obtain ⟨z0,z1,z2⟩:=jai q0;have z3:=frozen_of_row _ _ 0 _ _ q0;have z4:=frozen_of_row _ _ 1 _ _ q0;have z5:=frozen_of_row _ _ 2 _ _ q0
   have R9:Hid (∃ A c,(((wr.setCell ⟨w.heap.size,0,none⟩ (.int .i64 (N 2).area)).setCell ⟨w.heap.size,1,none⟩ (.int .i64 (N 2).gen)).setCell ⟨w.heap.size,2,none⟩ (.slice A5 (N 2).whole.length c5)).heap[w.heap.size]? = some (.cells #[.int .i64 (N 2).area,.int .i64 (N 2).gen,.slice A (N 2).whole.length c] 87 (0,0))/\(N 2).whole.length<=c/\jaL (((wr.setCell ⟨w.heap.size,0,none⟩ (.int .i64 (N 2).area)).setCell ⟨w.heap.size,1,none⟩ (.int .i64 (N 2).gen)).setCell ⟨w.heap.size,2,none⟩ (.slice A5 (N 2).whole.length c5)) (((wr.setCell ⟨w.heap.size,0,none⟩ (.int .i64 (N 2).area)).setCell ⟨w.heap.size,1,none⟩ (.int .i64 (N 2).gen)).setCell ⟨w.heap.size,2,none⟩ (.slice A5 (N 2).whole.length c5)).heap.size A (N 2).whole/\Below w.heap.size w (((wr.setCell ⟨w.heap.size,0,none⟩ (.int .i64 (N 2).area)).setCell ⟨w.heap.size,1,none⟩ (.int .i64 (N 2).gen)).setCell ⟨w.heap.size,2,none⟩ (.slice A5 (N 2).whole.length c5))):=by
    have hs:=jd4 (.int .i64 (N 2).area) (.int .i64 (N 2).gen) (.slice A5 (N 2).whole.length c5) q0;exact ⟨A5,c5,hs.1,q2,(q3.other HNN2.out q0 fun k hk=>jaq w.heap.size k hk [.int .i64 (N 2).area,.int .i64 (N 2).gen,.slice A5 (N 2).whole.length c5] 0 wr).more hs.2.size,jae hR.out.below hs.2 hR.out.below.size (Nat.le_refl _)⟩
   clear q0 q1 q2 q3 hR HHE HNX HNE;go_wp2;obtain ⟨A9,c9,r1,r2,r3,r4⟩:=R9.out;refine bodyPost_ret (jab rfl _ _ w.heap.size 87 _ (0,0) _ rfl r1 Tryz.underlying87 rfl (by kernel_rfl)) rfl ?_;exact ⟨A9,c9,rfl,r2,r3,r4⟩
end
end Go.Proofs.YtbnhkplhmanmoaaGreat
