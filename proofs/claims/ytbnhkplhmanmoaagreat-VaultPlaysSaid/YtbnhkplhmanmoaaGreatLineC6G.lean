/- . -/
import Derived.Test.YtbnhkplhmanmoaaGreatPSplitG
import Derived.Test.YtbnhkplhmanmoaaGreatVaultAskG
import Derived.Test.YtbnhkplhmanmoaaGreatDiskCDG
import Derived.Test.YtbnhkplhmanmoaaGreatVaultHoldG
import Derived.Deep.OwnRows
namespace Go.Proofs.YtbnhkplhmanmoaaGreat
open Go.RowKit
set_option maxHeartbeats 6400000
set_option maxRecDepth 20000
theorem jk2 (A:Option Addr) (c:Nat) (bs:List Int) (w:World) (hl:bs.length≠64) :
  Calls Tryz.prog 86 #[.slice A bs.length c] w fun e w'=>e=.returned (.tuple #[.agg (lnV jg6),.int .i64 2])/\Below w.heap.size w w':=by
 have hinf:(Tryz.prog.info? 135).map (·.size)=some jbt.size:=Tryz.infoLine;have hone:jbt.all (·.oneCell')=true:=jdP jg6;have HW:Hid ((w.alloc (.cells jbt 135)).heap[w.heap.size]? = some (.cells jbt 135 (0,0))/\Below w.heap.size w (w.alloc (.cells jbt 135))):=⟨heap_alloc_new _ _,(Below.refl _ _).alloc (Nat.le_refl _) _⟩;have e1:((bs.length:Int) != 64)=true:=by rw [bne_iff_ne];omega
 obtain ⟨N,hN⟩:∃ N,N=bs.length:=⟨_,rfl⟩;rw [<- hN] at e1 ⊢;clear hN hl;go_enter Tryz.func86,Tryz.ntmps86
 go_wp2_with (refine jad rfl 135 _ _ rfl w.heap.size jbt rfl rfl 135 _ HW.out.1 hinf rfl hone HW.out.2 (Nat.le_refl _) ?_;intro W hW hbW hkW hsW;clear hkW hsW)
 exact bodyPost_ret (jbE rfl _ _ w.heap.size _ _ _ _ rfl hW Tryz.underlying135 rfl hinf) rfl ⟨rfl,hbW⟩
theorem jmI (b o c:Nat) (bs:List Int) (w:World) (h:jaO w w.heap.size .u8 (some ⟨b,o,none⟩) bs) (hz:∀ z∈bs,0<=z/\z<=255) (hl:bs.length=64) (hc:64<=c) :
  Calls Tryz.prog 86 #[.slice (some ⟨b,o,none⟩) 64 c] w fun e w'=>e=.returned (.tuple #[.agg (lnV (jbF bs).2),.int .i64 (jbF bs).1])/\Below w.heap.size w w':=by
 have HDR:jbF bs=if jdj (ja9 bs)=0/\jcA (ja9 bs)=bs then (0,ja9 bs) else (2,jg6):=by
  unfold jbF;by_cases q:jdj (ja9 bs)=0/\jcA (ja9 bs)=bs
  ·rw [if_pos q,if_pos ⟨hl,q⟩]
  ·rw [if_neg q,if_neg (fun h=>q h.2)]
 have HRD:Hid (∀ W,Below w.heap.size w W->Calls Tryz.prog 122 #[.slice (some ⟨b,o,none⟩) 64 c] W fun e w'=>e=.returned (.agg (lnV (ja9 bs)))/\Below W.heap.size W w'):=fun W hb=>jnE b o c bs W ((h.below hb).more hb.size) hz hl hc
 have hinf0:(Tryz.prog.info? 135).map (·.size)=some jbt.size:=Tryz.infoLine;have hone0:jbt.all (·.oneCell')=true:=jdP jg6;have hinf:(Tryz.prog.info? 135).map (·.size)=some (lnV (ja9 bs)).size:=Tryz.infoLine;have hone:=jdP (ja9 bs);have hsz:Hid (jbt.size=(lnV (ja9 bs)).size):=rfl;have hb0:Below w.heap.size w (w.alloc (.cells jbt 135)):=(Below.refl _ _).alloc (Nat.le_refl _) _;have HQ0:Hid ((w.alloc (.cells jbt 135)).heap[w.heap.size]? = some (.cells jbt 135 (0,0))/\w.heap.size < (w.alloc (.cells jbt 135)).heap.size):=⟨heap_alloc_new _ _,by simp⟩;have HNW:Hid (∀ W:World,(W.alloc (.cells jbt 135)).heap[W.heap.size]? = some (.cells jbt 135 (0,0))/\Below W.heap.size W (W.alloc (.cells jbt 135))):=fun W=>⟨heap_alloc_new _ _,(Below.refl _ _).alloc (Nat.le_refl _) _⟩
 have HEQ:Hid (jdj (ja9 bs)=0->∀ (W:World) A' c',Below w.heap.size w W->jaO W W.heap.size .u8 A' (jcA (ja9 bs))->Calls Tryz.prog 123 #[.slice A' 64 c',.slice (some ⟨b,o,none⟩) 64 c] W fun e w'=>e=.returned (.bool (decide (jcA (ja9 bs)=bs)))/\w'=W):=fun hE W A' c' hb hi=>by
  have:=jkp A' (some ⟨b,o,none⟩) c' c (jcA (ja9 bs)) bs W hi ((h.below hb).more hb.size) (jgX _) hz;rw [jff hE,hl] at this;exact this
 have HEY:=Lib.hid (fun W=>jgn (ja9 bs) W);have HEN:=Lib.hid (fun W=>jhA (ja9 bs) W);obtain ⟨P,hP⟩:∃ P,P=ja9 bs:=⟨_,rfl⟩;simp only [<- hP] at HDR HRD hinf hone hsz HEQ HEY HEN;obtain ⟨L,hL⟩:∃ L,L=lnV P:=⟨_,rfl⟩;simp only [<- hL] at HRD hinf hone hsz HEY HEN;have HLL:=Lib.hid hL;unfold jbt at hb0 HQ0 HNW;clear h hP hL;by_cases hE:jdj P=0
 ·replace HEY:=Lib.hid (fun W=>HEY.out W hE);replace HEQ:=Lib.hid (HEQ.out hE);by_cases hq:jcA P=bs
  ·rw [decide_eq_true hq] at HEQ;rw [HDR,if_pos ⟨hE,hq⟩];simp only [];rw [<- HLL.out];obtain ⟨E,hEE⟩:∃ E,E=jcA P:=⟨_,rfl⟩;simp only [<- hEE] at HEY HEQ;clear HEN HDR hE hq hEE HLL;go_enter Tryz.func86,Tryz.ntmps86
   go_wp2_with (first
    | (go_at_call 122;with_reducible (refine Calls.mono (HRD.out _ hb0) ?_);rintro e w1 ⟨rfl,hb1⟩;have x1:=hb0.trans (hb1.mono hb0.size);have q1:=(hb1.block _ HQ0.out.2).trans HQ0.out.1;have s1:=(Array.getElem?_eq_some_iff.1 q1).1;have hq1:=Lib.hid q1;clear q1)
    | (refine jad rfl 135 _ _ rfl w1.heap.size L rfl rfl 135 _ (HNW.out w1).1 hinf hsz.out hone (HNW.out w1).2 (Nat.le_refl _) ?_;intro W2 hW2 hbW2 hkW hsW;have x2:=x1.trans (hbW2.mono x1.size);have hq2:=Lib.hid ((hbW2.block _ s1).trans hq1.out);have s2:=(Array.getElem?_eq_some_iff.1 hW2).1;have hr2:=Lib.hid hW2;clear hkW hsW hW2)
    | (refine wpList_load_row rfl 135 _ rfl w1.heap.size rfl 135 _ (0,0) _ hr2.out Tryz.underlying135 rfl hinf ?_)
    | (go_at_call 80;with_reducible (refine Calls.mono (HEY.out _) ?_);rintro e w3 ⟨A3,c3,rfl,_,_,hg3,hb3⟩;have x3:=x2.trans (hb3.mono x2.size);have hq3:=Lib.hid ((hb3.block _ (Nat.lt_of_lt_of_le s1 hbW2.size)).trans hq2.out);have hr3:=Lib.hid ((hb3.block _ s2).trans hr2.out);have hi3:=hg3.ints;clear hg3)
    | (go_at_call 123;with_reducible (refine Calls.mono (HEQ.out _ _ _ x3 hi3) ?_);rintro e w4 ⟨rfl,hw4⟩;obtain rfl:=hw4.symm)
    | (have hguard:=hr3;clear hguard;refine wpList_load_row rfl 135 _ rfl w1.heap.size rfl 135 _ (0,0) _ hr3.out Tryz.underlying135 rfl hinf ?_)
    | (have hguard:=hr3;clear hguard;refine jad rfl 135 _ _ rfl w.heap.size L rfl rfl 135 _ hq3.out hinf hsz.out hone x3 (Nat.le_refl _) ?_;intro W hW hbW hkW hsW;clear hkW hsW))
   exact bodyPost_ret (jbE rfl _ _ w.heap.size _ _ _ _ rfl hW Tryz.underlying135 rfl hinf) rfl ⟨rfl,hbW⟩
  ·rw [decide_eq_false hq] at HEQ;rw [HDR,if_neg (fun h=>hq h.2)];simp only [];obtain ⟨E,hEE⟩:∃ E,E=jcA P:=⟨_,rfl⟩;simp only [<- hEE] at HEY HEQ;clear HEN HDR hE hq hEE HLL;go_enter Tryz.func86,Tryz.ntmps86
   go_wp2_with (first
    | (go_at_call 122;with_reducible (refine Calls.mono (HRD.out _ hb0) ?_);rintro e w1 ⟨rfl,hb1⟩;have x1:=hb0.trans (hb1.mono hb0.size);have q1:=(hb1.block _ HQ0.out.2).trans HQ0.out.1;have s1:=(Array.getElem?_eq_some_iff.1 q1).1;have hq1:=Lib.hid q1;clear q1)
    | (refine jad rfl 135 _ _ rfl w1.heap.size L rfl rfl 135 _ (HNW.out w1).1 hinf hsz.out hone (HNW.out w1).2 (Nat.le_refl _) ?_;intro W2 hW2 hbW2 hkW hsW;have x2:=x1.trans (hbW2.mono x1.size);have hq2:=Lib.hid ((hbW2.block _ s1).trans hq1.out);have s2:=(Array.getElem?_eq_some_iff.1 hW2).1;have hr2:=Lib.hid hW2;clear hkW hsW hW2)
    | (refine wpList_load_row rfl 135 _ rfl w1.heap.size rfl 135 _ (0,0) _ hr2.out Tryz.underlying135 rfl hinf ?_)
    | (go_at_call 80;with_reducible (refine Calls.mono (HEY.out _) ?_);rintro e w3 ⟨A3,c3,rfl,_,_,hg3,hb3⟩;have x3:=x2.trans (hb3.mono x2.size);have hq3:=Lib.hid ((hb3.block _ (Nat.lt_of_lt_of_le s1 hbW2.size)).trans hq2.out);have hr3:=Lib.hid ((hb3.block _ s2).trans hr2.out);have hi3:=hg3.ints;clear hg3)
    | (go_at_call 123;with_reducible (refine Calls.mono (HEQ.out _ _ _ x3 hi3) ?_);rintro e w4 ⟨rfl,hw4⟩;obtain rfl:=hw4.symm)
    | (have hguard:=hr3;clear hguard;refine jad rfl 135 _ _ rfl w.heap.size jbt rfl rfl 135 _ hq3.out hinf0 rfl hone0 x3 (Nat.le_refl _) ?_;intro W hW hbW hkW hsW;clear hkW hsW))
   exact bodyPost_ret (jbE rfl _ _ w.heap.size _ _ _ _ rfl hW Tryz.underlying135 rfl hinf0) rfl ⟨rfl,hbW⟩
 ·replace HEN:=Lib.hid (fun W=>HEN.out W hE);rw [HDR,if_neg (fun h=>hE h.1)];simp only [];obtain ⟨E,hEE⟩:∃ E,E=jdj P:=⟨_,rfl⟩;rw [<- hEE] at hE;simp only [<- hEE] at HEN;have e1:(E != 0)=true:=by rw [bne_iff_ne];exact hE
  clear HEY HEQ HDR hE hEE HLL;go_enter Tryz.func86,Tryz.ntmps86
  go_wp2_with (first
   | (go_at_call 122;with_reducible (refine Calls.mono (HRD.out _ hb0) ?_);rintro e w1 ⟨rfl,hb1⟩;have x1:=hb0.trans (hb1.mono hb0.size);have q1:=(hb1.block _ HQ0.out.2).trans HQ0.out.1;have s1:=(Array.getElem?_eq_some_iff.1 q1).1;have hq1:=Lib.hid q1;clear q1)
   | (refine jad rfl 135 _ _ rfl w1.heap.size L rfl rfl 135 _ (HNW.out w1).1 hinf hsz.out hone (HNW.out w1).2 (Nat.le_refl _) ?_;intro W2 hW2 hbW2 hkW hsW;have x2:=x1.trans (hbW2.mono x1.size);have hq2:=Lib.hid ((hbW2.block _ s1).trans hq1.out);have s2:=(Array.getElem?_eq_some_iff.1 hW2).1;have hr2:=Lib.hid hW2;clear hkW hsW hW2)
   | (refine wpList_load_row rfl 135 _ rfl w1.heap.size rfl 135 _ (0,0) _ hr2.out Tryz.underlying135 rfl hinf ?_)
   | (go_at_call 80;with_reducible (refine Calls.mono (HEN.out _) ?_);rintro e w3 ⟨A3,c3,rfl,hb3⟩;have x3:=x2.trans (hb3.mono x2.size);have hq3:=Lib.hid ((hb3.block _ (Nat.lt_of_lt_of_le s1 hbW2.size)).trans hq2.out))
   | (have hguard:=hq3;clear hguard;refine jad rfl 135 _ _ rfl w.heap.size jbt rfl rfl 135 _ hq3.out hinf0 rfl hone0 x3 (Nat.le_refl _) ?_;intro W hW hbW hkW hsW;clear hkW hsW))
  exact bodyPost_ret (jbE rfl _ _ w.heap.size _ _ _ _ rfl hW Tryz.underlying135 rfl hinf0) rfl ⟨rfl,hbW⟩
theorem jgu (A:Option Addr) (c:Nat) (bs:List Int) (w:World) (h:jaO w w.heap.size .u8 A bs) (hz:∀ z∈bs,0<=z/\z<=255) (hc:bs.length<=c) :
  Calls Tryz.prog 86 #[.slice A bs.length c] w fun e w'=>e=.returned (.tuple #[.agg (lnV (jbF bs).2),.int .i64 (jbF bs).1])/\Below w.heap.size w w':=by
 by_cases hl:bs.length=64
 ·obtain ⟨b,o,rfl,_⟩:=h.at_ (by omega);rw [hl];exact jmI b o c bs w h hz hl (by omega)
 ·have e:jbF bs=(2,jg6):=by unfold jbF;rw [if_neg (fun q=>hl q.1)]
  rw [e];exact jk2 A c bs w hl
def jqS (zs:List Int):Ln:=⟨jaD (sub zs 2 6),jaD (sub zs 6 10),decide (zs.getD 10 0=1),⟨jaD (sub zs 11 12),jaD (sub zs 12 19),jaD (sub zs 19 26),jaD (sub zs 26 33),jaD (sub zs 33 40),⟨#[]⟩⟩⟩
def jdb (rs:List Rc):List Value:=rs.flatMap fun r=>(rcV r).toList
theorem jh3 (rs:List Rc) (r:Rc):jdb (rs ++ [r])=jdb rs ++ (rcV r).toList:=by simp [jdb]
theorem jgz:∀ (rs:List Rc) (k:Nat) (h:k < rs.length) (j:Nat),j < 6->(jdb rs)[6 * k + j]? = (rcV rs[k]).toList[j]?
 | r :: rs,0,_,j,hj=>by
  unfold jdb;rw [List.flatMap_cons,List.getElem?_append_left (by show _ < 6;omega)];simp
 | r :: rs,k + 1,h,j,hj=>by
  have ih:=jgz rs k (by simpa using h) j hj;unfold jdb at ih ⊢;rw [List.flatMap_cons,List.getElem?_append_right (by show 6<=_;omega)];show (List.flatMap _ rs)[6 * (k + 1) + j - 6]? = _;rw [show 6 * (k + 1) + j - 6=6 * k + j by omega,ih];rfl
theorem jjr {w:World} {base e n c:Nat} {A:Option Addr} {rs:List Rc} (h:w.ownsRow base e 6 (.slice A n c) n (jdb rs)) (hn:n=rs.length):jax w w.heap.size A rs:=fun k hk=>by
 obtain ⟨g,cap,hv,_,hlt⟩:=h.form (by omega);injection hv with hA _ _
 subst hA
 have hc:∀ j,j < 6->w.cell? ⟨g,0 + 6 * k + j,none⟩=(rcV rs[k]).toList[j]?:=fun j hj=>by
  have e:=jgz rs k hk j hj;have e6:(rcV rs[k]).toList.length=6:=rfl;obtain ⟨v,hv⟩:∃ v,(rcV rs[k]).toList[j]? = some v:=⟨_,List.getElem?_eq_getElem (by rw [e6];exact hj)⟩;rw [hv] at e ⊢;have hx:=h.cells (g:=g) rfl (6 * k + j) _ e;have hadd:(⟨g,0,none⟩:Addr).add (6 * k + j)=⟨g,0 + 6 * k + j,none⟩:=by unfold Addr.add;split <;> simp_all
  rwa [hadd] at hx
 exact ⟨g,0,rfl,hlt,hc 0 (by decide),hc 1 (by decide),hc 2 (by decide),hc 3 (by decide),hc 4 (by decide),hc 5 (by decide)⟩
theorem jax.keep {w w':World} {B B':Nat} {A:Option Addr} {rs:List Rc} (h:jax w B A rs) (hB:B<=B') (hk:∀ b o,A=some ⟨b,o,none⟩->b < B->w'.heap[b]? = w.heap[b]?):jax w' B' A rs:=fun k hk2=>by
 obtain ⟨b,off,e,hl,c0,c1,c2,c3,c4,c5⟩:=h k hk2;have hb:=hk b off e hl;exact ⟨b,off,e,by omega,by rw [World.cell?_of_block hb];exact c0,by rw [World.cell?_of_block hb];exact c1,by rw [World.cell?_of_block hb];exact c2,by rw [World.cell?_of_block hb];exact c3,by rw [World.cell?_of_block hb];exact c4,by rw [World.cell?_of_block hb];exact c5⟩
structure jmt (t:TypeId) (base:Nat) (w:World) (vo vn:Value) (ts:List (List Rc)):Prop where
 row:∃ Vs:List Value,w.ownsRow base t 1 vo ts.length Vs/\∀ i,(h:i < ts.length)->∃ Ai ci,Vs[i]? = some (.slice Ai ts[i].length ci)/\ts[i].length<=ci/\jax w w.heap.size Ai ts[i]/\∀ b o,Ai=some ⟨b,o,none⟩->b < w.heap.size/\some b≠vo.ownBlock/\some b≠vn.ownBlock
structure jhq (t e:TypeId) (w wr:World) (vo vn:Value) (ts:List (List Rc)) (rs:List Rc):Prop where
 below:Below w.heap.size w wr
 out:jmt t w.heap.size wr vo vn ts
 now:wr.ownsRow w.heap.size e 6 vn rs.length (jdb rs)
 apart:jjk vo vn
section
variable {t e:TypeId} {w wr w':World} {vo vn vo' vn':Value} {ts:List (List Rc)} {rs:List Rc}
theorem jmt.trans {base n c:Nat} {A:Option Addr} (h:jmt t base wr (.slice A n c) vn ts) (hn:n=ts.length):jaL wr wr.heap.size A ts:=fun i hi=>by
 obtain ⟨Vs,ho,hr⟩:=h.row;obtain ⟨Ai,ci,e1,e2,e3,_⟩:=hr i hi;obtain ⟨g,cap,hv,_,hlt⟩:=ho.form (by omega);injection hv with hA _ _
 subst hA;have hx:=ho.cells (g:=g) rfl i _ e1;have hadd:(⟨g,0,none⟩:Addr).add i=⟨g,0 + i,none⟩:=by unfold Addr.add;split <;> simp_all
 rw [hadd] at hx;exact ⟨g,0,Ai,ci,rfl,hlt,hx,e2,e3⟩
theorem jix {base size n:Nat} {v:Value} {xs:List Value} (h:wr.ownsRow base e size v n xs) (hb:Below wr.heap.size wr w'):w'.ownsRow base e size v n xs:=by
 refine ⟨h.1,?_⟩;rcases h.2 with hn | ⟨g,cap,cur,hv,hbg,hg,rest⟩
 ·exact .inl hn
 ·exact .inr ⟨g,cap,cur,hv,hbg,(hb.block g (Array.getElem?_eq_some_iff.1 hg).1).trans hg,rest⟩
theorem jhq.later (h:jhq t e w wr vo vn ts rs) (hb:Below wr.heap.size wr w'):jhq t e w w' vo vn ts rs:=by
 refine ⟨jaa h.below hb,⟨?_⟩,jix h.now hb,h.apart⟩;obtain ⟨Vs,ho,hr⟩:=h.out.row
 exact ⟨Vs,jix ho hb,fun i hi=>by
  obtain ⟨Ai,ci,e1,e2,e3,e4⟩:=hr i hi;exact ⟨Ai,ci,e1,e2,e3.keep hb.size (fun b _ _ hl=>hb.block b hl),fun b o ea=>⟨Nat.lt_of_lt_of_le (e4 b o ea).1 hb.size,(e4 b o ea).2⟩⟩⟩
theorem jhq.push (h:jhq t e w wr vo vn ts rs) {r:Rc} (hown:w'.ownsRow w.heap.size e 6 vn' (rs.length + 1) (jdb rs ++ (rcV r).toList)) (hg:wr.grownBy w' vn.ownBlock) (hv:vn'.ownBlock=vn.ownBlock∨vn'.ownBlock=some wr.heap.size):jhq t e w w' vo vn' ts (rs ++ [r]):=by
 have hne:∀ q,vn.ownBlock=some q->vo.ownBlock≠some q:=fun q hq ho=>h.apart q ho hq
 obtain ⟨Vs,ho,hr⟩:=h.out.row;refine ⟨h.below.grown hg h.below.size fun q hq=>(h.now.lt q hq).1,⟨Vs,jnh ho hg hne,fun i hi=>?_⟩,by rw [jh3,List.length_append];exact hown,?_⟩
 ·obtain ⟨Ai,ci,e1,e2,e3,e4⟩:=hr i hi;refine ⟨Ai,ci,e1,e2,e3.keep hg.size (fun b o ea hl=>hg.block b hl (e4 b o ea).2.2),fun b o ea=>⟨Nat.lt_of_lt_of_le (e4 b o ea).1 hg.size,(e4 b o ea).2.1,fun q=>?_⟩⟩;rcases hv with hv | hv
  ·exact (e4 b o ea).2.2 (q.trans hv)
  ·have:=(e4 b o ea).1;rw [hv] at q;injection q with q
   omega
 ·exact (h.apart.symm.grown (fun q hq=>(ho.lt q hq).2) hv).symm
end
theorem Tryz.infoRec6:(Tryz.prog.info? 56).map (fun i=>(i.zero,i.size,i.bytes))=some (some (.agg #[.int .i64 0,.int .i64 0,.int .i64 0,.int .i64 0,.int .i64 0,.string ⟨#[]⟩]),6,56):=by kernel_rfl
theorem Tryz.infoTrans:(Tryz.prog.info? 36).map (fun i=>(i.zero,i.size,i.bytes))=some (some (.slice none 0 0),1,24):=by kernel_rfl
theorem jju (r:Rc):∀ u∈(rcV r).toList,u.oneCell'=true:=fun u hu=>by
 simp only [rcV,List.mem_cons,List.not_mem_nil,or_false] at hu;rcases hu with rfl | rfl | rfl | rfl | rfl | rfl <;> rfl
theorem jkf {secs:List (List Int)} {g:Int} {k:Nat} (h:jbd secs g k=true):(k:Int)<=2147483647:=by
 unfold jbd at h;simp only [Bool.and_eq_true,decide_eq_true_eq] at h;have:=(jcq _).1 (jbB.1 (jmc h.1.1).2.1).1;omega
theorem jgZ {secs:List (List Int)} {k:Nat} (h:jbO secs k=false):jba secs (k + 1)=jba secs k/\jcb secs (k + 1)=jcb secs k ++ [jdH secs k]:=by
 constructor
 ·show (if jbO secs k=true then _ else _)=_;rw [h,if_neg (by decide)]
 ·show (if jbO secs k=true then _ else _)=_;rw [h,if_neg (by decide)]
theorem jgb {secs:List (List Int)} {k:Nat} (h:jbO secs k=true):jba secs (k + 1)=jba secs k ++ [jcb secs k ++ [jdH secs k]]/\jcb secs (k + 1)=[]:=by
 constructor
 ·show (if jbO secs k=true then _ else _)=_;rw [h,if_pos rfl]
 ·show (if jbO secs k=true then _ else _)=_;rw [h,if_pos rfl]
theorem jgs {w:World} {base e n size:Nat} {v:Value} {xs:List Value} (h:w.ownsRow base e size v n xs):∃ A c,v=.slice A n c:=by
 rcases h.2 with ⟨rfl,rfl⟩ | ⟨g,cap,cur,rfl,_⟩
 ·exact ⟨none,0,rfl⟩
 ·exact ⟨_,_,rfl⟩
theorem jps (W:World) (t:TypeId) (k a b c d:Int) (key:ByteArray):∀ j u,([.int .i64 k,.int .i64 a,.int .i64 b,.int .i64 c,.int .i64 d,.string key]:List Value)[j]? = some u->(W.alloc (.cells #[.int .i64 k,.int .i64 a,.int .i64 b,.int .i64 c,.int .i64 d,.string key] t)).cell? ((⟨W.heap.size,0,none⟩:Addr).add j)=some u:=fun j u hj=>by
 have hg:=heap_alloc_new W (.cells #[.int .i64 k,.int .i64 a,.int .i64 b,.int .i64 c,.int .i64 d,.string key] t);have hadd:(⟨W.heap.size,0,none⟩:Addr).add j=⟨W.heap.size,0 + j,none⟩:=by unfold Addr.add;split <;> simp_all
 rw [hadd,cell_of_row _ _ _ _ _ _ hg,Nat.zero_add];simpa using hj
end Go.Proofs.YtbnhkplhmanmoaaGreat
