/- . -/
import Derived.Test.YtbnhkplhmanmoaaGreatDiskC2G
import Derived.Deep.RegionHeld3
import Derived.LoopTactic
import Derived.Deep.RegionWith
namespace Go.Proofs.YtbnhkplhmanmoaaGreat
open Go.RowKit
set_option maxHeartbeats 6400000
set_option maxRecDepth 20000
section
variable {w w':World} {p gl gn:Nat} {V:Value} {z:Int} {DL:DataW Value} {DN:DataW Unit} {s:Dk}
theorem jak.lastTurn (h:jak w p gl gn V z DL DN s) {DL':DataW Value} {m:Nat} {l':List (List Nat)} (ho:w'.ownsMap Tryz.prog 3 jc8 gl m DL') (ht:w.mapTurned w' gl) (hs:jel DL' l') (hl:l'.length=s.last.length) (hsec:∀ i,i < l'.length->Sec (l'.getD i [])) :
  jak w' p gl gn V z DL' DN ⟨l',s.pend,s.lim,s.off⟩ :=
 ⟨⟨by rw [hl];exact h.ok.pos,by rw [hl];exact h.ok.le,hsec,fun i hi=>by rw [hl];exact h.ok.pen i hi⟩,by rw [hl];exact (jbm ht h.a1.1).trans h.box,jn3 ho,hs,jdf h.new (jbm ht (Ne.symm h.a1.2.2)),h.nsays,jek h.pend (fun g e=>jbm ht (fun e2=>h.a2.2.1 (e2 ▸ e))),h.lim,h.zi,h.a1,h.a2⟩
theorem jdo {w:World} {g:Nat} {C:Array Value} {t:TypeId} {fr:Nat × Nat} (h:w.heap[g]? = some (.cells C t fr)) {cs:List Value} (hc:∀ (j:Nat) (v:Value),cs[j]? = some v->C[j]? = some v):w.rangeAt g 0 cs:=fun j v hv=>by
 rw [Nat.zero_add,cell_of_row w g j C t fr h];exact hc j v hv
theorem joO (i:Nat) {t:List Nat} (ht:t.length=64):(∀ (j:Nat) (v:Value),(BA t).toList[j]? = some v->(wrV (i,t)).toArray[j]? = some v)/\(wrV (i,t)).toArray[64]? = some (.int .i64 (i:Int)):=by
 have hl:(BA t).toList.length=64:=by rw [Array.length_toList,jcN,ht]
 refine ⟨fun j v hv=>?_,?_⟩
 ·have hj:j < (BA t).toList.length:=by
   rcases Nat.lt_or_ge j (BA t).toList.length with q | q
   ·exact q
   ·rw [List.getElem?_eq_none q] at hv;cases hv
  rw [List.getElem?_toArray];unfold wrV;rw [List.getElem?_append_left hj];exact hv
 ·rw [List.getElem?_toArray];show ((BA t).toList ++ [Value.int .i64 (i:Int)])[64]? = _;rw [List.getElem?_append_right (by omega),hl];rfl
theorem jo2 (h:jak w p gl gn V z DL DN s) (i:Nat) (hi:i < s.last.length) (t:List Nat) (ht:Sec t) :
  Calls Tryz.prog 52 #[.pointer (some ⟨p,0,none⟩),.agg (wrV (i,t)).toArray] w fun e w'=>e=.returned (.tuple #[])/\(∃ DL',jak w' p gl gn V z DL' DN ⟨s.last.set i t,s.pend,s.lim,s.off⟩)/\jaM (jbh p gl gn V) w w':=by
 have hi6:(i:Int) < 4096:=by have:=h.ok.le;omega
 have hkey:=Lib.hid (jjN (x:=(i:Int)) (by unfold jeI;omega));obtain ⟨g1,g2⟩:=joO i ht.1;obtain ⟨C,hC⟩:∃ C,C=(wrV (i,t)).toArray:=⟨_,rfl⟩;rw [<- hC] at g1 g2 ⊢;have hBk:=fun W:World=>jnZ t ht.1 W
 have hinL:(Tryz.prog.info? 103).map (·.size)=some (BA t).toList.length:=by rw [Array.length_toList,jcN,ht.1];exact Tryz.infS
 have hu:=Tryz.und64;have hb0:Below w.heap.size w (w.alloc (.cells C 105)):=(Below.refl _ _).alloc (Nat.le_refl _) _;have hb1:Below w.heap.size w ((w.alloc (.cells C 105)).alloc (.cells (BA t) 103)):=hb0.alloc (by simp) _;have y0:=heap_alloc_new w (.cells C 105);have y1:((w.alloc (.cells C 105)).alloc (.cells (BA t) 103)).heap[w.heap.size]? = some (.cells C 105 (0,0)):=(Below.heap_alloc _ _ _ (by simp)).trans y0;have h1:=h.later hb1;have hlen:(s.last.set i t).length=s.last.length:=List.length_set
 have hsec:∀ j,j < (s.last.set i t).length->Sec ((s.last.set i t).getD j []):=fun j hj=>by
  rw [hlen] at hj;rw [jd9 _ _ _ _ hj];split
  ·exact ht
  ·exact h.ok.sec j hj
 have hmx:Maps.size DL < maxLen:=by
  have:=h.lsays.keys.size (h.last.tidy joK);have:=h.ok.le;unfold maxLen;omega
 have HR0:=Lib.hid (jdo (cs:=(BA t).toList) y0 g1);have hA:jaM (jbh p gl gn V) w ((w.alloc (.cells C 105)).alloc (.cells (BA t) 103)):=jhh (jhh (jaM.refl _ w) _) _;obtain ⟨W,hW⟩:∃ W,W=(w.alloc (.cells C 105)).alloc (.cells (BA t) 103):=⟨_,rfl⟩;rw [<- hW] at hb1 y1 h1 hA;obtain ⟨_,d1,_⟩:=h1.cells;have d2:W.cell? ⟨w.heap.size,64,none⟩=some (.int .i64 (i:Int)):=by rw [cell_of_row _ _ _ _ _ _ y1];exact g2
 have dR:W.rangeAt w.heap.size 0 (BA t).toList:=jdo y1 g1;have hne:w.heap.size≠gl:=fun e=>by have:=h.lt gl jkg;omega
 have HM:=Lib.hid h1.last
 have HS:Hid (∀ W3:World,W.drew.mapTurned W3 gl->W3.cell? ⟨p,1,none⟩=some (.map (some gl))/\W3.cell? ⟨w.heap.size,64,none⟩=some (.int .i64 (i:Int))/\W3.rangeAt w.heap.size 0 (BA t).toList):=fun W3 q =>
  ⟨(World.cell?_of_block (jbm q h.a1.1)).trans d1,(World.cell?_of_block (jbm q hne)).trans d2,fun j v hv=>(World.cell?_of_block (jbm q hne)).trans (dR j v hv)⟩
 have HD:=Lib.hid hW;by_cases hz:(t == jas)=true
 ·have HE:Hid (∀ (W3:World) (m:Nat),W3.ownsMap Tryz.prog 3 jc8 gl m (DL.del (.int .i64 (i:Int)))->W.drew.mapTurned W3 gl->(∃ DL',jak W3 p gl gn V z DL' DN ⟨s.last.set i t,s.pend,s.lim,s.off⟩)/\jaM (jbh p gl gn V) w W3):=fun W3 m q1 q2=>by
   have e:t=jas:=by simpa using hz
   exact ⟨⟨_,(h1.keep (w':=W.drew) (fun _ _=>rfl)).lastTurn q1 q2 (by rw [e];exact h.lsays.del) hlen hsec⟩,jgS (jdy hA) q2 jkg⟩
  rw [hz] at hBk;obtain ⟨s2,hs2⟩:∃ s2,s2=(⟨s.last.set i t,s.pend,s.lim,s.off⟩:Dk):=⟨_,rfl⟩;rw [<- hs2] at HE ⊢;obtain ⟨T,hTT⟩:∃ T,T=BA t:=⟨_,rfl⟩;unfold jfc at hBk;simp only [<- hTT] at hBk HR0 HS dR hinL HD;have HBk:=Lib.hid hBk;clear h h1 g1 g2 hC hb0 y0 y1 hlen hsec hmx hA hb1 hs2 hTT hz hi ht hBk hW;go_enter Tryz.func52,Tryz.ntmps52
  go_wp2_with (first
   | (refine wpList_load_mid rfl 103 _ rfl w.heap.size 0 (by first | rfl | simp) T.toList _ HR0.out hu rfl hinL ?_;rw [Array.toArray_toList])
   | (go_at_call 84;with_reducible (refine Calls.mono (HBk.out _) ?_);rintro e w1 ⟨rfl,rfl⟩;rw [<- HD.out]))
  go_region_held3 (fun W=>W.cell? ⟨p,1,none⟩=some (.map (some gl))/\W.cell? ⟨w.heap.size,64,none⟩=some (.int .i64 (i:Int))/\W.rangeAt w.heap.size 0 T.toList)
   (first
    | exact ⟨d1,d2,dR⟩
    | exact HS.out _ ht3)
   (first
    | (refine jhO rfl _ _ 58 rfl _ joK Tryz.undMapL rfl HM.out _ _ rfl hkey.out ?_
       intro w3 ho3 ht3))
  exact bodyPost_end (results_none rfl _ _ _) rfl ⟨rfl,HE.out _ _ ho3 ht3⟩
 ·have HE:Hid (∀ (W3:World) (m:Nat),W3.ownsMap Tryz.prog 3 jc8 gl m (DL.put (.int .i64 (i:Int)) (.held (jfc t)))->W.drew.mapTurned W3 gl->(∃ DL',jak W3 p gl gn V z DL' DN ⟨s.last.set i t,s.pend,s.lim,s.off⟩)/\jaM (jbh p gl gn V) w W3):=fun W3 m q1 q2 =>
   ⟨⟨_,(h1.keep (w':=W.drew) (fun _ _=>rfl)).lastTurn q1 q2 (h.lsays.put (h.last.isMap) hi t) hlen hsec⟩,jgS (jdy hA) q2 jkg⟩
  rw [eq_false_of_ne_true hz] at hBk;obtain ⟨s2,hs2⟩:∃ s2,s2=(⟨s.last.set i t,s.pend,s.lim,s.off⟩:Dk):=⟨_,rfl⟩;rw [<- hs2] at HE ⊢;obtain ⟨T,hTT⟩:∃ T,T=BA t:=⟨_,rfl⟩;unfold jfc at hBk HE;simp only [<- hTT] at hBk HR0 HS dR hinL HD HE;have HBk:=Lib.hid hBk;obtain ⟨W3,hrun3,ho3,ht3⟩:=World.ownsMap.store (w:=W.drew) (t:=58) (e:=103) (val:=.agg T) (d:=.held (.agg T)) (ps:=[]) h1.last joK Tryz.undMapL hmx hkey.out rfl;have R:=Lib.hid (HE.out W3 _ ho3 ht3);have S3:=Lib.hid (HS.out W3 ht3);clear ho3 ht3;clear h h1 g1 g2 hC hb0 y0 y1 hlen hsec hmx hA hb1 hs2 hTT hz hi ht hBk hW;go_enter Tryz.func52,Tryz.ntmps52
  go_wp2_with (first
   | (refine wpList_load_mid rfl 103 _ rfl w.heap.size 0 (by first | rfl | simp) T.toList _ HR0.out hu rfl hinL ?_;rw [Array.toArray_toList])
   | (go_at_call 84;with_reducible (refine Calls.mono (HBk.out _) ?_);rintro e w1 ⟨rfl,rfl⟩;rw [<- HD.out]))
  go_region_held3 (fun W=>W.cell? ⟨p,1,none⟩=some (.map (some gl))/\W.cell? ⟨w.heap.size,64,none⟩=some (.int .i64 (i:Int))/\W.rangeAt w.heap.size 0 T.toList)
   (first
    | exact ⟨d1,d2,dR⟩
    | exact S3.out)
   (first
    | fail)
  exact bodyPost_end (results_none rfl _ _ _) rfl ⟨rfl,R.out⟩
end
def jcF (ps:List (Nat × List Nat)) (K:Nat->Bool):Nat->List (Nat × List Nat)
 | 0=>[]
 | k + 1=>if K k then jcF ps K k ++ [ps.getD k (0,[])] else jcF ps K k
theorem jgE (ps:List (Nat × List Nat)) (keep:List Bool):∀ k,jcF ps (fun i=>keep.getD i false) k=jgP ps keep k
 | 0=>rfl
 | k + 1=>by unfold jcF jgP;rw [jgE ps keep k]
theorem jhw (ps:List (Nat × List Nat)):∀ k,k<=ps.length->jcF ps (fun _=>true) k=ps.take k
 | 0,_=>by simp [jcF]
 | k + 1,hk=>by
  unfold jcF;rw [jhw ps k (by omega),if_pos rfl,List.take_add_one,List.getD_eq_getElem?_getD,List.getElem?_eq_getElem (by omega)];rfl
theorem jmh {s:Dk} (h:s.ok) (K:Nat->Bool):∀ k,k<=s.pend.length->(∀ i,i < s.last.length->Sec ((jdl (jcF s.pend K k) s.last).getD i []))/\(jdl (jcF s.pend K k) s.last).length=s.last.length
 | 0,_=>⟨h.sec,rfl⟩
 | k + 1,hk=>by
  obtain ⟨h1,h2⟩:=jmh h K k (by omega);refine ⟨fun i hi=>?_,jcI _ _⟩;unfold jcF;split
  ·rw [jhj,jd9 _ _ _ _ (by rw [h2];exact hi)];split
   ·exact (h.pen k (by omega)).2
   ·exact h1 i hi
  ·exact h1 i hi
theorem jlg {ps:List (Nat × List Nat)} {K:Nat->Bool} {k:Nat} (l:List (List Nat)):jdl (jcF ps K (k + 1)) l=if K k=true then (jdl (jcF ps K k) l).set (ps.getD k (0,[])).1 (ps.getD k (0,[])).2 else jdl (jcF ps K k) l:=by
 show jdl (if K k=true then _ else _) l=_;split
 ·rw [jhj]
 ·rfl
theorem Tryz.infoWz:(Tryz.prog.info? 105).map (fun i=>(i.zero,i.size))=some (some (.agg (wrV (0,jas)).toArray),65):=by kernel_rfl
theorem jqG (w:World):(zeroValue 105).run Tryz.prog w=.ok (.agg (wrV (0,jas)).toArray) w:=(zero_of_info Tryz.infoWz).1 w
theorem jll (q:Nat × List Nat):(wrV q).toArray.all (·.oneCell')=true:=by
 rw [Array.all_eq_true_iff_forall_mem];intro v hv;simp only [wrV,List.mem_toArray,List.mem_append,List.mem_singleton] at hv;rcases hv with hv | rfl
 ·have h:=jjO q.2;rw [Array.all_eq_true_iff_forall_mem] at h;exact h v (by simpa using hv)
 ·rfl
section
variable {w w':World} {p gl gn:Nat} {V:Value} {z:Int} {DL:DataW Value} {DN:DataW Unit} {s:Dk}
theorem jak.settled (h:jak w p gl gn V z DL DN s) {DN':DataW Unit} (hm:jgy DN' []) (ho:w'.ownsMap Tryz.prog 3 (plainElem Tryz.prog 3) gn 0 DN') (ht:(w.setCell ⟨p,2,none⟩ (.slice none 0 0)).mapTurned w' gn) :
  jak w' p gl gn (.slice none 0 0) z DL DN' ⟨s.last,[],s.lim,s.off⟩ :=
 ⟨⟨h.ok.pos,h.ok.le,h.ok.sec,fun i hi=>absurd hi (by simp)⟩,(jbm ht h.a1.2.1).trans (jaC w p 2 _ _ _ h.box),jdf h.last ((jbm ht h.a1.2.2).trans (jah w p gl 2 _ h.a1.1)),h.lsays,ho,hm,World.ownsRow_nil _ _ _ _,h.lim,h.zi,h.a1,⟨by simp [Value.ownBlock],by simp [Value.ownBlock],by simp [Value.ownBlock]⟩⟩
theorem jhK (h:jak w p gl gn V z DL DN s) (fid:FuncId) (cap:Array Value) (K:Nat->Bool) (he:∀ args w,(callFunc fid args).run Tryz.prog w=.ok (.enter fid args) w)
  (hf:∀ (i:Nat) (W:World),i < s.pend.length->jaM (jbh p gl gn V) w W->Calls Tryz.prog fid (#[.int .i64 (i:Int)] ++ cap) W fun e w'=>e=.returned (.bool (K i))/\w'=W) :
  Calls Tryz.prog 31 #[.pointer (some ⟨p,0,none⟩),.func (.func fid) #[] cap] w fun e w'=>e=.returned (.tuple #[])/\(∃ DL' DN',jak w' p gl gn (.slice none 0 0) z DL' DN' ⟨jdl (jcF s.pend K s.pend.length) s.last,[],s.lim,s.off⟩)/\jaM (jbh p gl gn V) w w':=by
 obtain ⟨A,c,hV,hm1,hm2⟩:=h.len;obtain ⟨_,_,c2,_⟩:=h.cells;rw [hV] at c2;have HV:=Lib.hid hV;have HF:=Lib.hid hf;have HK:=Lib.hid (jmh h.ok K);have HP:=Lib.hid h.ok.pen;have HR0:Hid (jak w p gl gn V z DL DN ⟨jdl (jcF s.pend K 0) s.last,s.pend,s.lim,s.off⟩):=h;obtain ⟨N,hN⟩:∃ N,N=s.pend.length:=⟨_,rfl⟩;have HN:=Lib.hid hN;have n1:(N:Int)<=9223372036854775807:=by unfold maxLen at hm2;omega
 rw [<- hN] at c2 HV ⊢;have hu:=Tryz.undW;obtain ⟨dW,hdW,hrow⟩:=hu;obtain ⟨Z,hZ⟩:∃ Z,Z=(wrV (0,jas)).toArray:=⟨_,rfl⟩;have hzv:∀ W:World,(zeroValue 105).run Tryz.prog W=.ok (.agg Z) W:=fun W=>by rw [hZ];exact jqG W
 have hZs:Hid (Z.size=65):=by unfold Hid;rw [hZ];rfl
 have eg:=he;clear h hV hf hN hm1 hm2 hZ;go_enter Tryz.func31,Tryz.ntmps31;go_wp2
 go_loopw [11] (fun i wr=>∃ k:Nat,k<=N/\i=.int .i64 k/\Hid (∃ DL',jak wr p gl gn V z DL' DN ⟨jdl (jcF s.pend K k) s.last,s.pend,s.lim,s.off⟩)/\Hid (jaM (jbh p gl gn V) w wr)) (fun i _=>N - (intOf i).toNat)
 case atStart=>exact ⟨0,Nat.zero_le _,rfl,⟨_,HR0.out⟩,jaM.refl _ _⟩
 case round =>
  obtain ⟨k,hk,rfl,hr,ha⟩:=hrel;by_cases hlt:k < N
  ·obtain ⟨DL1,h1⟩:=hr.out;have hj:k < s.pend.length:=by have:=HN.out;omega
   obtain ⟨g,c',hV',hr1,_⟩:=h1.write hj
   obtain ⟨rfl,rfl⟩:A=some ⟨g,0,none⟩/\c'=c:=by
    have e:=HV.out.symm.trans hV';injection e with e1 e2 e3
    exact ⟨e1,e3.symm⟩
   have k1:(k:Int) < (N:Int):=by omega
   have k0:(0:Int)<=(k:Int):=by omega
   have HL:=Lib.hid hr1;obtain ⟨q,hq⟩:∃ q,q=s.pend.getD k (0,[]):=⟨_,rfl⟩;have hq2:=Lib.hid (HP.out k hj);rw [<- hq] at hq2;simp only [<- hq] at HL;have hinW:(Tryz.prog.info? 105).map (·.size)=some (wrV q).length:=by rw [jfT hq2.out.2.1];exact Tryz.infW
   have hinW2:(Tryz.prog.info? 105).map (·.size)=some (wrV q).toArray.size:=by rw [List.size_toArray];exact hinW
   have hZC:Z.size=(wrV q).toArray.size:=by rw [hZs.out,List.size_toArray,jfT hq2.out.2.1]
   have hone:=jll q;have hb0:Hid (Below wr.heap.size wr (wr.alloc (.cells Z 105))):=(Below.refl _ _).alloc (Nat.le_refl _) _;have hnew:=heap_alloc_new wr (.cells Z 105);have HL0:Hid ((wr.alloc (.cells Z 105)).rangeAt g (k * 65) (wrV q)):=World.rangeAt_alloc HL.out _;have HNX:=Lib.hid (jlg (ps:=s.pend) (K:=K) (k:=k) s.last);rw [<- hq] at HNX;have H1:=Lib.hid h1;have HQ:=Lib.hid hq;clear hr hV' hr1 h1 hq HR0;obtain ⟨kb,hkb⟩:∃ kb,kb=K k:=⟨_,rfl⟩;have HFk:=Lib.hid (HF.out k);rw [<- hkb] at HFk HNX;have HKB:=Lib.hid hkb;clear hkb;obtain ⟨C,hC⟩:∃ C,C=(wrV q).toArray:=⟨_,rfl⟩;rw [<- hC] at hinW2 hZC hone;have HC:=Lib.hid hC
   have HKG:Hid (∀ W DLx,jak W p gl gn V z DLx DN ⟨jdl (jcF s.pend K k) s.last,s.pend,s.lim,s.off⟩->Calls Tryz.prog 52 #[.pointer (some ⟨p,0,none⟩),.agg C] W fun e w'=>e=.returned (.tuple #[])/\(∃ DL',jak w' p gl gn V z DL' DN ⟨(jdl (jcF s.pend K k) s.last).set q.1 q.2,s.pend,s.lim,s.off⟩)/\jaM (jbh p gl gn V) W w'):=fun W DLx hx=>by
    rw [HC.out];exact jo2 hx q.1 (by have:=(HK.out k (Nat.le_of_lt hj)).2;show q.1 < (jdl _ _).length;rw [this];exact hq2.out.1) q.2 hq2.out.2
   clear hC;cases kb with
   | true =>
    go_wp2_with (first
     | (refine wpList_load_mid rfl 105 _ rfl g (k * 65) (by first | rfl | simp) (wrV q) dW HL.out hdW hrow hinW ?_;rw [<- HC.out])
     | (refine jad rfl 105 _ _ rfl wr.heap.size C rfl rfl 105 Z hnew hinW2 hZC hone hb0.out (Nat.le_refl _) ?_;intro W2 hW2 hb2 hk2 hs2)
     | (go_at_fn fid;with_reducible (refine Calls.mono (HFk.out W2 (by have:=HN.out;omega) (jgJ ha.out hb2)) ?_);rintro e w2 ⟨rfl,rfl⟩)
     | (refine wpList_load_mid rfl 105 _ rfl wr.heap.size 0 (by first | rfl | simp) (wrV q) dW (jdo hW2 (fun j v hv=>by rw [HC.out,List.getElem?_toArray];exact hv)) hdW hrow hinW ?_;rw [<- HC.out])
     | (go_at_call 52;with_reducible (refine Calls.mono (HKG.out _ _ (H1.out.later hb2)) ?_);rintro e w3 ⟨rfl,hr3,ha3⟩))
    have R:Hid (∃ DL',jak w3 p gl gn V z DL' DN ⟨jdl (jcF s.pend K (k + 1)) s.last,s.pend,s.lim,s.off⟩):=by
     unfold Hid;rw [HNX.out];simp only [if_true];exact hr3
    have RA:Hid (jaM (jbh p gl gn V) w w3):=jhf (jgJ ha.out hb2) ha3 (fun b q=>.inl q);clear hr3 ha3;go_roundw
    case rel=>exact ⟨k + 1,by omega,by go_num,R,RA⟩
    case measure=>simp [intOf];omega
   | false =>
    go_wp2_with (first
     | (refine wpList_load_mid rfl 105 _ rfl g (k * 65) (by first | rfl | simp) (wrV q) dW HL.out hdW hrow hinW ?_;rw [<- HC.out])
     | (refine jad rfl 105 _ _ rfl wr.heap.size C rfl rfl 105 Z hnew hinW2 hZC hone hb0.out (Nat.le_refl _) ?_;intro W2 hW2 hb2 hk2 hs2)
     | (go_at_fn fid;with_reducible (refine Calls.mono (HFk.out W2 (by have:=HN.out;omega) (jgJ ha.out hb2)) ?_);rintro e w2 ⟨rfl,rfl⟩))
    have R:Hid (∃ DL',jak w2 p gl gn V z DL' DN ⟨jdl (jcF s.pend K (k + 1)) s.last,s.pend,s.lim,s.off⟩):=by
     unfold Hid;rw [HNX.out];simp only [Bool.false_eq_true,if_false];exact ⟨_,H1.out.later hb2⟩
    have RA:Hid (jaM (jbh p gl gn V) w w2):=jgJ ha.out hb2;go_roundw
    case rel=>exact ⟨k + 1,by omega,by go_num,R,RA⟩
    case measure=>simp [intOf];omega
  ·have hkN:k=N:=by omega
   have k1:¬ (k:Int) < (N:Int):=by omega
   obtain ⟨DL1,h1⟩:=hr.out;obtain ⟨_,_,d2,d3,_⟩:=h1.cells;have f2:=h1.thaw 2;have hown:Hid ((wr.setCell ⟨p,2,none⟩ (.slice none 0 0)).ownsMap Tryz.prog 3 (plainElem Tryz.prog 3) gn s.pend.length DN):=h1.new.setCell (Ne.symm h1.a1.2.1) _
   have HE:Hid (∀ W',W'.ownsMap Tryz.prog 3 (plainElem Tryz.prog 3) gn 0 (.map []:DataW Unit)->(wr.setCell ⟨p,2,none⟩ (.slice none 0 0)).mapTurned W' gn->(∃ DL' DN',jak W' p gl gn (.slice none 0 0) z DL' DN' ⟨jdl (jcF s.pend K N) s.last,[],s.lim,s.off⟩)/\jaM (jbh p gl gn V) w W'):=fun W' q1 q2=>by
    rw [<- hkN];exact ⟨⟨_,_,h1.settled jfK q1 q2⟩,jgS (ha.out.set jdL _ _) q2 jma⟩
   clear h1 hr HR0 hkN
   go_wp2_with (refine jgR (H:=Unit) rfl _ 59 rfl _ Tryz.undMapN rfl hown.out ?_;intro w4 ho4 ht4)
   exact bodyPost_end (results_none rfl _ _ _) rfl ⟨rfl,HE.out _ ho4 ht4⟩
end
section
variable {w:World} {p gl gn:Nat} {V:Value} {z:Int} {DL:DataW Value} {DN:DataW Unit} {s:Dk}
theorem jnv (h:jak w p gl gn V z DL DN s) (b0 b1 b2:Nat) (n:Int) (hb0:w.cell? ⟨b0,0,none⟩=some (.pointer (some ⟨p,0,none⟩))) (hb1:w.cell? ⟨b1,0,none⟩=some (.int .i64 n)) (hE:jcR s n≠0) :
  Calls Tryz.prog 138 #[.pointer (some ⟨b0,0,none⟩),.pointer (some ⟨b1,0,none⟩),.pointer (some ⟨b2,0,none⟩)] w fun e w'=>e=.panicked (upV (jcR s n))/\w'=w:=by
 obtain ⟨_,_,_,_,_,c5⟩:=h.cells;have hnot:∀ (x:Bool) (w:World),(Op.unary .not (.bool x)).run Tryz.prog w=.ok (.bool (!x)) w:=fun _ _=>rfl
 cases ho:s.off with
 | true =>
  have e:jcR s n=8:=by unfold jcR;rw [ho];rfl
  rw [e];rw [ho] at c5;clear h hE e;go_enter Tryz.func138,Tryz.ntmps138
  go_wp2_with (go_at_call 55;with_reducible (refine Calls.mono (jch _ _) ?_);rintro e w1 ⟨rfl,rfl⟩)
  exact ⟨rfl,rfl,rfl⟩
 | false =>
  have hout:je6 s n:=by
   unfold jcR at hE;rw [ho,if_neg (by decide)] at hE;by_cases q:je6 s n
   ·exact q
   ·rw [if_neg q] at hE;exact absurd rfl hE
  have e:jcR s n=7:=by unfold jcR;rw [ho,if_neg (by decide),if_pos hout]
  rw [e];rw [ho] at c5;have HH:=Lib.hid (jlW h n hout);clear h hE e hout;go_enter Tryz.func138,Tryz.ntmps138
  go_wp2_with (first
   | (go_at_call 56;with_reducible (refine Calls.mono HH.out ?_);rintro e w1 ⟨rfl,rfl⟩;have h7:=hnot)
   | (go_at_call 55;have h7':=h7;with_reducible (refine Calls.mono (jch _ _) ?_);rintro e w1 ⟨rfl,rfl⟩)
   | (go_at_call 55;with_reducible (refine Calls.mono (jbs _ _) ?_);rintro e w1 ⟨rfl,rfl⟩))
  exact ⟨rfl,rfl,rfl⟩
theorem jnk (h:jak w p gl gn V z DL DN s) (b0 b1 b2 i:Nat) (hb0:w.cell? ⟨b0,0,none⟩=some (.pointer (some ⟨p,0,none⟩))) (hb1:w.cell? ⟨b1,0,none⟩=some (.int .i64 (i:Int))) (hb2:w.heap[b2]? = some (.cells #[.slice none 0 0] 54 (0,0))) (hE:jcR s (i:Int)=0) :
  Calls Tryz.prog 138 #[.pointer (some ⟨b0,0,none⟩),.pointer (some ⟨b1,0,none⟩),.pointer (some ⟨b2,0,none⟩)] w fun e w'=>e=.returned (.tuple #[]) /\
   ∃ W,Below w.heap.size w W/\w'=(W.alloc (.cells (BA (jjQ s i)) 103)).setCell ⟨b2,0,none⟩ (.slice (some ⟨W.heap.size,0,none⟩) 64 64):=by
 obtain ⟨_,_,_,_,_,c5⟩:=h.cells
 have ho:s.off=false:=by
  cases q:s.off
  ·rfl
  ·unfold jcR at hE;rw [q] at hE;cases hE
 have hout:¬ je6 s (i:Int):=fun q=>by unfold jcR at hE;rw [ho,if_neg (by decide),if_pos q] at hE;cases hE
 have hi:i < s.last.length:=by unfold je6 at hout;omega
 rw [ho] at c5;have HH:=Lib.hid (jgY h (i:Int) hout);have HNW:=Lib.hid (jqr h i hi);obtain ⟨t,ht⟩:∃ t,t=jjQ s i:=⟨_,rfl⟩;have htl:t.length=64:=by rw [ht];exact (jib h.ok hi).1
 rw [<- ht] at HNW ⊢;have HBY:=Lib.hid (jj5 t htl);have hlt:=(Array.getElem?_eq_some_iff.1 hb2).1
 have HS:Hid (∀ W:World,Below w.heap.size w W->(W.alloc (.cells (BA t) 103)).cell? ⟨b2,0,none⟩=some (.slice none 0 0)/\(W.alloc (.cells (BA t) 103)).frozen? ⟨b2,0,none⟩=false):=fun W hb=>by
  have hq:(W.alloc (.cells (BA t) 103)).heap[b2]? = some (.cells #[.slice none 0 0] 54 (0,0)):=(Below.heap_alloc _ _ _ (Nat.lt_of_lt_of_le hlt hb.size)).trans ((hb.block b2 hlt).trans hb2);exact ⟨cell_of_row _ _ _ _ _ _ hq,frozen_of_row _ _ _ _ _ hq⟩
 obtain ⟨T,hT⟩:∃ T,T=BA t:=⟨_,rfl⟩;rw [<- hT] at HBY HS ⊢;clear h hE hout hi ho ht htl hT hlt hb2;go_enter Tryz.func138,Tryz.ntmps138
 go_wp2_with (first
  | (go_at_call 56;with_reducible (refine Calls.mono HH.out ?_);rintro e w1 ⟨rfl,rfl⟩)
  | (go_at_call 55;with_reducible (refine Calls.mono (jbs _ _) ?_);rintro e w1 ⟨rfl,rfl⟩)
  | (go_at_call 139;with_reducible (refine Calls.mono HNW.out ?_);rintro e w1 ⟨rfl,hb1⟩)
  | (go_at_call 57;with_reducible (refine Calls.mono (HBY.out _) ?_);rintro e w2 ⟨rfl,rfl⟩;have y1:=(HS.out _ hb1).1;have y2:=(HS.out _ hb1).2))
 exact bodyPost_end (results_none rfl _ _ _) rfl ⟨rfl,_,hb1,rfl⟩
theorem jnU (h:jak w p gl gn V z DL DN s) (b0 b1 b2:Nat) (n:Int) (hb0:w.cell? ⟨b0,0,none⟩=some (.pointer (some ⟨p,0,none⟩))) (hb1:w.cell? ⟨b1,0,none⟩=some (.int .i64 n)) (hE:jds s n≠0) :
  Calls Tryz.prog 54 #[.pointer (some ⟨b0,0,none⟩),.pointer (some ⟨b1,0,none⟩),.pointer (some ⟨b2,0,none⟩)] w fun e w'=>e=.panicked (upV (jds s n))/\w'=w:=by
 have hout:je6 s n:=by
  unfold jds at hE;by_cases q:je6 s n
  ·exact q
  ·rw [if_neg q] at hE;exact absurd rfl hE
 have e:jds s n=7:=by unfold jds;rw [if_pos hout]
 rw [e];have HH:=Lib.hid (jlW h n hout);clear h hE e hout;go_enter Tryz.func54,Tryz.ntmps54
 go_wp2_with (first
  | (go_at_call 56;with_reducible (refine Calls.mono HH.out ?_);rintro e w1 ⟨rfl,rfl⟩)
  | (go_at_call 55;with_reducible (refine Calls.mono (jch _ _) ?_);rintro e w1 ⟨rfl,rfl⟩))
 exact ⟨rfl,rfl,rfl⟩
theorem jm7 (h:jak w p gl gn V z DL DN s) (b0 b1 b2 i:Nat) (hb0:w.cell? ⟨b0,0,none⟩=some (.pointer (some ⟨p,0,none⟩))) (hb1:w.cell? ⟨b1,0,none⟩=some (.int .i64 (i:Int))) (hb2:w.heap[b2]? = some (.cells #[.slice none 0 0] 54 (0,0))) (hE:jds s (i:Int)=0) (hne:b2≠b0/\b2≠b1/\b2≠p) :
  Calls Tryz.prog 54 #[.pointer (some ⟨b0,0,none⟩),.pointer (some ⟨b1,0,none⟩),.pointer (some ⟨b2,0,none⟩)] w fun e w'=>e=.returned (.tuple #[]) /\
   ∃ W,Below w.heap.size w W/\w'=(W.alloc (.cells (BA (s.last.getD i [])) 103)).setCell ⟨b2,0,none⟩ (.slice (some ⟨W.heap.size,0,none⟩) 64 64):=by
 obtain ⟨_,c1,_,_,_,_⟩:=h.cells;have hout:¬ je6 s (i:Int):=fun q=>by unfold jds at hE;rw [if_pos q] at hE;cases hE
 have hi:i < s.last.length:=by unfold je6 at hout;omega
 have HH:=Lib.hid (jgY h (i:Int) hout);obtain ⟨t,ht⟩:∃ t,t=s.last.getD i []:=⟨_,rfl⟩;have htl:t.length=64:=by rw [ht];exact (h.ok.sec i hi).1
 have hi6:(i:Int) < 4096:=by have:=h.ok.le;omega
 have hrunA:∀ W:World,W.heap=w.heap->(Instr.lookup 58 (.map (some gl)) (.int .i64 (i:Int)) false).run Tryz.prog W=.ok (jfc t) W:=fun W hW=>by
  have hl:=jdf (w':=W) h.last (by rw [hW]);obtain ⟨v,ps,hrun,hR⟩:=hl.lookup joK Tryz.undMapL (jlh W) (zd:=.held (jfc jas)) (zp:=[]) rfl (jjN (x:=(i:Int)) (by unfold jeI;omega));rw [h.lsays.here i hi,<- ht] at hR
  have hv:v=jfc t:=by
   unfold jc8 at hR;injection hR with hR
   injection hR with hR _
   injection hR
  rw [hrun,hv]
 rw [<- ht];have HBY:=Lib.hid (jj5 t htl);have hlt:=(Array.getElem?_eq_some_iff.1 hb2).1;have c20:w.cell? ⟨b2,0,none⟩=some (.slice none 0 0):=cell_of_row _ _ _ _ _ _ hb2;have hrun:=hrunA w.drew rfl;have hq:(w.alloc (.cells (BA t) 103)).heap[b2]? = some (.cells #[.slice none 0 0] 54 (0,0)):=(Below.heap_alloc w _ _ hlt).trans hb2;have y1:(w.alloc (.cells (BA t) 103)).cell? ⟨b2,0,none⟩=some (.slice none 0 0):=cell_of_row _ _ _ _ _ _ hq;have y2:(w.alloc (.cells (BA t) 103)).frozen? ⟨b2,0,none⟩=false:=frozen_of_row _ _ _ _ _ hq;have y3:(w.drew.alloc (.cells (BA t) 103)).cell? ⟨b2,0,none⟩=some (.slice none 0 0):=y1;have y4:(w.drew.alloc (.cells (BA t) 103)).frozen? ⟨b2,0,none⟩=false:=y2;have hb:Hid (Below w.heap.size w w.drew):=(Below.refl _ _).drew;unfold jfc at hrun HBY
 have HS:Hid (∀ W:World,W.heap=w.heap∨W.heap=(w.alloc (.cells (BA t) 103)).heap∨W.heap=((w.alloc (.cells (BA t) 103)).setCell ⟨b2,0,none⟩ (.slice (some ⟨w.heap.size,0,none⟩) 64 64)).heap->W.cell? ⟨b0,0,none⟩=some (.pointer (some ⟨p,0,none⟩))/\W.cell? ⟨p,1,none⟩=some (.map (some gl))/\W.cell? ⟨b1,0,none⟩=some (.int .i64 (i:Int))):=fun W q=>by
  have l0:=World.block_lt_of_cell? w _ hb0;have l1:=World.block_lt_of_cell? w _ hb1;have lp:=World.block_lt_of_cell? w _ c1
  have key:∀ b,b < w.heap.size->b2≠b->W.heap[b]? = w.heap[b]?:=fun b hb hn=>by
   rcases q with q | q | q
   ·rw [q]
   ·rw [q];exact Below.heap_alloc w _ _ hb
   ·rw [q];exact (jah _ _ _ _ _ hn).trans (Below.heap_alloc w _ _ hb)
  exact ⟨(World.cell?_of_block (key b0 l0 hne.1)).trans hb0,(World.cell?_of_block (key p lp hne.2.2)).trans c1,(World.cell?_of_block (key b1 l1 hne.2.1)).trans hb1⟩
 obtain ⟨T,hT⟩:∃ T,T=BA t:=⟨_,rfl⟩;rw [<- hT] at HBY y1 y2 y3 y4 hrun HS ⊢;clear h hE hout hi ht htl hT hlt hb2 hq hrunA hne;go_enter Tryz.func54,Tryz.ntmps54
 go_wp2_with (first
  | (go_at_call 56;with_reducible (refine Calls.mono HH.out ?_);rintro e w1 ⟨rfl,rfl⟩)
  | (go_at_call 55;with_reducible (refine Calls.mono (jbs _ _) ?_);rintro e w1 ⟨rfl,rfl⟩))
 go_region_held3 (fun W=>W.cell? ⟨b0,0,none⟩=some (.pointer (some ⟨p,0,none⟩))/\W.cell? ⟨p,1,none⟩=some (.map (some gl))/\W.cell? ⟨b1,0,none⟩=some (.int .i64 (i:Int)))
  (first
   | exact HS.out _ (.inl rfl)
   | exact HS.out _ (.inr (.inl rfl))
   | exact HS.out _ (.inr (.inr rfl)))
  (first
   | (go_at_call 57;with_reducible (refine Calls.mono (HBY.out _) ?_);rintro e w2 ⟨rfl,rfl⟩))
 exact bodyPost_end (results_none rfl _ _ _) rfl ⟨rfl,_,hb.out,rfl⟩
end
theorem jp4 (i:Nat) (w:World):Calls Tryz.prog 121 #[.int .i64 (i:Int)] w fun e w'=>e=.returned (.bool true)/\w'=w:=by
 go_enter Tryz.func121,Tryz.ntmps121;go_wp2;go_ret;exact ⟨rfl,rfl⟩
theorem jl1 (b0 c B:Nat) (A:Option Addr) (l:List Bool) (w:World) (hb0:w.cell? ⟨b0,0,none⟩=some (.slice A l.length c)) (hB:jdm w B A l) (i:Nat) :
  Calls Tryz.prog 32 (#[.int .i64 (i:Int)] ++ #[.pointer (some ⟨b0,0,none⟩)]) w fun e w'=>e=.returned (.bool (l.getD i false))/\w'=w:=by
 obtain ⟨N,hN⟩:∃ N,N=l.length:=⟨_,rfl⟩;rw [<- hN] at hb0;by_cases hi:i < l.length
 ·obtain ⟨b,o,rfl,_,hc⟩:=hB i hi;have k0:(0:Int)<=(i:Int):=by omega
  have k1:(i:Int) < (N:Int):=by omega
  obtain ⟨v,hv⟩:∃ v,v=l.getD i false:=⟨_,rfl⟩;rw [<- hv] at hc ⊢;clear hB hN hi hv;go_enter Tryz.func32,Tryz.ntmps32;go_wp2;go_ret;exact ⟨rfl,rfl⟩
 ·have k1:¬ (i:Int) < (N:Int):=by omega
  have e:l.getD i false=false:=by rw [List.getD_eq_getElem?_getD,List.getElem?_eq_none (by omega)];rfl
  rw [e];clear hB hN hi e;go_enter Tryz.func32,Tryz.ntmps32;go_wp2;go_ret;exact ⟨rfl,rfl⟩
section
variable {w:World} {p gl gn:Nat} {V:Value} {z:Int} {DL:DataW Value} {DN:DataW Unit} {s:Dk}
theorem jhE {s:Dk} (h:jbV s=0):(jaT s).off=s.off/\(jaT s).last=s.last/\(jaT s).pend=s.pend:=by
 unfold jaT;split
 ·rename_i q;unfold jbV at h;rw [if_pos q] at h;cases h
 ·exact ⟨rfl,rfl,rfl⟩
theorem jii (s:Dk):jbV s=0∨jbV s=8:=by unfold jbV;split <;> simp
theorem jmL (h:jak w p gl gn V z DL DN s) (b0:Nat) (hb0:w.cell? ⟨b0,0,none⟩=some (.pointer (some ⟨p,0,none⟩))) (hE:jbu s≠0) :
  Calls Tryz.prog 120 #[.pointer (some ⟨b0,0,none⟩)] w fun e w'=>e=.panicked (upV (jbu s))/\(jak w' p gl gn V z DL DN (jbD s)/\jaM (jbh p gl gn V) w w'):=by
 obtain ⟨_,_,_,_,_,c5⟩:=h.cells;have hnot:∀ (x:Bool) (w:World),(Op.unary .not (.bool x)).run Tryz.prog w=.ok (.bool (!x)) w:=fun _ _=>rfl
 cases ho:s.off with
 | true =>
  have e:jbu s=8:=by unfold jbu;rw [ho];rfl
  have e2:jbD s=s:=by unfold jbD;rw [ho];rfl
  rw [e,e2];rw [ho] at c5;have R:=Lib.hid (And.intro h (jaM.refl (jbh p gl gn V) w));clear h hE e e2;go_enter Tryz.func120,Tryz.ntmps120
  go_wp2_with (go_at_call 55;with_reducible (refine Calls.mono (jch _ _) ?_);rintro e w1 ⟨rfl,rfl⟩)
  exact ⟨rfl,rfl,R.out⟩
 | false =>
  have hs:jbV s≠0:=fun q=>by unfold jbu at hE;rw [ho,if_neg (by decide)] at hE;exact hE q
  have e:jbu s=8:=by unfold jbu;rw [ho,if_neg (by decide)];exact (jii s).resolve_left hs
  have e2:jbD s=jaT s:=by unfold jbD;rw [ho,if_neg (by decide),if_neg hs]
  rw [e,e2];rw [ho] at c5;have HSP:=Lib.hid (jfr h hs);obtain ⟨s2,hs2⟩:∃ s2,s2=jaT s:=⟨_,rfl⟩;rw [<- hs2] at HSP ⊢;clear h hE e e2 hs hs2;go_enter Tryz.func120,Tryz.ntmps120
  go_wp2_with (first
   | (go_at_call 119;with_reducible (refine Calls.mono HSP.out ?_);rintro e w1 ⟨rfl,hr1,ha1⟩)
   | (go_at_call 55;with_reducible (refine Calls.mono (jbs _ _) ?_);rintro e w1 ⟨rfl,rfl⟩))
  exact ⟨rfl,rfl,hr1,ha1⟩
theorem jmE (h:jak w p gl gn V z DL DN s) (b0:Nat) (hb0:w.cell? ⟨b0,0,none⟩=some (.pointer (some ⟨p,0,none⟩))) (hn:¬ jbh p gl gn V b0) (hE:jbu s=0) :
  Calls Tryz.prog 120 #[.pointer (some ⟨b0,0,none⟩)] w fun e w'=>e=.returned (.tuple #[])/\((∃ z' DL' DN',jak w' p gl gn (.slice none 0 0) z' DL' DN' (jbD s))/\jaM (jbh p gl gn V) w w'):=by
 obtain ⟨_,_,_,_,_,c5⟩:=h.cells;have hnot:∀ (x:Bool) (w:World),(Op.unary .not (.bool x)).run Tryz.prog w=.ok (.bool (!x)) w:=fun _ _=>rfl
 have ho:s.off=false:=by
  cases q:s.off
  ·rfl
  ·unfold jbu at hE;rw [q] at hE;cases hE
 have hs:jbV s=0:=by unfold jbu at hE;rw [ho,if_neg (by decide)] at hE;exact hE
 have e2:jbD s=⟨jdl s.pend s.last,[],(jaT s).lim,false⟩:=by unfold jbD;rw [ho,if_neg (by decide),if_pos hs,(jhE hs).1,ho]
 rw [e2];rw [ho] at c5;have HSP:=Lib.hid (jfG h hs);have HC:Hid (∀ W,jaM (jbh p gl gn V) w W->W.cell? ⟨b0,0,none⟩=some (.pointer (some ⟨p,0,none⟩))):=fun W ha=>(ha.cell (World.block_lt_of_cell? w _ hb0) hn).trans hb0
 have HST:Hid (∀ W z',jak W p gl gn V z' DL DN ⟨s.last,s.pend,(jaT s).lim,false⟩->jaM (jbh p gl gn V) w W->Calls Tryz.prog 31 #[.pointer (some ⟨p,0,none⟩),.func (.func 121) #[] #[]] W fun e w'=>e=.returned (.tuple #[])/\(∃ z' DL' DN',jak w' p gl gn (.slice none 0 0) z' DL' DN' ⟨jdl s.pend s.last,[],(jaT s).lim,false⟩)/\jaM (jbh p gl gn V) w w'):=fun W z' hW ha=>by
  refine (jhK hW 121 #[] (fun _=>true) (fun args w=>by kernel_rfl) (fun i W' _ _=>jp4 i W')).mono ?_;rintro e w' ⟨q1,⟨DL',DN',q2⟩,q3⟩;rw [jhw _ _ (Nat.le_refl _),List.take_length] at q2;exact ⟨q1,⟨z',DL',DN',q2⟩,jhf ha q3 (fun _ q=>.inl q)⟩
 obtain ⟨s2,hs2⟩:∃ s2,s2=(⟨jdl s.pend s.last,[],(jaT s).lim,false⟩:Dk):=⟨_,rfl⟩;rw [<- hs2];simp only [<- hs2] at HST;clear h hE e2 hs hs2 hn;go_enter Tryz.func120,Tryz.ntmps120
 go_wp2_with (first
  | (go_at_call 119;with_reducible (refine Calls.mono HSP.out ?_);rintro e w1 ⟨rfl,⟨z1,hr1⟩,ha1⟩;have y0:=HC.out _ ha1)
  | (go_at_call 31;with_reducible (refine Calls.mono (HST.out _ _ hr1 ha1) ?_);rintro e w2 ⟨rfl,hr2,ha2⟩)
  | (go_at_call 55;with_reducible (refine Calls.mono (jbs _ _) ?_);rintro e w1 ⟨rfl,rfl⟩))
 exact bodyPost_end (results_none rfl _ _ _) rfl ⟨rfl,hr2,ha2⟩
end
end Go.Proofs.YtbnhkplhmanmoaaGreat
