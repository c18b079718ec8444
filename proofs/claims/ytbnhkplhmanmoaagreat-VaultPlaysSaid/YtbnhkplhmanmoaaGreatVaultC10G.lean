/- . -/
import Derived.Test.YtbnhkplhmanmoaaGreatTkG
import Derived.Test.YtbnhkplhmanmoaaGreatVaultC9G
import Derived.Defers
namespace Go.Proofs.YtbnhkplhmanmoaaGreat
open Go.RowKit
set_option maxHeartbeats 6400000
set_option maxRecDepth 20000
theorem jfx:∀ {ts:List (List Rc)},(∀ r∈ts,r≠[])->ts.length<=ts.flatten.length
 | [],_=>Nat.le_refl _
 | r :: ts,h=>by
  have:=jfx (ts:=ts) fun x hx=>h x (List.mem_cons_of_mem _ hx)
  have:=List.length_pos_iff.2 (h r (List.mem_cons_self ..));rw [List.flatten_cons,List.length_append,List.length_cons];omega
theorem jcT {lo lo':Nat} {V:jat} (h:lo<=lo') (hf:jay lo' V):jay lo V:=fun a ha=>Nat.le_trans h (hf a ha)
def joU (W1 Z:World) (bz:Nat) (V:jat) (t:Tab):Prop :=
 Below W1.heap.size W1 Z/\Z.heap[bz]? = some (.cells #[.slice V.A1 t.ts.length V.c1,.slice V.A2 t.vs.length V.c2,.slice V.A3 t.os.length V.c3] 35 (0,0))/\jao Z Z.heap.size V t/\jay W1.heap.size V/\W1.heap.size<=bz
theorem jlV {W1 X w4:World} {bz:Nat} {V:jat} {t:Tab} (hb:Below W1.heap.size W1 w4) (hz:w4.heap[bz]? = some (.cells #[.slice none 0 0,.slice none 0 0,.slice none 0 0] 35 (0,0))) (h1:W1.heap.size<=bz) (h2:bz < X.heap.size) (hT:jao w4 w4.heap.size V t) (hF:jay X.heap.size V) (hF2:jay W1.heap.size V) :
  joU W1 (((w4.setCell ⟨bz,0,none⟩ (.slice V.A1 t.ts.length V.c1)).setCell ⟨bz,1,none⟩ (.slice V.A2 t.vs.length V.c2)).setCell ⟨bz,2,none⟩ (.slice V.A3 t.os.length V.c3)) bz V t:=by
 have hs:=jd4 (.slice V.A1 t.ts.length V.c1) (.slice V.A2 t.vs.length V.c2) (.slice V.A3 t.os.length V.c3) hz;exact ⟨jae hb hs.2 hb.size h1,hs.1,(hT.other hF h2 fun k hk=>jaq bz k hk [.slice V.A1 t.ts.length V.c1,.slice V.A2 t.vs.length V.c2,.slice V.A3 t.os.length V.c3] 0 w4).more hs.2.size,hF2,h1⟩
theorem jnB {W1 w4:World} {V:jat} {t:Tab} (hb:Below W1.heap.size W1 w4) (hT:jao w4 w4.heap.size V t) (hF2:jay W1.heap.size V) :
  joU W1 (w4.alloc (.cells #[.slice V.A1 t.ts.length V.c1,.slice V.A2 t.vs.length V.c2,.slice V.A3 t.os.length V.c3] 35)) w4.heap.size V t:=by
 have hba:Below w4.heap.size w4 (w4.alloc (.cells #[.slice V.A1 t.ts.length V.c1,.slice V.A2 t.vs.length V.c2,.slice V.A3 t.os.length V.c3] 35)):=(Below.refl _ _).alloc (Nat.le_refl _) _;exact ⟨jaa hb hba,heap_alloc_new w4 _,(hT.below hba).more hba.size,hF2,hb.size⟩
theorem jqO {X:World} {g:Nat} {T:TypeId} {v0 v1 v2 v3 v4 v5 v6:Value} (a b c d e f:Value) (h:X.heap[g]? = some (.cells #[v0,v1,v2,v3,v4,v5,v6] T (0,0))) :
  ((((((X.setCell ⟨g,1,none⟩ a).setCell ⟨g,2,none⟩ b).setCell ⟨g,3,none⟩ c).setCell ⟨g,4,none⟩ d).setCell ⟨g,5,none⟩ e).setCell ⟨g,6,none⟩ f).heap[g]? = some (.cells #[v0,a,b,c,d,e,f] T (0,0))/\X.grownBy ((((((X.setCell ⟨g,1,none⟩ a).setCell ⟨g,2,none⟩ b).setCell ⟨g,3,none⟩ c).setCell ⟨g,4,none⟩ d).setCell ⟨g,5,none⟩ e).setCell ⟨g,6,none⟩ f) (some g):=by
 refine ⟨?_,jal X g 1 [a,b,c,d,e,f]⟩;simp [World.setCell,Array.getElem?_modify,h]
theorem jql {Rep:World->Nat->(Nat->Prop)->Dk->Prop} (L:jbX Rep) {w Z:World} {p q:Nat} {F:Nat->Prop} {s:Dk} {V V4:jat} {t t0:Tab} {a:Nat} {g:Int} {d:Option Addr} {c1 c2 c3 c4 c5 c6:Value} (h:jdK Rep w p q F s d V ⟨t0,0,0,0⟩) (hb:Below w.heap.size w Z)
  (hq:Z.heap[q]? = some (.cells #[.pointer d,c1,c2,c3,c4,c5,c6] 68 (0,0))) (hT:jao Z Z.heap.size V4 t) (hF:jay w.heap.size V4) :
  (∃ V',jdK Rep ((((((Z.setCell ⟨q,1,none⟩ (.slice V4.A1 t.ts.length V4.c1)).setCell ⟨q,2,none⟩ (.slice V4.A2 t.vs.length V4.c2)).setCell ⟨q,3,none⟩ (.slice V4.A3 t.os.length V4.c3)).setCell ⟨q,4,none⟩ (.int .i64 (a:Int))).setCell ⟨q,5,none⟩ (.int .i64 g)).setCell ⟨q,6,none⟩ (.int .i64 192)).drew p q F s d V' ⟨t,a,g,192⟩/\jay w.heap.size V') /\
  jaM (fun b=>b=q) w ((((((Z.setCell ⟨q,1,none⟩ (.slice V4.A1 t.ts.length V4.c1)).setCell ⟨q,2,none⟩ (.slice V4.A2 t.vs.length V4.c2)).setCell ⟨q,3,none⟩ (.slice V4.A3 t.os.length V4.c3)).setCell ⟨q,4,none⟩ (.int .i64 (a:Int))).setCell ⟨q,5,none⟩ (.int .i64 g)).setCell ⟨q,6,none⟩ (.int .i64 192)).drew:=by
 have hql:=(Array.getElem?_eq_some_iff.1 h.cells).1;have hs:=jqO (.slice V4.A1 t.ts.length V4.c1) (.slice V4.A2 t.vs.length V4.c2) (.slice V4.A3 t.os.length V4.c3) (.int .i64 (a:Int)) (.int .i64 g) (.int .i64 192) hq;have ho:∀ k,k≠q->((((((Z.setCell ⟨q,1,none⟩ (.slice V4.A1 t.ts.length V4.c1)).setCell ⟨q,2,none⟩ (.slice V4.A2 t.vs.length V4.c2)).setCell ⟨q,3,none⟩ (.slice V4.A3 t.os.length V4.c3)).setCell ⟨q,4,none⟩ (.int .i64 (a:Int))).setCell ⟨q,5,none⟩ (.int .i64 g)).setCell ⟨q,6,none⟩ (.int .i64 192)).heap[k]? = Z.heap[k]?:=fun k hk=>jaq q k hk [.slice V4.A1 t.ts.length V4.c1,.slice V4.A2 t.vs.length V4.c2,.slice V4.A3 t.os.length V4.c3,.int .i64 (a:Int),.int .i64 g,.int .i64 192] 1 Z
 obtain ⟨X,hX⟩:∃ X,X=((((((Z.setCell ⟨q,1,none⟩ (.slice V4.A1 t.ts.length V4.c1)).setCell ⟨q,2,none⟩ (.slice V4.A2 t.vs.length V4.c2)).setCell ⟨q,3,none⟩ (.slice V4.A3 t.os.length V4.c3)).setCell ⟨q,4,none⟩ (.int .i64 (a:Int))).setCell ⟨q,5,none⟩ (.int .i64 g)).setCell ⟨q,6,none⟩ (.int .i64 192)):=⟨_,rfl⟩;rw [<- hX] at hs ho ⊢;clear hX;have hbd:Below X.heap.size X X.drew:=(Below.refl _ _).drew;have hoD:∀ k,k≠q->X.drew.heap[k]? = Z.heap[k]?:=ho;have hT2:jao X X.heap.size V4 t:=(hT.other hF hql ho).more hs.2.size;have hrep:=(L.d Z).keep Z X p F s (L.keep h.rep hb) (fun b hbF=>ho b fun e=>h.nq (e ▸ hbF));have hos:X.os=Z.os/\X.tape=Z.tape/\X.output=Z.output:=⟨hs.2.os,hs.2.tape,hs.2.output⟩;refine ⟨⟨V4,⟨L.keep hrep hbd,h.nq,hs.1,hT2.below hbd,jck.of hT2 hF fun b hN=>.inl (hN.elim (fun q=>L.lt h.rep q) fun q=>q ▸ hql)⟩,hF⟩,⟨hos.1.trans hb.os,hos.2.1.trans hb.tape,hos.2.2.trans hb.output,Nat.le_trans hb.size hs.2.size,fun k hk hn=>(hoD k hn).trans (hb.block k hk)⟩⟩
section
variable {Rep:World->Nat->(Nat->Prop)->Dk->Prop} (L:jbX Rep)
include L
theorem jom (p q:Nat) (F:Nat->Prop) (s:Dk) (n:Nat) (t:Tab) (a:Nat) (g K:Int) (V:jat) (w:World) (h:jdK Rep w p q F s (some ⟨p,0,none⟩) V ⟨jbf n,0,0,0⟩) (ho:s.off=false) (hpe:s.pend=[]) (hl:384<=s.last.length) (n1:1<=n) (n2:n<=64) (hH:jcz s.last n t a g K) :
  Calls Tryz.prog 23 #[.pointer (some ⟨q,0,none⟩)] w fun e w'=>e=.returned (.int .i64 0)/\(∃ V',jdK Rep w' p q F s (some ⟨p,0,none⟩) V' ⟨t,a,g,192⟩/\jay w.heap.size V')/\jaM (fun b=>b=q) w w':=by
 have HN:=jkr L p F s w h.rep ho hpe hl;obtain ⟨e1,e2⟩:=hH.newest;rw [e1,e2] at HN;obtain ⟨ts,hts⟩:∃ ts,ts=(jbI s.last).whole:=⟨_,rfl⟩;have hne:∀ r∈ts,r≠[]:=by rw [hts];exact jgU s.last 2
 have hcat:ts.flatten.length<=192:=by rw [hts];exact jkX s.last
 have hlen:ts.length<=192:=Nat.le_trans (jfx hne) hcat;have hrun:jaV (jbf n) ts.flatten=(0,t):=by rw [hts];exact hH.run
 rw [<- hts] at HN;have hns:=jej n1 n2;have happ:jbR (jbf n) ts.flatten=(0,t):=by rw [jcV hns];exact hrun
 have hrok:∀ r∈ts.flatten,r.ok:=fun r hr=>jot (jgK hrun r hr)
 have HCO:Hid (∀ (A:Option Addr) (c:Nat) (W X:World),jaL W W.heap.size A ts->Below W.heap.size W X->Calls Tryz.prog 35 #[.slice A ts.length c] X fun e w'=>∃ A' c',e=.returned (.slice A' ts.flatten.length c')/\ts.flatten.length<=c'/\jax w' w'.heap.size A' ts.flatten/\Below X.heap.size X w'):=fun A c W X q1 q2=>jiG A c ts X ((q1.below q2).more q2.size) hne hcat hlen
 have HAP:Hid (∀ (A:Option Addr) (c:Nat) (W X:World),Below w.heap.size w X->jax W W.heap.size A ts.flatten->ts.flatten.length<=c->Below W.heap.size W X->Calls Tryz.prog 24 #[.agg #[.slice V.A1 (jbf n).ts.length V.c1,.slice V.A2 (jbf n).vs.length V.c2,.slice V.A3 (jbf n).os.length V.c3],.slice A ts.flatten.length c] X fun e w'=>∃ V',e=.returned (.tuple #[.agg #[.slice V'.A1 t.ts.length V'.c1,.slice V'.A2 t.vs.length V'.c2,.slice V'.A3 t.os.length V'.c3],.int .i64 0])/\jao w' w'.heap.size V' t/\jay X.heap.size V'/\Below X.heap.size X w'):=fun A c W X q0 q1 q2 q3=>by
  have:=(L.t X).apply V (jbf n) A c ts.flatten X (Below.refl _ _) ((h.tab.below q0).more q0.size) (joL n2) ((q1.below q3).more q3.size) q2 hrok (by omega);rw [happ] at this;exact this
 have hvc:=h.cells;unfold vtC at hvc;have HVC:Hid (∀ X,Below w.heap.size w X->X.heap[q]? = some (.cells #[.pointer (some ⟨p,0,none⟩),.slice V.A1 (jbf n).ts.length V.c1,.slice V.A2 (jbf n).vs.length V.c2,.slice V.A3 (jbf n).os.length V.c3,.int .i64 ((0:Nat):Int),.int .i64 0,.int .i64 ((0:Nat):Int)] 68 (0,0))):=fun X hb=>(hb.block _ (Array.getElem?_eq_some_iff.1 hvc).1).trans hvc
 obtain ⟨y0,y1,y2,y3,y4,y5,y6⟩:=jdJ hvc;have HN:=Lib.hid HN;obtain ⟨tn,htn⟩:∃ x,x=ts.length:=⟨_,rfl⟩;obtain ⟨fn,hfn⟩:∃ x,x=ts.flatten.length:=⟨_,rfl⟩;rw [<- htn] at HN;simp only [<- htn] at HCO;simp only [<- hfn] at HCO HAP;obtain ⟨l1,hl1⟩:∃ x,x=(jbf n).ts.length:=⟨_,rfl⟩;obtain ⟨l2,hl2⟩:∃ x,x=(jbf n).vs.length:=⟨_,rfl⟩;obtain ⟨l3,hl3⟩:∃ x,x=(jbf n).os.length:=⟨_,rfl⟩;simp only [<- hl1,<- hl2,<- hl3] at HAP HVC y1 y2 y3;have hbh:=Lib.hid (fun (W:World) (A:Option Addr) (c:Nat)=>(Below.refl W.heap.size W).alloc (Nat.le_refl _) (.cells #[.int .i64 (a:Int),.int .i64 g,.slice A tn c] 87));have hnh:=Lib.hid (fun (W:World) (A:Option Addr) (c:Nat)=>heap_alloc_new W (.cells #[.int .i64 (a:Int),.int .i64 g,.slice A tn c] 87));have HVT:=Lib.hid h;have HLL:=Lib.hid L;clear h ho hpe hl hH e1 e2 hts hne hcat hlen hrun hns happ hrok hvc n1 n2 htn hfn hl1 hl2 hl3 L;unfold hdV at HN;go_enter Tryz.func23,Tryz.ntmps23
 go_wp2_with (first
  | (go_at_call 34;with_reducible (refine Calls.mono HN.out ?_);rintro e w1 ⟨A1,c1,rfl,_,ht1,hb1⟩))
 have hbA:=hbh.out w1 A1 c1;have hnA:=hnh.out w1 A1 c1;obtain ⟨W1,hW1⟩:∃ W,W=w1.alloc (.cells #[.int .i64 (a:Int),.int .i64 g,.slice A1 tn c1] 87):=⟨_,rfl⟩;obtain ⟨qh,hqh⟩:∃ x,x=w1.heap.size:=⟨_,rfl⟩;rw [<- hW1,<- hqh] at hnA;rw [<- hW1] at hbA;rw [<- hW1,<- hqh];have HQL:Hid (w.heap.size<=qh):=by rw [hqh];exact hb1.size
 have HBW1:Hid (Below w.heap.size w W1):=jaa hb1 hbA;have HT1:Hid (jaL W1 W1.heap.size A1 ts):=(ht1.below hbA).more hbA.size;have HQH:Hid (∀ X,Below W1.heap.size W1 X->X.heap[qh]? = some (.cells #[.int .i64 (a:Int),.int .i64 g,.slice A1 tn c1] 87 (0,0))):=fun X hb=>(hb.block _ (Array.getElem?_eq_some_iff.1 hnA).1).trans hnA
 have HS:Hid (∀ X,Below W1.heap.size W1 X->X.cell? ⟨q,1,none⟩=some (.slice V.A1 l1 V.c1)/\X.cell? ⟨q,2,none⟩=some (.slice V.A2 l2 V.c2)/\X.cell? ⟨q,3,none⟩=some (.slice V.A3 l3 V.c3)/\X.cell? ⟨qh,2,none⟩=some (.slice A1 tn c1)):=fun X hb=>by
  obtain ⟨_,r1,r2,r3,_⟩:=jdJ (HVC.out X (jaa HBW1.out hb));exact ⟨r1,r2,r3,(jai (HQH.out X hb)).2.2⟩
 have HC2:=Lib.hid (fun X (hb:Below W1.heap.size W1 X)=>HCO.out A1 c1 W1 X HT1.out hb);clear hbA hnA ht1 hb1 hW1 hqh hbh hnh y0 y1 y2 y3 y4 y5 y6 HN HCO;have hbx:Below W1.heap.size W1 W1.drew:=(Below.refl _ _).drew;have HEA:=Lib.hid (fun (w4:World) (V4:jat) (q1:Below W1.heap.size W1 w4) (q2:jao w4 w4.heap.size V4 t) (q3:jay W1.heap.size V4)=>jnB q1 q2 q3);have HEB:=Lib.hid (fun (X w4:World) (bz:Nat) (V4:jat) (q1:Below W1.heap.size W1 w4) (hz:w4.heap[bz]? = some (.cells #[.slice none 0 0,.slice none 0 0,.slice none 0 0] 35 (0,0))) (h1:W1.heap.size<=bz) (h2:bz < X.heap.size) (hT:jao w4 w4.heap.size V4 t) (hF:jay X.heap.size V4) (hF2:jay W1.heap.size V4)=>jlV q1 hz h1 h2 hT hF hF2)
 go_cut [4,5] (fun ve vp Z=>∃ (bz:Nat) (V4:jat),ve=.int .i64 0/\vp=.pointer (some ⟨bz,0,none⟩)/\Hid (joU W1 Z bz V4 t))
 case first =>
  refine wp_region_held_drew (S:=(fun X=>X.cell? ⟨q,1,none⟩=some (.slice V.A1 l1 V.c1)/\X.cell? ⟨q,2,none⟩=some (.slice V.A2 l2 V.c2)/\X.cell? ⟨q,3,none⟩=some (.slice V.A3 l3 V.c3)/\X.cell? ⟨qh,2,none⟩=some (.slice A1 tn c1))) (by kernel_rfl) (HS.out _ hbx) (fun hHeld=>?_)
  -- the region
  refine tk 0 18 ?_
  (try simp only [Act.put,tk1,tk2,tk3])
  refine tk 1 19 ?_
  (try simp only [Act.put,tk1,tk2,tk3])
  refine tk 2 20 ?_
  (try simp only [Act.put,tk1,tk2,tk3])
  refine tkS 3 21 (v:=?_) ?_ ?_
  rotate_left 1
  ·intro w hSw;obtain ⟨hSa,hSb,hSc,-⟩:=hSw;first | (go_simp;done) | (go_simp;with_reducible rfl)
  (try simp only [Act.put,tk1,tk2,tk3])
  refine tk 4 22 ?_
  (try simp only [Act.put,tk1,tk2,tk3])
  refine tkS 5 23 (v:=?_) ?_ ?_
  rotate_left 1
  ·intro w hSw;obtain ⟨-,-,-,hSa⟩:=hSw;first | (go_simp;done) | (go_simp;with_reducible rfl)
  (try simp only [Act.put,tk1,tk2,tk3])
  refine wpAnyH_ready (rs:=[6,11]) (by kernel_rfl) (by simp) ?_;refine AllReadyH.cons (o:=_) rfl (fun K hK=>?_) (AllReadyH.cons (o:=_) rfl (fun K hK=>?_) (AllReadyH.nil))
  ·go_simp
   go_at_call 35
   with_reducible (refine Calls.mono (HC2.out _ hbx) ?_)
   rintro e w3 ⟨A3,c3,rfl,hc3,hr3,hb3⟩;replace hbx:=jaa hbx hb3;have hbr:=Below.refl w3.heap.size w3;refine hK.out _ _ (HS.out _ hbx) (fun hHeld6=>?_)
   (try simp only [Act.put,tk1,tk2,tk3])
   clear hK K;refine wpAnyH_ready (rs:=[7,11]) (by kernel_rfl) (by simp) ?_;refine AllReadyH.cons (o:=_) rfl (fun K hK=>?_) (AllReadyH.cons (o:=_) rfl (fun K hK=>?_) (AllReadyH.nil))
   ·go_simp
    go_at_call 24
    with_reducible (refine Calls.mono (HAP.out _ _ _ _ (jaa HBW1.out hbx) hr3 hc3 hbr) ?_)
    rintro e w4 ⟨V4,rfl,hT4,hF4,hb4⟩;have hF5:=jcT hbx.size hF4;replace hbx:=jaa hbx hb4;refine hK.out _ _ (HS.out _ hbx) (fun hHeld7=>?_)
    (try simp only [Act.put,tk1,tk2,tk3])
    clear hK K;refine tk 8 17 ?_
    (try simp only [Act.put,tk1,tk2,tk3])
    refine tk 9 26 ?_
    (try simp only [Act.put,tk1,tk2,tk3])
    refine tk 10 27 ?_
    (try simp only [Act.put,tk1,tk2,tk3])
    refine wpAnyH_ready (rs:=[11]) (by kernel_rfl) (by simp) ?_;refine AllReadyH.cons (o:=_) rfl (fun K hK=>?_) (AllReadyH.nil)
    go_simp
    have hz:=heap_alloc_new w4 (.cells #[.slice none 0 0,.slice none 0 0,.slice none 0 0] 35);have hxb:W1.heap.size<=w4.heap.size:=hbx.size;have hEND:=Lib.hid (HEA.out _ _ hbx hT4 hF5);replace hbx:=hbx.alloc hbx.size (.cells #[.slice none 0 0,.slice none 0 0,.slice none 0 0] 35);refine hK.out _ _ (HS.out _ hbx) (fun hHeld11=>?_)
    (try simp only [Act.put,tk1,tk2,tk3])
    clear hK K;refine wpAnyH_ready (rs:=[12]) (by kernel_rfl) (by simp) ?_;refine AllReadyH.cons (o:=_) rfl (fun K hK=>?_) (AllReadyH.nil);obtain ⟨z0,z1,z2⟩:=jai hz;have z3:=frozen_of_row _ _ 0 _ _ hz;have z4:=frozen_of_row _ _ 1 _ _ hz;have z5:=frozen_of_row _ _ 2 _ _ hz;clear hz hT4 hF4
    go_simp
    refine hK.out _ _ (HS.out _ hEND.out.1) (fun hHeld12=>?_)
    (try simp only [Act.put,tk1,tk2,tk3])
    clear hK K;refine tk 13 4 ?_
    (try simp only [Act.put,tk1,tk2,tk3])
    refine wpAnyH_done (by kernel_rfl) ?_ _;go_wp2;go_meet;exact ⟨_,_,rfl,rfl,hEND.out⟩
   ·go_simp
    have hz:=heap_alloc_new w3 (.cells #[.slice none 0 0,.slice none 0 0,.slice none 0 0] 35);have hxb:W1.heap.size<=w3.heap.size:=hbx.size;replace hbx:=hbx.alloc hbx.size (.cells #[.slice none 0 0,.slice none 0 0,.slice none 0 0] 35);replace hbr:=hbr.alloc hbr.size (.cells #[.slice none 0 0,.slice none 0 0,.slice none 0 0] 35);refine hK.out _ _ (HS.out _ hbx) (fun hHeld11=>?_)
    (try simp only [Act.put,tk1,tk2,tk3])
    clear hK K;refine wpAnyH_ready (rs:=[7]) (by kernel_rfl) (by simp) ?_;refine AllReadyH.cons (o:=_) rfl (fun K hK=>?_) (AllReadyH.nil)
    go_simp
    go_at_call 24
    have hzl:=(Array.getElem?_eq_some_iff.1 hz).1
    with_reducible (refine Calls.mono (HAP.out _ _ _ _ (jaa HBW1.out hbx) hr3 hc3 hbr) ?_)
    rintro e w4 ⟨V4,rfl,hT4,hF4,hb4⟩;have hF5:=jcT hbx.size hF4;replace hbx:=jaa hbx hb4;replace hz:=(hb4.block _ (Array.getElem?_eq_some_iff.1 hz).1).trans hz;refine hK.out _ _ (HS.out _ hbx) (fun hHeld7=>?_)
    (try simp only [Act.put,tk1,tk2,tk3])
    clear hK K;refine tk 8 17 ?_
    (try simp only [Act.put,tk1,tk2,tk3])
    refine tk 9 26 ?_
    (try simp only [Act.put,tk1,tk2,tk3])
    refine tk 10 27 ?_
    (try simp only [Act.put,tk1,tk2,tk3])
    refine wpAnyH_ready (rs:=[12]) (by kernel_rfl) (by simp) ?_;refine AllReadyH.cons (o:=_) rfl (fun K hK=>?_) (AllReadyH.nil);obtain ⟨z0,z1,z2⟩:=jai hz;have z3:=frozen_of_row _ _ 0 _ _ hz;have z4:=frozen_of_row _ _ 1 _ _ hz;have z5:=frozen_of_row _ _ 2 _ _ hz;have hEND:=Lib.hid (HEB.out _ _ _ _ hbx hz hxb hzl hT4 hF4 hF5);clear hz hT4 hF4
    go_simp
    refine hK.out _ _ (HS.out _ hEND.out.1) (fun hHeld12=>?_)
    (try simp only [Act.put,tk1,tk2,tk3])
    clear hK K;refine tk 13 4 ?_
    (try simp only [Act.put,tk1,tk2,tk3])
    refine wpAnyH_done (by kernel_rfl) ?_ _;go_wp2;go_meet;exact ⟨_,_,rfl,rfl,hEND.out⟩
  ·go_simp
   have hz:(W1.alloc (.cells #[.slice none 0 0,.slice none 0 0,.slice none 0 0] 35)).drew.heap[W1.heap.size]? = some (.cells #[.slice none 0 0,.slice none 0 0,.slice none 0 0] 35 (0,0)):=heap_alloc_new W1 _;have hxb:W1.heap.size<=W1.heap.size:=Nat.le_refl _;replace hbx:Below W1.heap.size W1 (W1.alloc (.cells #[.slice none 0 0,.slice none 0 0,.slice none 0 0] 35)).drew:=((Below.refl _ _).alloc (Nat.le_refl _) _).drew;refine hK.out _ _ (HS.out _ hbx) (fun hHeld11=>?_)
   (try simp only [Act.put,tk1,tk2,tk3])
   clear hK K;refine wpAnyH_ready (rs:=[6]) (by kernel_rfl) (by simp) ?_;refine AllReadyH.cons (o:=_) rfl (fun K hK=>?_) (AllReadyH.nil)
   go_simp
   go_at_call 35
   with_reducible (refine Calls.mono (HC2.out _ hbx) ?_)
   rintro e w3 ⟨A3,c3,rfl,hc3,hr3,hb3⟩;replace hbx:=jaa hbx hb3;replace hz:=(hb3.block _ (Array.getElem?_eq_some_iff.1 hz).1).trans hz;have hbr:=Below.refl w3.heap.size w3;refine hK.out _ _ (HS.out _ hbx) (fun hHeld6=>?_)
   (try simp only [Act.put,tk1,tk2,tk3])
   clear hK K;refine wpAnyH_ready (rs:=[7]) (by kernel_rfl) (by simp) ?_;refine AllReadyH.cons (o:=_) rfl (fun K hK=>?_) (AllReadyH.nil)
   go_simp
   go_at_call 24
   have hzl:=(Array.getElem?_eq_some_iff.1 hz).1
   with_reducible (refine Calls.mono (HAP.out _ _ _ _ (jaa HBW1.out hbx) hr3 hc3 hbr) ?_)
   rintro e w4 ⟨V4,rfl,hT4,hF4,hb4⟩;have hF5:=jcT hbx.size hF4;replace hbx:=jaa hbx hb4;replace hz:=(hb4.block _ (Array.getElem?_eq_some_iff.1 hz).1).trans hz;refine hK.out _ _ (HS.out _ hbx) (fun hHeld7=>?_)
   (try simp only [Act.put,tk1,tk2,tk3])
   clear hK K;refine tk 8 17 ?_
   (try simp only [Act.put,tk1,tk2,tk3])
   refine tk 9 26 ?_
   (try simp only [Act.put,tk1,tk2,tk3])
   refine tk 10 27 ?_
   (try simp only [Act.put,tk1,tk2,tk3])
   refine wpAnyH_ready (rs:=[12]) (by kernel_rfl) (by simp) ?_;refine AllReadyH.cons (o:=_) rfl (fun K hK=>?_) (AllReadyH.nil);obtain ⟨z0,z1,z2⟩:=jai hz;have z3:=frozen_of_row _ _ 0 _ _ hz;have z4:=frozen_of_row _ _ 1 _ _ hz;have z5:=frozen_of_row _ _ 2 _ _ hz;have hEND:=Lib.hid (HEB.out _ _ _ _ hbx hz hxb hzl hT4 hF4 hF5);clear hz hT4 hF4
   go_simp
   refine hK.out _ _ (HS.out _ hEND.out.1) (fun hHeld12=>?_)
   (try simp only [Act.put,tk1,tk2,tk3])
   clear hK K;refine tk 13 4 ?_
   (try simp only [Act.put,tk1,tk2,tk3])
   refine wpAnyH_done (by kernel_rfl) ?_ _;go_wp2;go_meet;exact ⟨_,_,rfl,rfl,hEND.out⟩
  -- behind the region
 case rest =>
  obtain ⟨bz,V4,rfl,rfl,hE⟩:=hcut;obtain ⟨x0,x1,x2⟩:=jai hE.out.2.1;obtain ⟨h0,h1,_⟩:=jai (HQH.out _ hE.out.1);have hqc:=HVC.out _ (jaa HBW1.out hE.out.1);obtain ⟨y0,y1,y2,y3,y4,y5,y6⟩:=jdJ hqc;have f1:=frozen_of_row _ _ 1 _ _ hqc;have f2:=frozen_of_row _ _ 2 _ _ hqc;have f3:=frozen_of_row _ _ 3 _ _ hqc;have f4:=frozen_of_row _ _ 4 _ _ hqc;have f5:=frozen_of_row _ _ 5 _ _ hqc;have f6:=frozen_of_row _ _ 6 _ _ hqc;have HQC:=Lib.hid hqc
  have hql:q < qh:=by
   have:=(Array.getElem?_eq_some_iff.1 (HVT.out.cells)).1;have:=HQL.out;omega
  have hqb:q < bz:=by
   have h1:=(Array.getElem?_eq_some_iff.1 (HVT.out.cells)).1;have h2:=HBW1.out.size;have h3:=hE.out.2.2.2.2;omega
  have n1:¬ q=qh:=by omega
  have n2:¬ qh=q:=by omega
  have n3:¬ q=bz:=by omega
  have n4:¬ bz=q:=by omega
  have R:=jql (a:=a) (g:=g) HLL.out HVT.out (jaa HBW1.out hE.out.1) HQC.out (hE.out.2.2.1) (jcT HBW1.out.size hE.out.2.2.2.1);clear hbx HEA HEB HC2 HAP HT1 hqc HS;go_wp2;go_region;go_wp2;go_ret;exact ⟨rfl,R.1,R.2⟩
end
theorem jh7 (a:Addr) (fv:Value) (w:World) (hc:w.cell? a=some (.int .i64 0)) :
  CallsD Tryz.prog 21 #[.pointer (some a),fv] .returning w fun e u' w'=>u'=.returning/\e=.returned (.tuple #[])/\w'=w:=by
 refine callsD_of_wp Tryz.func21 rfl ?_;simp only [Tryz.ntmps21];go_wp2;exact bodyPost_end (results_none rfl _ _ _) rfl ⟨rfl,rfl⟩
theorem ji6 (b q:Nat) (x:Value) (w:World) (hb:w.cell? ⟨b,0,none⟩=some (.pointer (some ⟨q,0,none⟩))) (hq:w.cell? ⟨q,0,none⟩=some x) (hz:w.frozen? ⟨q,0,none⟩=false) :
  Calls Tryz.prog 25 #[.pointer (some ⟨b,0,none⟩)] w fun e w'=>e=.returned (.tuple #[])/\w'=w.setCell ⟨q,0,none⟩ (.pointer none):=by
 go_enter Tryz.func25,Tryz.ntmps25;go_wp2;exact bodyPost_end (results_none rfl _ _ _) rfl ⟨rfl,rfl⟩
theorem jlK (a:Addr) (E:Int) (b q:Nat) (x:Value) (w:World) (hc:w.cell? a=some (.int .i64 E)) (hE:E≠0) (hb:w.cell? ⟨b,0,none⟩=some (.pointer (some ⟨q,0,none⟩))) (hq:w.cell? ⟨q,0,none⟩=some x) (hz:w.frozen? ⟨q,0,none⟩=false) :
  CallsD Tryz.prog 21 #[.pointer (some a),.func (.func 25) #[] #[.pointer (some ⟨b,0,none⟩)]] .returning w fun e u' w'=>u'=.returning/\e=.returned (.tuple #[])/\w'=w.setCell ⟨q,0,none⟩ (.pointer none):=by
 have hE2:(E != 0)=true:=by rw [bne_iff_ne];exact hE
 have HC:=Lib.hid (ji6 b q x w hb hq hz);clear hb hq hz;refine callsD_of_wp Tryz.func21 rfl ?_;simp only [Tryz.ntmps21]
 go_wp2_with (go_at_call 25;with_reducible (refine Calls.mono HC.out ?_);rintro e w2 ⟨rfl,rfl⟩)
 exact bodyPost_end (results_none rfl _ _ _) rfl ⟨rfl,rfl⟩
structure OpS (w X:World) (v:Value) (E:Int):Prop where
 below:Below w.heap.size w X
 rv:X.heap[w.heap.size]? = some (.cells #[v] 27 (0,0))
 re:X.heap[w.heap.size + 1]? = some (.cells #[.int .i64 E] 24 (0,0))
theorem OpS.start (w:World):OpS w ((w.alloc (.cells #[.pointer none] 27)).alloc (.cells #[.int .i64 0] 24)) (.pointer none) 0:=by
 have hb0:Below w.heap.size w (w.alloc (.cells #[.pointer none] 27)):=(Below.refl _ _).alloc (Nat.le_refl _) _;refine ⟨hb0.alloc hb0.size _,by rw [Below.heap_alloc _ _ _ (by simp)];exact heap_alloc_new _ _,?_⟩;have:=heap_alloc_new (w.alloc (.cells #[.pointer none] 27)) (.cells #[.int .i64 0] 24)
 rwa [show (w.alloc (.cells #[.pointer none] 27)).heap.size=w.heap.size + 1 by simp] at this
section
variable {w X Y:World} {v:Value} {E:Int}
theorem OpS.later (h:OpS w X v E) (hb:Below X.heap.size X Y):OpS w Y v E:=⟨jaa h.below hb,(hb.block _ (Array.getElem?_eq_some_iff.1 h.rv).1).trans h.rv,(hb.block _ (Array.getElem?_eq_some_iff.1 h.re).1).trans h.re⟩
theorem OpS.cells (h:OpS w X v E):X.cell? ⟨w.heap.size,0,none⟩=some v/\X.frozen? ⟨w.heap.size,0,none⟩=false/\X.cell? ⟨w.heap.size + 1,0,none⟩=some (.int .i64 E)/\X.frozen? ⟨w.heap.size + 1,0,none⟩=false :=
 ⟨by rw [cell_of_row _ _ _ _ _ _ h.rv];rfl,frozen_of_row _ _ _ _ _ h.rv,by rw [cell_of_row _ _ _ _ _ _ h.re];rfl,frozen_of_row _ _ _ _ _ h.re⟩
theorem OpS.away (h:OpS w X v E) {q:Nat} (hq:w.heap.size + 1 < q) (ha:jaM (fun b=>b=q) X Y):OpS w Y v E:=by
 have hs:=(Array.getElem?_eq_some_iff.1 h.re).1;exact ⟨ha.below (fun k hk=>by have hk:k=q:=hk;omega) h.below h.below.size,(ha.block _ (by omega) (by omega)).trans h.rv,(ha.block _ hs (by omega)).trans h.re⟩
theorem OpS.setE (h:OpS w X v E) (E2:Int):OpS w (X.setCell ⟨w.heap.size + 1,0,none⟩ (.int .i64 E2)) v E2:=by
 have hs:=jaC X (w.heap.size + 1) 0 (.int .i64 E2) _ _ h.re;exact ⟨h.below.setCell (Nat.le_succ _) _,(jah _ _ _ _ _ (by omega)).trans h.rv,hs⟩
theorem OpS.setV (h:OpS w X v E) (v2:Value):OpS w (X.setCell ⟨w.heap.size,0,none⟩ v2) v2 E:=by
 have hs:=jaC X w.heap.size 0 v2 _ _ h.rv;exact ⟨h.below.setCell (Nat.le_refl _) _,hs,(jah _ _ _ _ _ (by omega)).trans h.re⟩
end
theorem jdK.other {Rep:World->Nat->(Nat->Prop)->Dk->Prop} (L:jbX Rep) {X Y:World} {p q k lo:Nat} {F:Nat->Prop} {s:Dk} {d:Option Addr} {V:jat} {v:Vt} (h:jdK Rep X p q F s d V v) (hf:jay lo V) (hk:k < lo) (hF:¬ F k) (hq:k≠q) (hs:X.heap.size<=Y.heap.size) (ho:∀ j,j≠k->Y.heap[j]? = X.heap[j]?):jdK Rep Y p q F s d V v :=
 ⟨(L.d X).keep X Y p F s h.rep fun b hb=>ho b fun e=>hF (e ▸ hb),h.nq,(ho q (Ne.symm hq)).trans h.cells,(h.tab.other hf hk ho).more hs,h.off⟩
section
variable {Rep:World->Nat->(Nat->Prop)->Dk->Prop} (L:jbX Rep)
include L
theorem jjZ (p:Nat) (F:Nat->Prop) (s:Dk) (n:Nat) (t:Tab) (a:Nat) (g K:Int) (w:World) (h:Rep w p F s) (ho:s.off=false) (hpe:s.pend=[]) (hl:384<=s.last.length) (n1:1<=n) (n2:n<=64) (hH:jcz s.last n t a g K) :
  Calls Tryz.prog 8 #[.pointer (some ⟨p,0,none⟩),.int .i64 (n:Int)] w fun e w'=>∃ q V,e=.returned (.tuple #[.pointer (some ⟨q,0,none⟩),.int .i64 0])/\jdK Rep w' p q F s (some ⟨p,0,none⟩) V ⟨t,a,g,192⟩/\w.heap.size<=q/\Below w.heap.size w w':=by
 have H1:=Lib.hid (fun (W:World)=>(L.t W).new n W (Below.refl _ _) n1 n2);have HA:=Lib.hid (fun (W:World) (hb:Below w.heap.size w W)=>jlJ L p F s W (L.keep h hb) hl);have HLD:=Lib.hid (fun (q:Nat) (V:jat) (W:World) (hv:jdK Rep W p q F s (some ⟨p,0,none⟩) V ⟨jbf n,0,0,0⟩)=>jom L p q F s n t a g K V W hv ho hpe hl n1 n2 hH)
 have HVT:Hid (∀ (V:jat) (w1 X:World),Below w.heap.size w w1->jao w1 w1.heap.size V (jbf n)->jay w.heap.size V->Below w1.heap.size w1 X->jdK Rep (X.alloc (.cells #[.pointer (some ⟨p,0,none⟩),.slice V.A1 (jbf n).ts.length V.c1,.slice V.A2 (jbf n).vs.length V.c2,.slice V.A3 (jbf n).os.length V.c3,.int .i64 0,.int .i64 0,.int .i64 0] 68)) p X.heap.size F s (some ⟨p,0,none⟩) V ⟨jbf n,0,0,0⟩):=fun V w1 X q1 q2 q3 q4=>by
  have hba:Below X.heap.size X (X.alloc (.cells #[.pointer (some ⟨p,0,none⟩),.slice V.A1 (jbf n).ts.length V.c1,.slice V.A2 (jbf n).vs.length V.c2,.slice V.A3 (jbf n).os.length V.c3,.int .i64 0,.int .i64 0,.int .i64 0] 68)):=(Below.refl _ _).alloc (Nat.le_refl _) _;have hsz:=(jaa q1 q4).size;refine ⟨L.keep h (jaa (jaa q1 q4) hba),fun hF=>?_,heap_alloc_new X _,((q2.below q4).below (hba.mono q4.size)).more (jaa q4 hba).size,jck.of q2 q3 fun b hN=>?_⟩
  ·have:=L.lt h hF;omega
  ·rcases hN with hN | hN
   ·exact .inl (L.lt h hN)
   ·have:=q4.size;exact .inr (by omega)
 have hlt:Hid (∀ b,F b->b < w.heap.size):=fun b hb=>L.lt h hb
 have hnot:∀ (x:Bool) (w:World),(Op.unary .not (.bool x)).run Tryz.prog w=.ok (.bool (!x)) w:=fun _ _=>rfl
 have hmf:∀ (fn:Fn) (first cap:Array Value) (w:World),(Instr.makeFunc fn first cap).run Tryz.prog w=.ok (.func fn first cap) w:=fun _ _ _ _=>rfl
 have HLL:=Lib.hid L;obtain ⟨l1,hl1⟩:∃ x,x=(jbf n).ts.length:=⟨_,rfl⟩;obtain ⟨l2,hl2⟩:∃ x,x=(jbf n).vs.length:=⟨_,rfl⟩;obtain ⟨l3,hl3⟩:∃ x,x=(jbf n).os.length:=⟨_,rfl⟩;unfold jan at H1;simp only [<- hl1,<- hl2,<- hl3] at H1 HVT;clear h ho hpe hl n1 n2 hH hl1 hl2 hl3 L
 go_enter_defers Tryz.func8,Tryz.ntmps8
 go_wp2_with (first
  | (go_at_call 19;with_reducible (refine Calls.mono (H1.out _) ?_);rintro e w1 ⟨V1,rfl,hT1,hF1,hb⟩
     have hbx:=(OpS.start w).later hb;have HB1:=Lib.hid hbx;have hsz1:w.heap.size + 2<=w1.heap.size:=by have:=hb.size;simpa using this
     have hf2:jay (w.heap.size + 2) V1:=by simpa using hF1
     have HF1:=Lib.hid hf2;have HT1:=Lib.hid hT1;have hba:=(Below.refl w1.heap.size w1).alloc (Nat.le_refl _) (.cells #[.slice V1.A1 l1 V1.c1,.slice V1.A2 l2 V1.c2,.slice V1.A3 l3 V1.c3] 35);have HO:=Lib.hid (hbx.later hba);have hg1:=heap_alloc_new w1 (.cells #[.slice V1.A1 l1 V1.c1,.slice V1.A2 l2 V1.c2,.slice V1.A3 l3 V1.c3] 35);have HG1:Hid (((w1.alloc (.cells #[.slice V1.A1 l1 V1.c1,.slice V1.A2 l2 V1.c2,.slice V1.A3 l3 V1.c3] 35)).setCell ⟨w.heap.size + 1,0,none⟩ (.int .i64 0)).heap[w1.heap.size]? = some (.cells #[.slice V1.A1 l1 V1.c1,.slice V1.A2 l2 V1.c2,.slice V1.A3 l3 V1.c3] 35 (0,0))):=(jah _ _ _ _ _ (by omega)).trans hg1;have HTX:Hid (jao ((w1.alloc (.cells #[.slice V1.A1 l1 V1.c1,.slice V1.A2 l2 V1.c2,.slice V1.A3 l3 V1.c3] 35)).setCell ⟨w.heap.size + 1,0,none⟩ (.int .i64 0)) w1.heap.size V1 (jbf n)):=(hT1.below hba).other hF1 (by simp) fun k hk=>jah _ _ _ _ _ (Ne.symm hk)
     obtain ⟨x0,x1,x2,x3⟩:=HO.out.cells;have HO2:=Lib.hid (HO.out.setE 0);obtain ⟨y0,y1,y2,y3⟩:=HO2.out.cells;have HS1:=Lib.hid hsz1;clear hb hbx hT1 hF1 hba hg1 hsz1 hf2)
  | (go_at_call 20;with_reducible (refine Calls.mono (HA.out _ HO2.out.below) ?_);rintro e w2 ⟨rfl,hb2⟩
     have HO4:=Lib.hid (HO2.out.later hb2);obtain ⟨u0,u1,u2,u3⟩:=HO4.out.cells;have hg2:=(hb2.block _ (Array.getElem?_eq_some_iff.1 HG1.out).1).trans HG1.out;obtain ⟨k0,k1,k2⟩:=jai hg2;have hX1:=HO2.out.below;have h3:w1.heap.size<=((w1.alloc (.cells #[.slice V1.A1 l1 V1.c1,.slice V1.A2 l2 V1.c2,.slice V1.A3 l3 V1.c3] 35)).setCell ⟨w.heap.size + 1,0,none⟩ (.int .i64 0)).heap.size:=(by simp [World.setCell]);have hlt2:w.heap.size + 2<=w2.heap.size:=Nat.le_trans HS1.out (Nat.le_trans h3 hb2.size);have hvt:=HVT.out V1 _ w2 hX1 (HTX.out.more (by simp [World.setCell])) (jcT (Nat.le_add_right _ 2) HF1.out) hb2;have hba2:=(Below.refl w2.heap.size w2).alloc (Nat.le_refl _) (.cells #[.pointer (some ⟨p,0,none⟩),.slice V1.A1 l1 V1.c1,.slice V1.A2 l2 V1.c2,.slice V1.A3 l3 V1.c3,.int .i64 0,.int .i64 0,.int .i64 0] 68);have HO5:=Lib.hid (HO4.out.later hba2);obtain ⟨i0,i1,i2,i3⟩:=HO5.out.cells;have HO6:=Lib.hid (HO5.out.setV (.pointer (some ⟨w2.heap.size,0,none⟩)));have hHs:w.heap.size < w.heap.size + 2:=by omega
     have HVT6:=Lib.hid (hvt.other (Y:=(w2.alloc (.cells #[.pointer (some ⟨p,0,none⟩),.slice V1.A1 l1 V1.c1,.slice V1.A2 l2 V1.c2,.slice V1.A3 l3 V1.c3,.int .i64 0,.int .i64 0,.int .i64 0] 68)).setCell ⟨w.heap.size,0,none⟩ (.pointer (some ⟨w2.heap.size,0,none⟩))) HLL.out HF1.out hHs (fun hF=>Nat.lt_irrefl _ (hlt.out _ hF)) (by omega) (by simp [World.setCell]) (fun j hj=>jah _ _ _ _ _ (Ne.symm hj)));have HL2:=Lib.hid hlt2;clear hb2 hg2 x0 x1 x2 x3 y0 y1 y2 y3 hvt hba2 hX1 hlt2 hHs HTX HG1 h3))
 obtain ⟨W3,hW3⟩:∃ W,W=(w2.alloc (.cells #[.pointer (some ⟨p,0,none⟩),.slice V1.A1 l1 V1.c1,.slice V1.A2 l2 V1.c2,.slice V1.A3 l3 V1.c3,.int .i64 0,.int .i64 0,.int .i64 0] 68)).setCell ⟨w.heap.size,0,none⟩ (.pointer (some ⟨w2.heap.size,0,none⟩)):=⟨_,rfl⟩;obtain ⟨q,hq⟩:∃ q,q=w2.heap.size:=⟨_,rfl⟩;rw [<- hW3] at HVT6 HO6;rw [<- hW3];rw [<- hq] at HVT6 HO6 HL2;rw [<- hq];have hbd:Below W3.heap.size W3 W3.drew:=(Below.refl _ _).drew;have ho3:=HO6.out.later hbd;have hv3:=Lib.hid (HVT6.out.later HLL.out hbd);have HO3:=Lib.hid ho3;have HS3:=Lib.hid ho3.cells.1;have HSS:Hid (∀ X,OpS w X (.pointer (some ⟨q,0,none⟩)) 0->X.cell? ⟨w.heap.size,0,none⟩=some (.pointer (some ⟨q,0,none⟩))):=fun X h=>h.cells.1
 have HS7:Hid (w.heap.size + 1 < q):=HL2.out;clear hW3 hq hbd ho3 HVT6 HO6 HO5 HO4 HO2 HO HB1 HF1 HT1 HA H1 HVT HL2 HS1 u0 u1 u2 u3 k0 k1 k2 i0 i1 i2 i3
 go_region_held3 (fun X=>X.cell? ⟨w.heap.size,0,none⟩=some (.pointer (some ⟨q,0,none⟩)))
  (first | exact HS3.out | exact HSS.out _ HO7.out | exact HSS.out _ HO8.out | exact HSS.out _ HO9.out)
  (first
   | (go_at_call 23;with_reducible (refine Calls.mono (HLD.out q V1 _ hv3.out) ?_);rintro e w5 ⟨rfl,⟨V5,hv5,hf5⟩,ha5⟩;have ho7:=HO3.out.away HS7.out ha5;have HO7:=Lib.hid ho7;have HO8:=Lib.hid (ho7.setV (.pointer (some ⟨q,0,none⟩)));have HO9:=Lib.hid (HO8.out.setE 0);have HV5:=Lib.hid hv5;have HF5:=Lib.hid hf5;obtain ⟨x0,x1,x2,x3⟩:=ho7.cells;obtain ⟨y0,y1,y2,y3⟩:=HO8.out.cells;clear hv5 hf5 ha5 ho7)
   | fail)
 have hsz:w.heap.size + 2<=W3.drew.heap.size:=(Array.getElem?_eq_some_iff.1 HO3.out.re).1
 have HV8:Hid (jdK Rep ((w5.setCell ⟨w.heap.size,0,none⟩ (.pointer (some ⟨q,0,none⟩))).setCell ⟨w.heap.size + 1,0,none⟩ (.int .i64 0)) p q F s (some ⟨p,0,none⟩) V5 ⟨t,a,g,192⟩):=by
  have hq:=HS7.out;have h8:=HV5.out.other HLL.out HF5.out (by omega) (fun hF=>Nat.lt_irrefl _ (hlt.out _ hF)) (show w.heap.size≠q by omega) (Y:=w5.setCell ⟨w.heap.size,0,none⟩ (.pointer (some ⟨q,0,none⟩))) (by simp [World.setCell]) (fun j hj=>jah _ _ _ _ _ (Ne.symm hj));exact h8.other HLL.out HF5.out (by omega) (fun hF=>by have:=hlt.out _ hF;omega) (show w.heap.size + 1≠q by omega) (by simp [World.setCell]) (fun j hj=>jah _ _ _ _ _ (Ne.symm hj))
 obtain ⟨z0,_,z2,_⟩:=HO9.out.cells;have hb9:=Lib.hid HO9.out.below;have hle:w.heap.size<=q:=by have:=HS7.out;omega
 clear hsz x0 x1 x2 x3 y0 y1 y2 y3 HO8 HO7 HS3 HSS;go_wp2;refine leaves_cons (f:=21) (args:=#[.pointer (some ⟨w.heap.size + 1,0,none⟩),.func (.func 22) #[] #[.pointer (some ⟨w.heap.size,0,none⟩)]]) (by simp) (by simp [go_sem]) ?_;refine (jh7 ⟨w.heap.size + 1,0,none⟩ _ _ z2).mono ?_;rintro e u' w'' ⟨rfl,rfl,rfl⟩;simp [Leaves,settle,results,Tryz.results8,go_sem,z0,z2];exact ⟨⟨V5,HV8.out⟩,hle,hb9.out⟩
end
end Go.Proofs.YtbnhkplhmanmoaaGreat
