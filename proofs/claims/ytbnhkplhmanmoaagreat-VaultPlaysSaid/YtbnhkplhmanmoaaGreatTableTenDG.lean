/- . -/
import Derived.Test.YtbnhkplhmanmoaaGreatTableByG
import Derived.Test.YtbnhkplhmanmoaaGreatTableC17G
namespace Go.Proofs.YtbnhkplhmanmoaaGreat
open Go.RowKit
set_option maxHeartbeats 6400000
set_option maxRecDepth 20000
theorem jiM {lo:Nat} {w:World} {t:Tab} (A1:Option Addr) (c1:Nat) (A2:Option Addr) (c2:Nat) (A3:Option Addr) (c3:Nat) (h:jaw lo w ⟨A1,c1,A2,c2,A3,c3⟩ t) (hl:lo<=w.heap.size) (hs:t.sound) (ra rb rc rd:Int) (key:ByteArray) (V0:jat) (hV0:V0=⟨A1,c1,A2,c2,A3,c3⟩) :
  Calls Tryz.prog 48 #[.agg #[.slice A1 t.ts.length c1,.slice A2 t.vs.length c2,.slice A3 t.os.length c3],.agg #[.int .i64 3,.int .i64 ra,.int .i64 rb,.int .i64 rc,.int .i64 rd,.string key],.int .i64 (jdI t.ts ra)] w (jcd lo w V0 (jar t ⟨3,ra,rb,rc,rd,key⟩)):=by
 obtain ⟨n1,n2,n3⟩:=jam hs;obtain ⟨W0,hW0,S0⟩:=jaW hV0 h hl 3 ra rb rc rd key;clear hV0;obtain ⟨N1,HN1⟩:∃ N,Hid (t.ts.length=N):=⟨_,rfl⟩;obtain ⟨N2,HN2⟩:∃ N,Hid (t.vs.length=N):=⟨_,rfl⟩;obtain ⟨N3,HN3⟩:∃ N,Hid (t.os.length=N):=⟨_,rfl⟩;have HALL:Hid (∀ X,Below W0.heap.size W0 X->jaR w X A1 N1 c1 A2 N2 c2 A3 N3 c3 3 ra rb rc rd key):=fun X hb=>(S0.later hb).all HN1.out HN2.out HN3.out
 have HFIN:Hid (∀ X,Below W0.heap.size W0 X->ja6 lo w V0 X A1 N1 c1 A2 N2 c2 A3 N3 c3 t):=fun X hb=>(S0.later hb).fin HN1.out HN2.out HN3.out
 have HOW:Hid (∀ X,Below W0.heap.size W0 X->Calls Tryz.prog 45 #[.agg #[.slice A1 N1 c1,.slice A2 N2 c2,.slice A3 N3 c3],.int .i64 ra] X fun e w'=>e=.returned (.int .i64 (ja0 t.os ra:Nat))/\Below X.heap.size X w'):=fun X hb=>by
  have q:=jcZ ⟨A1,c1,A2,c2,A3,c3⟩ t ra X (S0.later hb).bx.tab (by omega);unfold jan at q
  rwa [HN1.out,HN2.out,HN3.out] at q
 rw [HN1.out,HN2.out,HN3.out] at hW0 ⊢;have HW0:=Lib.hid hW0;obtain ⟨y0,y1,y2,r0,r1,r2,r3,r4,r5,s0,s1,s2,sf0,sf1,sf2,pf0,pf1⟩:=HALL.out W0 (Below.refl _ _);have HS0:=Lib.hid S0;have HB0:Hid (Below W0.heap.size W0 W0):=Below.refl _ _;rcases jaX t.ts ra with ⟨j,hj,he,hlj,hat⟩ | ⟨hlj,hat⟩
 ·rw [jdX hj he hlj];obtain ⟨g,hA,_,hgl,hX⟩:=S0.bx.tenAt hj;simp only at hA;subst hA;have j0:(0:Int)<=(j:Int):=by omega
  have jn:¬ (j:Int) < 0:=by omega
  have j1:(j:Int) < (N1:Int):=by have:=HN1.out;omega
  have hq:=(hs.ten _ (List.getElem_mem hj)).1.quota;obtain ⟨x,hx⟩:∃ x,x=t.ts[j]:=⟨_,rfl⟩;rw [<- hx] at hX hat hq;have HX:Hid (∀ X,Below W0.heap.size W0 X->(X.cell? ⟨g,j * 6,none⟩=some (.int .i64 x.id)/\X.cell? ⟨g,j * 6 + 1,none⟩=some (.int .i64 x.quota)/\X.cell? ⟨g,j * 6 + 2,none⟩=some (.int .i64 x.rate)/\X.cell? ⟨g,j * 6 + 3,none⟩=some (.int .i64 x.burst)/\X.cell? ⟨g,j * 6 + 4,none⟩=some (.string x.key)/\X.cell? ⟨g,j * 6 + 5,none⟩=some (.bool x.dying))/\X.frozen? ⟨g,j * 6 + 1,none⟩=false/\X.frozen? ⟨g,j * 6 + 5,none⟩=false):=fun X hb=>⟨(hX X hb).1,(hX X hb).2 _,(hX X hb).2 _⟩
  have HSET:Hid (∀ (i:Nat) (v:Value) (y:Ten),i < 6->jbP y=(jbP x).set i v->∀ X,Below W0.heap.size W0 X->jaR w (X.setCell ⟨g,j * 6 + i,none⟩ v) (some ⟨g,0,none⟩) N1 c1 A2 N2 c2 A3 N3 c3 3 ra rb rc rd key/\ja6 lo w V0 (X.setCell ⟨g,j * 6 + i,none⟩ v) (some ⟨g,0,none⟩) N1 c1 A2 N2 c2 A3 N3 c3 { t with ts:=t.ts.set j y }):=fun i v y hi hy X hb=>by
   have q:=(S0.later hb).setT rfl hj hi v y (by rw [<- hx];exact hy);have e2:({ t with ts:=t.ts.set j y } : Tab).ts.length=N1:=by show (t.ts.set j y).length=N1;rw [List.length_set];exact HN1.out
   exact ⟨q.all e2 HN2.out HN3.out,q.fin e2 HN2.out HN3.out⟩
  obtain ⟨⟨x0,x1,x2,x3,x4,x5⟩,f1,f5⟩:=HX.out W0 (Below.refl _ _);obtain ⟨W1,HW1⟩:∃ W,Hid (W=W0.alloc (.cells #[.int .i64 x.id,.int .i64 x.quota,.int .i64 x.rate,.int .i64 x.burst,.string x.key,.bool x.dying] 52)):=⟨_,rfl⟩;have HB1:Hid (Below W0.heap.size W0 W1):=by rw [HW1.out];exact (Below.refl _ _).alloc (Nat.le_refl _) _
  have HXB:Hid (∀ X,Below W1.heap.size W1 X->X.cell? ⟨W0.heap.size,1,none⟩=some (.int .i64 x.quota)/\X.cell? ⟨W0.heap.size,5,none⟩=some (.bool x.dying)):=fun X hb=>by
   have q:=heap_alloc_new W0 (.cells #[.int .i64 x.id,.int .i64 x.quota,.int .i64 x.rate,.int .i64 x.burst,.string x.key,.bool x.dying] 52);rw [<- HW1.out] at q;have q2:=(hb.block _ (Array.getElem?_eq_some_iff.1 q).1).trans q;exact ⟨by rw [cell_of_row _ _ _ _ _ _ q2];rfl,by rw [cell_of_row _ _ _ _ _ _ q2];rfl⟩
  have H3:jar t ⟨3,ra,rb,rc,rd,key⟩=if x.dying=true then (5,t) else (0,{ t with ts:=t.ts.set j { x with dying:=true } }):=by
   show jeZ t ⟨3,ra,rb,rc,rd,key⟩=_;unfold jeZ;rw [hat];show (if x.dying=true then _ else _)=_;rw [jcl Ten.id (fun x=>{ x with dying:=true }) hj hs.up he,<- hx]
  obtain ⟨T,hT⟩:∃ T,T=({ t with ts:=t.ts.set j { x with dying:=true } } : Tab):=⟨_,rfl⟩;have HS3:=HSET.out 5 (.bool true) { x with dying:=true } (by decide) rfl _ HB1.out;rw [<- hT] at HS3 H3;obtain ⟨W2,HW2⟩:∃ W,Hid (W=W1.setCell ⟨g,j * 6 + 5,none⟩ (.bool true)):=⟨_,rfl⟩;rw [<- HW2.out] at HS3;have HS2:=Lib.hid HS3;obtain ⟨xi,xq,xr,xb,xk,xd⟩:=x;simp only at x0 x1 x2 x3 x4 x5 HX HXB HW1 H3;clear h hl hs S0 hW0 n1 n2 n3 hX hgl hlj hat he hj hx hq hT HS3 HSET HOW;cases xd
  ·have HE:Hid (jar t ⟨3,ra,rb,rc,rd,key⟩=(0,T)):=by show _=_;rw [H3,if_neg (by decide)]
   rw [HE.out];clear HE H3;go_enter Tryz.func48,Tryz.ntmps48
   go_wp2_with (first
    | (rw [<- HW0.out];clear HW0)
    | (rw [<- HW1.out];clear HW1;obtain ⟨e1,e5⟩:=HXB.out W1 (Below.refl _ _);obtain ⟨y0,y1,y2,r0,r1,r2,r3,r4,r5,s0,s1,s2,sf0,sf1,sf2,pf0,pf1⟩:=HALL.out W1 HB1.out;obtain ⟨⟨x0,x1,x2,x3,x4,x5⟩,f1,f5⟩:=HX.out W1 HB1.out)
    | (rw [<- HW2.out];clear HW2;obtain ⟨y0,y1,y2,r0,r1,r2,r3,r4,r5,s0,s1,s2,sf0,sf1,sf2,pf0,pf1⟩:=HS2.out.1))
   have hr:=HS2.out.2;refine bodyPost_ret (jab rfl _ _ (w.heap.size + 1 + 1) _ _ _ _ rfl hr.1 Tryz.underlying35 rfl (by kernel_rfl)) rfl ?_;exact hr.2 0 _ rfl
  ·have HE:Hid (jar t ⟨3,ra,rb,rc,rd,key⟩=(5,t)):=by show _=_;rw [H3,if_pos rfl]
   rw [HE.out];clear HE H3;go_enter Tryz.func48,Tryz.ntmps48
   go_wp2_with (first
    | (rw [<- HW0.out];clear HW0)
    | (rw [<- HW1.out];clear HW1;obtain ⟨e1,e5⟩:=HXB.out W1 (Below.refl _ _);obtain ⟨y0,y1,y2,r0,r1,r2,r3,r4,r5,s0,s1,s2,sf0,sf1,sf2,pf0,pf1⟩:=HALL.out W1 HB1.out;obtain ⟨⟨x0,x1,x2,x3,x4,x5⟩,f1,f5⟩:=HX.out W1 HB1.out))
   have hr:=HFIN.out _ HB1.out;refine bodyPost_ret (jab rfl _ _ (w.heap.size + 1 + 1) _ _ _ _ rfl hr.1 Tryz.underlying35 rfl (by kernel_rfl)) rfl ?_;exact hr.2 5 _ rfl
 ·rw [jdU hlj]
  have HE:Hid (jar t ⟨3,ra,rb,rc,rd,key⟩=(4,t)):=by
   show jeZ t _=_;unfold jeZ;rw [hat]
  rw [HE.out];clear HE h hl hs S0 hW0 n1 n2 n3 hlj hat HOW;go_enter Tryz.func48,Tryz.ntmps48
  go_wp2_with (first
   | (rw [<- HW0.out];clear HW0))
  have hr:=HFIN.out _ HB0.out;refine bodyPost_ret (jab rfl _ _ (w.heap.size + 1 + 1) _ _ _ _ rfl hr.1 Tryz.underlying35 rfl (by kernel_rfl)) rfl ?_;exact hr.2 4 _ rfl
theorem ji5 {lo:Nat} {w:World} {t:Tab} (A1:Option Addr) (c1:Nat) (A2:Option Addr) (c2:Nat) (A3:Option Addr) (c3:Nat) (h:jaw lo w ⟨A1,c1,A2,c2,A3,c3⟩ t) (hl:lo<=w.heap.size) (hs:t.sound) (ra rb rc rd:Int) (key:ByteArray) (hf:inR rb 1 64) (V0:jat) (hV0:V0=⟨A1,c1,A2,c2,A3,c3⟩) :
  Calls Tryz.prog 48 #[.agg #[.slice A1 t.ts.length c1,.slice A2 t.vs.length c2,.slice A3 t.os.length c3],.agg #[.int .i64 2,.int .i64 ra,.int .i64 rb,.int .i64 rc,.int .i64 rd,.string key],.int .i64 (jdI t.ts ra)] w (jcd lo w V0 (jar t ⟨2,ra,rb,rc,rd,key⟩)):=by
 obtain ⟨n1,n2,n3⟩:=jam hs;obtain ⟨W0,hW0,S0⟩:=jaW hV0 h hl 2 ra rb rc rd key;clear hV0;obtain ⟨N1,HN1⟩:∃ N,Hid (t.ts.length=N):=⟨_,rfl⟩;obtain ⟨N2,HN2⟩:∃ N,Hid (t.vs.length=N):=⟨_,rfl⟩;obtain ⟨N3,HN3⟩:∃ N,Hid (t.os.length=N):=⟨_,rfl⟩;have HALL:Hid (∀ X,Below W0.heap.size W0 X->jaR w X A1 N1 c1 A2 N2 c2 A3 N3 c3 2 ra rb rc rd key):=fun X hb=>(S0.later hb).all HN1.out HN2.out HN3.out
 have HFIN:Hid (∀ X,Below W0.heap.size W0 X->ja6 lo w V0 X A1 N1 c1 A2 N2 c2 A3 N3 c3 t):=fun X hb=>(S0.later hb).fin HN1.out HN2.out HN3.out
 have HOW:Hid (∀ X,Below W0.heap.size W0 X->Calls Tryz.prog 45 #[.agg #[.slice A1 N1 c1,.slice A2 N2 c2,.slice A3 N3 c3],.int .i64 ra] X fun e w'=>e=.returned (.int .i64 (ja0 t.os ra:Nat))/\Below X.heap.size X w'):=fun X hb=>by
  have q:=jcZ ⟨A1,c1,A2,c2,A3,c3⟩ t ra X (S0.later hb).bx.tab (by omega);unfold jan at q
  rwa [HN1.out,HN2.out,HN3.out] at q
 rw [HN1.out,HN2.out,HN3.out] at hW0 ⊢;have HW0:=Lib.hid hW0;obtain ⟨y0,y1,y2,r0,r1,r2,r3,r4,r5,s0,s1,s2,sf0,sf1,sf2,pf0,pf1⟩:=HALL.out W0 (Below.refl _ _);have HS0:=Lib.hid S0;have HB0:Hid (Below W0.heap.size W0 W0):=Below.refl _ _;rcases jaX t.ts ra with ⟨j,hj,he,hlj,hat⟩ | ⟨hlj,hat⟩
 ·rw [jdX hj he hlj];obtain ⟨g,hA,_,hgl,hX⟩:=S0.bx.tenAt hj;simp only at hA;subst hA;have j0:(0:Int)<=(j:Int):=by omega
  have jn:¬ (j:Int) < 0:=by omega
  have j1:(j:Int) < (N1:Int):=by have:=HN1.out;omega
  have hq:=(hs.ten _ (List.getElem_mem hj)).1.quota;obtain ⟨x,hx⟩:∃ x,x=t.ts[j]:=⟨_,rfl⟩;rw [<- hx] at hX hat hq;have HX:Hid (∀ X,Below W0.heap.size W0 X->(X.cell? ⟨g,j * 6,none⟩=some (.int .i64 x.id)/\X.cell? ⟨g,j * 6 + 1,none⟩=some (.int .i64 x.quota)/\X.cell? ⟨g,j * 6 + 2,none⟩=some (.int .i64 x.rate)/\X.cell? ⟨g,j * 6 + 3,none⟩=some (.int .i64 x.burst)/\X.cell? ⟨g,j * 6 + 4,none⟩=some (.string x.key)/\X.cell? ⟨g,j * 6 + 5,none⟩=some (.bool x.dying))/\X.frozen? ⟨g,j * 6 + 1,none⟩=false/\X.frozen? ⟨g,j * 6 + 5,none⟩=false):=fun X hb=>⟨(hX X hb).1,(hX X hb).2 _,(hX X hb).2 _⟩
  have HSET:Hid (∀ (i:Nat) (v:Value) (y:Ten),i < 6->jbP y=(jbP x).set i v->∀ X,Below W0.heap.size W0 X->jaR w (X.setCell ⟨g,j * 6 + i,none⟩ v) (some ⟨g,0,none⟩) N1 c1 A2 N2 c2 A3 N3 c3 2 ra rb rc rd key/\ja6 lo w V0 (X.setCell ⟨g,j * 6 + i,none⟩ v) (some ⟨g,0,none⟩) N1 c1 A2 N2 c2 A3 N3 c3 { t with ts:=t.ts.set j y }):=fun i v y hi hy X hb=>by
   have q:=(S0.later hb).setT rfl hj hi v y (by rw [<- hx];exact hy);have e2:({ t with ts:=t.ts.set j y } : Tab).ts.length=N1:=by show (t.ts.set j y).length=N1;rw [List.length_set];exact HN1.out
   exact ⟨q.all e2 HN2.out HN3.out,q.fin e2 HN2.out HN3.out⟩
  obtain ⟨⟨x0,x1,x2,x3,x4,x5⟩,f1,f5⟩:=HX.out W0 (Below.refl _ _);obtain ⟨W1,HW1⟩:∃ W,Hid (W=W0.alloc (.cells #[.int .i64 x.id,.int .i64 x.quota,.int .i64 x.rate,.int .i64 x.burst,.string x.key,.bool x.dying] 52)):=⟨_,rfl⟩;have HB1:Hid (Below W0.heap.size W0 W1):=by rw [HW1.out];exact (Below.refl _ _).alloc (Nat.le_refl _) _
  have HXB:Hid (∀ X,Below W1.heap.size W1 X->X.cell? ⟨W0.heap.size,1,none⟩=some (.int .i64 x.quota)/\X.cell? ⟨W0.heap.size,5,none⟩=some (.bool x.dying)):=fun X hb=>by
   have q:=heap_alloc_new W0 (.cells #[.int .i64 x.id,.int .i64 x.quota,.int .i64 x.rate,.int .i64 x.burst,.string x.key,.bool x.dying] 52);rw [<- HW1.out] at q;have q2:=(hb.block _ (Array.getElem?_eq_some_iff.1 q).1).trans q;exact ⟨by rw [cell_of_row _ _ _ _ _ _ q2];rfl,by rw [cell_of_row _ _ _ _ _ _ q2];rfl⟩
  have H2:jar t ⟨2,ra,rb,rc,rd,key⟩=if x.dying=true∨rb < (ja0 t.os ra:Int) then (10,t) else if (N3:Int) < jbp t.ts - x.quota + rb then (6,t) else (0,{ t with ts:=t.ts.set j { x with quota:=rb } }):=by
   show jeS t ⟨2,ra,rb,rc,rd,key⟩=_;unfold jeS;rw [hat];show (if x.dying=true∨rb < (ja0 t.os ra:Int) then _ else if (t.os.length:Int) < _ then _ else _)=_;rw [jcl Ten.id (fun x=>{ x with quota:=rb }) hj hs.up he,<- hx,HN3.out]
  have HQU:Hid (∀ X,Below W0.heap.size W0 X->Calls Tryz.prog 47 #[.agg #[.slice (some ⟨g,0,none⟩) N1 c1,.slice A2 N2 c2,.slice A3 N3 c3]] X fun e w'=>e=.returned (.int .i64 (jbp t.ts))/\Below X.heap.size X w'):=fun X hb=>by
   have q:=jc9 ⟨some ⟨g,0,none⟩,c1,A2,c2,A3,c3⟩ t X (S0.later hb).bx.tab (by omega) (fun x hx=>(hs.ten x hx).1.quota);unfold jan at q
   rwa [HN1.out,HN2.out,HN3.out] at q
  have hsq:=jb3 (fun x hx=>(hs.ten x hx).1.quota) t.ts.length;rw [List.take_length] at hsq;obtain ⟨m,hm⟩:∃ m,m=ja0 t.os ra:=⟨_,rfl⟩;obtain ⟨s,hsm⟩:∃ s,s=jbp t.ts:=⟨_,rfl⟩;simp only [<- hm] at HOW;rw [<- hsm] at HQU hsq H2;rw [<- hm] at H2;obtain ⟨T,hT⟩:∃ T,T=({ t with ts:=t.ts.set j { x with quota:=rb } } : Tab):=⟨_,rfl⟩;have HST:=Lib.hid (HSET.out 1 (.int .i64 rb) { x with quota:=rb } (by decide) rfl);rw [<- hT] at HST H2;obtain ⟨xi,xq,xr,xb,xk,xd⟩:=x;simp only at x0 x1 x2 x3 x4 x5 HX HXB HW1 H2 hq;unfold inR at hf;have v1:IntKind.i64.wrap (s - xq)=s - xq:=IntWalk.i64_in _ (by omega);have v2:IntKind.i64.wrap (s - xq + rb)=s - xq + rb:=IntWalk.i64_in _ (by omega);have HV1:=Lib.hid v1;have HV2:=Lib.hid v2;clear h hl hs S0 hW0 n1 n2 n3 hX hgl hlj hat he hj hx hq hT HSET hm hsm hsq hf v1 v2;cases xd
  ·by_cases cq:rb < (m:Int)
   ·have HE:Hid (jar t ⟨2,ra,rb,rc,rd,key⟩=(10,t)):=by show _=_;rw [H2,if_pos (.inr cq)]
    rw [HE.out];have d1:(m:Int) > rb:=cq;clear HE H2 cq;go_enter Tryz.func48,Tryz.ntmps48
    go_wp2_with (first
     | (rw [<- HW0.out];clear HW0)
     | (rw [<- HW1.out];clear HW1;obtain ⟨e1,e5⟩:=HXB.out W1 (Below.refl _ _);obtain ⟨y0,y1,y2,r0,r1,r2,r3,r4,r5,s0,s1,s2,sf0,sf1,sf2,pf0,pf1⟩:=HALL.out W1 HB1.out;obtain ⟨⟨x0,x1,x2,x3,x4,x5⟩,f1,f5⟩:=HX.out W1 HB1.out))
    have hbx:=HB1.out.drew;have hb1x:=(Below.refl W1.heap.size W1).drew
    go_region_held3 (fun W=>((W.cell? ⟨W0.heap.size,5,none⟩=some (.bool false))/\W.cell? ⟨w.heap.size,0,none⟩=some (.slice (some ⟨g,0,none⟩) N1 c1)/\W.cell? ⟨w.heap.size,1,none⟩=some (.slice A2 N2 c2)/\W.cell? ⟨w.heap.size,2,none⟩=some (.slice A3 N3 c3))/\W.cell? ⟨w.heap.size + 1,1,none⟩=some (.int .i64 ra)/\W.cell? ⟨w.heap.size + 1,2,none⟩=some (.int .i64 rb))
     (exact ⟨⟨(HXB.out _ hb1x).2,(HALL.out _ hbx).1,(HALL.out _ hbx).2.1,(HALL.out _ hbx).2.2.1⟩,(HALL.out _ hbx).2.2.2.2.1,(HALL.out _ hbx).2.2.2.2.2.1⟩)
     (first
      | (go_at_call 45;with_reducible (refine Calls.mono (HOW.out _ hbx) ?_);rintro e w3 ⟨rfl,hb3⟩;have hbx:=jaa hbx hb3;have hb1x:=jaa hb1x hb3)
      | fail)
    obtain ⟨y0,y1,y2,r0,r1,r2,r3,r4,r5,s0,s1,s2,sf0,sf1,sf2,pf0,pf1⟩:=HALL.out _ hbx;go_wp2;have hr:=HFIN.out _ hbx;refine bodyPost_ret (jab rfl _ _ (w.heap.size + 1 + 1) _ _ _ _ rfl hr.1 Tryz.underlying35 rfl (by kernel_rfl)) rfl ?_;exact hr.2 10 _ rfl
   ·rw [if_neg (fun q=>q.elim (by decide) cq)] at H2;have d1:¬ (m:Int) > rb:=cq;by_cases cr:(N3:Int) < s - xq + rb
    ·have HE:Hid (jar t ⟨2,ra,rb,rc,rd,key⟩=(6,t)):=by show _=_;rw [H2,if_pos cr]
     rw [HE.out];have d2:s - xq + rb > (N3:Int):=cr;clear HE H2 cq cr;go_enter Tryz.func48,Tryz.ntmps48
     go_wp2_with (first
      | (rw [<- HW0.out];clear HW0)
      | (rw [<- HW1.out];clear HW1;obtain ⟨e1,e5⟩:=HXB.out W1 (Below.refl _ _);obtain ⟨y0,y1,y2,r0,r1,r2,r3,r4,r5,s0,s1,s2,sf0,sf1,sf2,pf0,pf1⟩:=HALL.out W1 HB1.out;obtain ⟨⟨x0,x1,x2,x3,x4,x5⟩,f1,f5⟩:=HX.out W1 HB1.out))
     have hbx:=HB1.out.drew;have hb1x:=(Below.refl W1.heap.size W1).drew
     go_region_held3 (fun W=>((W.cell? ⟨W0.heap.size,5,none⟩=some (.bool false))/\W.cell? ⟨w.heap.size,0,none⟩=some (.slice (some ⟨g,0,none⟩) N1 c1)/\W.cell? ⟨w.heap.size,1,none⟩=some (.slice A2 N2 c2)/\W.cell? ⟨w.heap.size,2,none⟩=some (.slice A3 N3 c3))/\W.cell? ⟨w.heap.size + 1,1,none⟩=some (.int .i64 ra)/\W.cell? ⟨w.heap.size + 1,2,none⟩=some (.int .i64 rb))
      (exact ⟨⟨(HXB.out _ hb1x).2,(HALL.out _ hbx).1,(HALL.out _ hbx).2.1,(HALL.out _ hbx).2.2.1⟩,(HALL.out _ hbx).2.2.2.2.1,(HALL.out _ hbx).2.2.2.2.2.1⟩)
      (first
       | (go_at_call 45;with_reducible (refine Calls.mono (HOW.out _ hbx) ?_);rintro e w3 ⟨rfl,hb3⟩;have hbx:=jaa hbx hb3;have hb1x:=jaa hb1x hb3)
       | fail)
     obtain ⟨y0,y1,y2,r0,r1,r2,r3,r4,r5,s0,s1,s2,sf0,sf1,sf2,pf0,pf1⟩:=HALL.out _ hbx
     go_wp2_with fail
     have v1:=HV1.out;have v2:=HV2.out;have hbx:=hbx.drew;have hb1x:=hb1x.drew
     go_region_held3 (fun W=>((W.cell? ⟨W0.heap.size,1,none⟩=some (.int .i64 xq))/\W.cell? ⟨w.heap.size,0,none⟩=some (.slice (some ⟨g,0,none⟩) N1 c1)/\W.cell? ⟨w.heap.size,1,none⟩=some (.slice A2 N2 c2)/\W.cell? ⟨w.heap.size,2,none⟩=some (.slice A3 N3 c3))/\W.cell? ⟨w.heap.size + 1,2,none⟩=some (.int .i64 rb))
      (exact ⟨⟨(HXB.out _ hb1x).1,(HALL.out _ hbx).1,(HALL.out _ hbx).2.1,(HALL.out _ hbx).2.2.1⟩,(HALL.out _ hbx).2.2.2.2.2.1⟩)
      (first
       | (go_at_call 47;with_reducible (refine Calls.mono (HQU.out _ hbx) ?_);rintro e w4 ⟨rfl,hb4⟩;have hbx:=jaa hbx hb4;have hb1x:=jaa hb1x hb4)
       | fail)
     obtain ⟨y0,y1,y2,r0,r1,r2,r3,r4,r5,s0,s1,s2,sf0,sf1,sf2,pf0,pf1⟩:=HALL.out _ hbx;go_wp2;have hr:=HFIN.out _ hbx;refine bodyPost_ret (jab rfl _ _ (w.heap.size + 1 + 1) _ _ _ _ rfl hr.1 Tryz.underlying35 rfl (by kernel_rfl)) rfl ?_;exact hr.2 6 _ rfl
    ·have HE:Hid (jar t ⟨2,ra,rb,rc,rd,key⟩=(0,T)):=by show _=_;rw [H2,if_neg cr]
     rw [HE.out];have d2:¬ s - xq + rb > (N3:Int):=cr;clear HE H2 cq cr;go_enter Tryz.func48,Tryz.ntmps48
     go_wp2_with (first
      | (rw [<- HW0.out];clear HW0)
      | (rw [<- HW1.out];clear HW1;obtain ⟨e1,e5⟩:=HXB.out W1 (Below.refl _ _);obtain ⟨y0,y1,y2,r0,r1,r2,r3,r4,r5,s0,s1,s2,sf0,sf1,sf2,pf0,pf1⟩:=HALL.out W1 HB1.out;obtain ⟨⟨x0,x1,x2,x3,x4,x5⟩,f1,f5⟩:=HX.out W1 HB1.out))
     have hbx:=HB1.out.drew;have hb1x:=(Below.refl W1.heap.size W1).drew
     go_region_held3 (fun W=>((W.cell? ⟨W0.heap.size,5,none⟩=some (.bool false))/\W.cell? ⟨w.heap.size,0,none⟩=some (.slice (some ⟨g,0,none⟩) N1 c1)/\W.cell? ⟨w.heap.size,1,none⟩=some (.slice A2 N2 c2)/\W.cell? ⟨w.heap.size,2,none⟩=some (.slice A3 N3 c3))/\W.cell? ⟨w.heap.size + 1,1,none⟩=some (.int .i64 ra)/\W.cell? ⟨w.heap.size + 1,2,none⟩=some (.int .i64 rb))
      (exact ⟨⟨(HXB.out _ hb1x).2,(HALL.out _ hbx).1,(HALL.out _ hbx).2.1,(HALL.out _ hbx).2.2.1⟩,(HALL.out _ hbx).2.2.2.2.1,(HALL.out _ hbx).2.2.2.2.2.1⟩)
      (first
       | (go_at_call 45;with_reducible (refine Calls.mono (HOW.out _ hbx) ?_);rintro e w3 ⟨rfl,hb3⟩;have hbx:=jaa hbx hb3;have hb1x:=jaa hb1x hb3)
       | fail)
     obtain ⟨y0,y1,y2,r0,r1,r2,r3,r4,r5,s0,s1,s2,sf0,sf1,sf2,pf0,pf1⟩:=HALL.out _ hbx
     go_wp2_with fail
     have v1:=HV1.out;have v2:=HV2.out;have hbx:=hbx.drew;have hb1x:=hb1x.drew
     go_region_held3 (fun W=>((W.cell? ⟨W0.heap.size,1,none⟩=some (.int .i64 xq))/\W.cell? ⟨w.heap.size,0,none⟩=some (.slice (some ⟨g,0,none⟩) N1 c1)/\W.cell? ⟨w.heap.size,1,none⟩=some (.slice A2 N2 c2)/\W.cell? ⟨w.heap.size,2,none⟩=some (.slice A3 N3 c3))/\W.cell? ⟨w.heap.size + 1,2,none⟩=some (.int .i64 rb))
      (exact ⟨⟨(HXB.out _ hb1x).1,(HALL.out _ hbx).1,(HALL.out _ hbx).2.1,(HALL.out _ hbx).2.2.1⟩,(HALL.out _ hbx).2.2.2.2.2.1⟩)
      (first
       | (go_at_call 47;with_reducible (refine Calls.mono (HQU.out _ hbx) ?_);rintro e w4 ⟨rfl,hb4⟩;have hbx:=jaa hbx hb4;have hb1x:=jaa hb1x hb4)
       | fail)
     obtain ⟨y0,y1,y2,r0,r1,r2,r3,r4,r5,s0,s1,s2,sf0,sf1,sf2,pf0,pf1⟩:=HALL.out _ hbx;obtain ⟨_,f1,f5⟩:=HX.out _ hbx;have x1:=(HX.out _ hbx).1.2.1;obtain ⟨W2,HW2⟩:∃ W,Hid (W=w4.setCell ⟨g,j * 6 + 1,none⟩ (.int .i64 rb)):=⟨_,rfl⟩;have HS1:=Lib.hid (HST.out _ hbx);rw [<- HW2.out] at HS1
     go_wp2_with (first
      | (rw [<- HW2.out];clear HW2;obtain ⟨y0,y1,y2,r0,r1,r2,r3,r4,r5,s0,s1,s2,sf0,sf1,sf2,pf0,pf1⟩:=HS1.out.1))
     have hr:=HS1.out.2;refine bodyPost_ret (jab rfl _ _ (w.heap.size + 1 + 1) _ _ _ _ rfl hr.1 Tryz.underlying35 rfl (by kernel_rfl)) rfl ?_;exact hr.2 0 _ rfl
  ·have HE:Hid (jar t ⟨2,ra,rb,rc,rd,key⟩=(10,t)):=by show _=_;rw [H2,if_pos (.inl rfl)]
   rw [HE.out];clear HE H2;go_enter Tryz.func48,Tryz.ntmps48
   go_wp2_with (first
    | (rw [<- HW0.out];clear HW0)
    | (rw [<- HW1.out];clear HW1;obtain ⟨e1,e5⟩:=HXB.out W1 (Below.refl _ _);obtain ⟨y0,y1,y2,r0,r1,r2,r3,r4,r5,s0,s1,s2,sf0,sf1,sf2,pf0,pf1⟩:=HALL.out W1 HB1.out;obtain ⟨⟨x0,x1,x2,x3,x4,x5⟩,f1,f5⟩:=HX.out W1 HB1.out))
   go_quiet (fail)
   have hbx:=jaz HB1.out nq;obtain ⟨y0,y1,y2,r0,r1,r2,r3,r4,r5,s0,s1,s2,sf0,sf1,sf2,pf0,pf1⟩:=HALL.out _ hbx;go_wp2;have hr:=HFIN.out _ hbx;refine bodyPost_ret (jab rfl _ _ (w.heap.size + 1 + 1) _ _ _ _ rfl hr.1 Tryz.underlying35 rfl (by kernel_rfl)) rfl ?_;exact hr.2 10 _ rfl
 ·rw [jdU hlj]
  have HE:Hid (jar t ⟨2,ra,rb,rc,rd,key⟩=(4,t)):=by
   show jeS t _=_;unfold jeS;rw [hat]
  rw [HE.out];clear HE h hl hs S0 hW0 n1 n2 n3 hlj hat HOW;go_enter Tryz.func48,Tryz.ntmps48
  go_wp2_with (first
   | (rw [<- HW0.out];clear HW0))
  have hr:=HFIN.out _ HB0.out;refine bodyPost_ret (jab rfl _ _ (w.heap.size + 1 + 1) _ _ _ _ rfl hr.1 Tryz.underlying35 rfl (by kernel_rfl)) rfl ?_;exact hr.2 4 _ rfl
theorem jjn {lo:Nat} {w:World} {t:Tab} (A1:Option Addr) (c1:Nat) (A2:Option Addr) (c2:Nat) (A3:Option Addr) (c3:Nat) (h:jaw lo w ⟨A1,c1,A2,c2,A3,c3⟩ t) (hl:lo<=w.heap.size) (hs:t.sound) (ra rb rc rd:Int) (key:ByteArray) (V0:jat) (hV0:V0=⟨A1,c1,A2,c2,A3,c3⟩) :
  Calls Tryz.prog 48 #[.agg #[.slice A1 t.ts.length c1,.slice A2 t.vs.length c2,.slice A3 t.os.length c3],.agg #[.int .i64 4,.int .i64 ra,.int .i64 rb,.int .i64 rc,.int .i64 rd,.string key],.int .i64 (jdI t.ts ra)] w (jcd lo w V0 (jar t ⟨4,ra,rb,rc,rd,key⟩)):=by
 obtain ⟨n1,n2,n3⟩:=jam hs;obtain ⟨W0,hW0,S0⟩:=jaW hV0 h hl 4 ra rb rc rd key;clear hV0;obtain ⟨N1,HN1⟩:∃ N,Hid (t.ts.length=N):=⟨_,rfl⟩;obtain ⟨N2,HN2⟩:∃ N,Hid (t.vs.length=N):=⟨_,rfl⟩;obtain ⟨N3,HN3⟩:∃ N,Hid (t.os.length=N):=⟨_,rfl⟩;have HALL:Hid (∀ X,Below W0.heap.size W0 X->jaR w X A1 N1 c1 A2 N2 c2 A3 N3 c3 4 ra rb rc rd key):=fun X hb=>(S0.later hb).all HN1.out HN2.out HN3.out
 have HFIN:Hid (∀ X,Below W0.heap.size W0 X->ja6 lo w V0 X A1 N1 c1 A2 N2 c2 A3 N3 c3 t):=fun X hb=>(S0.later hb).fin HN1.out HN2.out HN3.out
 have HOW:Hid (∀ X,Below W0.heap.size W0 X->Calls Tryz.prog 45 #[.agg #[.slice A1 N1 c1,.slice A2 N2 c2,.slice A3 N3 c3],.int .i64 ra] X fun e w'=>e=.returned (.int .i64 (ja0 t.os ra:Nat))/\Below X.heap.size X w'):=fun X hb=>by
  have q:=jcZ ⟨A1,c1,A2,c2,A3,c3⟩ t ra X (S0.later hb).bx.tab (by omega);unfold jan at q
  rwa [HN1.out,HN2.out,HN3.out] at q
 rw [HN1.out,HN2.out,HN3.out] at hW0 ⊢;have HW0:=Lib.hid hW0;obtain ⟨y0,y1,y2,r0,r1,r2,r3,r4,r5,s0,s1,s2,sf0,sf1,sf2,pf0,pf1⟩:=HALL.out W0 (Below.refl _ _);have HS0:=Lib.hid S0;have HB0:Hid (Below W0.heap.size W0 W0):=Below.refl _ _;rcases jaX t.ts ra with ⟨j,hj,he,hlj,hat⟩ | ⟨hlj,hat⟩
 ·rw [jdX hj he hlj];obtain ⟨g,hA,_,hgl,hX⟩:=S0.bx.tenAt hj;simp only at hA;subst hA;have j0:(0:Int)<=(j:Int):=by omega
  have jn:¬ (j:Int) < 0:=by omega
  have j1:(j:Int) < (N1:Int):=by have:=HN1.out;omega
  have hq:=(hs.ten _ (List.getElem_mem hj)).1.quota;obtain ⟨x,hx⟩:∃ x,x=t.ts[j]:=⟨_,rfl⟩;rw [<- hx] at hX hat hq;have HX:Hid (∀ X,Below W0.heap.size W0 X->(X.cell? ⟨g,j * 6,none⟩=some (.int .i64 x.id)/\X.cell? ⟨g,j * 6 + 1,none⟩=some (.int .i64 x.quota)/\X.cell? ⟨g,j * 6 + 2,none⟩=some (.int .i64 x.rate)/\X.cell? ⟨g,j * 6 + 3,none⟩=some (.int .i64 x.burst)/\X.cell? ⟨g,j * 6 + 4,none⟩=some (.string x.key)/\X.cell? ⟨g,j * 6 + 5,none⟩=some (.bool x.dying))/\X.frozen? ⟨g,j * 6 + 1,none⟩=false/\X.frozen? ⟨g,j * 6 + 5,none⟩=false):=fun X hb=>⟨(hX X hb).1,(hX X hb).2 _,(hX X hb).2 _⟩
  have HSET:Hid (∀ (i:Nat) (v:Value) (y:Ten),i < 6->jbP y=(jbP x).set i v->∀ X,Below W0.heap.size W0 X->jaR w (X.setCell ⟨g,j * 6 + i,none⟩ v) (some ⟨g,0,none⟩) N1 c1 A2 N2 c2 A3 N3 c3 4 ra rb rc rd key/\ja6 lo w V0 (X.setCell ⟨g,j * 6 + i,none⟩ v) (some ⟨g,0,none⟩) N1 c1 A2 N2 c2 A3 N3 c3 { t with ts:=t.ts.set j y }):=fun i v y hi hy X hb=>by
   have q:=(S0.later hb).setT rfl hj hi v y (by rw [<- hx];exact hy);have e2:({ t with ts:=t.ts.set j y } : Tab).ts.length=N1:=by show (t.ts.set j y).length=N1;rw [List.length_set];exact HN1.out
   exact ⟨q.all e2 HN2.out HN3.out,q.fin e2 HN2.out HN3.out⟩
  obtain ⟨⟨x0,x1,x2,x3,x4,x5⟩,f1,f5⟩:=HX.out W0 (Below.refl _ _);obtain ⟨W1,HW1⟩:∃ W,Hid (W=W0.alloc (.cells #[.int .i64 x.id,.int .i64 x.quota,.int .i64 x.rate,.int .i64 x.burst,.string x.key,.bool x.dying] 52)):=⟨_,rfl⟩;have HB1:Hid (Below W0.heap.size W0 W1):=by rw [HW1.out];exact (Below.refl _ _).alloc (Nat.le_refl _) _
  have HXB:Hid (∀ X,Below W1.heap.size W1 X->X.cell? ⟨W0.heap.size,1,none⟩=some (.int .i64 x.quota)/\X.cell? ⟨W0.heap.size,5,none⟩=some (.bool x.dying)):=fun X hb=>by
   have q:=heap_alloc_new W0 (.cells #[.int .i64 x.id,.int .i64 x.quota,.int .i64 x.rate,.int .i64 x.burst,.string x.key,.bool x.dying] 52);rw [<- HW1.out] at q;have q2:=(hb.block _ (Array.getElem?_eq_some_iff.1 q).1).trans q;exact ⟨by rw [cell_of_row _ _ _ _ _ _ q2];rfl,by rw [cell_of_row _ _ _ _ _ _ q2];rfl⟩
  have H4:jar t ⟨4,ra,rb,rc,rd,key⟩=if x.dying=false∨0 < ja0 t.os ra∨jkC t.vs ra then (10,t) else (0,{ t with ts:=t.ts.eraseIdx j }):=by
   show je4 t ⟨4,ra,rb,rc,rd,key⟩=_;unfold je4;rw [hat];show (if x.dying=false∨0 < ja0 t.os ra∨jkC t.vs ra then _ else _)=_;rw [jcc Ten.id hj hs.up he]
  obtain ⟨i0,hi,hz0,hz1,hz2⟩:=info_parts Tryz.infoTenD;have c1N:N1<=c1:=by have:=jqp S0.bx.rows.ts;rwa [HN1.out] at this
  have n1N:N1<=7:=by have:=HN1.out;omega
  have n2N:N2<=8:=by have:=HN2.out;omega
  have HNN:Hid (N1<=c1/\N1<=7/\N2<=8):=⟨c1N,n1N,n2N⟩;have HCUT:Hid (∀ X,Below W0.heap.size W0 X->jaP X lo 52 6 (some ⟨g,0,none⟩) j j (jaE jbP (t.ts.take j))):=fun X hb=>joC jaF (S0.later hb).bx.rows.ts rfl (Nat.le_of_lt hj)
  obtain ⟨ad,hif,had⟩:=joB g c1 j 6;have HIF:=Lib.hid hif;have HFL:Hid ((jaE jbP (t.ts.drop (j + 1))).length=(N1 - (j + 1)) * 6):=by show _=_;rw [jaY jaF,List.length_drop,HN1.out]
  have HF1:=Lib.hid (jcm jbT (t.ts.drop (j + 1)));have HNW:Hid (∀ X,Below W0.heap.size W0 X->∀ i u,(jaE jbP (t.ts.drop (j + 1)))[i]? = some u->X.cell? (ad.add i)=some u):=fun X hb=>jlo (S0.later hb).bx.tab.ts (by rw [HN1.out];exact c1N) had
  have HLO:=Lib.hid S0.lo_le
  have HMID:Hid (∀ X0,Below W0.heap.size W0 X0->∀ X,X0.grownBy X (ob (some ⟨g,0,none⟩))->X.cell? ⟨w.heap.size,0,none⟩=some (.slice (some ⟨g,0,none⟩) N1 c1)/\X.frozen? ⟨w.heap.size,0,none⟩=false):=fun X0 h0 X hg=>by
   have q:=(S0.later h0).midT hg
   rwa [HN1.out] at q
  have HEND:Hid (∀ X0,Below W0.heap.size W0 X0->∀ A' c' X,jaP X lo 52 6 A' (j + (N1 - (j + 1))) c' (jaE jbP (t.ts.take j) ++ jaE jbP (t.ts.drop (j + 1)))->X0.grownBy X (ob (some ⟨g,0,none⟩))->(ob A'=ob (some ⟨g,0,none⟩)∨ob A'=some X0.heap.size) ->
    jaR w (X.setCell ⟨w.heap.size,0,none⟩ (.slice A' (j + (N1 - (j + 1))) c')) A' (j + (N1 - (j + 1))) c' A2 N2 c2 A3 N3 c3 4 ra rb rc rd key/\ja6 lo w V0 (X.setCell ⟨w.heap.size,0,none⟩ (.slice A' (j + (N1 - (j + 1))) c')) A' (j + (N1 - (j + 1))) c' A2 N2 c2 A3 N3 c3 { t with ts:=t.ts.eraseIdx j }):=fun X0 h0 A' c' X hr hg hw=>by
   have eM:(t.ts.eraseIdx j).length=j + (N1 - (j + 1)):=by rw [List.length_eraseIdx_of_lt hj,HN1.out];omega
   rw [jgH] at hr;have q:=(S0.later h0).turnT (by rw [eM];exact hr) hg hw;rw [eM] at q;exact ⟨q.all eM HN2.out HN3.out,q.fin eM HN2.out HN3.out⟩
  have HVS:Hid (∀ X,Below W0.heap.size W0 X->jbc X X.heap.size A2 t.vs):=fun X hb=>(S0.later hb).bx.tab.vs
  obtain ⟨m,hm⟩:∃ m,m=ja0 t.os ra:=⟨_,rfl⟩;simp only [<- hm] at HOW;rw [<- hm] at H4;obtain ⟨xi,xq,xr,xb,xk,xd⟩:=x;simp only at x0 x1 x2 x3 x4 x5 HX HXB HW1 H4;have H4O:=Lib.hid H4;clear h hl hs S0 hW0 n1 n2 n3 hX hgl hlj hat he hj hx hq HSET hm hif had H4 c1N n1N n2N;go_enter Tryz.func48,Tryz.ntmps48
  go_wp2_with (first
   | (rw [<- HW0.out];clear HW0)
   | (rw [<- HW1.out];clear HW1;obtain ⟨e1,e5⟩:=HXB.out W1 (Below.refl _ _);obtain ⟨y0,y1,y2,r0,r1,r2,r3,r4,r5,s0,s1,s2,sf0,sf1,sf2,pf0,pf1⟩:=HALL.out W1 HB1.out;obtain ⟨⟨x0,x1,x2,x3,x4,x5⟩,f1,f5⟩:=HX.out W1 HB1.out))
  go_loopw [9] (fun i wr=>∃ k:Nat,k<=N2/\i=.int .i64 k/\Hid (∀ j2,(h:j2 < t.vs.length)->j2 < k->t.vs[j2].ten≠ra)/\Hid (Below W1.heap.size W1 wr)) (fun i _=>N2 - (intOf i).toNat)
  case atStart=>exact ⟨0,Nat.zero_le _,rfl,fun j _ hj=>absurd hj (Nat.not_lt_zero j),Below.refl _ _⟩
  case round =>
   have n2N:=HNN.out.2.2;obtain ⟨k,hk,rfl,hall,hbw⟩:=hrel;have k0:(0:Int)<=(k:Int):=by omega
   have hbx:=jaa HB1.out hbw.out;have HBX:=Lib.hid hbx;obtain ⟨y0,y1,y2,r0,r1,r2,r3,r4,r5,s0,s1,s2,sf0,sf1,sf2,pf0,pf1⟩:=HALL.out _ hbx;by_cases hlt:k < N2
   ·have hkx:k < t.vs.length:=by have:=HN2.out;omega
    have k1:(k:Int) < (N2:Int):=by omega
    obtain ⟨b,off,rfl,_,_,q1,_,_⟩:=HVS.out _ hbx k hkx;by_cases he:t.vs[k].ten=ra
    ·have HE:Hid (jar t ⟨4,ra,rb,rc,rd,key⟩=(10,t)):=by show _=_;rw [H4O.out,if_pos (.inr (.inr ⟨_,List.getElem_mem hkx,he⟩))]
     obtain ⟨p,hp⟩:∃ p,p=t.vs[k].ten:=⟨_,rfl⟩;rw [<- hp] at q1 he;have d:(p == ra)=true:=beq_iff_eq.2 he;clear hp he H4O hbx HVS HEND HMID HNW HCUT;go_wp2
     go_quiet (fail)
     have hbx:=jaz HBX.out nq;obtain ⟨y0,y1,y2,r0,r1,r2,r3,r4,r5,s0,s1,s2,sf0,sf1,sf2,pf0,pf1⟩:=HALL.out _ hbx;go_wp2;have hr:=HFIN.out _ hbx;refine bodyPost_ret (jab rfl _ _ (w.heap.size + 1 + 1) _ _ _ _ rfl hr.1 Tryz.underlying35 rfl (by kernel_rfl)) rfl ?_;rw [HE.out];exact hr.2 10 _ rfl
    ·have HYES:Hid (∀ j2,(h:j2 < t.vs.length)->j2 < k + 1->t.vs[j2].ten≠ra):=fun j2 hj hj2=>by
      rcases Nat.lt_or_ge j2 k with g | g
      ·exact hall.out j2 hj g
      ·have:j2=k:=by omega
       subst this;exact he
     obtain ⟨p,hp⟩:∃ p,p=t.vs[k].ten:=⟨_,rfl⟩;rw [<- hp] at q1 he;have d:(p == ra)=false:=beq_eq_false_iff_ne.2 he;clear hp he hbx HVS HEND HMID HNW HCUT;go_wp2
     go_quiet (fail)
     go_wp2;go_roundw
     case rel=>exact ⟨k + 1,by omega,by go_num,HYES,jaz hbw.out nq⟩
     case measure=>first | (simp [intOf];done) | (simp [intOf];omega)
   ·have hkN:k=N2:=by omega
    have hnv:¬ jkC t.vs ra:=fun ⟨v,hv,hvt⟩=>by
     obtain ⟨i,hi,hiv⟩:=List.mem_iff_getElem.1 hv;exact hall.out i hi (by have:=HN2.out;omega) (by rw [hiv];exact hvt)
    have k1:¬ (k:Int) < (N2:Int):=by omega
    obtain ⟨e1,e5⟩:=HXB.out _ hbw.out;have HNV:=Lib.hid hnv;clear hkN hnv hbx;cases xd
    ·have HE:Hid (jar t ⟨4,ra,rb,rc,rd,key⟩=(10,t)):=by show _=_;rw [H4O.out,if_pos (.inl rfl)]
     clear H4O HVS HEND HMID HNW HCUT;go_wp2;have hr:=HFIN.out _ HBX.out;refine bodyPost_ret (jab rfl _ _ (w.heap.size + 1 + 1) _ _ _ _ rfl hr.1 Tryz.underlying35 rfl (by kernel_rfl)) rfl ?_;rw [HE.out];exact hr.2 10 _ rfl
    ·by_cases cq:0 < m
     ·have HE:Hid (jar t ⟨4,ra,rb,rc,rd,key⟩=(10,t)):=by show _=_;rw [H4O.out,if_pos (.inr (.inl cq))]
      have d1:(m:Int) > 0:=by omega
      clear H4O HVS HEND HMID HNW HCUT
      go_wp2_with (go_at_call 45;with_reducible (refine Calls.mono (HOW.out _ HBX.out) ?_);rintro e w3 ⟨rfl,hb3⟩;obtain ⟨y0,y1,y2,r0,r1,r2,r3,r4,r5,s0,s1,s2,sf0,sf1,sf2,pf0,pf1⟩:=HALL.out _ (jaa HBX.out hb3))
      have hr:=HFIN.out _ (jaa HBX.out hb3);refine bodyPost_ret (jab rfl _ _ (w.heap.size + 1 + 1) _ _ _ _ rfl hr.1 Tryz.underlying35 rfl (by kernel_rfl)) rfl ?_;rw [HE.out];exact hr.2 10 _ rfl
     ·have HE:Hid (jar t ⟨4,ra,rb,rc,rd,key⟩=(0,{ t with ts:=t.ts.eraseIdx j })):=by
       show _=_;rw [H4O.out,if_neg];rintro (q | q | q)
       ·cases q
       ·exact cq q
       ·exact HNV.out q
      have d1:¬ (m:Int) > 0:=by omega
      clear H4O HVS
      go_wp2_with (go_at_call 45;with_reducible (refine Calls.mono (HOW.out _ HBX.out) ?_);rintro e w3 ⟨rfl,hb3⟩;obtain ⟨y0,y1,y2,r0,r1,r2,r3,r4,r5,s0,s1,s2,sf0,sf1,sf2,pf0,pf1⟩:=HALL.out _ (jaa HBX.out hb3))
      have hif:=HIF.out;obtain ⟨c1N,n1N,n2N⟩:=HNN.out;have jc:(j:Int)<=(c1:Int):=by omega
      have jv:IntKind.i64.wrap ((j:Int) + 1)=(j:Int) + 1:=IntWalk.i64_in _ (by omega);have jl0:(0:Int)<=(j:Int) + 1:=by omega
      have jl:(j:Int) + 1<=(N1:Int):=by omega
      have jt:((j:Int) + 1).toNat=j + 1:=by omega
      have HBD:Hid (Below W0.heap.size W0 w3.drew):=(jaa HBX.out hb3).drew;clear hb3
      go_region_law (refine jcK _ rfl _ _ 32 rfl lo 52 i0 (.agg #[.int .i64 0,.int .i64 0,.int .i64 0,.int .i64 0,.string ⟨#[]⟩,.bool false]) 6 56 Tryz.underlying32 hi hz0 hz1 hz2 rfl (by decide) (some ⟨g,0,none⟩) j j (jaE jbP (t.ts.take j)) rfl (HCUT.out _ HBD.out) ad (N1 - (j + 1)) (c1 - (j + 1)) (jaE jbP (t.ts.drop (j + 1))) rfl HFL.out (HNW.out _ HBD.out) HF1.out (by unfold maxLen;omega) (by omega) (Nat.le_trans HLO.out HBD.out.size) ?_;intro A' c' w' hrow hgrow hwh;obtain ⟨m1,mf⟩:=HMID.out _ HBD.out _ hgrow)
      all_goals
       have hq:=HEND.out _ HBD.out _ _ _ hrow hgrow hwh;obtain ⟨W2,hW2⟩:∃ W,W=w'.setCell ⟨w.heap.size,0,none⟩ (.slice A' (j + (N1 - (j + 1))) c'):=⟨_,rfl⟩;rw [<- hW2] at hq ⊢;obtain ⟨q1,q2⟩:=hq;have HQ:=Lib.hid q2;clear q2 hW2 hrow hgrow hwh m1 mf HEND HMID HNW;obtain ⟨y0,y1,y2,r0,r1,r2,r3,r4,r5,s0,s1,s2,sf0,sf1,sf2,pf0,pf1⟩:=q1;go_wp2;have hr:=HQ.out;refine bodyPost_ret (jab rfl _ _ (w.heap.size + 1 + 1) _ _ _ _ rfl hr.1 Tryz.underlying35 rfl (by kernel_rfl)) rfl ?_;rw [HE.out];exact hr.2 0 _ rfl
 ·rw [jdU hlj]
  have HE:Hid (jar t ⟨4,ra,rb,rc,rd,key⟩=(4,t)):=by
   show je4 t _=_;unfold je4;rw [hat]
  rw [HE.out];clear HE h hl hs S0 hW0 n1 n2 n3 hlj hat HOW;go_enter Tryz.func48,Tryz.ntmps48
  go_wp2_with (first
   | (rw [<- HW0.out];clear HW0))
  have hr:=HFIN.out _ HB0.out;refine bodyPost_ret (jab rfl _ _ (w.heap.size + 1 + 1) _ _ _ _ rfl hr.1 Tryz.underlying35 rfl (by kernel_rfl)) rfl ?_;exact hr.2 4 _ rfl
end Go.Proofs.YtbnhkplhmanmoaaGreat
