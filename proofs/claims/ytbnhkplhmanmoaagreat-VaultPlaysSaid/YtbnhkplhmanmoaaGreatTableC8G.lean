/- . -/
import Derived.Test.YtbnhkplhmanmoaaGreatTableC6G
import Derived.Test.YtbnhkplhmanmoaaGreatVaultAskG
import Derived.Test.YtbnhkplhmanmoaaGreatTableAskG
import Derived.Test.YtbnhkplhmanmoaaGreatTkG
namespace Go.Proofs.YtbnhkplhmanmoaaGreat
open Go.RowKit
set_option maxHeartbeats 6400000
set_option maxRecDepth 20000
theorem jeo {α:Type} {l:List α} {P:Nat->Bool} : (List.range l.length).any P=false↔∀ k,k < l.length->P k=false:=by
 rw [List.any_eq_false];exact ⟨fun h k hk=>by have:=h k (List.mem_range.2 hk);simpa using this,fun h x hx=>by rw [h x (List.mem_range.1 hx)];decide⟩
theorem jhe (V:jat) (t:Tab) (w:World) (h:jao w w.heap.size V t) (hm1:t.ts.length<=9223372036854775807) (hm:t.os.length<=9223372036854775807) (S:Bool) (hS:S=true↔(∀ o∈t.os,o=0∨(tenAt t.ts o).isSome=true)/\∀ x∈t.ts,(ja0 t.os x.id:Int)<=x.quota) :
  Calls Tryz.prog 90 #[.agg (jan V t)] w fun e w'=>e=.returned (.bool S)/\Below w.heap.size w w':=by
 obtain ⟨F0,F1,F2,hb0⟩:=jca w (.slice V.A1 t.ts.length V.c1) (.slice V.A2 t.vs.length V.c2) (.slice V.A3 t.os.length V.c3) 35;obtain ⟨W0,hW0⟩:∃ W,W=w.alloc (.cells #[.slice V.A1 t.ts.length V.c1,.slice V.A2 t.vs.length V.c2,.slice V.A3 t.os.length V.c3] 35):=⟨_,rfl⟩;rw [<- hW0] at F0 F1 F2 hb0;have hlt0:=World.block_lt_of_cell? W0 _ F0;have HF:∀ X,Below W0.heap.size W0 X->X.cell? ⟨w.heap.size,0,none⟩=some (.slice V.A1 t.ts.length V.c1)/\X.cell? ⟨w.heap.size,1,none⟩=some (.slice V.A2 t.vs.length V.c2)/\X.cell? ⟨w.heap.size,2,none⟩=some (.slice V.A3 t.os.length V.c3):=fun X hb=>⟨(hb.cell (p:=⟨w.heap.size,0,none⟩) hlt0).trans F0,(hb.cell (p:=⟨w.heap.size,1,none⟩) hlt0).trans F1,(hb.cell (p:=⟨w.heap.size,2,none⟩) hlt0).trans F2⟩
 have hT:∀ X,Below W0.heap.size W0 X->jao X X.heap.size V t:=fun X hb=>(h.below (jaa hb0 hb)).more (jaa hb0 hb).size
 have H1:=Lib.hid (jgI V.A3 V.c3 t.os (fun k=>decide (t.os.getD k 0≠0/\(tenAt t.ts (t.os.getD k 0)).isSome=false)) 125 #[.pointer (some ⟨w.heap.size,0,none⟩)] W0 hm ((h.below hb0).more hb0.size).os (fun args w=>by kernel_rfl)
  (fun k _ W hb=>jig V t (t.os.getD k 0) w.heap.size W (hT W hb) hm1 (HF W hb)))
 have H2:=Lib.hid (fun (W:World) (hb:Below W0.heap.size W0 W)=>jgW V.A1 V.c1 t.ts (fun k=>decide (∃ h:k < t.ts.length,t.ts[k].quota < (ja0 t.os t.ts[k].id:Nat))) 126 #[.pointer (some ⟨w.heap.size,0,none⟩)] W hm1 (hT W hb).ts (fun args w=>by kernel_rfl)
  (fun k hk X hx=>by
   have q:=jkn V t t.ts[k] w.heap.size X (hT X (jaa hb hx)) hm (HF X (jaa hb hx))
   have e:decide (∃ h:k < t.ts.length,t.ts[k].quota < (ja0 t.os t.ts[k].id:Nat))=decide (t.ts[k].quota < (ja0 t.os t.ts[k].id:Nat)):=by
    rw [Bool.eq_iff_iff,decide_eq_true_iff,decide_eq_true_iff];exact ⟨fun ⟨_,e⟩=>e,fun e=>⟨hk,e⟩⟩
   rw [e];exact q))
 have e1:((List.range t.os.length).any fun k=>decide (t.os.getD k 0≠0/\(tenAt t.ts (t.os.getD k 0)).isSome=false))=false↔∀ o∈t.os,o=0∨(tenAt t.ts o).isSome=true:=by
  rw [jeo];constructor
  ·intro q o ho;obtain ⟨k,hk,rfl⟩:=List.getElem_of_mem ho;have:=of_decide_eq_false (q k hk);rw [List.getD_eq_getElem?_getD,List.getElem?_eq_getElem hk,Option.getD_some] at this;by_cases h0:t.os[k]=0
   ·exact .inl h0
   ·right;cases hs:(tenAt t.ts t.os[k]).isSome with
    | true=>rfl
    | false=>exact absurd ⟨h0,hs⟩ this
  ·intro q k hk;refine decide_eq_false fun ⟨a,b⟩=>?_
   rcases q _ (jb6 hk) with h0 | h0
   ·exact a h0
   ·rw [h0] at b;cases b
 have e2:((List.range t.ts.length).any fun k=>decide (∃ h:k < t.ts.length,t.ts[k].quota < (ja0 t.os t.ts[k].id:Nat)))=false↔∀ x∈t.ts,(ja0 t.os x.id:Int)<=x.quota:=by
  rw [jeo];constructor
  ·intro q x hx;obtain ⟨k,hk,rfl⟩:=List.getElem_of_mem hx;have:=of_decide_eq_false (q k hk);exact Int.not_lt.1 fun hlt=>this ⟨hk,hlt⟩
  ·intro q k hk;refine decide_eq_false fun ⟨a,b⟩=>?_
   have:=q _ (List.getElem_mem hk);omega
 obtain ⟨b1,hb1⟩:∃ b,b=(List.range t.os.length).any fun k=>decide (t.os.getD k 0≠0/\(tenAt t.ts (t.os.getD k 0)).isSome=false):=⟨_,rfl⟩
 obtain ⟨b2,hb2⟩:∃ b,b=(List.range t.ts.length).any fun k=>decide (∃ h:k < t.ts.length,t.ts[k].quota < (ja0 t.os t.ts[k].id:Nat)):=⟨_,rfl⟩
 rw [<- hb1] at e1 H1;simp only [<- hb2] at e2 H2;rw [<- e1,<- e2] at hS
 have hSS:S=(!b1 && !b2):=by
  rw [Bool.eq_iff_iff,hS];cases b1 <;> cases b2 <;> decide
 rw [hSS];obtain ⟨f0,f1,f2⟩:=HF W0 (Below.refl _ _);have HFH:=Lib.hid HF;unfold jan;obtain ⟨N1,hN1⟩:∃ N,N=t.ts.length:=⟨_,rfl⟩;obtain ⟨N2,hN2⟩:∃ N,N=t.vs.length:=⟨_,rfl⟩;obtain ⟨N3,hN3⟩:∃ N,N=t.os.length:=⟨_,rfl⟩;simp only [<- hN1,<- hN2,<- hN3] at H1 H2 HFH hW0 f0 f1 f2 ⊢;have HB0:=Lib.hid hb0;clear hS hSS e1 e2 hb1 hb2 hT HF h hm hm1 hN1 hN2 hN3 F0 F1 F2 hlt0 hb0;cases b1
 ·cases b2
  all_goals
   go_enter Tryz.func90,Tryz.ntmps90
   go_wp2_with fail
   rw [<- hW0];clear hW0
   go_wp2_with (first
    | (go_at_call 127;with_reducible (refine Calls.mono H1.out ?_);rintro e w2 ⟨rfl,hb2⟩
       obtain ⟨f0,f1,f2⟩:=HFH.out _ hb2)
    | (go_at_call 128;with_reducible (refine Calls.mono (H2.out _ hb2) ?_);rintro e w3 ⟨rfl,hb3⟩))
   go_ret;exact ⟨rfl,jaa HB0.out (jaa hb2 hb3)⟩
 ·go_enter Tryz.func90,Tryz.ntmps90
  go_wp2_with fail
  rw [<- hW0];clear hW0
  go_wp2_with (go_at_call 127;with_reducible (refine Calls.mono H1.out ?_);rintro e w2 ⟨rfl,hb2⟩)
  go_ret;exact ⟨rfl,jaa HB0.out hb2⟩
theorem jhT {ts:List Ten} {vs:List Vol} (h1:∀ x∈ts,x.plain):(∀ j,j < vs.length->ji8 ts vs j)↔(∀ v∈vs,(0<=v.id/\v.id<=7)/\(tenAt ts v.ten).isSome=true/\(0<=v.blocks/\v.blocks<=32)/\0<=v.base/\v.base<=1099511627776)/\vs.Pairwise fun x y=>x.id < y.id:=by
 have key:∀ v:Vol,(jaf ⟨5,v.id,v.ten,v.blocks,0,⟨#[]⟩⟩/\jaf ⟨8,v.id,v.base,0,0,⟨#[]⟩⟩/\(tenAt ts v.ten).isSome=true)↔((0<=v.id/\v.id<=7)/\(tenAt ts v.ten).isSome=true/\(0<=v.blocks/\v.blocks<=32)/\0<=v.base/\v.base<=1099511627776):=fun v=>by
  have hz:(⟨#[]⟩:ByteArray).size=0:=rfl;constructor
  ·rintro ⟨a,b,c⟩;unfold jaf inR at a b;rw [hz] at a b;simp at a b;exact ⟨a.1,c,a.2.2,b.2⟩
  ·rintro ⟨a,c,d,e⟩;obtain ⟨y,hy,hk⟩:=jaH.1 c;have hp:=(h1 y hy).id;rw [hk] at hp;refine ⟨?_,?_,c⟩
   ·unfold jaf inR;rw [hz];simp;exact ⟨a,hp,d⟩
   ·unfold jaf inR;rw [hz];simp;exact ⟨a,e⟩
 constructor
 ·intro h
  have hall:∀ v∈vs,(0<=v.id/\v.id<=7)/\(tenAt ts v.ten).isSome=true/\(0<=v.blocks/\v.blocks<=32)/\0<=v.base/\v.base<=1099511627776:=fun v hv=>by
   obtain ⟨k,hk,rfl⟩:=List.getElem_of_mem hv;obtain ⟨_,_,q⟩:=h k hk;exact (key _).1 q
  refine ⟨hall,?_⟩
  have step:∀ k,(hk:k + 1 < vs.length)->vs[k].id < vs[k + 1].id:=fun k hk=>by
   obtain ⟨_,q,_⟩:=h (k + 1) hk
   rwa [jeF (by omega)] at q
  rw [List.pairwise_iff_getElem];intro i j hi hj hij
  induction j with
  | zero=>omega
  | succ j ih =>
   have hs:=step j hj;rcases Nat.lt_or_ge i j with q | q
   ·have:=ih (by omega) q;omega
   ·have:i=j:=by omega
    subst this;exact hs
 ·rintro ⟨h2,h3⟩ k hk;refine ⟨hk,?_,(key _).2 (h2 _ (List.getElem_mem hk))⟩;cases k with
  | zero=>have:=(h2 _ (List.getElem_mem hk)).1;show (-1:Int) < _;omega
  | succ k =>
   rw [jeF (by omega)];exact List.pairwise_iff_getElem.1 h3 k (k + 1) (by omega) hk (Nat.lt_succ_self k)
theorem jiX (t:Tab):t.sound↔inR (t.os.length:Int) 1 64/\((∀ j,j < t.ts.length->jgd t.ts j)/\jbp t.ts<=t.os.length)/\(∀ j,j < t.vs.length->ji8 t.ts t.vs j)/\((∀ o∈t.os,o=0∨(tenAt t.ts o).isSome=true)/\∀ x∈t.ts,(ja0 t.os x.id:Int)<=x.quota):=by
 constructor
 ·intro h;have hp:∀ x∈t.ts,x.plain:=fun x hx=>(h.ten x hx).1
  refine ⟨by have:=h.len;unfold inR;omega,⟨jhH.2 ⟨hp,h.up⟩,h.sum⟩,(jhT hp).2 ⟨h.vol,h.vup⟩,h.own,fun x hx=>(h.ten x hx).2⟩
 ·rintro ⟨a,⟨b1,b2⟩,c,d,e⟩;obtain ⟨b3,b4⟩:=jhH.1 b1;obtain ⟨c1,c2⟩:=(jhT b3).1 c;exact ⟨by unfold inR at a;omega,fun x hx=>⟨b3 x hx,e x hx⟩,b4,c1,c2,d,b2⟩
open Classical in
theorem jmd (V:jat) (t:Tab) (w:World) (h:jao w w.heap.size V t) (ho:t.ok) (S:Bool) (hS:S=true↔t.sound) :
  Calls Tryz.prog 61 #[.agg (jan V t)] w fun e w'=>e=.returned (.bool S)/\Below w.heap.size w w':=by
 obtain ⟨S1,h1⟩:∃ S:Bool,S=true↔(∀ j,j < t.ts.length->jgd t.ts j)/\jbp t.ts<=t.os.length:=⟨decide _,decide_eq_true_iff⟩;obtain ⟨S2,h2⟩:∃ S:Bool,S=true↔(∀ j,j < t.vs.length->ji8 t.ts t.vs j):=⟨decide _,decide_eq_true_iff⟩;obtain ⟨S3,h3⟩:∃ S:Bool,S=true↔(∀ o∈t.os,o=0∨(tenAt t.ts o).isSome=true)/\∀ x∈t.ts,(ja0 t.os x.id:Int)<=x.quota:=⟨decide _,decide_eq_true_iff⟩;have hb0:Below w.heap.size w (w.alloc (.cells (jan V t) 35)):=(Below.refl _ _).alloc (Nat.le_refl _) _;have hb1:=hb0.alloc hb0.size (.cells #[.int .i64 1,.int .i64 64] 117);have hT:∀ X,Below w.heap.size w X->jao X X.heap.size V t:=fun X hb=>(h.below hb).more hb.size
 have H1:=Lib.hid (fun (W:World) (hb:Below w.heap.size w W)=>jg9 V t W (hT W hb) ho.nt S1 h1);have H2:=Lib.hid (fun (W:World) (hb:Below w.heap.size w W)=>jho V t W (hT W hb) ho.nt ho.nv S2 h2);have H3:=Lib.hid (fun (W:World) (hb:Below w.heap.size w W)=>jhe V t W (hT W hb) ho.nt ho.no S3 h3);have H0:=Lib.hid (fun W:World=>jdY 1 64 (t.os.length:Int) W);have hs0:(w.alloc (.cells (jan V t) 35)).heap.size=w.heap.size + 1:=by simp
 have hg0:((w.alloc (.cells (jan V t) 35)).alloc (.cells #[.int .i64 1,.int .i64 64] 117)).heap[w.heap.size]? = some (.cells (jan V t) 35 (0,0)):=by
  rw [Below.heap_alloc _ _ _ (by simp)];exact heap_alloc_new _ _
 rw [jiX,<- h1,<- h2,<- h3] at hS;obtain ⟨b,hb⟩:∃ b,b=decide (inR (t.os.length:Int) 1 64):=⟨_,rfl⟩;have hbb:inR (t.os.length:Int) 1 64↔b=true:=by rw [hb,decide_eq_true_iff]
 rw [hbb] at hS;simp only [<- hb] at H0
 have hSS:S=(b && S1 && S2 && S3):=by
  rw [Bool.eq_iff_iff,hS];cases b <;> cases S1 <;> cases S2 <;> cases S3 <;> decide
 rw [hSS];have HF:Hid (∀ X,Below ((w.alloc (.cells (jan V t) 35)).alloc (.cells #[.int .i64 1,.int .i64 64] 117)).heap.size ((w.alloc (.cells (jan V t) 35)).alloc (.cells #[.int .i64 1,.int .i64 64] 117)) X->X.cell? ⟨w.heap.size,0,none⟩=some (.slice V.A1 t.ts.length V.c1)/\X.cell? ⟨w.heap.size,1,none⟩=some (.slice V.A2 t.vs.length V.c2)/\X.cell? ⟨w.heap.size,2,none⟩=some (.slice V.A3 t.os.length V.c3)):=fun X hb=>jai ((hb.block _ (Array.getElem?_eq_some_iff.1 hg0).1).trans hg0)
 unfold jan at H1 H2 H3 HF hb1 ⊢;obtain ⟨N1,hN1⟩:∃ N,N=t.ts.length:=⟨_,rfl⟩;obtain ⟨N2,hN2⟩:∃ N,N=t.vs.length:=⟨_,rfl⟩;obtain ⟨N3,hN3⟩:∃ N,N=t.os.length:=⟨_,rfl⟩;simp only [<- hN1,<- hN2,<- hN3] at H0 H1 H2 H3 HF hb1 ⊢;clear hS hSS hbb hb h1 h2 h3 hT hs0 hg0 hb0 h ho hN1 hN2 hN3;cases b
 ·go_enter Tryz.func61,Tryz.ntmps61
  go_wp2_with (go_at_call 65;with_reducible (refine Calls.mono (H0.out _) ?_);rintro e w2 ⟨rfl,hb2⟩)
  go_ret;exact ⟨rfl,jaa hb1 hb2⟩
 ·cases S1
  ·go_enter Tryz.func61,Tryz.ntmps61
   go_wp2_with (first
    | (go_at_call 65;with_reducible (refine Calls.mono (H0.out _) ?_);rintro e w2 ⟨rfl,hb2⟩;obtain ⟨f0,f1,f2⟩:=HF.out _ hb2;have hx2:=jaa hb1 hb2)
    | (go_at_call 88;with_reducible (refine Calls.mono (H1.out _ hx2) ?_);rintro e w3 ⟨rfl,hb3⟩))
   go_ret;exact ⟨rfl,jaa hx2 hb3⟩
  ·cases S2
   ·go_enter Tryz.func61,Tryz.ntmps61
    go_wp2_with (first
     | (go_at_call 65;with_reducible (refine Calls.mono (H0.out _) ?_);rintro e w2 ⟨rfl,hb2⟩;obtain ⟨f0,f1,f2⟩:=HF.out _ hb2;have hx2:=jaa hb1 hb2)
     | (go_at_call 88;with_reducible (refine Calls.mono (H1.out _ hx2) ?_);rintro e w3 ⟨rfl,hb3⟩;have hy3:=jaa hb2 hb3;have hx3:=jaa hb1 hy3;obtain ⟨f0,f1,f2⟩:=HF.out _ hy3)
     | (go_at_call 89;with_reducible (refine Calls.mono (H2.out _ hx3) ?_);rintro e w4 ⟨rfl,hb4⟩))
    go_ret;exact ⟨rfl,jaa hx3 hb4⟩
   ·cases S3
    all_goals
     go_enter Tryz.func61,Tryz.ntmps61
     go_wp2_with (first
      | (go_at_call 65;with_reducible (refine Calls.mono (H0.out _) ?_);rintro e w2 ⟨rfl,hb2⟩;obtain ⟨f0,f1,f2⟩:=HF.out _ hb2;have hx2:=jaa hb1 hb2)
      | (go_at_call 88;with_reducible (refine Calls.mono (H1.out _ hx2) ?_);rintro e w3 ⟨rfl,hb3⟩;have hy3:=jaa hb2 hb3;have hx3:=jaa hb1 hy3;obtain ⟨f0,f1,f2⟩:=HF.out _ hy3)
      | (go_at_call 89;with_reducible (refine Calls.mono (H2.out _ hx3) ?_);rintro e w4 ⟨rfl,hb4⟩;have hy4:=jaa hy3 hb4;have hx4:=jaa hb1 hy4;obtain ⟨f0,f1,f2⟩:=HF.out _ hy4)
      | (go_at_call 90;with_reducible (refine Calls.mono (H3.out _ hx4) ?_);rintro e w5 ⟨rfl,hb5⟩))
     go_ret;exact ⟨rfl,jaa hx4 hb5⟩
theorem jc0 (V:jat) (t:Tab) (w:World) (h:jao w w.heap.size V t) (ho:t.ok) (S:Bool) (hS:S=true↔t.sound) :
  Calls Tryz.prog 36 #[.agg (jan V t)] w fun e w'=>e=.returned (.int .i64 (if S then 0 else 2))/\Below w.heap.size w w':=by
 have hb0:Below w.heap.size w (w.alloc (.cells (jan V t) 35)):=(Below.refl _ _).alloc (Nat.le_refl _) _;have H:=Lib.hid (jmd V t _ ((h.below hb0).more hb0.size) ho S hS);clear h ho hS;unfold jan at H hb0 ⊢;cases S
 all_goals
  go_enter Tryz.func36,Tryz.ntmps36
  go_wp2_with (go_at_call 61;with_reducible (refine Calls.mono H.out ?_);rintro e w2 ⟨rfl,hb2⟩)
  go_ret;exact ⟨rfl,jaa hb0 hb2⟩
end Go.Proofs.YtbnhkplhmanmoaaGreat
namespace Go.Proofs.YtbnhkplhmanmoaaGreat
open Go.RowKit
def jbP (x:Ten):List Value:=[.int .i64 x.id,.int .i64 x.quota,.int .i64 x.rate,.int .i64 x.burst,.string x.key,.bool x.dying]
def jb1 (x:Vol):List Value:=[.int .i64 x.id,.int .i64 x.ten,.int .i64 x.blocks,.int .i64 x.base]
def jiy (n:Int):List Value:=[.int .i64 n]
theorem jaF:∀ x,(jbP x).length=6:=fun _=>rfl
theorem jaG:∀ x,(jb1 x).length=4:=fun _=>rfl
theorem jbS:∀ x,(jiy x).length=1:=fun _=>rfl
theorem jbT (x:Ten):∀ u∈jbP x,u.oneCell'=true:=fun u hu=>by
 simp only [jbP,List.mem_cons,List.not_mem_nil,or_false] at hu;rcases hu with rfl | rfl | rfl | rfl | rfl | rfl <;> rfl
theorem jbQ (x:Vol):∀ u∈jb1 x,u.oneCell'=true:=fun u hu=>by
 simp only [jb1,List.mem_cons,List.not_mem_nil,or_false] at hu;rcases hu with rfl | rfl | rfl | rfl <;> rfl
theorem jjX (x:Int):∀ u∈jiy x,u.oneCell'=true:=fun u hu=>by
 simp only [jiy,List.mem_cons,List.not_mem_nil,or_false] at hu;rcases hu with rfl;rfl
theorem jcm {α:Type} {E:α->List Value} (h:∀ x,∀ u∈E x,u.oneCell'=true) (l:List α):∀ u∈jaE E l,u.oneCell'=true:=fun u hu=>by
 obtain ⟨x,_,hx⟩:=List.mem_flatMap.1 hu;exact h x u hx
def ob (A:Option Addr):Option Nat:=A.map (·.block)
theorem jaB (A:Option Addr) (n c:Nat):(Value.slice A n c).ownBlock=ob A:=by cases A <;> rfl
structure ja8 (lo:Nat) (w:World) (V:jat) (t:Tab):Prop where
 ts:w.ownsRow lo 52 6 (.slice V.A1 t.ts.length V.c1) t.ts.length (jaE jbP t.ts)
 vs:w.ownsRow lo 82 4 (.slice V.A2 t.vs.length V.c2) t.vs.length (jaE jb1 t.vs)
 os:w.ownsRow lo 3 1 (.slice V.A3 t.os.length V.c3) t.os.length (jaE jiy t.os)
 a12:∀ b,ob V.A1=some b->ob V.A2≠some b
 a13:∀ b,ob V.A1=some b->ob V.A3≠some b
 a23:∀ b,ob V.A2=some b->ob V.A3≠some b
section
variable {lo:Nat} {w w':World} {V:jat} {t:Tab}
theorem jfD {lo e size n c:Nat} {A:Option Addr} {xs:List Value} (h:w.ownsRow lo e size (.slice A n c) n xs):n<=c:=by
 rcases h.2 with ⟨hv,hn⟩ | ⟨g,cap,cur,hv,_,_,hle,_⟩
 ·injection hv with _ _ h3;omega
 ·injection hv with _ _ h3;omega
theorem ja1 {lo e size n c:Nat} {A:Option Addr} {xs:List Value} (h:w.ownsRow lo e size (.slice A n c) n xs):∀ b,ob A=some b->lo<=b/\b < w.heap.size:=fun b hb=>h.lt b (by rw [jaB];exact hb)
theorem jdS {lo c:Nat} {A:Option Addr} {ts:List Ten} (h:w.ownsRow lo 52 6 (.slice A ts.length c) ts.length (jaE jbP ts)):jbb w w.heap.size A ts:=fun k hk=>by
 obtain ⟨g,hA,_,hl,_,hc,_⟩:=jb2 jaF h rfl hk;refine ⟨g,0,hA,hl,?_⟩;rw [Nat.zero_add];exact ⟨hc 0 _ rfl,hc 1 _ rfl,hc 2 _ rfl,hc 3 _ rfl,hc 4 _ rfl,hc 5 _ rfl⟩
theorem jdW {lo c:Nat} {A:Option Addr} {vs:List Vol} (h:w.ownsRow lo 82 4 (.slice A vs.length c) vs.length (jaE jb1 vs)):jbc w w.heap.size A vs:=fun k hk=>by
 obtain ⟨g,hA,_,hl,_,hc,_⟩:=jb2 jaG h rfl hk;refine ⟨g,0,hA,hl,?_⟩;rw [Nat.zero_add];exact ⟨hc 0 _ rfl,hc 1 _ rfl,hc 2 _ rfl,hc 3 _ rfl⟩
theorem jeQ {lo c:Nat} {A:Option Addr} {os:List Int} (h:w.ownsRow lo 3 1 (.slice A os.length c) os.length (jaE jiy os)):jaO w w.heap.size .i64 A os:=fun k hk=>by
 obtain ⟨g,hA,_,hl,_,hc,_⟩:=jb2 jbS h rfl hk;refine ⟨g,0,hA,hl,?_⟩;have:=hc 0 _ rfl;rw [Nat.mul_one,Nat.add_zero] at this;rw [Nat.zero_add,this];simp [hk]
theorem ja8.tab (h:ja8 lo w V t):jao w w.heap.size V t:=⟨jdS h.ts,jdW h.vs,jeQ h.os,jfD h.ts,jfD h.vs,jfD h.os⟩
theorem ja8.from_ (h:ja8 lo w V t):jay lo V:=fun a ha=>by
 rcases ha with ha | ha | ha
 ·exact (ja1 h.ts a.block (by rw [ha];rfl)).1
 ·exact (ja1 h.vs a.block (by rw [ha];rfl)).1
 ·exact (ja1 h.os a.block (by rw [ha];rfl)).1
theorem ja8.grown {row:Option Nat} (h:ja8 lo w V t) (hg:w.grownBy w' row) (h1:∀ b,ob V.A1=some b->row≠some b) (h2:∀ b,ob V.A2=some b->row≠some b) (h3:∀ b,ob V.A3=some b->row≠some b):ja8 lo w' V t :=
 ⟨jaA h.ts hg (fun b hb=>h1 b (by rw [<- jaB];exact hb)),jaA h.vs hg (fun b hb=>h2 b (by rw [<- jaB];exact hb)),jaA h.os hg (fun b hb=>h3 b (by rw [<- jaB];exact hb)),h.a12,h.a13,h.a23⟩
theorem ja8.below (h:ja8 lo w V t) (hb:Below w.heap.size w w'):ja8 lo w' V t :=
 h.grown (jaJ hb none) (fun _ _ q=>by cases q) (fun _ _ q=>by cases q) (fun _ _ q=>by cases q)
end
structure jaZ (lo:Nat) (w:World) (p:Nat) (V:jat) (t:Tab):Prop where
 box:w.heap[p]? = some (.cells (jan V t) 93 (0,0))
 hp:lo<=p
 rows:ja8 lo w V t
 p1:∀ b,ob V.A1=some b->p≠b
 p2:∀ b,ob V.A2=some b->p≠b
 p3:∀ b,ob V.A3=some b->p≠b
section
variable {lo p:Nat} {w w':World} {V:jat} {t:Tab}
theorem jaZ.lt (h:jaZ lo w p V t):p < w.heap.size:=(Array.getElem?_eq_some_iff.1 h.box).1
theorem jaZ.lo_le (h:jaZ lo w p V t):lo<=w.heap.size:=Nat.le_trans h.hp (Nat.le_of_lt h.lt)
theorem jaZ.cells (h:jaZ lo w p V t):w.cell? ⟨p,0,none⟩=some (.slice V.A1 t.ts.length V.c1)/\w.cell? ⟨p,1,none⟩=some (.slice V.A2 t.vs.length V.c2)/\w.cell? ⟨p,2,none⟩=some (.slice V.A3 t.os.length V.c3):=by
 have h:=h.box;unfold jan at h;exact ⟨by rw [cell_of_row _ _ _ _ _ _ h];rfl,by rw [cell_of_row _ _ _ _ _ _ h];rfl,by rw [cell_of_row _ _ _ _ _ _ h];rfl⟩
theorem jaZ.tab (h:jaZ lo w p V t):jao w w.heap.size V t:=h.rows.tab
theorem jaZ.below (h:jaZ lo w p V t) (hb:Below w.heap.size w w'):jaZ lo w' p V t:=⟨(hb.block _ h.lt).trans h.box,h.hp,h.rows.below hb,h.p1,h.p2,h.p3⟩
theorem jaZ.turnT {W:World} {ts':List Ten} {A':Option Addr} {c':Nat} (h:jaZ lo w p V t) (hrow:w'.ownsRow lo 52 6 (.slice A' ts'.length c') ts'.length (jaE jbP ts')) (hg:w.grownBy w' (ob V.A1)) (hA:ob A'=ob V.A1∨ob A'=none∨∃ b,ob A'=some b/\w.heap.size<=b)
  (hW:W.heap[p]? = some (.cells #[.slice A' ts'.length c',.slice V.A2 t.vs.length V.c2,.slice V.A3 t.os.length V.c3] 93 (0,0))) (hgW:w'.grownBy W (some p)):jaZ lo W p { V with A1:=A',c1:=c' } { t with ts:=ts' }:=by
 have hne:∀ {A:Option Addr},(∀ b,ob V.A1=some b->ob A≠some b)->(∀ b,ob A=some b->b < w.heap.size)->∀ b,ob A'=some b->ob A≠some b:=fun {A} q1 q2 b hb hb2=>by
  rcases hA with e | e | ⟨b2,e,hl⟩
  ·exact q1 b (e ▸ hb) hb2
  ·rw [e] at hb;cases hb
  ·rw [e] at hb;injection hb with hb
   have:=q2 b hb2;omega
 have hp1:∀ b,ob A'=some b->p≠b:=fun b hb hpb=>by
  rcases hA with e | e | ⟨b2,e,hl⟩
  ·exact h.p1 b (e ▸ hb) hpb
  ·rw [e] at hb;cases hb
  ·rw [e] at hb;injection hb with hb
   have:=h.lt;omega
 have hv:=jaA h.rows.vs hg (fun b hb q=>h.rows.a12 b q (by rw [<- jaB];exact hb));have ho:=jaA h.rows.os hg (fun b hb q=>h.rows.a13 b q (by rw [<- jaB];exact hb));refine ⟨hW,h.hp,⟨jaA hrow hgW fun b hb q=>?_,jaA hv hgW fun b hb q=>?_,jaA ho hgW fun b hb q=>?_,hne h.rows.a12 fun b hb=>(ja1 h.rows.vs b hb).2,hne h.rows.a13 fun b hb=>(ja1 h.rows.os b hb).2,h.rows.a23⟩,hp1,h.p2,h.p3⟩
 ·injection q with q;exact hp1 b (by rw [<- jaB];exact hb) q
 ·injection q with q;exact h.p2 b (by rw [<- jaB];exact hb) q
 ·injection q with q;exact h.p3 b (by rw [<- jaB];exact hb) q
theorem jaZ.turnV {W:World} {vs':List Vol} {A':Option Addr} {c':Nat} (h:jaZ lo w p V t) (hrow:w'.ownsRow lo 82 4 (.slice A' vs'.length c') vs'.length (jaE jb1 vs')) (hg:w.grownBy w' (ob V.A2)) (hA:ob A'=ob V.A2∨ob A'=none∨∃ b,ob A'=some b/\w.heap.size<=b)
  (hW:W.heap[p]? = some (.cells #[.slice V.A1 t.ts.length V.c1,.slice A' vs'.length c',.slice V.A3 t.os.length V.c3] 93 (0,0))) (hgW:w'.grownBy W (some p)):jaZ lo W p { V with A2:=A',c2:=c' } { t with vs:=vs' }:=by
 have hp1:∀ b,ob A'=some b->p≠b:=fun b hb hpb=>by
  rcases hA with e | e | ⟨b2,e,hl⟩
  ·exact h.p2 b (e ▸ hb) hpb
  ·rw [e] at hb;cases hb
  ·rw [e] at hb;injection hb with hb
   have:=h.lt;omega
 have hv:=jaA h.rows.ts hg (fun b hb q=>h.rows.a12 b (by rw [<- jaB];exact hb) q);have ho:=jaA h.rows.os hg (fun b hb q=>h.rows.a23 b q (by rw [<- jaB];exact hb));refine ⟨hW,h.hp,⟨jaA hv hgW fun b hb q=>?_,jaA hrow hgW fun b hb q=>?_,jaA ho hgW fun b hb q=>?_,fun b hb hb2=>?_,h.rows.a13,fun b hb hb2=>?_⟩,h.p1,hp1,h.p3⟩
 ·injection q with q;exact h.p1 b (by rw [<- jaB];exact hb) q
 ·injection q with q;exact hp1 b (by rw [<- jaB];exact hb) q
 ·injection q with q;exact h.p3 b (by rw [<- jaB];exact hb) q
 ·rcases hA with e | e | ⟨b2,e,hl⟩
  ·exact h.rows.a12 b hb (e ▸ hb2)
  ·rw [e] at hb2;cases hb2
  ·rw [e] at hb2;injection hb2 with hb2
   have:=(ja1 h.rows.ts b hb).2;omega
 ·rcases hA with e | e | ⟨b2,e,hl⟩
  ·exact h.rows.a23 b (e ▸ hb) hb2
  ·rw [e] at hb;cases hb
  ·rw [e] at hb;injection hb with hb
   have:=(ja1 h.rows.os b hb2).2;omega
theorem jaZ.inT {ts':List Ten} {g:Nat} (h:jaZ lo w p V t) (hA:V.A1=some ⟨g,0,none⟩) (hl:ts'.length=t.ts.length) (hrow:w'.ownsRow lo 52 6 (.slice V.A1 t.ts.length V.c1) t.ts.length (jaE jbP ts')) (hg:w.grownBy w' (some g)):jaZ lo w' p V { t with ts:=ts' }:=by
 have hob:ob V.A1=some g:=by rw [hA];rfl
 have hpg:=h.p1 g hob;refine ⟨?_,h.hp,⟨by rw [hl];exact hrow,jaA h.rows.vs hg (fun b hb q=>h.rows.a12 g hob (by rw [q,<- jaB];exact hb)),jaA h.rows.os hg (fun b hb q=>h.rows.a13 g hob (by rw [q,<- jaB];exact hb)),h.rows.a12,h.rows.a13,h.rows.a23⟩,h.p1,h.p2,h.p3⟩;have e:jan V { t with ts:=ts' } = jan V t:=by unfold jan;rw [hl]
 rw [e,hg.block p h.lt (fun q=>hpg (by injection q))];exact h.box
theorem jaZ.inV {vs':List Vol} {g:Nat} (h:jaZ lo w p V t) (hA:V.A2=some ⟨g,0,none⟩) (hl:vs'.length=t.vs.length) (hrow:w'.ownsRow lo 82 4 (.slice V.A2 t.vs.length V.c2) t.vs.length (jaE jb1 vs')) (hg:w.grownBy w' (some g)):jaZ lo w' p V { t with vs:=vs' }:=by
 have hob:ob V.A2=some g:=by rw [hA];rfl
 have hpg:=h.p2 g hob;refine ⟨?_,h.hp,⟨jaA h.rows.ts hg (fun b hb q=>h.rows.a12 b (by rw [<- jaB];exact hb) (by rw [hob,q])),by rw [hl];exact hrow,jaA h.rows.os hg (fun b hb q=>h.rows.a23 g hob (by rw [q,<- jaB];exact hb)),h.rows.a12,h.rows.a13,h.rows.a23⟩,h.p1,h.p2,h.p3⟩;have e:jan V { t with vs:=vs' } = jan V t:=by unfold jan;rw [hl]
 rw [e,hg.block p h.lt (fun q=>hpg (by injection q))];exact h.box
theorem jaZ.inO {os':List Int} {g:Nat} (h:jaZ lo w p V t) (hA:V.A3=some ⟨g,0,none⟩) (hl:os'.length=t.os.length) (hrow:w'.ownsRow lo 3 1 (.slice V.A3 t.os.length V.c3) t.os.length (jaE jiy os')) (hg:w.grownBy w' (some g)):jaZ lo w' p V { t with os:=os' }:=by
 have hob:ob V.A3=some g:=by rw [hA];rfl
 have hpg:=h.p3 g hob;refine ⟨?_,h.hp,⟨jaA h.rows.ts hg (fun b hb q=>h.rows.a13 b (by rw [<- jaB];exact hb) (by rw [hob,q])),jaA h.rows.vs hg (fun b hb q=>h.rows.a23 b (by rw [<- jaB];exact hb) (by rw [hob,q])),by rw [hl];exact hrow,h.rows.a12,h.rows.a13,h.rows.a23⟩,h.p1,h.p2,h.p3⟩;have e:jan V { t with os:=os' } = jan V t:=by unfold jan;rw [hl]
 rw [e,hg.block p h.lt (fun q=>hpg (by injection q))];exact h.box
end
theorem jfp {w:World} {B:Nat} {ad:Addr} {ts:List Ten} (h:jbb w B (some ad) ts):∀ j u,(jaE jbP ts)[j]? = some u->w.cell? (ad.add j)=some u:=fun j u hu=>by
 have hj:j < ts.length * 6:=by rw [<- jaY jaF];exact (List.getElem?_eq_some_iff.1 hu).1
 obtain ⟨k,i,hk,hi,rfl,hf⟩:=jcw jaF ts hj;rw [hf] at hu;obtain ⟨b,off,e,_,c0,c1,c2,c3,c4,c5⟩:=h k hk;injection e with e
 subst e;rw [Addr.add_mid,<- Nat.add_assoc];rcases (show i=0∨i=1∨i=2∨i=3∨i=4∨i=5 by omega) with rfl | rfl | rfl | rfl | rfl | rfl
 ·exact c0.trans hu
 ·exact c1.trans hu
 ·exact c2.trans hu
 ·exact c3.trans hu
 ·exact c4.trans hu
 ·exact c5.trans hu
theorem jfZ {w:World} {B:Nat} {ad:Addr} {vs:List Vol} (h:jbc w B (some ad) vs):∀ j u,(jaE jb1 vs)[j]? = some u->w.cell? (ad.add j)=some u:=fun j u hu=>by
 have hj:j < vs.length * 4:=by rw [<- jaY jaG];exact (List.getElem?_eq_some_iff.1 hu).1
 obtain ⟨k,i,hk,hi,rfl,hf⟩:=jcw jaG vs hj;rw [hf] at hu;obtain ⟨b,off,e,_,c0,c1,c2,c3⟩:=h k hk;injection e with e
 subst e;rw [Addr.add_mid,<- Nat.add_assoc];rcases (show i=0∨i=1∨i=2∨i=3 by omega) with rfl | rfl | rfl | rfl
 ·exact c0.trans hu
 ·exact c1.trans hu
 ·exact c2.trans hu
 ·exact c3.trans hu
theorem jhz {w:World} {B:Nat} {ad:Addr} {os:List Int} (h:jaO w B .i64 (some ad) os):∀ j u,(jaE jiy os)[j]? = some u->w.cell? (ad.add j)=some u:=fun j u hu=>by
 have hj:j < os.length * 1:=by rw [<- jaY jbS];exact (List.getElem?_eq_some_iff.1 hu).1
 obtain ⟨k,i,hk,hi,rfl,hf⟩:=jcw jbS os hj;rw [hf] at hu;obtain ⟨b,off,e,_,c0⟩:=h k hk;injection e with e
 subst e;have:i=0:=by omega
 subst this;rw [Addr.add_mid,Nat.mul_one,Nat.add_zero,c0,<- hu];simp [jiy,hk]
end Go.Proofs.YtbnhkplhmanmoaaGreat
