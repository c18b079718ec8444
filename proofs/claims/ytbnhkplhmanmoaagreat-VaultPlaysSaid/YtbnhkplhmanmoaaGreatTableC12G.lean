/- . -/
import Derived.Test.YtbnhkplhmanmoaaGreatTableC10G
import Derived.Test.YtbnhkplhmanmoaaGreatTableC8G
import Derived.Deep.RegionLaw
namespace Go.Proofs.YtbnhkplhmanmoaaGreat
open Go.RowKit
set_option maxHeartbeats 6400000
set_option maxRecDepth 20000
theorem jiK {lo p:Nat} {w:World} {V:jat} {t:Tab} (h:jaZ lo w p V t) (hs:t.sound) (r:Rc) (hf:inR r.b 1 64) :
  Calls Tryz.prog 68 #[.pointer (some ⟨p,0,none⟩),.int .i64 r.a,.int .i64 r.b] w fun e w'=>∃ V',e=.returned (.int .i64 (jeS t r).1)/\jaZ lo w' p V' (jeS t r).2/\Below lo w w':=by
 have HB:Hid (∀ X,Below w.heap.size w X->jaZ lo X p V t/\Below lo w X):=fun X hb=>⟨h.below hb,hb.mono h.lo_le⟩
 obtain ⟨n1,n2,n3⟩:=jam hs;unfold inR at hf;rcases jaX t.ts r.a with ⟨k,hk,he,hl,ha⟩ | ⟨hl,ha⟩
 ·obtain ⟨g,hA,hg,hgl,hX,hC⟩:=h.foundT hs hk he hl;have HX:=Lib.hid hX;have HC:=Lib.hid (hC w (Below.refl _ _));have HO:=Lib.hid (fun X (hb:Below w.heap.size w X)=>jdu V t r.a X (h.below hb).tab (by omega));have HBX:=Lib.hid (fun X (hb:Below w.heap.size w X)=>(h.below hb).cells);have HQ:=Lib.hid (fun X (hb:Below w.heap.size w X)=>jf5 p V.A1 V.c1 t.ts X (h.below hb).cells.1 (h.below hb).tab.ts (by omega) (fun x hx=>(hs.ten x hx).1.quota));have hsq:=jb3 (fun x hx=>(hs.ten x hx).1.quota) t.ts.length;rw [List.take_length] at hsq;have hxq:=(hs.ten _ (List.getElem_mem hk)).1.quota;unfold jan at HO;by_cases hd:t.ts[k].dying=true
  ·have H1:Hid (jeS t r=(10,t)):=by
    show jeS t r=_;unfold jeS;rw [ha];exact if_pos (.inl hd)
   rw [H1.out];simp only [hd] at HX;clear hX hC hA hl ha he hd H1 h hs HO HQ hsq hxq hf;go_enter Tryz.func68,Tryz.ntmps68
   go_wp2_with (go_at_call 91;with_reducible (refine Calls.mono HC.out ?_);rintro e w1 ⟨rfl,hb1⟩;obtain ⟨⟨x0,x1,x5⟩,f1,f5⟩:=HX.out _ hb1)
   go_ret;exact ⟨V,rfl,HB.out _ hb1⟩
  ·have hd2:t.ts[k].dying=false:=by simpa using hd
   obtain ⟨m,hm⟩:∃ m,m=ja0 t.os r.a:=⟨_,rfl⟩;obtain ⟨s,hsm⟩:∃ s,s=jbp t.ts:=⟨_,rfl⟩;simp only [<- hm] at HO;simp only [<- hsm] at HQ;rw [<- hsm] at hsq
   have hone:jeS t r=if r.b < (m:Int) then (10,t) else if (t.os.length:Int) < s - t.ts[k].quota + r.b then (6,t) else (0,{ t with ts:=t.ts.set k { t.ts[k] with quota:=r.b } }):=by
    unfold jeS;rw [ha];show (if t.ts[k].dying=true∨r.b < (ja0 t.os r.a:Int) then _ else _)=_;rw [<- hm,<- hsm];by_cases h1:r.b < (m:Int)
    ·rw [if_pos (.inr h1),if_pos h1]
    ·rw [if_neg (fun q=>q.elim hd h1),if_neg h1,jcl Ten.id (fun x=>{ x with quota:=r.b }) hk hs.up he]
   have HS:Hid (∀ X,Below w.heap.size w X->jaZ lo (X.setCell ⟨g,k * 6 + 1,none⟩ (.int .i64 r.b)) p V { t with ts:=t.ts.set k { t.ts[k] with quota:=r.b } }/\Below lo w (X.setCell ⟨g,k * 6 + 1,none⟩ (.int .i64 r.b))):=fun X hb=>by
    have q:=(h.below hb).setT hA hk (j:=1) (by decide) (.int .i64 r.b) { t.ts[k] with quota:=r.b } rfl;exact ⟨q.1,(hb.mono h.lo_le).trans (q.2.mono (Nat.le_refl _))⟩
   obtain ⟨T,hT⟩:∃ T,T = { t with ts:=t.ts.set k { t.ts[k] with quota:=r.b } }:=⟨_,rfl⟩;rw [<- hT] at HS hone;have HONE:=Lib.hid hone;obtain ⟨xq,hxqq⟩:∃ x,x=t.ts[k].quota:=⟨_,rfl⟩;obtain ⟨xi,hxi⟩:∃ x,x=t.ts[k].id:=⟨_,rfl⟩;obtain ⟨N1,hN1⟩:∃ x,x=t.ts.length:=⟨_,rfl⟩;obtain ⟨N2,hN2⟩:∃ x,x=t.vs.length:=⟨_,rfl⟩;obtain ⟨N3,hN3⟩:∃ x,x=t.os.length:=⟨_,rfl⟩;rw [<- hxqq] at HONE hxq;simp only [hd2,<- hxqq,<- hxi] at HX;rw [<- hN3] at HONE n3;rw [<- hN1] at n1 hsq;simp only [<- hN1,<- hN2,<- hN3] at HO HBX;obtain ⟨ra,hra⟩:∃ x,x=r.a:=⟨_,rfl⟩;obtain ⟨rb,hrb⟩:∃ x,x=r.b:=⟨_,rfl⟩;rw [<- hra] at HC;simp only [<- hra] at HO;rw [<- hrb] at hf HONE;simp only [<- hrb] at HS;rw [<- hra,<- hrb];obtain ⟨b0,b1⟩:=hf;obtain ⟨s0,s1⟩:=hsq;obtain ⟨q0,q1⟩:=hxq;have v1:IntKind.i64.wrap (s - xq)=s - xq:=IntWalk.i64_in _ (by omega);have v2:IntKind.i64.wrap (s - xq + rb)=s - xq + rb:=IntWalk.i64_in _ (by omega);have HV1:=Lib.hid v1;have HV2:=Lib.hid v2;clear hX hC hA hl ha he hd hd2 h hs hT hone hm hsm hxqq hxi hN1 hN2 hN3 hra hrb n1 n2 n3 hg hgl hk v1 v2;by_cases c1:rb < (m:Int)
   ·have H1:Hid (jeS t r=(10,t)):=by show _=_;rw [HONE.out,if_pos c1]
    rw [H1.out];have d1:(m:Int) > rb:=c1;clear H1 HONE c1 b0 b1 s0 s1 q0 q1;go_enter Tryz.func68,Tryz.ntmps68
    go_wp2_with (first
     | (go_at_call 91;with_reducible (refine Calls.mono HC.out ?_);rintro e w1 ⟨rfl,hb1⟩;obtain ⟨⟨x0,x1,x5⟩,f1,f5⟩:=HX.out _ hb1;obtain ⟨y0,y1,y2⟩:=HBX.out _ hb1)
     | (go_at_call 95;with_reducible (refine Calls.mono (HO.out _ hb1) ?_);rintro e w2 ⟨rfl,hb2⟩))
    go_ret;exact ⟨V,rfl,HB.out _ (jaa hb1 hb2)⟩
   ·by_cases c2:(N3:Int) < s - xq + rb
    all_goals
     first
      | (have H1:Hid (jeS t r=(6,t)):=by show _=_;rw [HONE.out,if_neg c1,if_pos c2])
      | (have H1:Hid (jeS t r=(0,T)):=by show _=_;rw [HONE.out,if_neg c1,if_neg c2])
     rw [H1.out];have d1:¬ (m:Int) > rb:=c1
     first
      | (have d2:s - xq + rb > (N3:Int):=c2)
      | (have d2:¬ s - xq + rb > (N3:Int):=c2)
     have v1:=HV1.out;have v2:=HV2.out;clear H1 HONE c1 c2 b0 b1 s0 s1 q0 q1;go_enter Tryz.func68,Tryz.ntmps68
     go_wp2_with (first
      | (go_at_call 91;with_reducible (refine Calls.mono HC.out ?_);rintro e w1 ⟨rfl,hb1⟩;obtain ⟨⟨x0,x1,x5⟩,f1,f5⟩:=HX.out _ hb1;obtain ⟨y0,y1,y2⟩:=HBX.out _ hb1)
      | (go_at_call 95;with_reducible (refine Calls.mono (HO.out _ hb1) ?_);rintro e w2 ⟨rfl,hb2⟩;have hx2:=jaa hb1 hb2;obtain ⟨⟨x0,x1,x5⟩,f1,f5⟩:=HX.out _ hx2;obtain ⟨y0,y1,y2⟩:=HBX.out _ hx2))
     have hbx:=hx2.drew
     go_region_held3 (fun W=>W.cell? ⟨g,k * 6 + 1,none⟩=some (.int .i64 xq)/\W.cell? ⟨p,2,none⟩=some (.slice V.A3 N3 V.c3))
      (exact ⟨(HX.out _ hbx).1.2.1,(HBX.out _ hbx).2.2⟩)
      (first
       | (go_at_call 92;with_reducible (refine Calls.mono (HQ.out _ hbx) ?_);rintro e w3 ⟨rfl,hb3⟩;have hbx:=jaa hbx hb3)
       | fail)
     obtain ⟨⟨x0,x1,x5⟩,f1,f5⟩:=HX.out _ hbx;go_wp2;go_ret
     first
      | exact ⟨V,rfl,HB.out _ hbx⟩
      | exact ⟨V,rfl,HS.out _ hbx⟩
 ·have H1:Hid (jeS t r=(4,t)):=by show jeS t r=_;unfold jeS;rw [ha]
  have HC:=Lib.hid (h.noT hs hl w (Below.refl _ _));rw [H1.out];clear hl ha H1 h hs n1 n2 n3 hf;go_enter Tryz.func68,Tryz.ntmps68
  go_wp2_with (go_at_call 91;with_reducible (refine Calls.mono HC.out ?_);rintro e w1 ⟨rfl,hb1⟩)
  go_ret;exact ⟨V,rfl,HB.out _ hb1⟩
theorem jhu {lo p:Nat} {w:World} {V:jat} {t:Tab} (h:jaZ lo w p V t) (hs:t.sound) (r:Rc) :
  Calls Tryz.prog 72 #[.pointer (some ⟨p,0,none⟩),.int .i64 r.a,.int .i64 r.b] w fun e w'=>∃ V',e=.returned (.int .i64 (jga t r).1)/\jaZ lo w' p V' (jga t r).2/\Below lo w w':=by
 have HB:Hid (∀ X,Below w.heap.size w X->jaZ lo X p V t/\Below lo w X):=fun X hb=>⟨h.below hb,hb.mono h.lo_le⟩
 rcases jcy t.vs r.a with ⟨k,hk,he,hl,ha⟩ | ⟨hl,ha⟩
 ·obtain ⟨g,hA,hg,hgl,hX,hC⟩:=h.foundV hs hk he hl;have HX:=Lib.hid hX;have HC:=Lib.hid (hC w (Below.refl _ _))
  have H1:Hid (jga t r=(0,{ t with vs:=t.vs.set k { t.vs[k] with blocks:=r.b } })):=by
   show jga t r=_;unfold jga;rw [ha];show (_,_)=_;rw [jcl Vol.id (fun x=>{ x with blocks:=r.b }) hk hs.vup he]
  have HS:Hid (∀ X,Below w.heap.size w X->jaZ lo (X.setCell ⟨g,k * 4 + 2,none⟩ (.int .i64 r.b)) p V { t with vs:=t.vs.set k { t.vs[k] with blocks:=r.b } }/\Below lo w (X.setCell ⟨g,k * 4 + 2,none⟩ (.int .i64 r.b))):=fun X hb=>by
   have q:=(h.below hb).setV hA hk (j:=2) (by decide) (.int .i64 r.b) { t.vs[k] with blocks:=r.b } rfl;exact ⟨q.1,(hb.mono h.lo_le).trans (q.2.mono (Nat.le_refl _))⟩
  rw [H1.out];obtain ⟨T,hT⟩:∃ T,T = { t with vs:=t.vs.set k { t.vs[k] with blocks:=r.b } }:=⟨_,rfl⟩;rw [<- hT] at HS ⊢;clear hX hC hA hl ha he H1 h hs hT HB;go_enter Tryz.func72,Tryz.ntmps72
  go_wp2_with (go_at_call 99;with_reducible (refine Calls.mono HC.out ?_);rintro e w1 ⟨rfl,hb1⟩;obtain ⟨⟨x2,x3⟩,f2,f3⟩:=HX.out _ hb1)
  go_ret;exact ⟨V,rfl,HS.out _ hb1⟩
 ·have H1:Hid (jga t r=(4,t)):=by show jga t r=_;unfold jga;rw [ha]
  have HC:=Lib.hid (h.noV hs hl w (Below.refl _ _));rw [H1.out];clear hl ha H1 h hs;go_enter Tryz.func72,Tryz.ntmps72
  go_wp2_with (go_at_call 99;with_reducible (refine Calls.mono HC.out ?_);rintro e w1 ⟨rfl,hb1⟩)
  go_ret;exact ⟨V,rfl,HB.out _ hb1⟩
theorem jkW {lo p:Nat} {w:World} {V:jat} {t:Tab} (h:jaZ lo w p V t) (hs:t.sound) (r:Rc) :
  Calls Tryz.prog 74 #[.pointer (some ⟨p,0,none⟩),.int .i64 r.a,.int .i64 r.b] w fun e w'=>∃ V',e=.returned (.int .i64 (jf3 t r).1)/\jaZ lo w' p V' (jf3 t r).2/\Below lo w w':=by
 have HB:Hid (∀ X,Below w.heap.size w X->jaZ lo X p V t/\Below lo w X):=fun X hb=>⟨h.below hb,hb.mono h.lo_le⟩
 rcases jcy t.vs r.a with ⟨k,hk,he,hl,ha⟩ | ⟨hl,ha⟩
 ·obtain ⟨g,hA,hg,hgl,hX,hC⟩:=h.foundV hs hk he hl;have HX:=Lib.hid hX;have HC:=Lib.hid (hC w (Below.refl _ _))
  have hone:jf3 t r=if r.b < t.vs[k].base then (7,t) else (0,{ t with vs:=t.vs.set k { t.vs[k] with base:=r.b } }):=by
   unfold jf3;rw [ha];show (if r.b < t.vs[k].base then _ else _)=_;rw [jcl Vol.id (fun x=>{ x with base:=r.b }) hk hs.vup he]
  have HS:Hid (∀ X,Below w.heap.size w X->jaZ lo (X.setCell ⟨g,k * 4 + 3,none⟩ (.int .i64 r.b)) p V { t with vs:=t.vs.set k { t.vs[k] with base:=r.b } }/\Below lo w (X.setCell ⟨g,k * 4 + 3,none⟩ (.int .i64 r.b))):=fun X hb=>by
   have q:=(h.below hb).setV hA hk (j:=3) (by decide) (.int .i64 r.b) { t.vs[k] with base:=r.b } rfl;exact ⟨q.1,(hb.mono h.lo_le).trans (q.2.mono (Nat.le_refl _))⟩
  obtain ⟨T,hT⟩:∃ T,T = { t with vs:=t.vs.set k { t.vs[k] with base:=r.b } }:=⟨_,rfl⟩;rw [<- hT] at HS hone;obtain ⟨xb,hxb⟩:∃ x,x=t.vs[k].base:=⟨_,rfl⟩;rw [<- hxb] at hone;simp only [<- hxb] at HX;have HONE:=Lib.hid hone;clear hX hC hA hl ha he h hs hT hone hxb;by_cases c:r.b < xb
  all_goals
   first
    | (have H1:Hid (jf3 t r=(7,t)):=by show _=_;rw [HONE.out,if_pos c])
    | (have H1:Hid (jf3 t r=(0,T)):=by show _=_;rw [HONE.out,if_neg c])
   rw [H1.out];clear H1 HONE;go_enter Tryz.func74,Tryz.ntmps74
   go_wp2_with (go_at_call 99;with_reducible (refine Calls.mono HC.out ?_);rintro e w1 ⟨rfl,hb1⟩;obtain ⟨⟨x2,x3⟩,f2,f3⟩:=HX.out _ hb1)
   go_ret
   first
    | exact ⟨V,rfl,HB.out _ hb1⟩
    | exact ⟨V,rfl,HS.out _ hb1⟩
 ·have H1:Hid (jf3 t r=(4,t)):=by show jf3 t r=_;unfold jf3;rw [ha]
  have HC:=Lib.hid (h.noV hs hl w (Below.refl _ _));rw [H1.out];clear hl ha H1 h hs;go_enter Tryz.func74,Tryz.ntmps74
  go_wp2_with (go_at_call 99;with_reducible (refine Calls.mono HC.out ?_);rintro e w1 ⟨rfl,hb1⟩)
  go_ret;exact ⟨V,rfl,HB.out _ hb1⟩
theorem jk6 {lo p:Nat} {w:World} {V:jat} {t:Tab} (h:jaZ lo w p V t) (r:Rc) (k:Nat) (hk:k < t.os.length) (ha:r.a=k) (hb:r.b=0) :
  Calls Tryz.prog 104 #[.pointer (some ⟨p,0,none⟩),.int .i64 r.a] w fun e w'=>∃ V',e=.returned (.int .i64 (jcs t r).1)/\jaZ lo w' p V' (jcs t r).2/\Below lo w w':=by
 obtain ⟨g,hA,hg,hgl,hX⟩:=h.foundO hk;obtain ⟨x0,f0⟩:=hX w (Below.refl _ _);obtain ⟨c0,c1,c2⟩:=h.cells;rw [hA] at c2;have hgd:t.os.getD k 0=t.os[k]:=by simp [List.getD,hk]
 have hone:jcs t r=if t.os[k]=0 then (4,t) else (0,{ t with os:=t.os.set k 0 }):=by
  unfold jcs;rw [if_neg (by omega),if_pos hb,ha,Int.toNat_natCast,hgd]
 have HS:=Lib.hid (h.setO hA hk 0);have HB:Hid (jaZ lo w p V t/\Below lo w w):=⟨h,Below.refl _ _⟩;obtain ⟨T,hT⟩:∃ T,T = { t with os:=t.os.set k 0 }:=⟨_,rfl⟩;rw [<- hT] at HS hone;obtain ⟨o,ho⟩:∃ o,o=t.os[k]:=⟨_,rfl⟩;rw [<- ho] at hone x0;obtain ⟨N3,hN3⟩:∃ N,N=t.os.length:=⟨_,rfl⟩;rw [<- hN3] at c2 hk;have HONE:=Lib.hid hone;have k1:(k:Int) < (N3:Int):=by omega
 have k0:(0:Int)<=(k:Int):=by omega
 rw [ha];clear hone hT ho hX h hA hgd hN3 hg hgl hk ha hb;by_cases c:o=0
 ·have H1:Hid (jcs t r=(4,t)):=by show _=_;rw [HONE.out,if_pos c]
  rw [H1.out];have d:(o == 0)=true:=beq_iff_eq.2 c;clear H1 HONE c;go_enter Tryz.func104,Tryz.ntmps104;go_wp2;go_ret;exact ⟨V,rfl,HB.out⟩
 ·have H1:Hid (jcs t r=(0,T)):=by show _=_;rw [HONE.out,if_neg c]
  rw [H1.out];have d:(o == 0)=false:=beq_eq_false_iff_ne.2 c;clear H1 HONE c;go_enter Tryz.func104,Tryz.ntmps104;go_wp2;go_ret;exact ⟨V,rfl,HS.out⟩
theorem joP {lo p:Nat} {w:World} {V:jat} {t:Tab} (h:jaZ lo w p V t) (hs:t.sound) (r:Rc) (k:Nat) (hk:k < t.os.length) (ha:r.a=k) (hb:r.b≠0) :
  Calls Tryz.prog 105 #[.pointer (some ⟨p,0,none⟩),.int .i64 r.a,.int .i64 r.b] w fun e w'=>∃ V',e=.returned (.int .i64 (jcs t r).1)/\jaZ lo w' p V' (jcs t r).2/\Below lo w w':=by
 have HB:Hid (∀ X,Below w.heap.size w X->jaZ lo X p V t/\Below lo w X):=fun X hb=>⟨h.below hb,hb.mono h.lo_le⟩
 obtain ⟨n1,n2,n3⟩:=jam hs;obtain ⟨g,hA,hg,hgl,hX⟩:=h.foundO hk;have hgd:t.os.getD k 0=t.os[k]:=by simp [List.getD,hk]
 have HXO:=Lib.hid hX
 have HBX:∀ X,Below w.heap.size w X->X.cell? ⟨p,0,none⟩=some (.slice V.A1 t.ts.length V.c1)/\X.cell? ⟨p,1,none⟩=some (.slice V.A2 t.vs.length V.c2)/\X.cell? ⟨p,2,none⟩=some (.slice (some ⟨g,0,none⟩) t.os.length V.c3):=fun X hb=>by
  have q:=(h.below hb).cells
  rwa [hA] at q
 have HO:∀ X,Below w.heap.size w X->Calls Tryz.prog 95 #[.agg #[.slice V.A1 t.ts.length V.c1,.slice V.A2 t.vs.length V.c2,.slice (some ⟨g,0,none⟩) t.os.length V.c3],.int .i64 r.b] X fun e w'=>e=.returned (.int .i64 (ja0 t.os r.b:Nat))/\Below X.heap.size X w':=fun X hb=>by
  have q:=jdu V t r.b X (h.below hb).tab (by omega);unfold jan at q
  rwa [hA] at q
 have HS:∀ X,Below w.heap.size w X->jaZ lo (X.setCell ⟨g,k,none⟩ (.int .i64 r.b)) p V { t with os:=t.os.set k r.b }/\Below lo w (X.setCell ⟨g,k,none⟩ (.int .i64 r.b)):=fun X hb=>by
  have q:=(h.below hb).setO hA hk r.b;exact ⟨q.1,(hb.mono h.lo_le).trans (q.2.mono (Nat.le_refl _))⟩
 have hhead:¬ (t.os.length:Int)<=r.a:=by omega
 rcases jaX t.ts r.b with ⟨j,hj,he,hl,hat⟩ | ⟨hl,hat⟩
 ·obtain ⟨g1,hA1,_,_,hX1,hC⟩:=h.foundT hs hj he hl
  have hone:jcs t r=if t.ts[j].dying=true then (10,t) else if t.os[k]≠0 then (5,t) else if t.ts[j].quota<=(ja0 t.os r.b:Nat) then (6,t) else (0,{ t with os:=t.os.set k r.b }):=by
   unfold jcs;rw [if_neg hhead,if_neg hb,hat];show (if t.ts[j].dying=true then _ else if t.os.getD r.a.toNat 0≠0 then _ else if t.ts[j].quota<=(ja0 t.os r.b:Nat) then _ else _)=_;rw [ha,Int.toNat_natCast,hgd]
  obtain ⟨T,hT⟩:∃ T,T = { t with os:=t.os.set k r.b }:=⟨_,rfl⟩;rw [<- hT] at HS hone;obtain ⟨m,hm⟩:∃ m,m=ja0 t.os r.b:=⟨_,rfl⟩;rw [<- hm] at HO hone;obtain ⟨o,ho⟩:∃ o,o=t.os[k]:=⟨_,rfl⟩;obtain ⟨xq,hxq⟩:∃ x,x=t.ts[j].quota:=⟨_,rfl⟩;obtain ⟨xi,hxi⟩:∃ x,x=t.ts[j].id:=⟨_,rfl⟩;obtain ⟨xd,hxd⟩:∃ x,x=t.ts[j].dying:=⟨_,rfl⟩;rw [<- ho,<- hxq,<- hxd] at hone;simp only [<- ho] at HXO;simp only [<- hxq,<- hxi,<- hxd] at hX1;obtain ⟨N1,hN1⟩:∃ x,x=t.ts.length:=⟨_,rfl⟩;obtain ⟨N2,hN2⟩:∃ x,x=t.vs.length:=⟨_,rfl⟩;obtain ⟨N3,hN3⟩:∃ x,x=t.os.length:=⟨_,rfl⟩;simp only [<- hN1,<- hN2,<- hN3] at HO HBX;rw [<- hN3] at hk n3;have k1:(k:Int) < (N3:Int):=by omega
  have k0:(0:Int)<=(k:Int):=by omega
  have HX1:=Lib.hid hX1;have HC:=Lib.hid (hC w (Below.refl _ _));have HOH:=Lib.hid HO;have HBH:=Lib.hid HBX;have HSH:=Lib.hid HS;have HONE:=Lib.hid hone;obtain ⟨rb,hrb⟩:∃ x,x=r.b:=⟨_,rfl⟩;rw [<- hrb] at HOH HSH HC;rw [ha,<- hrb];clear hX hX1 hC hone HO HBX HS hT hm ho hxq hxi hxd hN1 hN2 hN3 hrb he hl hat hhead hgd hA hA1 h hs n1 n2 n3 hg hgl hk ha hb;cases xd
  ·by_cases c1:o=0
   ·have d1:(o != 0)=false:=by rw [c1];rfl
    have d1b:(o == 0)=true:=by rw [c1];rfl
    by_cases c2:xq<=(m:Int)
    all_goals
     first
      | (have H1:Hid (jcs t r=(6,t)):=by show _=_;rw [HONE.out,if_neg (by decide),if_neg (fun q=>q c1),if_pos c2])
      | (have H1:Hid (jcs t r=(0,T)):=by show _=_;rw [HONE.out,if_neg (by decide),if_neg (fun q=>q c1),if_neg c2])
     rw [H1.out];clear H1 HONE c1;go_enter Tryz.func105,Tryz.ntmps105
     go_wp2_with (go_at_call 91;with_reducible (refine Calls.mono HC.out ?_);rintro e w1 ⟨rfl,hb1⟩;obtain ⟨⟨x0,x1,x5⟩,f1,f5⟩:=HX1.out _ hb1;obtain ⟨y0,y1,y2⟩:=HBH.out _ hb1;obtain ⟨z0,z1⟩:=HXO.out _ hb1)
     have hbx:=hb1.drew
     go_region_held3 (fun W=>W.cell? ⟨g1,j * 6 + 1,none⟩=some (.int .i64 xq)/\W.cell? ⟨p,0,none⟩=some (.slice V.A1 N1 V.c1)/\W.cell? ⟨p,1,none⟩=some (.slice V.A2 N2 V.c2)/\W.cell? ⟨p,2,none⟩=some (.slice (some ⟨g,0,none⟩) N3 V.c3))
      (exact ⟨(HX1.out _ hbx).1.2.1,HBH.out _ hbx⟩)
      (first
       | (go_at_call 95;with_reducible (refine Calls.mono (HOH.out _ hbx) ?_);rintro e w3 ⟨rfl,hb3⟩;have hbx:=jaa hbx hb3)
       | fail)
     obtain ⟨y0,y1,y2⟩:=HBH.out _ hbx;obtain ⟨z0,z1⟩:=HXO.out _ hbx;go_wp2;go_ret
     first
      | exact ⟨V,rfl,HB.out _ hbx⟩
      | exact ⟨V,rfl,HSH.out _ hbx⟩
   ·have d1:(o != 0)=true:=bne_iff_ne.2 c1;have d1b:(o == 0)=false:=beq_eq_false_iff_ne.2 c1;have H1:Hid (jcs t r=(5,t)):=by show _=_;rw [HONE.out,if_neg (by decide),if_pos c1]
    rw [H1.out];clear H1 HONE c1;go_enter Tryz.func105,Tryz.ntmps105
    go_wp2_with (go_at_call 91;with_reducible (refine Calls.mono HC.out ?_);rintro e w1 ⟨rfl,hb1⟩;obtain ⟨⟨x0,x1,x5⟩,f1,f5⟩:=HX1.out _ hb1;obtain ⟨y0,y1,y2⟩:=HBH.out _ hb1;obtain ⟨z0,z1⟩:=HXO.out _ hb1)
    go_ret;exact ⟨V,rfl,HB.out _ hb1⟩
  ·have H1:Hid (jcs t r=(10,t)):=by show _=_;rw [HONE.out,if_pos rfl]
   rw [H1.out];clear H1 HONE;go_enter Tryz.func105,Tryz.ntmps105
   go_wp2_with (go_at_call 91;with_reducible (refine Calls.mono HC.out ?_);rintro e w1 ⟨rfl,hb1⟩;obtain ⟨⟨x0,x1,x5⟩,f1,f5⟩:=HX1.out _ hb1)
   go_ret;exact ⟨V,rfl,HB.out _ hb1⟩
 ·have H1:Hid (jcs t r=(4,t)):=by
   show jcs t r=_;unfold jcs;rw [if_neg hhead,if_neg hb,hat]
  have HC:=Lib.hid (h.noT hs hl w (Below.refl _ _));rw [H1.out];clear hl hat H1 h hs n1 n2 n3 hA hg hgl hX hgd HXO HBX HO HS hhead hk ha hb;go_enter Tryz.func105,Tryz.ntmps105
  go_wp2_with (go_at_call 91;with_reducible (refine Calls.mono HC.out ?_);rintro e w1 ⟨rfl,hb1⟩)
  go_ret;exact ⟨V,rfl,HB.out _ hb1⟩
theorem jjj {lo p:Nat} {w:World} {V:jat} {t:Tab} (h:jaZ lo w p V t) (hs:t.sound) (r:Rc) (hf:inR r.a 0 63) :
  Calls Tryz.prog 75 #[.pointer (some ⟨p,0,none⟩),.int .i64 r.a,.int .i64 r.b] w fun e w'=>∃ V',e=.returned (.int .i64 (jcs t r).1)/\jaZ lo w' p V' (jcs t r).2/\Below lo w w':=by
 have hn:=(jam hs).2.2;unfold inR at hf;obtain ⟨k,hk⟩:∃ k:Nat,r.a=k:=⟨r.a.toNat,by omega⟩;obtain ⟨c0,c1,c2⟩:=h.cells;by_cases hge:(t.os.length:Int)<=r.a
 ·have H1:Hid (jcs t r=(7,t)):=by show jcs t r=_;unfold jcs;rw [if_pos hge]
  rw [H1.out];have HB:Hid (jaZ lo w p V t/\Below lo w w):=⟨h,Below.refl _ _⟩;obtain ⟨N3,hN3⟩:∃ x,x=t.os.length:=⟨_,rfl⟩;rw [<- hN3] at c2 hge;obtain ⟨ra,hra⟩:∃ x,x=r.a:=⟨_,rfl⟩;rw [<- hra] at hge;rw [<- hra];have d:ra ≥ (N3:Int):=hge;clear H1 h hs hn hf hk hN3 hra hge;go_enter Tryz.func75,Tryz.ntmps75;go_wp2;go_ret;exact ⟨V,rfl,HB.out⟩
 ·have hkl:k < t.os.length:=by omega
  by_cases hb:r.b=0
  ·have HC:=Lib.hid (jk6 h r k hkl hk hb);obtain ⟨N3,hN3⟩:∃ x,x=t.os.length:=⟨_,rfl⟩;rw [<- hN3] at c2 hge;obtain ⟨ra,hra⟩:∃ x,x=r.a:=⟨_,rfl⟩;obtain ⟨rb,hrb⟩:∃ x,x=r.b:=⟨_,rfl⟩;rw [<- hra] at hge HC;rw [<- hra,<- hrb];rw [<- hrb] at hb;have d:¬ ra ≥ (N3:Int):=hge;have d2:(rb == 0)=true:=beq_iff_eq.2 hb;clear h hs hn hf hk hN3 hra hge hrb hb hkl;go_enter Tryz.func75,Tryz.ntmps75
   go_wp2_with (go_at_call 104;with_reducible (refine Calls.mono HC.out ?_);rintro e w1 ⟨V1,rfl,hd1,hb1⟩)
   go_ret;exact ⟨V1,rfl,hd1,hb1⟩
  ·have HC:=Lib.hid (joP h hs r k hkl hk hb);obtain ⟨N3,hN3⟩:∃ x,x=t.os.length:=⟨_,rfl⟩;rw [<- hN3] at c2 hge;obtain ⟨ra,hra⟩:∃ x,x=r.a:=⟨_,rfl⟩;obtain ⟨rb,hrb⟩:∃ x,x=r.b:=⟨_,rfl⟩;rw [<- hra,<- hrb] at HC;rw [<- hra] at hge;rw [<- hra,<- hrb];rw [<- hrb] at hb;have d:¬ ra ≥ (N3:Int):=hge;have d2:(rb == 0)=false:=beq_eq_false_iff_ne.2 hb;clear h hs hn hf hk hN3 hra hge hrb hb hkl;go_enter Tryz.func75,Tryz.ntmps75
   go_wp2_with (go_at_call 105;with_reducible (refine Calls.mono HC.out ?_);rintro e w1 ⟨V1,rfl,hd1,hb1⟩)
   go_ret;exact ⟨V1,rfl,hd1,hb1⟩
section
variable {α:Type} (k:α->Int)
def jmS (l:List α):Prop:=l.Pairwise fun a b=>k a<=k b
def jcW (l:List α):List α:=l.foldl (fun acc x=>jcj k x acc) []
theorem jce (l:List α) (x:α):jcW k (l ++ [x])=jcj k x (jcW k l):=by unfold jcW;rw [List.foldl_append];rfl
theorem jf2 (x:α):∀ l:List α,(jcj k x l).length=l.length + 1
 | []=>rfl
 | z :: l=>by
  unfold jcj;split
  ·rfl
  ·rw [List.length_cons,jf2 x l,List.length_cons]
theorem je9 (l:List α):(jcW k l).length=l.length:=by
 have:∀ (r:List α),(jcW k r.reverse).length=r.length:=fun r=>by
  induction r with
  | nil=>rfl
  | cons x r ih=>rw [List.reverse_cons,jce,jf2,ih,List.length_cons]
 have h:=this l.reverse
 rwa [List.reverse_reverse,List.length_reverse] at h
theorem jka {x:α} : ∀ {l:List α},jmS k l->jmS k (jcj k x l)
 | [],_=>List.pairwise_singleton _ _
 | z :: l,h=>by
  obtain ⟨h1,h2⟩:=List.pairwise_cons.1 h;unfold jcj;split
  ·rename_i hlt;refine List.pairwise_cons.2 ⟨fun y hy=>?_,h⟩;rcases List.mem_cons.1 hy with rfl | hy
   ·omega
   ·have:=h1 y hy;omega
  ·rename_i hlt;refine List.pairwise_cons.2 ⟨fun y hy=>?_,jka h2⟩;rcases (jc4 k).1 hy with rfl | hy
   ·omega
   ·exact h1 y hy
theorem jjL (l:List α):jmS k (jcW k l):=by
 have:∀ r:List α,jmS k (jcW k r.reverse):=fun r=>by
  induction r with
  | nil=>exact List.Pairwise.nil
  | cons x r ih=>rw [List.reverse_cons,jce];exact jka k ih
 have h:=this l.reverse
 rwa [List.reverse_reverse] at h
theorem jjH {l:List α} {y:α} : y∈jcW k l↔y∈l:=by
 have:∀ r:List α,(y∈jcW k r.reverse↔y∈r.reverse):=fun r=>by
  induction r with
  | nil=>exact Iff.rfl
  | cons x r ih=>rw [List.reverse_cons,jce,jc4,ih];simp [or_comm]
 have h:=this l.reverse
 rwa [List.reverse_reverse] at h
theorem jeh {x:α} : ∀ {M1 M2:List α},jmS k (M1 ++ M2)->(∀ y∈M2,k x < k y)->(∀ y∈M1,k y<=k x)->M1 ++ x :: M2=jcj k x (M1 ++ M2)
 | [],[],_,_,_=>rfl
 | [],y :: M2,_,h2,_=>by
  show x :: y :: M2=jcj k x (y :: M2);unfold jcj;rw [if_pos (h2 y (by simp))]
 | z :: M1,M2,h,h2,h1=>by
  have hz:=h1 z (by simp);show z :: (M1 ++ x :: M2)=jcj k x (z :: (M1 ++ M2));unfold jcj;rw [if_neg (by omega),jeh (List.pairwise_cons.1 h).2 h2 fun y hy=>h1 y (by simp [hy])]
theorem jfU {l:List α} (h:l.Pairwise fun a b=>k a < k b):jcW k l=l:=by
 have:∀ r:List α,(r.reverse.Pairwise fun a b=>k a < k b)->jcW k r.reverse=r.reverse:=fun r=>by
  induction r with
  | nil=>intro _;rfl
  | cons x r ih =>
   intro hp;rw [List.reverse_cons] at hp ⊢;obtain ⟨a,b,c⟩:=List.pairwise_append.1 hp;rw [jce,ih a,jec k fun y hy=>c y hy x (by simp)]
 have h2:=this l.reverse;rw [List.reverse_reverse] at h2;exact h2 h
end
theorem jgL {α:Type} (A B:List α) (y x y':α) {p j:Nat} (hp:p=A.length) (hj:j=p + 1) (hx:(A ++ y :: x :: B)[p]? = some y'):((A ++ y :: x :: B).set j y').set p x=A ++ x :: y :: B:=by
 subst hp hj
 have:y'=y:=by
  rw [List.getElem?_append_right (Nat.le_refl _),Nat.sub_self] at hx;injection hx with hx;exact hx.symm
 subst this;rw [List.set_append_right (h:=by omega),show A.length + 1 - A.length=1 by omega,List.set_append_right (h:=by omega),Nat.sub_self];rfl
theorem jcH {P:Program} {ops:Array Oper} {o:Oper} {a:Act} {w:World} {K:Act->World->Prop} {Q:Exit->Act->World->Prop} {E':Prop} (hgd:o.guard=none) (ty:TypeId) (x y:Operand) (ho:o.op=.store ty x y)
  {α:Type} {E:α->List Value} {e base t n g c k:Nat} {A:Option Addr} {l:List α} (hE:∀ x,(E x).length=e) (h1:∀ x,∀ u∈E x,u.oneCell'=true) (h:w.ownsRow base t e (.slice A n c) n (jaE E l)) (hA:A=some ⟨g,0,none⟩) (hn:n=l.length) (hk:k < l.length)
  (off:Nat) (hoff:off=k * e) (z:α) (hx:a.eval x=.pointer (some ⟨g,off,none⟩)) (cs:Array Value) (hcs:cs=(E z).toArray) (hy:a.eval y=.agg cs) (hi:(P.info? ty).map (·.size)=some e)
  (hK:∀ W:World,W.ownsRow base t e (.slice A n c) n (jaE E (l.set k z))->w.grownBy W (some g)->K (a.put o.dst undef) W) :
  if Region.wanted o (yielded ops a.tmps)=true then Oper.wp P o a w K Q else E':=by
 have hw:Region.wanted o (yielded ops a.tmps)=true:=by simp [Region.wanted,hgd]
 rw [if_pos hw];subst hoff hcs;have hs:((E z).toArray).size=e:=by rw [List.size_toArray,hE]
 have hth:w.there g (k * e) ((E z).toArray).size:=fun j hj=>by
  rw [hs] at hj;obtain ⟨g2,hA2,_,_,_,hc,hf⟩:=jb2 hE h hn hk;have:g2=g:=by rw [hA] at hA2;injection hA2 with q;injection q with q;exact q.symm
  subst this;refine ⟨?_,hf _⟩;rw [hc j _ (List.getElem?_eq_getElem (by rw [hE];exact hj))];rfl
 refine wp_store_mid ty x y ho g (k * e) _ hx hy hth (by rw [hs];exact hi) (all_oneCell_toArray (h1 z)) (hK _ ?_ ?_)
 ·exact jdV hE h hA hn hk z
 ·exact jal w g (k * e) (E z)
end Go.Proofs.YtbnhkplhmanmoaaGreat
