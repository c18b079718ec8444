/- . -/
import Derived.Test.YtbnhkplhmanmoaaGreatTableBackNG
import Derived.Test.YtbnhkplhmanmoaaGreatTkG
import Derived.Laws.Rows
import Derived.Test.YtbnhkplhmanmoaaGreatChecked
import Derived.Test.YtbnhkplhmanmoaaGreatLineNumsG
namespace Go.Proofs.YtbnhkplhmanmoaaGreat
open Go.RowKit
def jm0 (last:List (List Nat)) (a:Nat):Prop :=
 0 < (jau (jaj last a)).length/\((jau (jaj last (1 - a))).length=0∨(a=1/\jcO (jaj last 0) < jcO (jaj last 1))∨(a=0/\jcO (jaj last 1)<=jcO (jaj last 0)))
theorem jbJ {last:List (List Nat)} {a:Nat} (ha:a < 2) (h:jm0 last a):jbI last=jeB last a:=by
 rw [jfq];obtain ⟨h1,h2⟩:=h;rcases (show a=0∨a=1 by omega) with rfl | rfl
 ·rw [if_neg,if_pos h1];rintro ⟨q1,q2⟩;have h2':(jau (jaj last 1)).length=0∨_:=h2;rcases h2' with h2 | h2 | h2 <;> omega
 ·rw [if_pos];refine ⟨h1,?_⟩;rcases h2 with h2 | h2 | h2
  ·exact .inl h2
  ·exact .inr h2.2
  ·omega
def jj2 (last:List (List Nat)):Prop:=(jau (jaj last 0)).length=0/\(jau (jaj last 1)).length=0
theorem jcG {last:List (List Nat)} (h:jj2 last):jbI last=⟨1,0,[]⟩:=by
 rw [jfq,if_neg (by have:=h.2;omega),if_neg (by have:=h.1;omega)]
def jnl (last:List (List Nat)) (K:Int):Prop:=∀ a,a < 2->∀ j,j < 192->(jbF ((jaj last a).getD j [])).1=0->(jbF ((jaj last a).getD j [])).2.g<=K
structure jcz (last:List (List Nat)) (n:Nat) (t:Tab) (a:Nat) (g:Int) (K:Int):Prop where
 a2:a < 2
 new:(jm0 last a/\jcO (jaj last a)=g)∨(jj2 last/\a=1/\g=0)
 run:jaV (jbf n) (jbI last).whole.flatten=(0,t)
 le:jnl last K
 g0:0<=g
 gK:g<=K
theorem jcz.newest {last:List (List Nat)} {n a:Nat} {t:Tab} {g K:Int} (h:jcz last n t a g K):(jbI last).area=(a:Int)/\(jbI last).gen=g:=by
 rcases h.new with ⟨q,e⟩ | ⟨q,rfl,rfl⟩
 ·rw [jbJ h.a2 q];exact ⟨rfl,e⟩
 ·rw [jcG q];exact ⟨rfl,rfl⟩
theorem jcz.more {last:List (List Nat)} {n a:Nat} {t:Tab} {g K K':Int} (h:jcz last n t a g K) (hK:K<=K'):jcz last n t a g K' :=
 ⟨h.a2,h.new,h.run,fun a ha j hj hd=>by have:=h.le a ha j hj hd;omega,h.g0,by have:=h.gK;omega⟩
structure Vt where
 t:Tab
 a:Nat
 g:Int
 u:Nat
structure jbH (s:Dk) (n:Nat) (v:Vt) (K:Int):Prop where
 ok:s.ok
 on:s.off=false
 pen:s.pend=[]
 len:384<=s.last.length
 n1:1<=n
 n2:n<=64
 hold:jcz s.last n v.t v.a v.g K
 log:v.u=192∨(Cl (jaj s.last v.a) v.g v.u/\jm0 s.last v.a/\jcO (jaj s.last v.a)=v.g)
structure jn7 (s:Dk) (n:Nat) (t t':Tab) (K:Int):Prop where
 ok:s.ok
 len:384<=s.last.length
 n1:1<=n
 n2:n<=64
 any:∀ keep,∃ a g,jcz (jbZ s keep).last n t a g K∨jcz (jbZ s keep).last n t' a g K
theorem jej {n:Nat} (h1:1<=n) (h2:n<=64):(jbf n).sound :=
 ⟨by show 1<=(List.replicate n (0:Int)).length/\(List.replicate n (0:Int)).length<=64;rw [List.length_replicate];omega,fun x hx=>absurd hx (by simp [jbf]),List.Pairwise.nil,fun x hx=>absurd hx (by simp [jbf]),List.Pairwise.nil,
  fun o ho=>.inl (List.eq_of_mem_replicate ho),by show (0:Int)<=_;omega⟩
theorem jcz.sound {last:List (List Nat)} {n a:Nat} {t:Tab} {g K:Int} (h:jcz last n t a g K) (h1:1<=n) (h2:n<=64):t.sound/\t.os.length=n:=by
 have:=jea (l:=(jbI last).whole.flatten) (jej h1 h2) (by rw [h.run]);rw [h.run] at this;exact ⟨this.1,this.2.trans (by simp [jbf])⟩
theorem jbH.sound {s:Dk} {n:Nat} {v:Vt} {K:Int} (h:jbH s n v K):v.t.sound/\v.t.os.length=n:=h.hold.sound h.n1 h.n2
theorem jiH (i:Nat):∀ (ps:List (Nat × List Nat)) (t:List Nat),jdM i ps t=t∨∃ p∈ps,p.1=i/\jdM i ps t=p.2
 | [],t=>.inl rfl
 | p :: ps,t=>by
  unfold jdM;rcases jiH i ps (if p.1=i then p.2 else t) with h | ⟨q,hq,h1,h2⟩
  ·rw [h];by_cases e:p.1=i
   ·rw [if_pos e];exact .inr ⟨p,List.mem_cons_self ..,e,rfl⟩
   ·rw [if_neg e];exact .inl rfl
  ·exact .inr ⟨q,List.mem_cons_of_mem _ hq,h1,h2⟩
theorem joE {b:Nat} {g:Int} {u:Nat} {l:List Rc} {p:Nat × List Nat} (h:p∈jdZ b g u l):∃ i,i < l.length/\p.1=b * 192 + u + i/\p.2=jfM g u l i:=by
 unfold jdZ at h;obtain ⟨i,hi,rfl⟩:=List.mem_map.1 h;exact ⟨i,List.mem_range.1 hi,rfl,rfl⟩
theorem jg1 {last:List (List Nat)} {ps:List (Nat × List Nat)} {b:Nat} {g:Int} {u:Nat} {l:List Rc} (hb:b < 2) (hlen:384<=last.length) (hu:u + l.length<=192) (hps:∀ p∈ps,p∈jdZ b g u l) :
  Mix (jaj last b) (jaj (jdl ps last) b) g u l/\∀ c,c < 2->c≠b->jaj (jdl ps last) c=jaj last c:=by
 constructor
 ·intro j hj;rw [jd5 _ _ hj,jd5 _ _ hj,jfV _ _ _ (by omega)];rcases jiH (b * 192 + j) ps (last.getD (b * 192 + j) []) with h | ⟨p,hp,h1,h2⟩
  ·rw [h];exact .inl rfl
  ·obtain ⟨i,hi,e1,e2⟩:=joE (hps p hp);have hji:j=u + i:=by omega
   right;refine ⟨by omega,by omega,?_⟩;rw [h2,e2,jlx,show j - u=i by omega]
 ·intro c hc hcb;refine List.map_congr_left fun i hi=>?_
  have hi:=List.mem_range.1 hi;show up ((jdl ps last).getD (c * 192 + i) [])=up (last.getD (c * 192 + i) []);rw [jfV _ _ _ (by omega)];rcases jiH (c * 192 + i) ps (last.getD (c * 192 + i) []) with h | ⟨p,hp,h1,h2⟩
  ·rw [h]
  ·obtain ⟨k,hk,e1,e2⟩:=joE (hps p hp);omega
theorem jjw (c:Nat) (f:Nat->List Nat) (x:Nat) (t:List Nat):∀ n,jdM x ((List.range n).map fun i=>(c + i,f i)) t=if c<=x/\x < c + n then f (x - c) else t
 | 0=>by rw [if_neg (by omega)];rfl
 | n + 1=>by
  rw [List.range_succ,List.map_append];show jdM x (_ ++ [(c + n,f n)]) t=_;rw [jdt,jjw c f x t n];by_cases e:c + n=x
  ·rw [if_pos e,if_pos (by omega),show x - c=n by omega]
  ·rw [if_neg e];by_cases h:c<=x/\x < c + n
   ·rw [if_pos h,if_pos (by omega)]
   ·rw [if_neg h,if_neg (by omega)]
theorem jmx {last:List (List Nat)} {b:Nat} {g:Int} {u:Nat} {l:List Rc} (hb:b < 2) (hlen:384<=last.length) (hu:u + l.length<=192):jdx (jaj (jdl (jdZ b g u l) last) b) g u l:=fun i hi=>by
 rw [jd5 _ _ (by omega),jfV _ _ _ (by omega)];unfold jdZ;rw [jjw,if_pos (by omega),show b * 192 + (u + i) - (b * 192 + u)=i by omega,jlx]
structure WrR (s:Dk) (ws:List (Nat × List Nat)) (s':Dk) (e:Int):Prop where
 ok:s'.ok
 out:(e=0/\s'.last=jdl (s.pend ++ ws) s.last/\s'.pend=[]/\s'.off=false)∨(e=8/\s.lim≠none/\s'.last=s.last/\s'.off=true/\∃ k,s'.pend=s.pend ++ ws.take k)
 lim:s.lim=none->s'.lim=none
theorem jnl.mix {last last':List (List Nat)} {K K' g:Int} {b u:Nat} {l:List Rc} (h:jnl last K) (hf:jhV g u l) (hm:Mix (jaj last b) (jaj last' b) g u l) (ho:∀ c,c < 2->c≠b->jaj last' c=jaj last c) (hK:K<=K') (hg:g<=K'):jnl last' K':=fun a ha j hj hd=>by
 by_cases e:a=b
 ·subst e;rcases hm j hj with q | ⟨q1,q2,q⟩
  ·rw [q] at hd ⊢;have:=h a ha j hj hd;omega
  ·rw [q,hf.dec (by omega)];exact hg
 ·rw [ho a ha e] at hd ⊢;have:=h a ha j hj hd;omega
section
variable {last last':List (List Nat)} {n a u:Nat} {t t':Tab} {g g' K K':Int} {l:List Rc}
theorem jjB {L:List (List Int)} (hL:L.length=192) (hc:Cl L g u) (hg:jcO L=g):jau L=jba L u:=by unfold jau;rw [hg,hc.repl hL]
theorem jjz (h:jcz last n t a g K) (hc:Cl (jaj last a) g u) (hbt:jm0 last a) (hge:jcO (jaj last a)=g) (hf:jhV g u l) (hne:l≠[]) (hr:jaV t l=(0,t'))
  (hm:Mix (jaj last a) (jaj last' a) g u l) (ho:∀ c,c < 2->c≠a->jaj last' c=jaj last c) :
  (jdx (jaj last' a) g u l->jcz last' n t' a g K/\Cl (jaj last' a) g (u + l.length)/\jm0 last' a/\jcO (jaj last' a)=g)/\(¬ jdx (jaj last' a) g u l->jcz last' n t a g K):=by
 have hw:=jjB (jcU last a) hc hge;have hb1:=hbt.1;rw [hw] at hb1;have hu:0 < u:=Nat.pos_of_ne_zero fun e=>by rw [e] at hb1;exact absurd hb1 (Nat.lt_irrefl _)
 have h0:(jaj last' a).getD 0 []=(jaj last a).getD 0 []:=(hm 0 (by decide)).elim id fun q=>by omega
 have hge':jcO (jaj last' a)=g:=by unfold jcO;rw [h0];exact hge
 have hle:=h.le.mix hf hm ho (Int.le_refl K) h.gK;have hnew:=jbJ h.a2 hbt;have hrun:=h.run;rw [hnew] at hrun;have hrun:jaV (jbf n) (jba (jaj last a) u).flatten=(0,t):=by rw [<- hw];exact hrun
 have beat':∀ W,jau (jaj last' a)=W->0 < W.length->jm0 last' a:=fun W e hp=>by
  refine ⟨by rw [e];exact hp,?_⟩;rcases (show a=0∨a=1 by have:=h.a2;omega) with rfl | rfl
  ·rw [ho 1 (by decide) (by decide),hge',<- hge];exact hbt.2
  ·have:=hbt.2;rw [hge,show (1:Nat) - 1=0 from rfl] at this;rw [show (1:Nat) - 1=0 from rfl,ho 0 (by decide) (by decide),hge'];exact this
 constructor
 ·intro ha;obtain ⟨c1,c2⟩:=jmF hc hf hne hm ha;have hw':jau (jaj last' a)=jba (jaj last a) u ++ [l]:=by rw [jjB (jcU last' a) c1 hge',c2]
  have hB:=beat' _ hw' (by simp);refine ⟨⟨h.a2,.inl ⟨hB,hge'⟩,?_,hle,h.g0,h.gK⟩,c1,hB,hge'⟩;rw [jbJ h.a2 hB];show jaV (jbf n) (jau (jaj last' a)).flatten=_;rw [hw',List.flatten_append,jcv _ (by rw [hrun]),hrun];simpa using hr
 ·intro ha;have hw':jau (jaj last' a)=jba (jaj last a) u:=by unfold jau;rw [hge',jjK (jcU last' a) hc hf hm ha]
  have hB:=beat' _ hw' hb1;refine ⟨h.a2,.inl ⟨hB,hge'⟩,?_,hle,h.g0,h.gK⟩;rw [jbJ h.a2 hB];show jaV (jbf n) (jau (jaj last' a)).flatten=_;rw [hw',hrun]
theorem jhP (h:jcz last n t a g K) (hg:g < g') (hK:K<=K') (hgK:g'<=K') (hun:jef (jaj last (1 - a)) g') (hf:jhV g' 0 l) (hne:l≠[]) (hr:jaV (jbf n) l=(0,t'))
  (hm:Mix (jaj last (1 - a)) (jaj last' (1 - a)) g' 0 l) (ho:∀ c,c < 2->c≠1 - a->jaj last' c=jaj last c) :
  (jdx (jaj last' (1 - a)) g' 0 l->jcz last' n t' (1 - a) g' K'/\Cl (jaj last' (1 - a)) g' l.length/\jm0 last' (1 - a)/\jcO (jaj last' (1 - a))=g')/\(¬ jdx (jaj last' (1 - a)) g' 0 l->jcz last' n t a g K'):=by
 have ha2:=h.a2;have hb2:1 - a < 2:=by omega
 have hoa:jaj last' a=jaj last a:=ho a ha2 (by omega);have hle:=h.le.mix hf hm ho hK hgK;obtain ⟨m1,m2⟩:=jo4 (jcU _ _) (jcU _ _) hun hf hne hm;constructor
 ·intro ha;obtain ⟨q1,q2,q3⟩:=m1 ha
  have hB:jm0 last' (1 - a):=by
   refine ⟨by rw [q2];exact Nat.one_pos,?_⟩;rw [show 1 - (1 - a)=a by omega,hoa];rcases h.new with ⟨hbt,hge⟩ | ⟨he,rfl,rfl⟩
   ·right;rcases (show a=0∨a=1 by omega) with rfl | rfl
    ·left;have q1':jcO (jaj last' 1)=g':=q1;rw [hoa,hge,q1'];exact ⟨rfl,hg⟩
    ·right;have q1':jcO (jaj last' 0)=g':=q1;rw [hoa,hge,q1'];exact ⟨rfl,by omega⟩
   ·exact .inl he.2
  refine ⟨⟨hb2,.inl ⟨hB,q1⟩,?_,hle,by have:=h.g0;omega,hgK⟩,q3,hB,q1⟩;rw [jbJ hb2 hB];show jaV (jbf n) (jau (jaj last' (1 - a))).flatten=_;rw [q2];simpa using hr
 ·intro ha;have hm2:=m2 ha;have hnew:=h.run;rcases h.new with ⟨hbt,hge⟩ | ⟨he,rfl,rfl⟩
  ·have hB:jm0 last' a:=by
    refine ⟨by rw [hoa];exact hbt.1,?_⟩;by_cases hz:(jau (jaj last' (1 - a))).length=0
    ·exact .inl hz
    ·obtain ⟨z1,z2⟩:=hm2 (by omega);have h2:=hbt.2;rcases (show a=0∨a=1 by omega) with rfl | rfl
     ·have z2':jcO (jaj last' 1)=jcO (jaj last 1):=z2;have z1':0 < (jau (jaj last 1)).length:=z1;rw [hoa,z2'];have h2':(jau (jaj last 1)).length=0∨_:=h2;rcases h2' with h2 | h2
      ·omega
      ·exact .inr h2
     ·have z2':jcO (jaj last' 0)=jcO (jaj last 0):=z2;have z1':0 < (jau (jaj last 0)).length:=z1;rw [hoa,z2'];have h2':(jau (jaj last 0)).length=0∨_:=h2;rcases h2' with h2 | h2
      ·omega
      ·exact .inr h2
   refine ⟨ha2,.inl ⟨hB,by rw [hoa];exact hge⟩,?_,hle,h.g0,by have:=h.gK;omega⟩;rw [jbJ ha2 hB];rw [jbJ ha2 hbt] at hnew;show jaV (jbf n) (jau (jaj last' a)).flatten=_;rw [hoa];exact hnew
  ·have hE:jj2 last':=by
    refine ⟨Nat.eq_zero_of_not_pos fun q=>?_,by rw [hoa];exact he.2⟩;have:=(hm2 q).1;have h3:0 < (jau (jaj last 0)).length:=this;have:=he.1;omega
   refine ⟨ha2,.inr ⟨hE,rfl,rfl⟩,?_,hle,h.g0,by have:=h.gK;omega⟩;rw [jcG hE];rw [jcG he] at hnew;exact hnew
end
section
variable {s s':Dk} {n:Nat} {v:Vt} {K K' g':Int} {l:List Rc} {t':Tab}
theorem jhv:∀ {l:List Rc} {t:Tab},(jaV t l).1=0->∀ r∈l,jaf r
 | [],_,_,r,hr=>by cases hr
 | x :: l,t,h,r,hr=>by
  unfold jaV at h;by_cases hf:jaf x
  ·rw [if_pos hf] at h;by_cases ho:(jar t x).1=0
   ·rw [if_pos ho] at h;rcases List.mem_cons.1 hr with rfl | hr
    ·exact hf
    ·exact jhv h r hr
   ·rw [if_neg ho] at h;exact absurd h ho
  ·rw [if_neg hf] at h;exact absurd h (by decide)
theorem jgK {t:Tab} (h:jaV t l=(0,t')):∀ r∈l,jpQ r:=fun r hr=>jod (jhv (by rw [h]) r hr)
theorem jgF {l':List (Nat × List Nat)} {k:Nat} (hp:s'.pend=l'.take k) (keep:List Bool):(jbZ s' keep).last=jdl (jgP s'.pend keep s'.pend.length) s'.last/\∀ p∈jgP s'.pend keep s'.pend.length,p∈l' :=
 ⟨rfl,fun p hp'=>List.mem_of_mem_take (by rw [<- hp];exact jed (Nat.le_refl _) p hp')⟩
theorem jbH.fits (h:jbH s n v K) (hK:K<=2147483647) (hr:jaV v.t l=(0,t')) (hroom:v.u + l.length<=192):jhV v.g v.u l:=⟨h.hold.g0,by have:=h.hold.gK;omega,hroom,jgK hr⟩
theorem jbH.cl (h:jbH s n v K) (hne:l≠[]) (hroom:v.u + l.length<=192):Cl (jaj s.last v.a) v.g v.u/\jm0 s.last v.a/\jcO (jaj s.last v.a)=v.g:=by
 have hpos:0 < l.length:=List.length_pos_iff.2 hne;rcases h.log with q | q
 ·omega
 ·exact q
theorem jn9 (h:jbH s n v K) (hK:K<=2147483647) (hr:jaV v.t l=(0,t')) (hne:l≠[]) (hroom:v.u + l.length<=192) (hw:WrR s (jdZ v.a v.g v.u l) s' 0):jbH s' n ⟨t',v.a,v.g,v.u + l.length⟩ K:=by
 rcases hw.out with ⟨_,h1,h2,h3⟩ | ⟨q,_⟩
 ·rw [h.pen,List.nil_append] at h1;obtain ⟨c1,c2,c3⟩:=h.cl hne hroom;obtain ⟨m1,m2⟩:=jg1 (ps:=jdZ v.a v.g v.u l) h.hold.a2 h.len hroom (fun _ q=>q);rw [<- h1] at m1 m2;have ha:=jmx (g:=v.g) (last:=s.last) h.hold.a2 h.len hroom;rw [<- h1] at ha;obtain ⟨p1,p2⟩:=(jjz h.hold c1 c2 c3 (h.fits hK hr hroom) hne hr m1 m2).1 ha;exact ⟨hw.ok,h3,h2,by rw [h1,jcI];exact h.len,h.n1,h.n2,p1,.inr p2⟩
 ·exact absurd q (by decide)
theorem joM (h:jbH s n v K) (hK:K<=2147483647) (hr:jaV v.t l=(0,t')) (hne:l≠[]) (hroom:v.u + l.length<=192) (hw:WrR s (jdZ v.a v.g v.u l) s' 8):jn7 s' n v.t t' K:=by
 rcases hw.out with ⟨q,_⟩ | ⟨_,_,h1,_,k,h2⟩
 ·exact absurd q (by decide)
 ·rw [h.pen,List.nil_append] at h2;obtain ⟨c1,c2,c3⟩:=h.cl hne hroom;refine ⟨hw.ok,by rw [h1];exact h.len,h.n1,h.n2,fun keep=>?_⟩;obtain ⟨e,hk⟩:=jgF h2 keep;rw [h1] at e;obtain ⟨m1,m2⟩:=jg1 h.hold.a2 h.len hroom hk;rw [<- e] at m1 m2;obtain ⟨p1,p2⟩:=jjz h.hold c1 c2 c3 (h.fits hK hr hroom) hne hr m1 m2;by_cases ha:jdx (jaj (jbZ s' keep).last v.a) v.g v.u l
  ·exact ⟨_,_,.inr (p1 ha).1⟩
  ·exact ⟨_,_,.inl (p2 ha)⟩
structure jha (s:Dk) (n:Nat) (v:Vt) (K K' g':Int) (l:List Rc) (t':Tab):Prop where
 g1:v.g < g'
 g2:g'<=K'
 k1:K<=K'
 k2:K'<=2147483647
 un:jef (jaj s.last (1 - v.a)) g'
 ne:l≠[]
 len:l.length<=192
 fit:∀ r∈l,jpQ r
 run:jaV (jbf n) l=(0,t')
theorem jha.fits (h:jbH s n v K) (m:jha s n v K K' g' l t'):jhV g' 0 l:=⟨by have:=h.hold.g0;have:=m.g1;omega,by have:=m.g2;have:=m.k2;omega,by have:=m.len;omega,m.fit⟩
theorem jk5 (h:jbH s n v K) (m:jha s n v K K' g' l t') (hw:WrR s (jdZ (1 - v.a) g' 0 l) s' 0):jbH s' n ⟨t',1 - v.a,g',l.length⟩ K':=by
 have ha2:=h.hold.a2;rcases hw.out with ⟨_,h1,h2,h3⟩ | ⟨q,_⟩
 ·rw [h.pen,List.nil_append] at h1;obtain ⟨m1,m2⟩:=jg1 (ps:=jdZ (1 - v.a) g' 0 l) (by omega) h.len (by have:=m.len;omega) (fun _ q=>q);rw [<- h1] at m1 m2;have ha:=jmx (g:=g') (last:=s.last) (b:=1 - v.a) (l:=l) (u:=0) (by omega) h.len (by have:=m.len;omega);rw [<- h1] at ha;obtain ⟨p1,p2⟩:=(jhP h.hold m.g1 m.k1 m.g2 m.un (m.fits h) m.ne m.run m1 m2).1 ha;exact ⟨hw.ok,h3,h2,by rw [h1,jcI];exact h.len,h.n1,h.n2,p1,.inr p2⟩
 ·exact absurd q (by decide)
theorem jok (h:jbH s n v K) (m:jha s n v K K' g' l t') (hw:WrR s (jdZ (1 - v.a) g' 0 l) s' 8):jn7 s' n v.t t' K':=by
 have ha2:=h.hold.a2;rcases hw.out with ⟨q,_⟩ | ⟨_,_,h1,_,k,h2⟩
 ·exact absurd q (by decide)
 ·rw [h.pen,List.nil_append] at h2;refine ⟨hw.ok,by rw [h1];exact h.len,h.n1,h.n2,fun keep=>?_⟩;obtain ⟨e,hk⟩:=jgF h2 keep;rw [h1] at e;obtain ⟨m1,m2⟩:=jg1 (b:=1 - v.a) (by omega) h.len (by have:=m.len;omega) hk;rw [<- e] at m1 m2;obtain ⟨p1,p2⟩:=jhP h.hold m.g1 m.k1 m.g2 m.un (m.fits h) m.ne m.run m1 m2;by_cases ha:jdx (jaj (jbZ s' keep).last (1 - v.a)) g' 0 l
  ·exact ⟨_,_,.inr (p1 ha).1⟩
  ·exact ⟨_,_,.inl (p2 ha)⟩
theorem jgw {s:Dk} {t:Tab} {a:Nat} {g:Int} (ok:s.ok) (on:s.off=false) (pen:s.pend=[]) (len:384<=s.last.length) (n1:1<=n) (n2:n<=64) (h:jcz s.last n t a g K):jbH s n ⟨t,a,g,192⟩ K:=⟨ok,on,pen,len,n1,n2,h,.inl rfl⟩
end
theorem jn1 {b:List Int} (h:(jbF b).1=0):b.getD 0 0=83:=by
 rw [<- (jmc h).2.2];rfl
theorem jfv {N n:Nat} (hN:384<=N):jcz (jeU N).last n (jbf n) 1 0 0:=by
 have hz:∀ a,a < 2->∀ j,j < 192->(jbF ((jaj (jeU N).last a).getD j [])).1≠0:=fun a ha j hj h=>by
  have:=jn1 h;rw [jd5 _ _ hj,show (jeU N).last.getD (a * 192 + j) []=jas by simp [jeU,List.getD_eq_getElem?_getD,show a * 192 + j < N by omega]] at this;exact absurd this (by decide)
 have hw:∀ a,a < 2->(jau (jaj (jeU N).last a)).length=0:=fun a ha=>by
  unfold jau;rw [je8 (k:=0) (Nat.zero_le _) (fun j hj=>absurd hj (Nat.not_lt_zero j)) (fun _=>by unfold jbd;rw [decide_eq_false (hz a ha 0 (by decide))];simp)];rfl
 have he:jj2 (jeU N).last:=⟨hw 0 (by decide),hw 1 (by decide)⟩;exact ⟨by decide,.inr ⟨he,rfl,rfl⟩,by rw [jcG he];rfl,fun a ha j hj h=>absurd h (hz a ha j hj),Int.le_refl _,Int.le_refl _⟩
theorem jjq {s:Dk} {n:Nat} {v:Vt} {K:Int} (h:jbH s n v K) (keep:List Bool):(jbZ s keep).last=s.last:=by
 unfold jbZ;rw [h.pen];rfl
def jeq (t:Tab):List Rc:=if (jcf t).length=0 then [jor] else jcf t
theorem jqz {n:Nat} : jaV (jbf n) [jor]=(0,jbf n):=by
 unfold jaV;rw [if_pos (by decide),if_pos (by rfl)];rfl
theorem jm3 {t:Tab} {n:Nat} (hs:t.sound) (hn:t.os.length=n):jaV (jbf n) (jeq t)=(0,t):=by
 have hb:=jk4 hs;rw [hn] at hb;unfold jeq;split
 ·rename_i h;rw [List.eq_nil_of_length_eq_zero h] at hb;rw [jqz];exact hb
 ·exact hb
theorem jpa (t:Tab):jeq t≠[]:=by
 unfold jeq;split
 ·exact List.cons_ne_nil _ _
 ·rename_i h;exact fun e=>h (by rw [e];rfl)
structure jaM (F:Nat->Prop) (a w:World):Prop where
 os:w.os=a.os
 tape:w.tape=a.tape
 output:w.output=a.output
 size:a.heap.size<=w.heap.size
 block:∀ k,k < a.heap.size->¬ F k->w.heap[k]? = a.heap[k]?
theorem jaM.refl (F:Nat->Prop) (w:World):jaM F w w:=⟨rfl,rfl,rfl,Nat.le_refl _,fun _ _ _=>rfl⟩
theorem jaM.of_below {F:Nat->Prop} {w w':World} (h:Below w.heap.size w w'):jaM F w w':=⟨h.os,h.tape,h.output,h.size,fun k hk _=>h.block k hk⟩
theorem jaM.below {F:Nat->Prop} {B:Nat} {w0 a w:World} (h:jaM F a w) (hF:∀ k,F k->B<=k) (hb:Below B w0 a) (hB:B<=a.heap.size):Below B w0 w :=
 ⟨h.os.trans hb.os,h.tape.trans hb.tape,h.output.trans hb.output,Nat.le_trans hb.size h.size,fun k hk=>(h.block k (by omega) (fun q=>by have:=hF k q;omega)).trans (hb.block k hk)⟩
theorem jaM.cell {F:Nat->Prop} {a w:World} (h:jaM F a w) {b o:Nat} (hl:b < a.heap.size) (hn:¬ F b):w.cell? ⟨b,o,none⟩=a.cell? ⟨b,o,none⟩:=World.cell?_of_block (h.block b hl hn)
def jeI (n:Int):Prop:=-9223372036854775808<=n/\n<=9223372036854775807
def jcx (F F':Nat->Prop) (n:Nat):Prop:=∀ b,F' b->F b∨n<=b
theorem jaM.set {F:Nat->Prop} {a w:World} (h:jaM F a w) {g:Nat} (hg:F g) (o:Nat) (v:Value):jaM F a (w.setCell ⟨g,o,none⟩ v) :=
 ⟨h.os,h.tape,h.output,Nat.le_trans h.size (by simp [World.setCell]),fun k hk hn=>by
  have hne:g≠k:=fun e=>hn (e ▸ hg)
  have h2:(w.setCell ⟨g,o,none⟩ v).heap[k]? = w.heap[k]?:=by
   show (w.heap.modify g _)[k]? = _;rw [Array.getElem?_modify,if_neg hne]
  rw [h2];exact h.block k hk hn⟩
theorem jah (w:World) (g h i:Nat) (v:Value) (hne:g≠h):(w.setCell ⟨g,i,none⟩ v).heap[h]? = w.heap[h]?:=by
 show (w.heap.modify g _)[h]? = _;rw [Array.getElem?_modify,if_neg hne]
theorem jaC (w:World) (g i:Nat) (v:Value) (C:Array Value) (t:TypeId) (h:w.heap[g]? = some (.cells C t (0,0))):(w.setCell ⟨g,i,none⟩ v).heap[g]? = some (.cells (C.setIfInBounds i v) t (0,0)):=by
 have hlt:=(Array.getElem?_eq_some_iff.1 h).1;obtain ⟨_,hk⟩:=Array.getElem?_eq_some_iff.1 h;show (w.heap.modify g _)[g]? = _;rw [Array.getElem?_eq_getElem (by rw [Array.size_modify];exact hlt),Array.getElem_modify_self,hk];rfl
theorem jdy {F:Nat->Prop} {a w:World} (h:jaM F a w):jaM F a w.drew:=⟨h.os,h.tape,h.output,h.size,h.block⟩
def jq6 (F:Nat->Prop) (v:Value):Prop:=∀ q,v.ownBlock=some q->¬ F q
def jdm (w:World) (B:Nat) (A:Option Addr) (l:List Bool):Prop :=
 ∀ i,i < l.length->∃ b off,A=some ⟨b,off,none⟩/\b < B/\w.cell? ⟨b,off + i,none⟩=some (.bool (l.getD i false))
theorem jdm.below {w w':World} {B:Nat} {A:Option Addr} {l:List Bool} (h:jdm w B A l) (hb:Below B w w'):jdm w' B A l:=fun i hi=>by
 obtain ⟨b,off,e,hlt,hc⟩:=h i hi;exact ⟨b,off,e,hlt,(hb.cell (p:=⟨b,off + i,none⟩) hlt).trans hc⟩
theorem jdm.more {w:World} {B B':Nat} {A:Option Addr} {l:List Bool} (h:jdm w B A l) (hB:B<=B'):jdm w B' A l:=fun i hi=>by
 obtain ⟨b,off,e,hlt,hc⟩:=h i hi;exact ⟨b,off,e,by omega,hc⟩
theorem jdm.none (w:World) (B:Nat) (A:Option Addr):jdm w B A []:=fun _ h=>absurd h (by simp)
def Off (F:Nat->Prop) (A:Option Addr) (n:Nat):Prop:=0 < n->∀ b o,A=some ⟨b,o,none⟩->¬ F b
def Got (w w':World) (A:Option Addr) (l:List Nat):Prop :=
 ∃ g o,A=some ⟨g,o,none⟩/\w.heap.size<=g/\g < w'.heap.size/\∀ i,i < l.length->w'.cell? ⟨g,o + i,none⟩=some (.int .u8 (l.getD i 0:Nat))/\w'.frozen? ⟨g,o + i,none⟩=false
theorem Got.ints {w w':World} {A:Option Addr} {l:List Nat} (h:Got w w' A l):jaO w' w'.heap.size .u8 A (up l):=fun i hi=>by
 obtain ⟨g,o,rfl,_,h2,h3⟩:=h;exact ⟨g,o,rfl,h2,by rw [(h3 i (by rwa [jfW] at hi)).1,jk9]⟩
structure jd7 (w0:World) (Rep:World->Nat->(Nat->Prop)->Dk->Prop):Prop where
 keep:∀ (w w':World) (p:Nat) (F:Nat->Prop) (s:Dk),Rep w p F s->(∀ b,F b->w'.heap[b]? = w.heap[b]?)->Rep w' p F s
 lt:∀ (w:World) (p:Nat) (F:Nat->Prop) (s:Dk),Rep w p F s->∀ b,F b->b < w.heap.size
 ok:∀ (w:World) (p:Nat) (F:Nat->Prop) (s:Dk),Rep w p F s->s.ok
 no:∀ (n:Int) (w:World),Below w0.heap.size w0 w->jeI n->n < 1∨4096 < n->Calls Tryz.prog 7 #[.int .i64 n] w fun e w'=>e=.returned (.tuple #[.pointer none,.int .i64 1])/\Below w.heap.size w w'
 new:∀ (n:Nat) (w:World),Below w0.heap.size w0 w->1<=n->n<=4096->Calls Tryz.prog 7 #[.int .i64 (n:Int)] w fun e w'=>∃ (p:Nat) (F:Nat->Prop),e=.returned (.tuple #[.pointer (some ⟨p,0,none⟩),.int .i64 0])/\Rep w' p F (jeU n)/\(∀ b,F b->w.heap.size<=b)/\Below w.heap.size w w'
 read:∀ (i:Nat) (p:Nat) (F:Nat->Prop) (s:Dk) (w:World),Below w0.heap.size w0 w->Rep w p F s->(∀ b,F b->w0.heap.size<=b)->jcR s (i:Int)=0->Calls Tryz.prog 106 #[.pointer (some ⟨p,0,none⟩),.int .i64 (i:Int)] w fun e w'=>∃ A c,e=.returned (.tuple #[.slice A 64 c,.int .i64 0])/\64<=c/\Got w w' A (jjQ s i)/\Below w.heap.size w w'
 readNo:∀ (n:Int) (p:Nat) (F:Nat->Prop) (s:Dk) (w:World),Below w0.heap.size w0 w->jeI n->Rep w p F s->(∀ b,F b->w0.heap.size<=b)->jcR s n≠0->Calls Tryz.prog 106 #[.pointer (some ⟨p,0,none⟩),.int .i64 n] w fun e w'=>∃ A c,e=.returned (.tuple #[.slice A 0 c,.int .i64 (jcR s n)])/\Below w.heap.size w w'
 write:∀ (n:Int) (A:Option Addr) (c:Nat) (t:List Nat) (p:Nat) (F:Nat->Prop) (s:Dk) (w:World),Below w0.heap.size w0 w->jeI n->jaO w w.heap.size .u8 A (up t)->(∀ y∈t,y < 256)->t.length<=c->t.length<=140737488355328->Off F A t.length->s.pend.length<=2147483647->Rep w p F s->(∀ b,F b->w0.heap.size<=b) ->
  Calls Tryz.prog 81 #[.pointer (some ⟨p,0,none⟩),.int .i64 n,.slice A t.length c] w fun e w'=>∃ F',e=.returned (.int .i64 (ja5 s n t))/\Rep w' p F' (jbl s n t)/\jcx F F' w.heap.size/\jaM F w w'
 flush:∀ (p:Nat) (F:Nat->Prop) (s:Dk) (w:World),Below w0.heap.size w0 w->Rep w p F s->(∀ b,F b->w0.heap.size<=b)->Calls Tryz.prog 83 #[.pointer (some ⟨p,0,none⟩)] w fun e w'=>∃ F',e=.returned (.int .i64 (jbu s))/\Rep w' p F' (jbD s)/\jcx F F' w.heap.size/\jaM F w w'
 limit:∀ (n:Int) (p:Nat) (F:Nat->Prop) (s:Dk) (w:World),Below w0.heap.size w0 w->jeI n->Rep w p F s->(∀ b,F b->w0.heap.size<=b)->Calls Tryz.prog 12 #[.pointer (some ⟨p,0,none⟩),.int .i64 n] w fun e w'=>∃ F',e=.returned (.tuple #[])/\Rep w' p F' (jf6 s n)/\jcx F F' w.heap.size/\jaM F w w'
 crash:∀ (A:Option Addr) (c:Nat) (l:List Bool) (p:Nat) (F:Nat->Prop) (s:Dk) (w:World),Below w0.heap.size w0 w->jdm w w.heap.size A l->l.length<=c->l.length<=140737488355328->Off F A l.length->Rep w p F s->(∀ b,F b->w0.heap.size<=b) ->
  Calls Tryz.prog 13 #[.pointer (some ⟨p,0,none⟩),.slice A l.length c] w fun e w'=>∃ F',e=.returned (.tuple #[])/\Rep w' p F' (jbZ s l)/\jcx F F' w.heap.size/\jaM F w w'
 last:∀ (i:Nat) (p:Nat) (F:Nat->Prop) (s:Dk) (w:World),Below w0.heap.size w0 w->Rep w p F s->(∀ b,F b->w0.heap.size<=b)->jds s (i:Int)=0->Calls Tryz.prog 33 #[.pointer (some ⟨p,0,none⟩),.int .i64 (i:Int)] w fun e w'=>∃ A c,e=.returned (.tuple #[.slice A 64 c,.int .i64 0])/\64<=c/\Got w w' A (s.last.getD i [])/\Below w.heap.size w w'
 lastNo:∀ (n:Int) (p:Nat) (F:Nat->Prop) (s:Dk) (w:World),Below w0.heap.size w0 w->jeI n->Rep w p F s->(∀ b,F b->w0.heap.size<=b)->jds s n≠0->Calls Tryz.prog 33 #[.pointer (some ⟨p,0,none⟩),.int .i64 n] w fun e w'=>∃ A c,e=.returned (.tuple #[.slice A 0 c,.int .i64 (jds s n)])/\Below w.heap.size w w'
 pending:∀ (p:Nat) (F:Nat->Prop) (s:Dk) (w:World),Below w0.heap.size w0 w->Rep w p F s->(∀ b,F b->w0.heap.size<=b)->Calls Tryz.prog 18 #[.pointer (some ⟨p,0,none⟩)] w fun e w'=>e=.returned (.int .i64 (s.pend.length:Int))/\Below w.heap.size w w'
 nread:∀ (n:Int) (w:World),Below w0.heap.size w0 w->Calls Tryz.prog 106 #[.pointer none,.int .i64 n] w fun e w'=>∃ A c,e=.returned (.tuple #[.slice A 0 c,.int .i64 11])/\Below w.heap.size w w'
 nwrite:∀ (n:Int) (A:Option Addr) (l c:Nat) (w:World),Below w0.heap.size w0 w->Calls Tryz.prog 81 #[.pointer none,.int .i64 n,.slice A l c] w fun e w'=>e=.returned (.int .i64 11)/\Below w.heap.size w w'
 nflush:∀ (w:World),Below w0.heap.size w0 w->Calls Tryz.prog 83 #[.pointer none] w fun e w'=>e=.returned (.int .i64 11)/\Below w.heap.size w w'
 nlimit:∀ (n:Int) (w:World),Below w0.heap.size w0 w->Calls Tryz.prog 12 #[.pointer none,.int .i64 n] w fun e w'=>e=.returned (.tuple #[])/\Below w.heap.size w w'
 ncrash:∀ (A:Option Addr) (l c:Nat) (w:World),Below w0.heap.size w0 w->Calls Tryz.prog 13 #[.pointer none,.slice A l c] w fun e w'=>e=.returned (.tuple #[])/\Below w.heap.size w w'
 nlast:∀ (n:Int) (w:World),Below w0.heap.size w0 w->Calls Tryz.prog 33 #[.pointer none,.int .i64 n] w fun e w'=>∃ A c,e=.returned (.tuple #[.slice A 0 c,.int .i64 11])/\Below w.heap.size w w'
 npending:∀ (w:World),Below w0.heap.size w0 w->Calls Tryz.prog 18 #[.pointer none] w fun e w'=>e=.returned (.int .i64 0)/\Below w.heap.size w w'
section
variable {w0:World} {Rep:World->Nat->(Nat->Prop)->Dk->Prop}
theorem jd7.later (HS:jd7 w0 Rep) {w w':World} {p:Nat} {F:Nat->Prop} {s:Dk} (h:Rep w p F s) (hb:Below w.heap.size w w'):Rep w' p F s:=HS.keep w w' p F s h (fun b hF=>hb.block b (HS.lt w p F s h b hF))
def jqe (Rep:World->Nat->(Nat->Prop)->Dk->Prop) (w W:World) (p:Nat) (s:Dk):Prop:=∃ F,Rep W p F s/\(∀ b,F b->w.heap.size<=b)/\Below w.heap.size w W
variable {w W:World} {p:Nat} {s:Dk}
theorem joo (HS:jd7 w Rep) {n:Nat} (hb:Below w.heap.size w W) (h1:1<=n) (h2:n<=4096):Calls Tryz.prog 7 #[.int .i64 (n:Int)] W fun e w'=>∃ p,e=.returned (.tuple #[.pointer (some ⟨p,0,none⟩),.int .i64 0])/\jqe Rep w w' p (jeU n) :=
 (HS.new n W hb h1 h2).mono fun _ _ ⟨p,F,q1,q2,q3,q4⟩=>⟨p,q1,F,q2,fun b hb'=>Nat.le_trans hb.size (q3 b hb'),jaa hb q4⟩
end
def lnV (l:Ln):Array Value:=#[.int .i64 l.g,.int .i64 l.s,.bool l.last,.int .i64 l.r.k,.int .i64 l.r.a,.int .i64 l.r.b,.int .i64 l.r.c,.int .i64 l.r.d,.string l.r.key]
structure Ln.ok (l:Ln):Prop where
 g:jdD l.g
 s:jdD l.s
 r:l.r.ok
structure jer where
 A:Option Addr
 c:Nat
 b:List Int
structure jer.ok (w:World) (B:Nat) (p:jer):Prop where
 ints:jaO w B .u8 p.A p.b
 byte:∀ z∈p.b,0<=z/\z<=255
 le:p.b.length<=p.c
 len:p.b.length<=9223372036854775807
def jiB (w:World) (B:Nat) (A:Option Addr) (ps:List jer):Prop :=
 ∀ i,(h:i < ps.length)->∃ b off,A=some ⟨b,off,none⟩/\b < B/\w.cell? ⟨b,off + i,none⟩=some (.slice ps[i].A ps[i].b.length ps[i].c)/\ps[i].ok w B
def jaS (ps:List jer):List (List Int):=ps.map jer.b
theorem jhy (ps:List jer):(jaS ps).length=ps.length:=by simp [jaS]
theorem jhi (ps:List jer) {i:Nat} (h:i < ps.length):(jaS ps).getD i []=ps[i].b:=by simp [jaS,List.getD,h]
theorem jer.ok.below {w w':World} {B:Nat} {p:jer} (h:p.ok w B) (hb:Below B w w'):p.ok w' B:=⟨h.ints.below hb,h.byte,h.le,h.len⟩
theorem jer.ok.more {w:World} {B B':Nat} {p:jer} (h:p.ok w B) (hB:B<=B'):p.ok w B':=⟨h.ints.more hB,h.byte,h.le,h.len⟩
theorem jiB.below {w w':World} {B:Nat} {A:Option Addr} {ps:List jer} (h:jiB w B A ps) (hb:Below B w w'):jiB w' B A ps:=fun i hi=>by
 obtain ⟨b,off,e,hl,hc,ho⟩:=h i hi;exact ⟨b,off,e,hl,(hb.cell (p:=⟨b,off + i,none⟩) hl).trans hc,ho.below hb⟩
theorem jiB.more {w:World} {B B':Nat} {A:Option Addr} {ps:List jer} (h:jiB w B A ps) (hB:B<=B'):jiB w B' A ps:=fun i hi=>by
 obtain ⟨b,off,e,hl,hc,ho⟩:=h i hi;exact ⟨b,off,e,by omega,hc,ho.more hB⟩
def jaL (w:World) (B:Nat) (A:Option Addr) (ts:List (List Rc)):Prop :=
 ∀ i,(h:i < ts.length)->∃ b off Ai ci,A=some ⟨b,off,none⟩/\b < B/\w.cell? ⟨b,off + i,none⟩=some (.slice Ai ts[i].length ci)/\ts[i].length<=ci/\jax w B Ai ts[i]
theorem jaL.below {w w':World} {B:Nat} {A:Option Addr} {ts:List (List Rc)} (h:jaL w B A ts) (hb:Below B w w'):jaL w' B A ts:=fun i hi=>by
 obtain ⟨b,off,Ai,ci,e,hl,hc,hle,hr⟩:=h i hi;exact ⟨b,off,Ai,ci,e,hl,(hb.cell (p:=⟨b,_,none⟩) hl).trans hc,hle,hr.below hb⟩
theorem jaL.more {w:World} {B B':Nat} {A:Option Addr} {ts:List (List Rc)} (h:jaL w B A ts) (hB:B<=B'):jaL w B' A ts:=fun i hi=>by
 obtain ⟨b,off,Ai,ci,e,hl,hc,hle,hr⟩:=h i hi;exact ⟨b,off,Ai,ci,e,by omega,hc,hle,hr.more hB⟩
def jov (w w':World) (A:Option Addr) (l:List Int):Prop :=
 ∃ g o,A=some ⟨g,o,none⟩/\w.heap.size<=g/\g < w'.heap.size/\∀ i,i < l.length->w'.cell? ⟨g,o + i,none⟩=some (.int .u8 (l.getD i 0))/\w'.frozen? ⟨g,o + i,none⟩=false
theorem jov.ints {w w':World} {A:Option Addr} {l:List Int} (h:jov w w' A l):jaO w' w'.heap.size .u8 A l:=fun i hi=>by
 obtain ⟨g,o,rfl,_,h2,h3⟩:=h;exact ⟨g,o,rfl,h2,(h3 i hi).1⟩
structure jjG (w0:World):Prop where
 enc:∀ (l:Ln) (w:World),Below w0.heap.size w0 w->l.ok->jdj l=0 ->
  Calls Tryz.prog 80 #[.agg (lnV l)] w fun e w'=>∃ A c,e=.returned (.tuple #[.slice A 64 c,.int .i64 0])/\64<=c/\c<=9223372036854775807/\jov w w' A (jcA l)/\Below w.heap.size w w'
 encNo:∀ (l:Ln) (w:World),Below w0.heap.size w0 w->l.ok->jdj l≠0 ->
  Calls Tryz.prog 80 #[.agg (lnV l)] w fun e w'=>∃ A c,e=.returned (.tuple #[.slice A 0 c,.int .i64 (jdj l)])/\Below w.heap.size w w'
 dec:∀ (A:Option Addr) (c:Nat) (b:List Int) (w:World),Below w0.heap.size w0 w->jaO w w.heap.size .u8 A b->(∀ z∈b,0<=z/\z<=255)->b.length<=c->b.length<=9223372036854775807 ->
  Calls Tryz.prog 86 #[.slice A b.length c] w fun e w'=>e=.returned (.tuple #[.agg (lnV (jbF b).2),.int .i64 (jbF b).1])/\Below w.heap.size w w'
 repl:∀ (A:Option Addr) (c:Nat) (ps:List jer) (g:Int) (w:World),Below w0.heap.size w0 w->jiB w w.heap.size A ps->ps.length<=c->ps.length * 24<=140737488351232->jdD g ->
  Calls Tryz.prog 87 #[.slice A ps.length c,.int .i64 g] w fun e w'=>∃ A' c',e=.returned (.slice A' (jda (jaS ps) g).length c')/\(jda (jaS ps) g).length<=c'/\jaL w' w'.heap.size A' (jda (jaS ps) g)/\Below w.heap.size w w'
end Go.Proofs.YtbnhkplhmanmoaaGreat
