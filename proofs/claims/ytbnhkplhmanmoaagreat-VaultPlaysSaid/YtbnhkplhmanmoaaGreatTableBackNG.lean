/- . -/
import Derived.Test.YtbnhkplhmanmoaaGreatLineNumsG
import Derived.Test.YtbnhkplhmanmoaaGreatTkG
namespace Go.Proofs.YtbnhkplhmanmoaaGreat
open Go.RowKit
/-! ### A slot that is jml,and jnX back -/
def jbr (a b:Int):Rc:=⟨9,a,b,0,0,⟨#[]⟩⟩
theorem jni {a b:Int} (ha:inR a 0 63) (hb:inR b 0 7):jaf (jbr a b):=by
 unfold jaf jbr;simp only [];rw [if_neg (by decide),if_neg (by intro h;rcases h with h | h | h <;> first | exact h rfl | exact h.1 rfl | exact h.2 rfl),if_neg (by decide),if_neg (by decide),if_neg (by decide),if_neg (by decide),if_neg (by decide),if_neg (by decide),if_neg (by decide),if_pos trivial];exact ⟨ha,hb⟩
theorem jnp (t:Tab) (a b:Int):jar t (jbr a b)=jcs t (jbr a b):=by
 unfold jar jbr;simp
theorem jml {t:Tab} {a b:Int} (ha:inR a 0 63) (hb:inR b 1 7) (h:(jar t (jbr a b)).1=0) :
  a.toNat < t.os.length/\t.os.getD a.toNat 0=0/\(∃ x,tenAt t.ts b=some x/\x.dying=false)/\jar t (jbr a b)=(0,{ t with os:=t.os.set a.toNat b }):=by
 rw [jnp] at h ⊢;unfold jcs at h ⊢;have e1:(jbr a b).a=a:=rfl;have e2:(jbr a b).b=b:=rfl;simp only [e1,e2] at h ⊢;have hb0:¬ b=0:=by unfold inR at hb;omega
 rw [if_neg hb0] at h ⊢;split at h
 ·simp at h
 ·rename_i hlt;rw [if_neg hlt];split at h
  ·simp at h
  ·rename_i x hx;split at h
   ·simp at h
   ·rename_i hd;split at h
    ·simp at h
    ·rename_i hz;split at h
     ·simp at h
     ·rename_i hq;refine ⟨by unfold inR at ha;omega,Decidable.not_not.1 hz,⟨x,hx,by simpa using hd⟩,?_⟩;simp only [if_neg hd,if_neg hz,if_neg hq]
theorem jol {l:List Int} {i:Nat} (h:l.getD i 0=0) (v:Int):(l.set i v).set i 0=l:=by
 rw [List.set_set];apply List.ext_getElem?;intro j;rw [List.getElem?_set];split
 ·rename_i he;subst he;split
  ·rename_i hi;simp only [List.getD,List.getElem?_eq_getElem hi,Option.getD_some] at h;rw [List.getElem?_eq_getElem hi,h]
  ·rename_i hi;rw [List.getElem?_eq_none (by omega)]
 ·rfl
theorem jnX {t:Tab} {a b:Int} (ha:inR a 0 63) (hb:inR b 1 7) (h:(jar t (jbr a b)).1=0) :
  jar (jar t (jbr a b)).2 (jbr a 0)=(0,t)/\(jar (jar t (jbr a b)).2 (jbr a b)).1=5/\ja0 (jar t (jbr a b)).2.os b=ja0 t.os b + 1:=by
 obtain ⟨h1,h2,⟨x,hx,hd⟩,h4⟩:=jml ha hb h;have hb0:¬ b=0:=by unfold inR at hb;omega
 have hlt:¬ ((t.os.length:Int)<=a):=by unfold inR at ha;omega
 have hg:(t.os.set a.toNat b).getD a.toNat 0=b:=by simp [List.getD,h1]
 rw [h4];refine ⟨?_,?_,?_⟩
 ·rw [jnp];unfold jcs;have e1:(jbr a 0).a=a:=rfl;have e2:(jbr a 0).b=0:=rfl;simp only [e1,e2,List.length_set,hg];rw [if_neg hlt,if_pos trivial,if_neg hb0,jol h2]
 ·rw [jnp];unfold jcs;have e1:(jbr a b).a=a:=rfl;have e2:(jbr a b).b=b:=rfl;simp only [e1,e2,List.length_set,hg];rw [if_neg hlt,if_neg hb0];simp only [hx];rw [if_neg (by simp [hd]),if_pos hb0]
 ·show ja0 (t.os.set a.toNat b) b=_;rw [jg8 h1 b b hb,h2,if_neg (fun e=>hb0 e.symm),if_pos rfl];rfl
def jeE (x:Ten):Rc:=⟨1,x.id,x.quota,x.rate,x.burst,x.key⟩
def jeV (v:Vol):List Rc:=⟨5,v.id,v.ten,v.blocks,0,⟨#[]⟩⟩ :: if 0 < v.base then [⟨8,v.id,v.base,0,0,⟨#[]⟩⟩] else []
def jhr (os:List Int) (i:Nat):List Rc:=if 0 < os.getD i 0 then [jbr i (os.getD i 0)] else []
def jjU (x:Ten):List Rc:=if x.dying=true then [⟨3,x.id,0,0,0,⟨#[]⟩⟩] else []
def jcf (t:Tab):List Rc:=t.ts.map jeE ++ (t.vs.flatMap jeV ++ ((List.range t.os.length).flatMap (jhr t.os) ++ t.ts.flatMap jjU))
def jbf (n:Nat):Tab:=⟨[],[],List.replicate n 0⟩
def je1 (x:Ten):Ten:={ x with dying:=false }
theorem jdB {t t':Tab} {r:Rc} {l:List Rc} (hf:jaf r) (h:jar t r=(0,t')):jaV t (r :: l)=jaV t' l:=by
 conv=>lhs;unfold jaV
 rw [if_pos hf,h,if_pos rfl]
theorem jkE {ts:List Ten} {id:Int} (h:∀ x∈ts,x.id≠id):¬ (tenAt ts id).isSome=true:=fun h'=>by
 obtain ⟨x,hx,e⟩:=jaH.1 h';exact h x hx e
theorem jkJ {vs:List Vol} {id:Int} (h:∀ x∈vs,x.id≠id):¬ (volAt vs id).isSome=true:=fun h'=>by
 obtain ⟨x,hx,e⟩:=jeX.1 h';exact h x hx e
theorem jl7 (ts:List Ten):jbp (ts.map je1)=jbp ts:=by
 unfold jbp;rw [List.map_map];rfl
theorem jm6 (a b:List Ten):jbp (a ++ b)=jbp a + jbp b:=by
 unfold jbp;rw [List.map_append,List.sum_append_int]
theorem ji2 {ts:List Ten} (h:∀ x∈ts,0<=x.quota):0<=jbp ts:=by
 unfold jbp
 induction ts with
 | nil=>exact Int.le_refl _
 | cons x l ih =>
  simp only [List.map_cons,List.sum_cons];have:=h x (by simp);have:=ih fun y hy=>h y (by simp [hy])
  omega
theorem joD {t:Tab} (hs:t.sound):∀ (rest done:List Ten),t.ts=done ++ rest ->
  jaV ⟨done.map je1,[],List.replicate t.os.length 0⟩ (rest.map jeE)=(0,⟨t.ts.map je1,[],List.replicate t.os.length 0⟩)
 | [],done,h=>by rw [h,List.append_nil];rfl
 | x :: rest,done,h=>by
  have hx:x∈t.ts:=by rw [h];simp
  obtain ⟨hp,_⟩:=hs.ten x hx
  have hlt:∀ y∈done,y.id < x.id:=fun y hy=>by
   have:=hs.up;rw [h] at this;exact (List.pairwise_append.1 this).2.2 y hy x (by simp)
  rw [List.map_cons,jdB (t':=⟨(done ++ [x]).map je1,[],List.replicate t.os.length 0⟩) (by unfold jaf jeE;rw [if_pos rfl];exact ⟨hp.id,hp.quota,hp.rate,hp.burst,hp.key⟩)]
  ·exact joD hs rest (done ++ [x]) (by rw [h];simp)
  ·unfold jar;rw [if_pos (by rfl)];unfold je7;have e1:(jeE x).a=x.id:=rfl;have e2:(jeE x).b=x.quota:=rfl;simp only [e1,e2]
   rw [if_neg (jkE fun y hy=>by
    obtain ⟨z,hz,rfl⟩:=List.mem_map.1 hy;have:=hlt z hz;show z.id≠x.id
    omega)]
   have hsum:jbp done + x.quota<=t.os.length:=by
    have h2:=hs.sum;rw [h,jm6] at h2;have h3:jbp (x :: rest)=x.quota + jbp rest:=by unfold jbp;simp
    have h4:=ji2 (ts:=rest) fun y hy=>by have:=(hs.ten y (by rw [h];simp [hy])).1.quota;omega
    omega
   rw [if_neg (by rw [jl7,List.length_replicate];omega)]
   rw [jec _ fun y hy=>by
    obtain ⟨z,hz,rfl⟩:=List.mem_map.1 hy;exact hlt z hz]
   simp [je1,jeE]
theorem jgj {ts:List Ten} {id:Int} (h:(tenAt ts id).isSome=true):∃ x,tenAt (ts.map je1) id=some x/\x.dying=false/\∃ y∈ts,y.id=id/\x=je1 y:=by
 have h2:(tenAt (ts.map je1) id).isSome=true:=by rw [jcY (ts:=ts) (by rw [List.map_map];rfl)];exact h
 obtain ⟨x,hx⟩:=Option.isSome_iff_exists.1 h2;obtain ⟨hm,hid⟩:=jdz hx;obtain ⟨y,hy,rfl⟩:=List.mem_map.1 hm;exact ⟨_,hx,rfl,y,hy,hid,rfl⟩
theorem jqE {a b c:Int} (ha:inR a 0 7) (hb:inR b 1 7) (hc:inR c 0 32):jaf ⟨5,a,b,c,0,⟨#[]⟩⟩:=by
 unfold jaf;simp only [];rw [if_neg (by decide),if_neg (by intro h;rcases h with h | h | h <;> first | exact h rfl | exact h.1 rfl | exact h.2 rfl),if_neg (by decide),if_neg (by decide),if_neg (by decide),if_pos trivial];exact ⟨ha,hb,hc⟩
theorem jqI {a b:Int} (ha:inR a 0 7) (hb:inR b 0 1099511627776):jaf ⟨8,a,b,0,0,⟨#[]⟩⟩:=by
 unfold jaf;simp only [];rw [if_neg (by decide),if_neg (by intro h;rcases h with h | h | h <;> first | exact h rfl | exact h.1 rfl | exact h.2 rfl),if_neg (by decide),if_neg (by decide),if_neg (by decide),if_neg (by decide),if_neg (by decide),if_neg (by decide),if_pos trivial];exact ⟨ha,hb⟩
theorem jqK {a:Int} (ha:inR a 1 7):jaf ⟨3,a,0,0,0,⟨#[]⟩⟩:=by
 unfold jaf;simp only [];rw [if_neg (by decide),if_neg (by intro h;rcases h with h | h | h <;> first | exact h rfl | exact h.1 rfl | exact h.2 rfl),if_neg (by decide),if_neg (by decide),if_pos (.inl trivial)];exact ⟨ha,trivial⟩
theorem jku {l:List Vol} {v:Vol} (h:∀ y∈l,y.id < v.id):volAt (l ++ [v]) v.id=some v:=by
 unfold volAt;rw [List.find?_append,List.find?_eq_none.2 fun y hy=>by have:=h y hy;simp;omega];simp
theorem jmg {α:Type} (k:α->Int) {l:List α} {v:α} {id:Int} (hv:k v=id) (f:α->α) (h:∀ y∈l,k y < id):jgp k id f (l ++ [v])=l ++ [f v]:=by
 unfold jgp;rw [List.map_append]
 have e:l.map (fun x=>if k x=id then f x else x)=l:=by
  conv=>rhs;rw [<- List.map_id l]
  refine List.map_congr_left fun y hy=>?_
  rw [if_neg (by have:=h y hy;omega)];rfl
 rw [e];simp [hv]
theorem joz {t:Tab} (hs:t.sound):∀ (rest done:List Vol) (os:List Int),t.vs=done ++ rest ->
  jaV ⟨t.ts.map je1,done,os⟩ (rest.flatMap jeV)=(0,⟨t.ts.map je1,t.vs,os⟩)
 | [],done,os,h=>by rw [h,List.append_nil];rfl
 | v :: rest,done,os,h=>by
  obtain ⟨a1,a2,a3,a4⟩:=hs.vol v (by rw [h];simp);obtain ⟨x,hx,hd,y,hy,hyk,rfl⟩:=jgj a2;have hid:=(hs.ten y hy).1.id
  have hlt:∀ y∈done,y.id < v.id:=fun y hy=>by
   have:=hs.vup;rw [h] at this;exact (List.pairwise_append.1 this).2.2 y hy v (by simp)
  have ih:=joz hs rest (done ++ [v]) os (by rw [h];simp);rw [List.flatMap_cons]
  conv=>lhs;arg 2;arg 1;unfold jeV
  rw [List.cons_append,jdB (t':=⟨t.ts.map je1,done ++ [⟨v.id,v.ten,v.blocks,0⟩],os⟩) (jqE a1 (by rw [<- hyk];exact hid) a3)]
  ·by_cases hb:0 < v.base
   ·rw [if_pos hb,List.cons_append,List.nil_append,jdB (t':=⟨t.ts.map je1,done ++ [v],os⟩) (jqI a1 a4),ih];unfold jar;simp only [];rw [if_neg (by decide),if_neg (by decide),if_neg (by decide),if_neg (by decide),if_neg (by decide),if_neg (by decide),if_neg (by decide),if_pos trivial];unfold jf3;have hv:=jku (l:=done) (v:=⟨v.id,v.ten,v.blocks,0⟩) hlt;simp only at hv;simp only [hv];rw [if_neg (by omega),jmg Vol.id (by rfl) _ hlt]
   ·rw [if_neg hb,List.nil_append]
    have e:(⟨v.id,v.ten,v.blocks,0⟩:Vol)=v:=by
     obtain ⟨p,q,r,s⟩:=v;simp only at hb a4 ⊢;rw [show s=0 by omega]
    rw [e];exact ih
  ·unfold jar;simp only [];rw [if_neg (by decide),if_neg (by decide),if_neg (by decide),if_neg (by decide),if_pos trivial];unfold jd0;simp only [];rw [if_neg (jkJ fun y hy=>by have:=hlt y hy;omega)];simp only [hx,hd];rw [if_neg (by decide),jec Vol.id (x:=⟨v.id,v.ten,v.blocks,0⟩) hlt]
theorem joy {t:Tab} (hs:t.sound):∀ k,k<=t.os.length ->
  jaV ⟨t.ts.map je1,t.vs,List.replicate t.os.length 0⟩ ((List.range k).flatMap (jhr t.os))=(0,⟨t.ts.map je1,t.vs,t.os.take k ++ List.replicate (t.os.length - k) 0⟩)
 | 0,_=>by simp [jaV]
 | k + 1,hk=>by
  have ih:=joy hs k (by omega);rw [List.range_succ,List.flatMap_append,jcv _ (by rw [ih]),ih];simp only [List.flatMap_cons,List.flatMap_nil,List.append_nil];have hkl:k < t.os.length:=by omega
  have hg:t.os.getD k 0=t.os[k]:=by simp [List.getD,hkl]
  have hrep:t.os.length - k=(t.os.length - (k + 1)) + 1:=by omega
  have htk:t.os.take (k + 1)=t.os.take k ++ [t.os[k]]:=by rw [List.take_succ_eq_append_getElem hkl]
  have hl:(t.os.take k).length=k:=by rw [List.length_take];omega
  have hset:∀ v:Int,(t.os.take k ++ List.replicate (t.os.length - k) 0).set k v=t.os.take k ++ (v :: List.replicate (t.os.length - (k + 1)) 0):=fun v=>by
   rw [List.set_append_right (h:=by omega),hl,Nat.sub_self,hrep,List.replicate_succ];rfl
  unfold jhr;rw [hg];rcases hs.own _ (List.getElem_mem hkl) with h0 | h0
  ·rw [if_neg (by omega),jaV,htk,h0,hrep,List.replicate_succ];simp
  ·obtain ⟨x,hx,hd,y,hy,hyk,rfl⟩:=jgj h0;obtain ⟨hp,hq⟩:=hs.ten y hy;have hid:=hp.id;rw [if_pos (by rw [<- hyk];omega)];rw [jdB (t':=⟨t.ts.map je1,t.vs,t.os.take (k + 1) ++ List.replicate (t.os.length - (k + 1)) 0⟩) (jni (by have:=hs.len;unfold inR;omega) (by rw [<- hyk];unfold inR;omega))]
   ·rfl
   ·rw [jnp];unfold jcs;have e1:(jbr (k:Int) t.os[k]).a=(k:Int):=rfl;have e2:(jbr (k:Int) t.os[k]).b=t.os[k]:=rfl;simp only [e1,e2];have hlen:(t.os.take k ++ List.replicate (t.os.length - k) 0).length=t.os.length:=by simp;omega
    rw [if_neg (by rw [hlen];omega),if_neg (by rw [<- hyk];omega)];simp only [hx,hd,Int.toNat_natCast]
    have hz:(t.os.take k ++ List.replicate (t.os.length - k) 0).getD k 0=0:=by
     simp only [List.getD];rw [List.getElem?_append_right (by omega),hl,Nat.sub_self,hrep,List.replicate_succ];rfl
    have hcount:ja0 (t.os.take k ++ List.replicate (t.os.length - k) 0) t.os[k] + 1<=ja0 t.os t.os[k]:=by
     unfold ja0;rw [if_pos (by rw [<- hyk];exact hid),if_pos (by rw [<- hyk];exact hid),List.countP_append,List.countP_replicate];rw [if_neg (by simp;omega)];have e:t.os=t.os.take k ++ t.os[k] :: t.os.drop (k + 1):=by rw [<- List.drop_eq_getElem_cons hkl,List.take_append_drop]
     conv=>rhs;arg 2;rw [e]
     rw [List.countP_append,List.countP_cons,if_pos (by simp)];omega
    rw [if_neg (by decide),if_neg (by rw [hz];exact fun h=>h rfl),if_neg (by show ¬ (je1 y).quota<=_;have e3:(je1 y).quota=y.quota:=rfl;rw [e3];rw [hyk] at hq;omega),hset,htk,List.append_assoc];rfl
theorem jms {a b:List Ten} {x:Ten} (h:∀ y∈a,y.id≠x.id):tenAt (a ++ x :: b) x.id=some x:=by
 unfold tenAt;rw [List.find?_append,List.find?_eq_none.2 fun y hy=>by have:=h y hy;simpa using this];simp
theorem jm4 {α:Type} (k:α->Int) {a b:List α} {x:α} {id:Int} (hx:k x=id) (f:α->α) (h:∀ y∈a,k y≠id) (h2:∀ y∈b,k y≠id):jgp k id f (a ++ x :: b)=a ++ f x :: b:=by
 unfold jgp;rw [List.map_append,List.map_cons,if_pos hx]
 have e:∀ l:List α,(∀ y∈l,k y≠id)->l.map (fun x=>if k x=id then f x else x)=l:=fun l hl=>by
  conv=>rhs;rw [<- List.map_id l]
  refine List.map_congr_left fun y hy=>?_
  rw [if_neg (hl y hy)];rfl
 rw [e a h,e b h2]
theorem jos {t:Tab} (hs:t.sound):∀ (rest done:List Ten),t.ts=done ++ rest ->
  jaV ⟨done ++ rest.map je1,t.vs,t.os⟩ (rest.flatMap jjU)=(0,t)
 | [],done,h=>by
  obtain ⟨ts,vs,os⟩:=t;simp only at h ⊢;rw [List.flatMap_nil,jaV,List.map_nil,h]
 | x :: rest,done,h=>by
  have ih:=jos hs rest (done ++ [x]) (by rw [h];simp);rw [List.append_assoc,List.cons_append,List.nil_append] at ih;rw [List.flatMap_cons,List.map_cons]
  conv=>lhs;arg 2;arg 1;unfold jjU
  have hup:=hs.up;rw [h] at hup;obtain ⟨u1,u2,u3⟩:=List.pairwise_append.1 hup;have u4:=(List.pairwise_cons.1 u2).1;by_cases hd:x.dying=true
  ·rw [if_pos hd,List.cons_append,List.nil_append,jdB (t':=⟨done ++ x :: rest.map je1,t.vs,t.os⟩) (jqK (hs.ten x (by rw [h];simp)).1.id),ih];unfold jar;simp only [];rw [if_neg (by decide),if_neg (by decide),if_pos trivial];unfold jeZ;have hx:=jms (a:=done) (b:=rest.map je1) (x:=je1 x) fun y hy=>by have:=u3 y hy x (by simp);show y.id≠x.id;omega
   have e1:(je1 x).id=x.id:=rfl;rw [e1] at hx;simp only [hx]
   rw [if_neg (by simp [je1]),jm4 Ten.id e1 _ (fun y hy=>by have:=u3 y hy x (by simp);omega) (fun y hy=>by
    obtain ⟨z,hz,rfl⟩:=List.mem_map.1 hy;have:=u4 z hz;show z.id≠x.id
    omega)]
   obtain ⟨p1,p2,p3,p4,p5,p6⟩:=x;simp only at hd;subst hd;rfl
  ·rw [if_neg hd,List.nil_append]
   have e:je1 x=x:=by
    obtain ⟨p1,p2,p3,p4,p5,p6⟩:=x;simp only [Bool.not_eq_true] at hd;subst hd;rfl
   rw [e];exact ih
theorem jk4 {t:Tab} (hs:t.sound):jaV (jbf t.os.length) (jcf t)=(0,t):=by
 unfold jcf jbf;have h1:=joD hs t.ts [] rfl;have h2:=joz hs t.vs [] (List.replicate t.os.length 0) rfl;have h3:=joy hs t.os.length (Nat.le_refl _);have h4:=jos hs t.ts [] rfl;rw [List.map_nil] at h1;rw [List.nil_append] at h4;rw [List.take_length,Nat.sub_self,List.replicate_zero,List.append_nil] at h3;rw [jcv _ (by rw [h1]),h1,jcv _ (by rw [h2]),h2,jcv _ (by rw [h3]),h3,h4]
def jq3 (key:ByteArray) (id:Int):Rc:=⟨1,id,1,id,1,key⟩
def jqL (key:ByteArray) (id:Int):Ten:=⟨id,1,id,1,key,false⟩
def jqM (key:ByteArray) (ts:List Ten) (ids:List Int):List Ten:=ids.foldl (fun ts id=>jcj Ten.id (jqL key id) ts) ts
def jaj (last:List (List Nat)) (a:Nat):List (List Int):=(List.range 192).map fun i=>up (last.getD (a * 192 + i) [])
theorem jcU (last:List (List Nat)) (a:Nat):(jaj last a).length=192:=by simp [jaj]
theorem jd5 (last:List (List Nat)) (a:Nat) {i:Nat} (h:i < 192):(jaj last a).getD i []=up (last.getD (a * 192 + i) []):=by
 simp [jaj,List.getD_eq_getElem?_getD,h]
def jcO (L:List (List Int)):Int:=(jbF (L.getD 0 [])).2.g
def jau (L:List (List Int)):List (List Rc):=jda L (jcO L)
structure Hd where
 area:Int
 gen:Int
 whole:List (List Rc)
def jeB (last:List (List Nat)) (a:Nat):Hd:=⟨(a:Int),jcO (jaj last a),jau (jaj last a)⟩
def jdO (h o:Hd):Bool:=decide (0 < h.whole.length) && (decide (o.whole.length=0) || decide (o.gen < h.gen))
def jhc (last:List (List Nat)):Nat->Hd
 | 0=>⟨1,0,[]⟩
 | k + 1=>if jdO (jeB last k) (jhc last k)=true then jeB last k else jhc last k
def jbI (last:List (List Nat)):Hd:=jhc last 2
def jor:Rc:=⟨0,0,0,0,0,⟨#[]⟩⟩
def jbv (g:Int) (u:Nat) (l:List Rc) (i:Nat):Ln:=⟨g,((u + i:Nat):Int),decide (i + 1=l.length),l.getD i jor⟩
def jfM (g:Int) (u:Nat) (l:List Rc) (i:Nat):List Nat:=(jcA (jbv g u l i)).map Int.toNat
def jdZ (a:Nat) (g:Int) (u:Nat) (l:List Rc):List (Nat × List Nat):=(List.range l.length).map fun i=>(a * 192 + u + i,jfM g u l i)
theorem jgO (a:Nat) (g:Int) (u:Nat) (l:List Rc):(jdZ a g u l).length=l.length:=by simp [jdZ]
theorem jmy (a:Nat) (g:Int) (u:Nat) (l:List Rc) {k:Nat} (h:k < l.length):(jdZ a g u l).take (k + 1)=(jdZ a g u l).take k ++ [(a * 192 + u + k,jfM g u l k)]:=by
 rw [List.take_succ_eq_append_getElem (by rwa [jgO])];simp [jdZ]
theorem jlx (g:Int) (u:Nat) (l:List Rc) (i:Nat):up (jfM g u l i)=jcA (jbv g u l i):=jng (jgX _)
def jpQ (r:Rc):Prop:=inN r.k 9=true/\inN r.a 1099511627776=true/\inN r.b 1099511627776=true/\inN r.c 1099511627776=true/\inN r.d 1099511627776=true/\(r.key.size=0∨r.key.size=16)
theorem jod {r:Rc} (h:jaf r):jpQ r:=by
 unfold jaf jbo inR at h;unfold jpQ;simp only [jfB];by_cases k1:r.k=1
 ·rw [if_pos k1] at h;omega
 rw [if_neg k1] at h;split at h
 ·exact h.elim
 rename_i hk;have hd:r.d=0:=Decidable.byContradiction fun q=>hk (.inl q)
 have hs:r.key.size=0:=Decidable.byContradiction fun q=>hk (.inr (.inl q))
 have hc:r.k≠5->r.c=0:=fun q=>Decidable.byContradiction fun q2=>hk (.inr (.inr ⟨q2,q⟩))
 repeat' (split at h)
 all_goals first
  | exact h.elim
  | (have:=hc (by omega);omega)
  | omega
structure jhV (g:Int) (u:Nat) (l:List Rc):Prop where
 g0:0<=g
 g1:g<=2147483647
 u1:u + l.length<=192
 rs:∀ r∈l,jpQ r
theorem jjW {l:List Rc} {i:Nat} (h:i < l.length):l.getD i jor∈l:=by
 rw [List.getD_eq_getElem?_getD,List.getElem?_eq_getElem h];exact List.getElem_mem h
theorem jhV.enc {g:Int} {u:Nat} {l:List Rc} (h:jhV g u l) {i:Nat} (hi:i < l.length):jdj (jbv g u l i)=0:=by
 obtain ⟨k1,k2,k3,k4,k5,k6⟩:=h.rs _ (jjW hi);have:=h.g0;have:=h.g1;have:=h.u1;rw [jbB];refine ⟨?_,k6⟩;simp only [jfB] at k1 k2 k3 k4 k5;rw [jcq];exact ⟨⟨h.g0,h.g1⟩,⟨by show (0:Int)<=((u + i:Nat):Int);omega,by show ((u + i:Nat):Int)<=_;omega⟩,k1,k2,k3,k4,k5⟩
theorem jhV.sec {g:Int} {u:Nat} {l:List Rc} (h:jhV g u l) {i:Nat} (hi:i < l.length):Sec (jfM g u l i):=by
 refine ⟨by unfold jfM;rw [List.length_map,jff (h.enc hi)],fun y hy=>?_⟩;unfold jfM at hy;obtain ⟨z,hz,rfl⟩:=List.mem_map.1 hy;have:=jgX _ z hz;omega
theorem jhV.dec {g:Int} {u:Nat} {l:List Rc} (h:jhV g u l) {i:Nat} (hi:i < l.length):jbF (jcA (jbv g u l i))=(0,jbv g u l i):=joV (h.enc hi)
structure Cl (L:List (List Int)) (g:Int) (u:Nat):Prop where
 le:u<=192
 good:∀ j,j < u->jbd L g j=true
 bad:∀ j,u<=j->j < 192->jbd L g j=false
 now:jcb L u=[]
theorem Cl.repl {L:List (List Int)} {g:Int} {u:Nat} (h:Cl L g u) (hL:L.length=192):jda L g=jba L u :=
 je8 (by rw [hL];exact h.le) h.good fun hu=>h.bad u (Nat.le_refl _) (by omega)
theorem jcr {L L':List (List Int)} {g:Int} {j:Nat} (h:L'.getD j []=L.getD j []):jbd L' g j=jbd L g j:=by unfold jbd;rw [h]
theorem jb4 (L:List (List Int)) (k:Nat):jba L (k + 1)=if jbO L k=true then jba L k ++ [jcb L k ++ [jdH L k]] else jba L k:=rfl
theorem jcS (L:List (List Int)) (k:Nat):jcb L (k + 1)=if jbO L k=true then [] else jcb L k ++ [jdH L k]:=rfl
theorem jc1 {L L':List (List Int)} : ∀ {k:Nat},(∀ j,j < k->L'.getD j []=L.getD j [])->jba L' k=jba L k/\jcb L' k=jcb L k
 | 0,_=>⟨rfl,rfl⟩
 | k + 1,h=>by
  obtain ⟨h1,h2⟩:=jc1 fun j hj=>h j (Nat.lt_succ_of_lt hj)
  have e1:jbO L' k=jbO L k:=by unfold jbO;rw [h k (Nat.lt_succ_self k)]
  have e2:jdH L' k=jdH L k:=by unfold jdH;rw [h k (Nat.lt_succ_self k)]
  rw [jb4,jb4,jcS,jcS,h1,h2,e1,e2];exact ⟨rfl,rfl⟩
theorem jgk (L:List (List Int)) {k:Nat} : ∀ {m:Nat},k<=m->(jba L k).length<=(jba L m).length
 | 0,h=>by rw [Nat.le_zero.1 h];exact Nat.le_refl _
 | m + 1,h=>by
  by_cases e:k=m + 1
  ·subst e;exact Nat.le_refl _
  ·have:=jgk L (k:=k) (m:=m) (by omega);rw [jb4];split
   ·rw [List.length_append];omega
   ·exact this
theorem jjA (L:List (List Int)) (g:Int):jes L g<=L.length:=by
 unfold jes;exact Nat.le_trans (List.takeWhile_prefix _).length_le (by simp)
theorem jqj {p:Nat->Bool} : ∀ {n m i:Nat},i < ((List.range' m n).takeWhile p).length->p (m + i)=true
 | 0,m,i,h=>by simp at h
 | n + 1,m,i,h=>by
  rw [List.range'_succ,List.takeWhile_cons] at h;split at h
  ·rename_i hp;cases i with
   | zero=>simpa using hp
   | succ i =>
    rw [List.length_cons] at h;have:=jqj (p:=p) (n:=n) (m:=m + 1) (i:=i) (Nat.lt_of_succ_lt_succ h)
    rwa [show m + 1 + i=m + (i + 1) by omega] at this
  ·simp at h
theorem jeH {L:List (List Int)} {g:Int} {j:Nat} (h:j < jes L g):jbd L g j=true:=by
 unfold jes at h;rw [List.range_eq_range'] at h;have:=jqj h
 rwa [Nat.zero_add] at this
theorem jqn {p:Nat->Bool} : ∀ {n m k:Nat},k<=n->(∀ i,i < k->p (m + i)=true)->k<=((List.range' m n).takeWhile p).length
 | n,m,0,_,_=>Nat.zero_le _
 | 0,m,k + 1,h,_=>by omega
 | n + 1,m,k + 1,h,hp=>by
  rw [List.range'_succ,List.takeWhile_cons,if_pos (by have:=hp 0 (Nat.succ_pos k);rwa [Nat.add_zero] at this),List.length_cons];have:=jqn (m:=m + 1) (n:=n) (k:=k) (by omega) fun i hi=>by have:=hp (i + 1) (by omega);rwa [show m + (i + 1)=m + 1 + i by omega] at this
  omega
theorem jnq {L:List (List Int)} {g:Int} {k:Nat} (hk:k<=L.length) (h:∀ j,j < k->jbd L g j=true):k<=jes L g:=by
 unfold jes;rw [List.range_eq_range'];exact jqn hk fun i hi=>by rw [Nat.zero_add];exact h i hi
def Mix (L L':List (List Int)) (g:Int) (u:Nat) (l:List Rc):Prop :=
 ∀ j,j < 192->L'.getD j []=L.getD j []∨(u<=j/\j < u + l.length/\L'.getD j []=jcA (jbv g u l (j - u)))
def jdx (L':List (List Int)) (g:Int) (u:Nat) (l:List Rc):Prop:=∀ i,i < l.length->L'.getD (u + i) []=jcA (jbv g u l i)
section
variable {L L':List (List Int)} {g:Int} {u:Nat} {l:List Rc}
theorem jd1 (hf:jhV g u l) {i:Nat} (hi:i < l.length) (h:L'.getD (u + i) []=jcA (jbv g u l i)):jbd L' g (u + i)=true/\jbO L' (u + i)=decide (i + 1=l.length)/\jdH L' (u + i)=l.getD i jor:=by
 unfold jbd jbO jdH;rw [h,hf.dec hi];exact ⟨by simp [jbv],rfl,rfl⟩
theorem jfO (hf:jhV g u l) (hn:jcb L' u=[]):∀ {k:Nat},k < l.length->(∀ i,i < k->L'.getD (u + i) []=jcA (jbv g u l i))->jba L' (u + k)=jba L' u/\jcb L' (u + k)=l.take k
 | 0,_,_=>⟨rfl,by rw [Nat.add_zero,hn];rfl⟩
 | k + 1,hk,h=>by
  obtain ⟨h1,h2⟩:=jfO hf hn (k:=k) (by omega) fun i hi=>h i (by omega)
  obtain ⟨_,q2,q3⟩:=jd1 hf (i:=k) (by omega) (h k (by omega));rw [decide_eq_false (by omega)] at q2;rw [show u + (k + 1)=(u + k) + 1 by omega];rw [jb4,jcS,q2,if_neg (by decide),if_neg (by decide),h1,h2,q3];refine ⟨rfl,?_⟩;rw [List.take_succ_eq_append_getElem (by omega),List.getD_eq_getElem?_getD,List.getElem?_eq_getElem (by omega)];rfl
theorem jmF (hc:Cl L g u) (hf:jhV g u l) (hne:l≠[]) (hm:Mix L L' g u l) (ha:jdx L' g u l):Cl L' g (u + l.length)/\jba L' (u + l.length)=jba L u ++ [l]:=by
 have hpos:0 < l.length:=List.length_pos_iff.2 hne;have hlow:∀ j,j < u->L'.getD j []=L.getD j []:=fun j hj=>(hm j (by have:=hc.le;omega)).elim id fun h=>by omega
 obtain ⟨c1,c2⟩:=jc1 hlow;obtain ⟨h1,h2⟩:=jfO hf (c2.trans hc.now) (k:=l.length - 1) (by omega) fun i hi=>ha i (by omega)
 obtain ⟨_,q2,q3⟩:=jd1 hf (i:=l.length - 1) (by omega) (ha _ (by omega));rw [decide_eq_true (by omega)] at q2
 have hlist:l.take (l.length - 1) ++ [l.getD (l.length - 1) jor]=l:=by
  have:=List.take_succ_eq_append_getElem (l:=l) (i:=l.length - 1) (by omega);rw [List.getD_eq_getElem?_getD,List.getElem?_eq_getElem (by omega),Option.getD_some,<- this,show l.length - 1 + 1=l.length by omega,List.take_length]
 have e:u + l.length=(u + (l.length - 1)) + 1:=by omega
 have o:jba L' (u + l.length)=jba L u ++ [l]/\jcb L' (u + l.length)=[]:=by
  rw [e];rw [jb4,jcS,q2,if_pos rfl,if_pos rfl,h1,h2,q3,hlist,c1];exact ⟨rfl,rfl⟩
 refine ⟨⟨hf.u1,fun j hj=>?_,fun j hj hj2=>?_,o.2⟩,o.1⟩
 ·by_cases hju:j < u
  ·rw [jcr (hlow j hju)];exact hc.good j hju
  ·have:=(jd1 hf (i:=j - u) (by omega) (ha (j - u) (by omega))).1
   rwa [show u + (j - u)=j by omega] at this
 ·rcases hm j hj2 with h | h
  ·rw [jcr h];exact hc.bad j (by omega) hj2
  ·omega
theorem jjK (hL:L'.length=192) (hc:Cl L g u) (hf:jhV g u l) (hm:Mix L L' g u l) (ha:¬ jdx L' g u l):jda L' g=jba L u:=by
 have hlow:∀ j,j < u->L'.getD j []=L.getD j []:=fun j hj=>(hm j (by have:=hc.le;omega)).elim id fun h=>by omega
 obtain ⟨c1,c2⟩:=jc1 hlow
 obtain ⟨k,hk,hkb,hklt⟩:∃ k,k < l.length/\L'.getD (u + k) []≠jcA (jbv g u l k)/\∀ i,i < k->L'.getD (u + i) []=jcA (jbv g u l i):=by
  have hex:∃ k,k < l.length/\L'.getD (u + k) []≠jcA (jbv g u l k):=Classical.byContradiction fun h=>ha fun i hi=>Classical.byContradiction fun h2=>h ⟨i,hi,h2⟩
  obtain ⟨k,⟨h1,h2⟩,h3⟩:∃ k,(k < l.length/\L'.getD (u + k) []≠jcA (jbv g u l k))/\∀ i,i < k->¬ (i < l.length/\L'.getD (u + i) []≠jcA (jbv g u l i)):=by
   obtain ⟨k,hk⟩:=hex
   induction k using Nat.strongRecOn with
   | _ k ih =>
    by_cases h:∃ i,i < k/\(i < l.length/\L'.getD (u + i) []≠jcA (jbv g u l i))
    ·obtain ⟨i,h1,h2⟩:=h;exact ih i h1 h2
    ·exact ⟨k,hk,fun i h1 h2=>h ⟨i,h1,h2⟩⟩
  exact ⟨k,h1,h2,fun i hi=>Classical.byContradiction fun h4=>h3 i hi ⟨by omega,h4⟩⟩
 obtain ⟨h1,_⟩:=jfO hf (c2.trans hc.now) hk hklt;have hu:=hf.u1;have hsame:L'.getD (u + k) []=L.getD (u + k) []:=(hm (u + k) (by omega)).elim id fun h=>absurd (by rw [h.2.2,show u + k - u=k by omega]) hkb
 rw [je8 (k:=u + k) (by omega) (fun j hj=>?_) (fun _=>by rw [jcr hsame];exact hc.bad _ (by omega) (by omega)),h1,c1];by_cases hju:j < u
 ·rw [jcr (hlow j hju)];exact hc.good j hju
 ·have:=(jd1 hf (i:=j - u) (by omega) (hklt (j - u) (by omega))).1
  rwa [show u + (j - u)=j by omega] at this
def jef (L:List (List Int)) (g:Int):Prop:=∀ j,j < 192->(jbF (L.getD j [])).1=0->(jbF (L.getD j [])).2.g≠g
theorem jef.cl (h:jef L g):Cl L g 0:=⟨Nat.zero_le _,fun j hj=>absurd hj (Nat.not_lt_zero j),fun j _ hj=>by
 unfold jbd;by_cases h0:(jbF (L.getD j [])).1=0
 ·rw [decide_eq_false (h j hj h0)];simp
 ·rw [decide_eq_false h0];simp,rfl⟩
theorem jo4 (hL:L.length=192) (hL':L'.length=192) (hu:jef L g) (hf:jhV g 0 l) (hne:l≠[]) (hm:Mix L L' g 0 l) :
  (jdx L' g 0 l->jcO L'=g/\jau L'=[l]/\Cl L' g l.length)/\(¬ jdx L' g 0 l->0 < (jau L').length->0 < (jau L).length/\jcO L'=jcO L):=by
 have hpos:0 < l.length:=List.length_pos_iff.2 hne;have g0:L'.getD 0 []=jcA (jbv g 0 l 0)->jcO L'=g:=fun h=>by unfold jcO;rw [h,hf.dec hpos];rfl
 constructor
 ·intro ha;obtain ⟨h1,h2⟩:=jmF hu.cl hf hne hm ha;rw [Nat.zero_add] at h1 h2;have hg:=g0 (ha 0 hpos);refine ⟨hg,?_,h1⟩;unfold jau;rw [hg,h1.repl hL',h2];rfl
 ·intro ha hw;have hs:=jjK hL' hu.cl hf hm ha;rcases hm 0 (by decide) with h | ⟨_,_,h⟩
  ·have hg:jcO L'=jcO L:=by unfold jcO;rw [h]
   refine ⟨?_,hg⟩;unfold jau at hw ⊢;rw [hg] at hw;obtain ⟨m,hmm⟩:∃ m,m=jcO L:=⟨_,rfl⟩;rw [<- hmm] at hw ⊢;have hk:=jjA L' m;have hpk:0 < jes L' m:=Nat.pos_of_ne_zero fun e=>by unfold jda at hw;rw [e] at hw;exact absurd hw (Nat.lt_irrefl _)
   have hd:(jbF (L.getD 0 [])).1=0:=by
    have:=jeH hpk;rw [jcr h] at this;unfold jbd at this;simp only [Bool.and_eq_true,decide_eq_true_eq] at this;exact this.1.1
   have hmg:m≠g:=by rw [hmm];exact hu 0 (by decide) hd
   have hsame:∀ j,j < jes L' m->L'.getD j []=L.getD j []:=fun j hj=>(hm j (by omega)).elim id fun ⟨_,q,q2⟩=>by
    have:=jeH hj;unfold jbd at this;rw [q2,hf.dec (by omega)] at this;simp only [Bool.and_eq_true,decide_eq_true_eq] at this;exact absurd this.1.2.symm hmg
   have hge:=jnq (L:=L) (g:=m) (k:=jes L' m) (by omega) fun j hj=>by rw [<- jcr (hsame j hj)];exact jeH hj
   have:=jgk L hge;unfold jda at hw ⊢;rw [(jc1 hsame).1] at hw;omega
  ·unfold jau at hw;rw [g0 h,hs] at hw;exact absurd hw (Nat.lt_irrefl _)
end
theorem jfq (last:List (List Nat)):jbI last=if 0 < (jau (jaj last 1)).length/\((jau (jaj last 0)).length=0∨jcO (jaj last 0) < jcO (jaj last 1)) then jeB last 1 else if 0 < (jau (jaj last 0)).length then jeB last 0 else ⟨1,0,[]⟩:=by
 have e1:jhc last 1=if 0 < (jau (jaj last 0)).length then jeB last 0 else ⟨1,0,[]⟩:=by
  show (if jdO (jeB last 0) ⟨1,0,[]⟩=true then jeB last 0 else ⟨1,0,[]⟩)=_;by_cases h:0 < (jau (jaj last 0)).length
  ·rw [if_pos h,if_pos (by unfold jdO jeB;simpa using h)]
  ·rw [if_neg h,if_neg (by unfold jdO jeB;simpa using h)]
 show (if jdO (jeB last 1) (jhc last 1)=true then jeB last 1 else jhc last 1)=_;rw [e1];by_cases h:0 < (jau (jaj last 0)).length
 ·rw [if_pos h];have hz:¬ (jau (jaj last 0)).length=0:=by omega
  by_cases h1:0 < (jau (jaj last 1)).length/\((jau (jaj last 0)).length=0∨jcO (jaj last 0) < jcO (jaj last 1))
  ·rw [if_pos h1,if_pos];unfold jdO;rw [Bool.and_eq_true,Bool.or_eq_true,decide_eq_true_eq,decide_eq_true_eq,decide_eq_true_eq];exact h1
  ·rw [if_neg h1,if_neg];unfold jdO;rw [Bool.and_eq_true,Bool.or_eq_true,decide_eq_true_eq,decide_eq_true_eq,decide_eq_true_eq];exact h1
 ·rw [if_neg h];have hz:(jau (jaj last 0)).length=0:=by omega
  by_cases h1:0 < (jau (jaj last 1)).length
  ·have h2:0 < (jau (jaj last 1)).length/\((jau (jaj last 0)).length=0∨jcO (jaj last 0) < jcO (jaj last 1)):=⟨h1,.inl hz⟩;rw [if_pos h2,if_pos];unfold jdO;rw [Bool.and_eq_true,Bool.or_eq_true,decide_eq_true_eq,decide_eq_true_eq,decide_eq_true_eq];exact ⟨h1,.inl rfl⟩
  ·have h2:¬ (0 < (jau (jaj last 1)).length/\((jau (jaj last 0)).length=0∨jcO (jaj last 0) < jcO (jaj last 1))):=fun q=>h1 q.1
   rw [if_neg h2,if_neg];unfold jdO;rw [Bool.and_eq_true,Bool.or_eq_true,decide_eq_true_eq,decide_eq_true_eq,decide_eq_true_eq];exact fun q=>h1 q.1
end Go.Proofs.YtbnhkplhmanmoaaGreat
