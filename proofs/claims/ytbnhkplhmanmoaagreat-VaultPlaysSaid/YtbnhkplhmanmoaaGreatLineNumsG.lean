/- . -/
import Derived.Test.YtbnhkplhmanmoaaGreatTkG
namespace Go.Proofs.YtbnhkplhmanmoaaGreat
open Go.RowKit
structure Ln where
 g:Int
 s:Int
 last:Bool
 r:Rc
theorem jqd (x y:Ln):(x.g=y.g/\x.s=y.s/\x.last=y.last/\x.r=y.r)↔x=y:=by
 constructor
 ·obtain ⟨_,_,_,_⟩:=x;obtain ⟨_,_,_,_⟩:=y;rintro ⟨h1,h2,h3,h4⟩;simp only at h1 h2 h3 h4;subst h1 h2 h3 h4;rfl
 ·rintro rfl;exact ⟨rfl,rfl,rfl,rfl⟩
instance:DecidableEq Ln:=fun x y=>decidable_of_iff _ (jqd x y)
def jiA (s:ByteArray):List Int:=s.data.toList.map fun b=>(b.toNat:Int)
theorem je3 (s:ByteArray):(jiA s).length=s.size:=by unfold jiA;rw [List.length_map];rfl
theorem jnP (s:ByteArray):∀ z∈jiA s,0<=z/\z<=255:=fun z hz=>by
 unfold jiA at hz;obtain ⟨b,_,rfl⟩:=List.mem_map.1 hz;have:=b.toNat_lt;omega
theorem jjV (s:ByteArray):strOfNums (jiA s)=s:=by
 unfold strOfNums jiA;rw [List.map_map];obtain ⟨⟨l⟩⟩:=s
 have e:l.map ((fun n:Int=>UInt8.ofNat n.toNat) ∘ fun b:UInt8=>(b.toNat:Int))=l:=by
  conv=>rhs;rw [<- List.map_id l]
  exact List.map_congr_left fun b _=>by show UInt8.ofNat ((b.toNat:Nat):Int).toNat=b;rw [Int.toNat_natCast];exact UInt8.ofNat_toNat
 show (⟨(l.map _).toArray⟩:ByteArray)=_;rw [e]
theorem jjP {l:List Int} (h:∀ z∈l,0<=z/\z<=255):jiA (strOfNums l)=l:=by
 unfold strOfNums jiA;show (l.map fun n=>UInt8.ofNat n.toNat).map (fun b=>(b.toNat:Int))=l;rw [List.map_map]
 conv=>rhs;rw [<- List.map_id l]
 refine List.map_congr_left fun z hz=>?_
 have:=h z hz;simp only [Function.comp_apply,UInt8.toNat_ofNat',id];omega
def inN (n m:Int):Bool:=decide (0<=n/\n<=m)
def jft (l:Ln):Bool:=inN l.g 2147483647 && inN l.s 2147483647 && inN l.r.k 9 && inN l.r.a 1099511627776 && inN l.r.b 1099511627776 && inN l.r.c 1099511627776 && inN l.r.d 1099511627776
def jdj (l:Ln):Int:=if jft l=true then (if l.r.key.size=0∨l.r.key.size=16 then 0 else 1) else 7
def jcE (b:Bool):Int:=if b then 1 else 0
def jbY (l:Ln):List Int:=[83,76] ++ (bytesOf l.g 4 ++ (bytesOf l.s 4 ++ (bytesOf (jcE l.last) 1 ++ (bytesOf l.r.k 1 ++ (bytesOf l.r.a 7 ++ (bytesOf l.r.b 7 ++ (bytesOf l.r.c 7 ++ (bytesOf l.r.d 7 ++ bytesOf (l.r.key.size:Nat) 1))))))))
def jci (l:Ln):List Int:=jbY l ++ (jiA l.r.key ++ List.replicate (19 - l.r.key.size) 0)
def jnu (b:List Int):List Int:=bytesOf (jhQ 0 (nb b):Nat) 4
def jcA (l:Ln):List Int:=jci l ++ jnu (jci l)
def jq2 (l:Ln):Int × List Int:=(jdj l,if jdj l=0 then jcA l else [])
def sub (b:List Int) (i j:Nat):List Int:=(b.drop i).take (j - i)
def ja9 (b:List Int):Ln:=⟨jaD (sub b 2 6),jaD (sub b 6 10),decide (b.getD 10 0=1),⟨jaD (sub b 11 12),jaD (sub b 12 19),jaD (sub b 19 26),jaD (sub b 26 33),jaD (sub b 33 40),if b.getD 40 0=16 then strOfNums (sub b 41 57) else ByteArray.empty⟩⟩
def jg6:Ln:=⟨0,0,false,⟨0,0,0,0,0,ByteArray.empty⟩⟩
def jbF (b:List Int):Int × Ln:=if b.length=64/\jdj (ja9 b)=0/\jcA (ja9 b)=b then (0,ja9 b) else (2,jg6)
theorem jfB {n m:Int} : inN n m=true↔0<=n/\n<=m:=decide_eq_true_iff
theorem jcq (l:Ln):jft l=true↔(0<=l.g/\l.g<=2147483647)/\(0<=l.s/\l.s<=2147483647)/\(0<=l.r.k/\l.r.k<=9)/\(0<=l.r.a/\l.r.a<=1099511627776)/\(0<=l.r.b/\l.r.b<=1099511627776)/\(0<=l.r.c/\l.r.c<=1099511627776)/\(0<=l.r.d/\l.r.d<=1099511627776):=by
 unfold jft;simp only [Bool.and_eq_true,jfB];constructor
 ·rintro ⟨⟨⟨⟨⟨⟨h1,h2⟩,h3⟩,h4⟩,h5⟩,h6⟩,h7⟩;exact ⟨h1,h2,h3,h4,h5,h6,h7⟩
 ·rintro ⟨h1,h2,h3,h4,h5,h6,h7⟩;exact ⟨⟨⟨⟨⟨⟨h1,h2⟩,h3⟩,h4⟩,h5⟩,h6⟩,h7⟩
theorem jbB {l : Ln} : jdj l = 0 ↔ jft l = true /\ (l.r.key.size = 0 ∨ l.r.key.size = 16) := by
  unfold jdj;split
  · next h => split
              · next h2 => exact ⟨fun _ => ⟨h, h2⟩, fun _ => rfl⟩
              · next h2 => exact ⟨fun h3 => by omega, fun h3 => absurd h3.2 h2⟩
  · next h => exact ⟨fun h3 => by omega, fun h3 => absurd h3.1 h⟩
theorem jbL (l:Ln):(jbY l).length=41:=by unfold jbY;simp [jaQ]
theorem jcg {l:Ln} (h:l.r.key.size<=19):(jci l).length=60:=by
 unfold jci;rw [List.length_append,List.length_append,jbL,je3,List.length_replicate];omega
theorem jfb (b:List Int):(jnu b).length=4:=jaQ _ _
theorem jff {l:Ln} (h:jdj l=0):(jcA l).length=64:=by
 unfold jcA;rw [List.length_append,jcg (by have:=(jbB.1 h).2;omega),jfb]
theorem jkm (l:Ln):∀ z∈jbY l,0<=z/\z<=255:=fun z hz=>by
 unfold jbY at hz;simp only [List.mem_append] at hz;rcases hz with h | h | h | h | h | h | h | h | h | h
 ·simp at h;omega
 all_goals exact jfj _ _ z h
theorem jhW (l:Ln):∀ z∈jci l,0<=z/\z<=255:=fun z hz=>by
 unfold jci at hz;simp only [List.mem_append] at hz;rcases hz with h | h | h
 ·exact jkm l z h
 ·exact jnP _ z h
 ·have:=List.eq_of_mem_replicate h;omega
theorem jgX (l:Ln):∀ z∈jcA l,0<=z/\z<=255:=fun z hz=>by
 unfold jcA at hz;rcases List.mem_append.1 hz with h | h
 ·exact jhW l z h
 ·exact jfj _ _ z h
theorem jcL (p m r:List Int) {i j:Nat} (hi:p.length=i) (hj:i + m.length=j):sub (p ++ (m ++ r)) i j=m:=by
 subst hi hj;unfold sub;rw [List.drop_left,show p.length + m.length - p.length=m.length by omega,List.take_left]
theorem jkB (T G S L K A B C D Z Y:List Int) (hT:T.length=2) (hG:G.length=4) (hS:S.length=4) (hL:L.length=1) (hK:K.length=1) (hA:A.length=7) (hB:B.length=7) (hC:C.length=7) (hD:D.length=7) (hZ:Z.length=1) (E:List Int)
  (hE:E=T ++ (G ++ (S ++ (L ++ (K ++ (A ++ (B ++ (C ++ (D ++ (Z ++ Y)))))))))) :
  sub E 2 6=G/\sub E 6 10=S/\sub E 10 11=L/\sub E 11 12=K/\sub E 12 19=A/\sub E 19 26=B/\sub E 26 33=C/\sub E 33 40=D/\sub E 40 41=Z:=by
 subst hE;refine ⟨jcL T G _ (by omega) (by omega),?_,?_,?_,?_,?_,?_,?_,?_⟩
 ·rw [<- List.append_assoc];exact jcL (T ++ G) S _ (by simp;omega) (by omega)
 ·rw [<- List.append_assoc,<- List.append_assoc];exact jcL (T ++ G ++ S) L _ (by simp;omega) (by omega)
 ·rw [<- List.append_assoc,<- List.append_assoc,<- List.append_assoc];exact jcL (T ++ G ++ S ++ L) K _ (by simp;omega) (by omega)
 ·rw [<- List.append_assoc,<- List.append_assoc,<- List.append_assoc,<- List.append_assoc];exact jcL (T ++ G ++ S ++ L ++ K) A _ (by simp;omega) (by omega)
 ·rw [<- List.append_assoc,<- List.append_assoc,<- List.append_assoc,<- List.append_assoc,<- List.append_assoc];exact jcL (T ++ G ++ S ++ L ++ K ++ A) B _ (by simp;omega) (by omega)
 ·rw [<- List.append_assoc,<- List.append_assoc,<- List.append_assoc,<- List.append_assoc,<- List.append_assoc,<- List.append_assoc];exact jcL (T ++ G ++ S ++ L ++ K ++ A ++ B) C _ (by simp;omega) (by omega)
 ·rw [<- List.append_assoc,<- List.append_assoc,<- List.append_assoc,<- List.append_assoc,<- List.append_assoc,<- List.append_assoc,<- List.append_assoc];exact jcL (T ++ G ++ S ++ L ++ K ++ A ++ B ++ C) D _ (by simp;omega) (by omega)
 ·rw [<- List.append_assoc,<- List.append_assoc,<- List.append_assoc,<- List.append_assoc,<- List.append_assoc,<- List.append_assoc,<- List.append_assoc,<- List.append_assoc];exact jcL (T ++ G ++ S ++ L ++ K ++ A ++ B ++ C ++ D) Z _ (by simp;omega) (by omega)
theorem jlN (b:List Int) (i:Nat) {x:Int} (h:sub b i (i + 1)=[x]):b.getD i 0=x:=by
 unfold sub at h;rw [show i + 1 - i=1 by omega] at h
 have h1:(b.drop i)[0]? = some x:=by
  have:((b.drop i).take 1)[0]? = some x:=by rw [h];rfl
  rwa [List.getElem?_take,if_pos (by decide)] at this
 rw [List.getElem?_drop,Nat.add_zero] at h1;rw [List.getD_eq_getElem?_getD,h1];rfl
theorem jf0 {n:Int} (h0:0<=n) (h1:n<=255):bytesOf n 1=[n]:=by
 unfold bytesOf jbj;simp;omega
theorem jmA {l:Ln} (h:jdj l=0):ja9 (jcA l)=l:=by
 obtain ⟨hr,hk⟩:=jbB.1 h;obtain ⟨r1,r2,r3,r4,r5,r6,r7⟩:=(jcq l).1 hr
 have hE:jcA l=[83,76] ++ (bytesOf l.g 4 ++ (bytesOf l.s 4 ++ (bytesOf (jcE l.last) 1 ++ (bytesOf l.r.k 1 ++ (bytesOf l.r.a 7 ++ (bytesOf l.r.b 7 ++ (bytesOf l.r.c 7 ++ (bytesOf l.r.d 7 ++ (bytesOf (l.r.key.size:Nat) 1 ++ (jiA l.r.key ++ List.replicate (19 - l.r.key.size) 0 ++ jnu (jci l))))))))))):=by
  unfold jcA
  conv=>lhs;arg 1;unfold jci jbY
  simp only [List.append_assoc]
 obtain ⟨c1,c2,c3,c4,c5,c6,c7,c8,c9⟩:=jkB _ _ _ _ _ _ _ _ _ _ _ rfl (jaQ _ _) (jaQ _ _) (jaQ _ _) (jaQ _ _) (jaQ _ _) (jaQ _ _) (jaQ _ _) (jaQ _ _) (jaQ _ _) (jcA l) hE;have hlast:jcE l.last=0∨jcE l.last=1:=by unfold jcE;split <;> simp
 rw [jf0 (by omega) (by omega)] at c3;rw [jf0 (by omega) (by omega)] at c9;have g10:=jlN _ _ c3;have g40:=jlN _ _ c9;unfold ja9;rw [c1,c2,c4,c5,c6,c7,c8,g10,g40,jbe _ _ r1.1 (by omega),jbe _ _ r2.1 (by omega),jbe _ _ r3.1 (by omega),jbe _ _ r4.1 (by omega),jbe _ _ r5.1 (by omega),jbe _ _ r6.1 (by omega),jbe _ _ r7.1 (by omega)];have hL:decide (jcE l.last=1)=l.last:=by unfold jcE;cases l.last <;> rfl
 have hK:(if ((l.r.key.size:Nat):Int)=16 then strOfNums (sub (jcA l) 41 57) else ByteArray.empty)=l.r.key:=by
  rcases hk with hk | hk
  ·rw [if_neg (by omega)];have:jiA l.r.key=[]:=List.eq_nil_of_length_eq_zero (by rw [je3];exact hk);rw [<- jjV l.r.key,this];rfl
  ·rw [if_pos (by omega)]
   have e:jcA l=jbY l ++ (jiA l.r.key ++ (List.replicate (19 - l.r.key.size) 0 ++ jnu (jci l))):=by
    unfold jcA
    conv=>lhs;arg 1;unfold jci
    simp only [List.append_assoc]
   rw [e,jcL (jbY l) (jiA l.r.key) _ (jbL l) (by rw [je3,hk]),jjV]
 rw [hL,hK]
theorem joV {l:Ln} (h:jdj l=0):jbF (jcA l)=(0,l):=by
 unfold jbF;rw [jmA h,if_pos ⟨jff h,h,rfl⟩]
theorem jmc {b:List Int} (h:(jbF b).1=0):b.length=64/\jdj (jbF b).2=0/\jcA (jbF b).2=b:=by
 unfold jbF at h ⊢;split
 ·next h1=>exact h1
 ·next h1=>rw [if_neg h1] at h;exact absurd h (by decide)
theorem jpW {b:List Int} (h:(jbF b).1≠0):jbF b=(2,jg6):=by
 unfold jbF at h ⊢;split
 ·next h1=>rw [if_pos h1] at h;exact absurd rfl h
 ·rfl
theorem jih (b:List Int):((jbF b).1=0/\b.length=64/\jdj (jbF b).2=0/\jcA (jbF b).2=b)∨jbF b=(2,jg6):=by
 by_cases h:(jbF b).1=0
 ·exact .inl ⟨h,jmc h⟩
 ·exact .inr (jpW h)
def jbd (secs:List (List Int)) (g:Int) (i:Nat):Bool:=decide ((jbF (secs.getD i [])).1=0) && decide ((jbF (secs.getD i [])).2.g=g) && decide ((jbF (secs.getD i [])).2.s=(i:Int))
def jdH (secs:List (List Int)) (i:Nat):Rc:=(jbF (secs.getD i [])).2.r
def jbO (secs:List (List Int)) (i:Nat):Bool:=(jbF (secs.getD i [])).2.last
def jcb (secs:List (List Int)):Nat->List Rc
 | 0=>[]
 | k + 1=>if jbO secs k=true then [] else jcb secs k ++ [jdH secs k]
def jba (secs:List (List Int)):Nat->List (List Rc)
 | 0=>[]
 | k + 1=>if jbO secs k=true then jba secs k ++ [jcb secs k ++ [jdH secs k]] else jba secs k
def jes (secs:List (List Int)) (g:Int):Nat:=((List.range secs.length).takeWhile (jbd secs g)).length
def jda (secs:List (List Int)) (g:Int):List (List Rc):=jba secs (jes secs g)
theorem jdq (p:Nat->Bool):∀ (n m:Nat),(∀ i,i < n->p (m + i)=true)->∀ r:List Nat,(∀ x,r.head? = some x->p x=false)->((List.range' m n ++ r).takeWhile p).length=n
 | 0,m,_,r,hr=>by
  cases r with
  | nil=>rfl
  | cons x r=>rw [show List.range' m 0 ++ x :: r=x :: r from rfl,List.takeWhile_cons,hr x rfl];rfl
 | n + 1,m,h,r,hr=>by
  rw [List.range'_succ,List.cons_append,List.takeWhile_cons,if_pos (show p m=true from h 0 (by omega)),List.length_cons,jdq p n (m + 1) (fun i hi=>by have:=h (i + 1) (by omega);rwa [show m + 1 + i=m + (i + 1) by omega]) r hr]
theorem jnG {secs:List (List Int)} {g:Int} {k:Nat} (hk:k<=secs.length) (h:∀ i,i < k->jbd secs g i=true) (he:k < secs.length->jbd secs g k=false):jes secs g=k:=by
 unfold jes;obtain ⟨m,hm⟩:∃ m,secs.length=k + m:=⟨secs.length - k,by omega⟩;rw [List.range_eq_range',hm,<- List.range'_append];refine jdq _ k 0 (fun i hi=>by rw [Nat.zero_add];exact h i hi) _ fun x hx=>?_
 cases m with
 | zero=>simp at hx
 | succ m =>
  rw [List.range'_succ,List.head?_cons] at hx;injection hx with hx
  rw [<- hx,Nat.zero_add,Nat.one_mul];exact he (by omega)
theorem je8 {secs:List (List Int)} {g:Int} {k:Nat} (hk:k<=secs.length) (h:∀ i,i < k->jbd secs g i=true) (he:k < secs.length->jbd secs g k=false):jda secs g=jba secs k:=by
 unfold jda;rw [jnG hk h he]
theorem jhY (secs:List (List Int)):∀ k,(jcb secs k).length<=k
 | 0=>Nat.le_refl _
 | k + 1=>by
  have:=jhY secs k;unfold jcb;split
  ·exact Nat.zero_le _
  ·rw [List.length_append];simp;omega
theorem jhD (secs:List (List Int)):∀ k,(jba secs k).length<=k
 | 0=>Nat.le_refl _
 | k + 1=>by
  have:=jhD secs k;unfold jba;split
  ·rw [List.length_append];simp;omega
  ·omega
end Go.Proofs.YtbnhkplhmanmoaaGreat
namespace Go.Proofs.YtbnhkplhmanmoaaGreat
open Go.RowKit
structure Ten where
 id:Int
 quota:Int
 rate:Int
 burst:Int
 key:ByteArray
 dying:Bool
structure Vol where
 id:Int
 ten:Int
 blocks:Int
 base:Int
structure Tab where
 ts:List Ten
 vs:List Vol
 os:List Int
def Tab.zero:Tab:=⟨[],[],[]⟩
def ja0 (os:List Int) (id:Int):Nat:=if 1<=id/\id<=7 then os.countP (fun o=>decide (o=id)) else 0
def jbp (ts:List Ten):Int:=(ts.map Ten.quota).sum
def tenAt (ts:List Ten) (id:Int):Option Ten:=ts.find? (fun x=>decide (x.id=id))
def volAt (vs:List Vol) (id:Int):Option Vol:=vs.find? (fun x=>decide (x.id=id))
structure Ten.plain (x:Ten):Prop where
 id:1<=x.id/\x.id<=7
 quota:1<=x.quota/\x.quota<=64
 rate:0<=x.rate/\x.rate<=4294967296
 burst:1<=x.burst/\x.burst<=64
 key:x.key.size=16
structure Tab.sound (t:Tab):Prop where
 len:1<=t.os.length/\t.os.length<=64
 ten:∀ x∈t.ts,x.plain/\(ja0 t.os x.id:Int)<=x.quota
 up:t.ts.Pairwise fun x y=>x.id < y.id
 vol:∀ v∈t.vs,(0<=v.id/\v.id<=7)/\(tenAt t.ts v.ten).isSome/\(0<=v.blocks/\v.blocks<=32)/\0<=v.base/\v.base<=1099511627776
 vup:t.vs.Pairwise fun x y=>x.id < y.id
 own:∀ o∈t.os,o=0∨(tenAt t.ts o).isSome
 sum:jbp t.ts<=t.os.length
theorem jdz {ts:List Ten} {id:Int} {x:Ten} (h:tenAt ts id=some x):x∈ts/\x.id=id :=
 ⟨List.mem_of_find?_eq_some h,by simpa using List.find?_some h⟩
theorem jaH {ts:List Ten} {id:Int} : (tenAt ts id).isSome↔∃ x∈ts,x.id=id:=by
 unfold tenAt;rw [List.find?_isSome];simp
theorem jeX {vs:List Vol} {id:Int} : (volAt vs id).isSome↔∃ x∈vs,x.id=id:=by
 unfold volAt;rw [List.find?_isSome];simp
section
variable {α:Type} (k:α->Int)
def jcj (x:α):List α->List α
 | []=>[x]
 | y :: l=>if k x < k y then x :: y :: l else y :: jcj x l
theorem jc4 {x y:α} : ∀ {l:List α},y∈jcj k x l↔y=x∨y∈l
 | []=>by simp [jcj]
 | z :: l=>by
  unfold jcj;split
  ·simp
  ·simp only [List.mem_cons,jc4 (l:=l)];constructor
   ·rintro (h | h | h)
    ·exact .inr (.inl h)
    ·exact .inl h
    ·exact .inr (.inr h)
   ·rintro (h | h | h)
    ·exact .inr (.inl h)
    ·exact .inl h
    ·exact .inr (.inr h)
theorem jdQ {x:α} : ∀ {l:List α},l.Pairwise (fun a b=>k a < k b)->(∀ y∈l,k y≠k x)->(jcj k x l).Pairwise fun a b=>k a < k b
 | [],_,_=>by simp [jcj]
 | z :: l,h,hn=>by
  obtain ⟨h1,h2⟩:=List.pairwise_cons.1 h;unfold jcj;split
  ·rename_i hlt;refine List.pairwise_cons.2 ⟨fun y hy=>?_,h⟩;rcases List.mem_cons.1 hy with rfl | hy
   ·exact hlt
   ·have:=h1 y hy;omega
  ·rename_i hlt;refine List.pairwise_cons.2 ⟨fun y hy=>?_,jdQ h2 fun y hy=>hn y (by simp [hy])⟩;rcases (jc4 k).1 hy with rfl | hy
   ·have:=hn z (by simp);omega
   ·exact h1 y hy
theorem jjC {x:α} (f:α->Int):∀ {l:List α},((jcj k x l).map f).sum=(l.map f).sum + f x
 | []=>by simp [jcj]
 | z :: l=>by
  unfold jcj;split
  ·simp;omega
  ·simp only [List.map_cons,List.sum_cons,jjC f (l:=l)];omega
theorem jec {x:α} : ∀ {l:List α},(∀ y∈l,k y < k x)->jcj k x l=l ++ [x]
 | [],_=>rfl
 | z :: l,h=>by
  unfold jcj;rw [if_neg (by have:=h z (by simp);omega),jec fun y hy=>h y (by simp [hy])];rfl
def jgp (id:Int) (f:α->α) (l:List α):List α:=l.map fun x=>if k x=id then f x else x
theorem jfa {id:Int} {f:α->α} {l:List α} {y:α} (h:y∈jgp k id f l):(y∈l/\k y≠id)∨∃ x∈l,k x=id/\y=f x:=by
 obtain ⟨x,hx,he⟩:=List.mem_map.1 h;by_cases hk:k x=id
 ·rw [if_pos hk] at he;exact .inr ⟨x,hx,hk,he.symm⟩
 ·rw [if_neg hk] at he;subst he;exact .inl ⟨hx,hk⟩
theorem jfL {id:Int} {f:α->α} {l:List α} (hf:∀ x,k (f x)=k x):(jgp k id f l).map k=l.map k:=by
 unfold jgp;rw [List.map_map];refine List.map_congr_left fun x _=>?_
 show k (if k x=id then f x else x)=k x;split
 ·exact hf x
 ·rfl
theorem jc5 {id:Int} {f:α->α} {l:List α} (hf:∀ x,k (f x)=k x) (h:l.Pairwise fun a b=>k a < k b):(jgp k id f l).Pairwise fun a b=>k a < k b:=by
 have h1:(l.map k).Pairwise (· < ·):=List.pairwise_map.2 h;rw [<- jfL k hf (id:=id)] at h1;exact List.pairwise_map.1 h1
theorem jkD {l:List α} (h:l.Pairwise fun a b=>k a < k b) {x y:α} (hx:x∈l) (hy:y∈l) (he:k x=k y):x=y:=by
 induction l with
 | nil=>cases hx
 | cons z l ih =>
  obtain ⟨h1,h2⟩:=List.pairwise_cons.1 h;rcases List.mem_cons.1 hx with rfl | hx' <;> rcases List.mem_cons.1 hy with rfl | hy'
  ·rfl
  ·have:=h1 y hy';omega
  ·have:=h1 x hx';omega
  ·exact ih h2 hx' hy'
theorem jhn {id:Int} {f:α->α} (g:α->Int):∀ {l:List α},(l.Pairwise fun a b=>k a < k b)->∀ x∈l,k x=id->((jgp k id f l).map g).sum=(l.map g).sum - g x + g (f x)
 | z :: l,h,x,hx,hk=>by
  obtain ⟨h1,h2⟩:=List.pairwise_cons.1 h;unfold jgp;simp only [List.map_cons,List.sum_cons];rcases List.mem_cons.1 hx with rfl | hx'
  ·rw [if_pos hk]
   have e:l.map (fun x=>if k x=id then f x else x)=l:=by
    conv=>rhs;rw [<- List.map_id l]
    refine List.map_congr_left fun y hy=>?_
    rw [if_neg (by have:=h1 y hy;omega)];rfl
   rw [e];omega
  ·rw [if_neg (by have:=h1 x hx';omega)];have:=jhn g h2 x hx' hk (f:=f);unfold jgp at this;omega
theorem jjE {id:Int} (g:α->Int):∀ {l:List α},(∀ x∈l,k x=id->0<=g x)->((l.filter fun x=>decide (k x≠id)).map g).sum<=(l.map g).sum
 | [],_=>by simp
 | z :: l,hg=>by
  have:=jjE g (l:=l) fun x hx=>hg x (by simp [hx])
  by_cases hz:k z=id
  ·rw [List.filter_cons_of_neg (by simp [hz])];simp only [List.map_cons,List.sum_cons];have:=hg z (by simp) hz;omega
  ·rw [List.filter_cons_of_pos (by simp [hz])];simp only [List.map_cons,List.sum_cons];omega
end
def inR (n a b:Int):Prop:=a<=n/\n<=b
instance (n a b:Int):Decidable (inR n a b):=by unfold inR;infer_instance
def jbo (r:Rc):Prop:=inR r.a 1 7/\inR r.b 1 64/\inR r.c 0 4294967296/\inR r.d 1 64/\r.key.size=16
instance (r:Rc):Decidable (jbo r):=by unfold jbo;infer_instance
def jaf (r:Rc):Prop :=
 if r.k=1 then jbo r
 else if r.d≠0∨r.key.size≠0∨(r.c≠0/\r.k≠5) then False
 else if r.k=0 then r.a=0/\r.b=0
 else if r.k=2 then inR r.a 1 7/\inR r.b 1 64
 else if r.k=3∨r.k=4 then inR r.a 1 7/\r.b=0
 else if r.k=5 then inR r.a 0 7/\inR r.b 1 7/\inR r.c 0 32
 else if r.k=6 then inR r.a 0 7/\inR r.b 0 32
 else if r.k=7 then inR r.a 0 7/\r.b=0
 else if r.k=8 then inR r.a 0 7/\inR r.b 0 1099511627776
 else if r.k=9 then inR r.a 0 63/\inR r.b 0 7
 else False
instance (r:Rc):Decidable (jaf r):=by unfold jaf;infer_instance
def jkC (vs:List Vol) (id:Int):Prop:=∃ v∈vs,v.ten=id
instance (vs:List Vol) (id:Int):Decidable (jkC vs id):=by unfold jkC;infer_instance
def je7 (t:Tab) (r:Rc):Int × Tab :=
 if (tenAt t.ts r.a).isSome then (5,t) else if (t.os.length:Int) < jbp t.ts + r.b then (6,t) else (0,{ t with ts:=jcj Ten.id ⟨r.a,r.b,r.c,r.d,r.key,false⟩ t.ts })
def jeS (t:Tab) (r:Rc):Int × Tab :=
 match tenAt t.ts r.a with
 | none=>(4,t)
 | some x=>if x.dying=true∨r.b < ja0 t.os r.a then (10,t) else if (t.os.length:Int) < jbp t.ts - x.quota + r.b then (6,t) else (0,{ t with ts:=jgp Ten.id r.a (fun x=>{ x with quota:=r.b }) t.ts })
def jeZ (t:Tab) (r:Rc):Int × Tab :=
 match tenAt t.ts r.a with
 | none=>(4,t)
 | some x=>if x.dying=true then (5,t) else (0,{ t with ts:=jgp Ten.id r.a (fun x=>{ x with dying:=true }) t.ts })
def je4 (t:Tab) (r:Rc):Int × Tab :=
 match tenAt t.ts r.a with
 | none=>(4,t)
 | some x=>if x.dying=false∨0 < ja0 t.os r.a∨jkC t.vs r.a then (10,t) else (0,{ t with ts:=t.ts.filter fun x=>decide (x.id≠r.a) })
def jd0 (t:Tab) (r:Rc):Int × Tab :=
 if (volAt t.vs r.a).isSome then (5,t) else
 match tenAt t.ts r.b with
 | none=>(4,t)
 | some x=>if x.dying=true then (10,t) else (0,{ t with vs:=jcj Vol.id ⟨r.a,r.b,r.c,0⟩ t.vs })
def jga (t:Tab) (r:Rc):Int × Tab :=
 match volAt t.vs r.a with
 | none=>(4,t)
 | some _=>(0,{ t with vs:=jgp Vol.id r.a (fun x=>{ x with blocks:=r.b }) t.vs })
def jgf (t:Tab) (r:Rc):Int × Tab :=
 match volAt t.vs r.a with
 | none=>(4,t)
 | some _=>(0,{ t with vs:=t.vs.filter fun x=>decide (x.id≠r.a) })
def jf3 (t:Tab) (r:Rc):Int × Tab :=
 match volAt t.vs r.a with
 | none=>(4,t)
 | some v=>if r.b < v.base then (7,t) else (0,{ t with vs:=jgp Vol.id r.a (fun x=>{ x with base:=r.b }) t.vs })
def jcs (t:Tab) (r:Rc):Int × Tab :=
 if (t.os.length:Int)<=r.a then (7,t)
 else if r.b=0 then if t.os.getD r.a.toNat 0=0 then (4,t) else (0,{ t with os:=t.os.set r.a.toNat 0 })
 else match tenAt t.ts r.b with
 | none=>(4,t)
 | some x=>if x.dying=true then (10,t) else if t.os.getD r.a.toNat 0≠0 then (5,t) else if x.quota<=ja0 t.os r.b then (6,t) else (0,{ t with os:=t.os.set r.a.toNat r.b })
def jar (t:Tab) (r:Rc):Int × Tab :=
 if r.k=1 then je7 t r else if r.k=2 then jeS t r else if r.k=3 then jeZ t r else if r.k=4 then je4 t r else if r.k=5 then jd0 t r
 else if r.k=6 then jga t r else if r.k=7 then jgf t r else if r.k=8 then jf3 t r else if r.k=9 then jcs t r else (0,t)
def jaV:Tab->List Rc->Int × Tab
 | t,[]=>(0,t)
 | t,r :: l=>if jaf r then (if (jar t r).1=0 then jaV (jar t r).2 l else ((jar t r).1,Tab.zero)) else (1,Tab.zero)
open Classical in
noncomputable def jbR (t:Tab) (l:List Rc):Int × Tab:=if t.sound then jaV t l else (2,Tab.zero)
theorem jiU (os:List Int) (id:Int):ja0 os id<=os.length:=by
 unfold ja0;split
 ·exact List.countP_le_length
 ·omega
theorem jg8 {os:List Int} {i:Nat} (hi:i < os.length) (v id:Int) (hid:1<=id/\id<=7) :
  ja0 (os.set i v) id=ja0 os id - (if os.getD i 0=id then 1 else 0) + (if v=id then 1 else 0):=by
 unfold ja0;rw [if_pos hid,if_pos hid,List.countP_set hi];simp [List.getD,hi]
theorem jcY {ts ts':List Ten} (h:ts'.map Ten.id=ts.map Ten.id) (id:Int):(tenAt ts' id).isSome=(tenAt ts id).isSome:=by
 rw [Bool.eq_iff_iff,jaH,jaH];have e:∀ l:List Ten,(∃ x∈l,x.id=id)↔id∈l.map Ten.id:=fun l=>by simp
 rw [e,e,h]
theorem jp6 {t:Tab} {r:Rc} (hs:t.sound) (hf:jbo r) (h:(je7 t r).1=0):(je7 t r).2.sound/\(je7 t r).2.os.length=t.os.length:=by
 unfold je7 at h ⊢;split at h
 ·simp at h
 ·rename_i hn;split at h
  ·simp at h
  ·rename_i hq;rw [if_neg hn,if_neg hq];rw [jaH] at hn;obtain ⟨f1,f2,f3,f4,f5⟩:=hf;have hnew:∀ y∈t.ts,y.id≠r.a:=fun y hy he=>hn ⟨y,hy,he⟩
   have hsub:∀ id,(tenAt t.ts id).isSome->(tenAt (jcj Ten.id ⟨r.a,r.b,r.c,r.d,r.key,false⟩ t.ts) id).isSome:=fun id h=>by
    obtain ⟨x,hx,he⟩:=jaH.1 h;exact jaH.2 ⟨x,(jc4 _).2 (.inr hx),he⟩
   refine ⟨⟨hs.len,fun x hx=>?_,jdQ _ hs.up hnew,fun v hv=>?_,hs.vup,fun o ho=>?_,?_⟩,rfl⟩
   ·rcases (jc4 _).1 hx with rfl | hx
    ·refine ⟨⟨f1,f2,f3,f4,f5⟩,?_⟩
     have:ja0 t.os r.a=0:=by
      unfold ja0;split
      ·rw [List.countP_eq_zero];intro o ho he;have he:o=r.a:=by simpa using he
       rcases hs.own o ho with h0 | h0
       ·unfold inR at f1;omega
       ·exact hn (he ▸ jaH.1 h0)
      ·rfl
     show ((ja0 t.os r.a:Nat):Int)<=r.b;rw [this];unfold inR at f2;omega
    ·exact hs.ten x hx
   ·obtain ⟨a1,a2,a3,a4⟩:=hs.vol v hv;exact ⟨a1,hsub _ a2,a3,a4⟩
   ·exact (hs.own o ho).imp_right (hsub _)
   ·show jbp (jcj Ten.id _ t.ts)<=_;unfold jbp at hq ⊢;rw [jjC];show _ + r.b<=((t.os.length:Nat):Int);omega
theorem jpV {t:Tab} {r:Rc} (hs:t.sound) (hf:inR r.b 1 64) (h:(jeS t r).1=0):(jeS t r).2.sound/\(jeS t r).2.os.length=t.os.length:=by
 unfold jeS at h ⊢;split at h
 ·simp at h
 ·rename_i x hx;obtain ⟨hm,hid⟩:=jdz hx;split at h
  ·simp at h
  ·rename_i hb;split at h
   ·simp at h
   ·rename_i hq;simp only [if_neg hb,if_neg hq];have hk:=jfL Ten.id (id:=r.a) (f:=fun x:Ten=>{ x with quota:=r.b }) (l:=t.ts) (fun _=>rfl);refine ⟨⟨hs.len,fun y hy=>?_,jc5 _ (fun _=>rfl) hs.up,fun v hv=>?_,hs.vup,fun o ho=>?_,?_⟩,trivial⟩
    ·rcases jfa _ hy with ⟨hy,_⟩ | ⟨z,hz,hzk,rfl⟩
     ·exact hs.ten y hy
     ·obtain ⟨hp,_⟩:=hs.ten z hz;refine ⟨⟨hp.id,hf,hp.rate,hp.burst,hp.key⟩,?_⟩;show ((ja0 t.os z.id:Nat):Int)<=r.b;rw [hzk];omega
    ·obtain ⟨a1,a2,a3,a4⟩:=hs.vol v hv;exact ⟨a1,by rw [jcY hk];exact a2,a3,a4⟩
    ·refine (hs.own o ho).imp_right fun h=>?_
     rw [jcY hk];exact h
    ·show jbp (jgp Ten.id r.a _ t.ts)<=_;have:=jhn Ten.id (id:=r.a) (f:=fun x:Ten=>{ x with quota:=r.b }) Ten.quota hs.up x hm hid;unfold jbp at hq ⊢;rw [this];show _ - x.quota + r.b<=((t.os.length:Nat):Int);omega
theorem jpT {t:Tab} {r:Rc} (hs:t.sound) (h:(jeZ t r).1=0):(jeZ t r).2.sound/\(jeZ t r).2.os.length=t.os.length:=by
 unfold jeZ at h ⊢;split at h
 ·simp at h
 ·rename_i x hx;obtain ⟨hm,hid⟩:=jdz hx;split at h
  ·simp at h
  ·rename_i hb;simp only [if_neg hb];have hk:=jfL Ten.id (id:=r.a) (f:=fun x:Ten=>{ x with dying:=true }) (l:=t.ts) (fun _=>rfl);refine ⟨⟨hs.len,fun y hy=>?_,jc5 _ (fun _=>rfl) hs.up,fun v hv=>?_,hs.vup,fun o ho=>?_,?_⟩,trivial⟩
   ·rcases jfa _ hy with ⟨hy,_⟩ | ⟨z,hz,hzk,rfl⟩
    ·exact hs.ten y hy
    ·obtain ⟨hp,hq⟩:=hs.ten z hz;exact ⟨⟨hp.id,hp.quota,hp.rate,hp.burst,hp.key⟩,hq⟩
   ·obtain ⟨a1,a2,a3,a4⟩:=hs.vol v hv;exact ⟨a1,by rw [jcY hk];exact a2,a3,a4⟩
   ·refine (hs.own o ho).imp_right fun h=>?_
    rw [jcY hk];exact h
   ·show jbp (jgp Ten.id r.a _ t.ts)<=_;have:=jhn Ten.id (id:=r.a) (f:=fun x:Ten=>{ x with dying:=true }) Ten.quota hs.up x hm hid;have h2:=hs.sum;unfold jbp at h2 ⊢;rw [this];show _ - x.quota + x.quota<=((t.os.length:Nat):Int);omega
theorem jpZ {t:Tab} {r:Rc} (hs:t.sound) (hf:inR r.a 1 7) (h:(je4 t r).1=0):(je4 t r).2.sound/\(je4 t r).2.os.length=t.os.length:=by
 unfold je4 at h ⊢;split at h
 ·simp at h
 ·rename_i x hx;split at h
  ·simp at h
  ·rename_i hb;simp only [if_neg hb]
   have hsub:∀ id,id≠r.a->(tenAt t.ts id).isSome->(tenAt (t.ts.filter fun x=>decide (x.id≠r.a)) id).isSome:=fun id hne h=>by
    obtain ⟨x,hx,he⟩:=jaH.1 h;exact jaH.2 ⟨x,List.mem_filter.2 ⟨hx,by simp [he,hne]⟩,he⟩
   refine ⟨⟨hs.len,fun y hy=>hs.ten y (List.mem_filter.1 hy).1,hs.up.filter _,fun v hv=>?_,hs.vup,fun o ho=>?_,?_⟩,trivial⟩
   ·obtain ⟨a1,a2,a3,a4⟩:=hs.vol v hv;exact ⟨a1,hsub _ (fun he=>hb (.inr (.inr ⟨v,hv,he⟩))) a2,a3,a4⟩
   ·by_cases he:o=r.a
    ·exfalso;apply hb
     right;left
     unfold ja0;rw [if_pos (show 1<=r.a/\r.a<=7 from hf),List.countP_pos_iff];exact ⟨o,ho,by simp [he]⟩
    ·exact (hs.own o ho).imp_right (hsub _ he)
   ·have h1:=jjE Ten.id (id:=r.a) Ten.quota (l:=t.ts) (fun x hx hk=>by have:=(hs.ten x hx).1.quota;omega);have h2:=hs.sum;unfold jbp at h2 ⊢;exact Int.le_trans h1 h2
theorem jqt {t:Tab} {r:Rc} (hs:t.sound) (hf:inR r.a 0 7/\inR r.b 1 7/\inR r.c 0 32) (h:(jd0 t r).1=0):(jd0 t r).2.sound/\(jd0 t r).2.os.length=t.os.length:=by
 unfold jd0 at h ⊢;split at h
 ·simp at h
 ·rename_i hn;rw [if_neg hn];rw [jeX] at hn;split at h
  ·simp at h
  ·rename_i x hx;split at h
   ·simp at h
   ·rename_i hb;simp only [if_neg hb];refine ⟨⟨hs.len,hs.ten,hs.up,fun v hv=>?_,jdQ _ hs.vup (fun y hy he=>hn ⟨y,hy,he⟩),hs.own,hs.sum⟩,trivial⟩;rcases (jc4 _).1 hv with rfl | hv
    ·exact ⟨hf.1,by show (tenAt t.ts r.b).isSome=true;rw [hx];rfl,hf.2.2,by show (0:Int)<=0/\(0:Int)<=1099511627776;omega⟩
    ·exact hs.vol v hv
theorem jqs {t:Tab} {r:Rc} (hs:t.sound) (hf:inR r.b 0 32) (h:(jga t r).1=0):(jga t r).2.sound/\(jga t r).2.os.length=t.os.length:=by
 unfold jga at h ⊢;split at h
 ·simp at h
 ·rename_i x hx;refine ⟨⟨hs.len,hs.ten,hs.up,fun v hv=>?_,jc5 _ (fun _=>rfl) hs.vup,hs.own,hs.sum⟩,rfl⟩;rcases jfa _ hv with ⟨hv,_⟩ | ⟨z,hz,hzk,rfl⟩
  ·exact hs.vol v hv
  ·obtain ⟨a1,a2,a3,a4⟩:=hs.vol z hz;exact ⟨a1,a2,hf,a4⟩
theorem jqh {t:Tab} {r:Rc} (hs:t.sound) (h:(jgf t r).1=0):(jgf t r).2.sound/\(jgf t r).2.os.length=t.os.length:=by
 unfold jgf at h ⊢;split at h
 ·simp at h
 ·exact ⟨⟨hs.len,hs.ten,hs.up,fun v hv=>hs.vol v (List.mem_filter.1 hv).1,hs.vup.filter _,hs.own,hs.sum⟩,rfl⟩
theorem jqi {t:Tab} {r:Rc} (hs:t.sound) (hf:inR r.b 0 1099511627776) (h:(jf3 t r).1=0):(jf3 t r).2.sound/\(jf3 t r).2.os.length=t.os.length:=by
 unfold jf3 at h ⊢;split at h
 ·simp at h
 ·rename_i x hx;split at h
  ·simp at h
  ·rename_i hb;simp only [if_neg hb];refine ⟨⟨hs.len,hs.ten,hs.up,fun v hv=>?_,jc5 _ (fun _=>rfl) hs.vup,hs.own,hs.sum⟩,trivial⟩;rcases jfa _ hv with ⟨hv,_⟩ | ⟨z,hz,hzk,rfl⟩
   ·exact hs.vol v hv
   ·obtain ⟨a1,a2,a3,a4⟩:=hs.vol z hz;exact ⟨a1,a2,a3,hf⟩
theorem jmw {l:List Int} {i:Nat} {v o:Int} (h:o∈l.set i v):o∈l∨o=v:=List.mem_or_eq_of_mem_set h
theorem jp2 {t:Tab} {r:Rc} (hs:t.sound) (hf:inR r.a 0 63/\inR r.b 0 7) (h:(jcs t r).1=0):(jcs t r).2.sound/\(jcs t r).2.os.length=t.os.length:=by
 unfold jcs at h ⊢;split at h
 ·simp at h
 ·rename_i ha;rw [if_neg ha];have hi:r.a.toNat < t.os.length:=by have:=hf.1;unfold inR at this;omega
  split at h
  ·rename_i h0;rw [if_pos h0];split at h
   ·simp at h
   ·rename_i hz;rw [if_neg hz];refine ⟨⟨by simpa using hs.len,fun x hx=>?_,hs.up,hs.vol,hs.vup,fun o ho=>?_,by simpa using hs.sum⟩,by simp⟩
    ·obtain ⟨p,q⟩:=hs.ten x hx;refine ⟨p,?_⟩;show ((ja0 (t.os.set r.a.toNat 0) x.id:Nat):Int)<=_;rw [jg8 hi 0 x.id p.id,if_neg (show ¬ (0:Int)=x.id from by have:=p.id;omega)];omega
    ·rcases jmw ho with ho | rfl
     ·exact hs.own o ho
     ·exact .inl rfl
  ·rename_i h0;rw [if_neg h0];split at h
   ·simp at h
   ·rename_i x hx;split at h
    ·simp at h
    ·rename_i hb;split at h
     ·simp at h
     ·rename_i hz;split at h
      ·simp at h
      ·rename_i hq;simp only [if_neg hb,if_neg hz,if_neg hq];obtain ⟨hm,hid⟩:=jdz hx;refine ⟨⟨by simpa using hs.len,fun y hy=>?_,hs.up,hs.vol,hs.vup,fun o ho=>?_,by simpa using hs.sum⟩,by simp⟩
       ·obtain ⟨p,q⟩:=hs.ten y hy;refine ⟨p,?_⟩;show ((ja0 (t.os.set r.a.toNat r.b) y.id:Nat):Int)<=_;rw [jg8 hi r.b y.id p.id];by_cases he:r.b=y.id
        ·have hxy:x=y:=jkD Ten.id hs.up hm hy (by rw [hid];exact he);rw [if_pos he];subst hxy;rw [he] at hq;omega
        ·rw [if_neg he];omega
       ·rcases jmw ho with ho | rfl
        ·exact hs.own o ho
        ·right;show (tenAt t.ts r.b).isSome=true;rw [hx];rfl
theorem jfH {t:Tab} {r:Rc} (hs:t.sound) (hf:jaf r) (h:(jar t r).1=0):(jar t r).2.sound/\(jar t r).2.os.length=t.os.length:=by
 unfold jar at h ⊢;unfold jaf at hf;by_cases k1:r.k=1
 ·rw [if_pos k1] at h hf ⊢;exact jp6 hs hf h
 rw [if_neg k1] at h hf ⊢;split at hf
 ·exact hf.elim
 by_cases k2:r.k=2
 ·rw [if_pos k2] at h ⊢;rw [if_neg (by omega),if_pos k2] at hf;exact jpV hs hf.2 h
 rw [if_neg k2] at h ⊢;by_cases k3:r.k=3
 ·rw [if_pos k3] at h ⊢;exact jpT hs h
 rw [if_neg k3] at h ⊢;by_cases k4:r.k=4
 ·rw [if_pos k4] at h ⊢;rw [if_neg (by omega),if_neg k2,if_pos (.inr k4)] at hf;exact jpZ hs hf.1 h
 rw [if_neg k4] at h ⊢;by_cases k5:r.k=5
 ·rw [if_pos k5] at h ⊢;rw [if_neg (by omega),if_neg k2,if_neg (by omega),if_pos k5] at hf;exact jqt hs hf h
 rw [if_neg k5] at h ⊢;by_cases k6:r.k=6
 ·rw [if_pos k6] at h ⊢;rw [if_neg (by omega),if_neg k2,if_neg (by omega),if_neg k5,if_pos k6] at hf;exact jqs hs hf.2 h
 rw [if_neg k6] at h ⊢;by_cases k7:r.k=7
 ·rw [if_pos k7] at h ⊢;exact jqh hs h
 rw [if_neg k7] at h ⊢;by_cases k8:r.k=8
 ·rw [if_pos k8] at h ⊢;rw [if_neg (by omega),if_neg k2,if_neg (by omega),if_neg k5,if_neg k6,if_neg k7,if_pos k8] at hf;exact jqi hs hf.2 h
 rw [if_neg k8] at h ⊢;by_cases k9:r.k=9
 ·rw [if_pos k9] at h ⊢;rw [if_neg (by omega),if_neg k2,if_neg (by omega),if_neg k5,if_neg k6,if_neg k7,if_neg k8,if_pos k9] at hf;exact jp2 hs hf h
 rw [if_neg k9];exact ⟨hs,rfl⟩
theorem jea:∀ {l:List Rc} {t:Tab},t.sound->(jaV t l).1=0->(jaV t l).2.sound/\(jaV t l).2.os.length=t.os.length
 | [],t,hs,_=>⟨hs,rfl⟩
 | r :: l,t,hs,h=>by
  unfold jaV at h ⊢;by_cases hf:jaf r
  ·rw [if_pos hf] at h ⊢;by_cases ho:(jar t r).1=0
   ·rw [if_pos ho] at h ⊢;obtain ⟨h1,h2⟩:=jfH hs hf ho;obtain ⟨h3,h4⟩:=jea h1 h;exact ⟨h3,h4.trans h2⟩
   ·rw [if_neg ho] at h;exact absurd h ho
  ·rw [if_neg hf] at h;exact absurd h (by decide)
theorem jcv:∀ {l:List Rc} {t:Tab} (m:List Rc),(jaV t l).1=0->jaV t (l ++ m)=jaV (jaV t l).2 m
 | [],t,m,_=>rfl
 | r :: l,t,m,h=>by
  rw [List.cons_append];unfold jaV at h
  conv=>lhs;unfold jaV
  conv=>rhs;arg 1;unfold jaV
  by_cases hf:jaf r
  ·rw [if_pos hf] at h ⊢;rw [if_pos hf];by_cases ho:(jar t r).1=0
   ·rw [if_pos ho] at h ⊢;rw [if_pos ho];exact jcv m h
   ·rw [if_neg ho] at h;exact absurd h ho
  ·rw [if_neg hf] at h;exact absurd h (by decide)
theorem jcV {t:Tab} {l:List Rc} (hs:t.sound):jbR t l=jaV t l:=if_pos hs
end Go.Proofs.YtbnhkplhmanmoaaGreat
