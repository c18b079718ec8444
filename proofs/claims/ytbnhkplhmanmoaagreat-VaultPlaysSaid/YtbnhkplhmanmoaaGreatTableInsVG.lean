/- . -/
import Derived.Test.YtbnhkplhmanmoaaGreatTkG
import Derived.Test.YtbnhkplhmanmoaaGreatTableByG
import Derived.Test.YtbnhkplhmanmoaaGreatTableC12G
import Derived.BigQuiet
import Derived.Deep.RegionLaw
namespace Go.Proofs.YtbnhkplhmanmoaaGreat
open Go.RowKit
set_option maxHeartbeats 6400000
set_option maxRecDepth 20000
theorem jiJ {lo:Nat} {w:World} {t:Tab} (A1:Option Addr) (c1:Nat) (A2:Option Addr) (c2:Nat) (A3:Option Addr) (c3:Nat) (h:jaw lo w ⟨A1,c1,A2,c2,A3,c3⟩ t) (hl:lo<=w.heap.size) (hs:t.sound) (ra rb rc rd:Int) (key:ByteArray) (V0:jat) (hV0:V0=⟨A1,c1,A2,c2,A3,c3⟩) :
  Calls Tryz.prog 30 #[.agg #[.slice A1 t.ts.length c1,.slice A2 t.vs.length c2,.slice A3 t.os.length c3],.agg #[.int .i64 5,.int .i64 ra,.int .i64 rb,.int .i64 rc,.int .i64 rd,.string key]] w (jcd lo w V0 (jd0 t ⟨5,ra,rb,rc,rd,key⟩)):=by
 obtain ⟨n1,n2,n3⟩:=jam hs;obtain ⟨W0,hW0,S0⟩:=jaW hV0 h hl 5 ra rb rc rd key;clear hV0;obtain ⟨N1,HN1⟩:∃ N,Hid (t.ts.length=N):=⟨_,rfl⟩;obtain ⟨N2,HN2⟩:∃ N,Hid (t.vs.length=N):=⟨_,rfl⟩;obtain ⟨N3,HN3⟩:∃ N,Hid (t.os.length=N):=⟨_,rfl⟩;have HALL:Hid (∀ X,Below W0.heap.size W0 X->jaR w X A1 N1 c1 A2 N2 c2 A3 N3 c3 5 ra rb rc rd key):=fun X hb=>(S0.later hb).all HN1.out HN2.out HN3.out
 have HFIN:Hid (∀ X,Below W0.heap.size W0 X->ja6 lo w V0 X A1 N1 c1 A2 N2 c2 A3 N3 c3 t):=fun X hb=>(S0.later hb).fin HN1.out HN2.out HN3.out
 have HTE:Hid (∀ X,Below W0.heap.size W0 X->Calls Tryz.prog 46 #[.agg #[.slice A1 N1 c1,.slice A2 N2 c2,.slice A3 N3 c3],.int .i64 rb] X fun e w'=>e=.returned (.int .i64 (jdI t.ts rb))/\Below X.heap.size X w'):=fun X hb=>by
  have q:=jb5 ⟨A1,c1,A2,c2,A3,c3⟩ t rb X (S0.later hb).bx.tab (by omega);unfold jan at q
  rwa [HN1.out,HN2.out,HN3.out] at q
 have HVO:Hid (∀ X,Below W0.heap.size W0 X->Calls Tryz.prog 49 #[.agg #[.slice A1 N1 c1,.slice A2 N2 c2,.slice A3 N3 c3],.int .i64 ra] X fun e w'=>e=.returned (.int .i64 (jhs t.vs ra))/\Below X.heap.size X w'):=fun X hb=>by
  have q:=jdC ⟨A1,c1,A2,c2,A3,c3⟩ t ra X (S0.later hb).bx.tab (by omega);unfold jan at q
  rwa [HN1.out,HN2.out,HN3.out] at q
 rw [HN1.out,HN2.out,HN3.out] at hW0 ⊢;have HW0:=Lib.hid hW0;obtain ⟨y0,y1,y2,r0,r1,r2,r3,r4,r5,s0,s1,s2,sf0,sf1,sf2,pf0,pf1⟩:=HALL.out W0 (Below.refl _ _);have HS0:=Lib.hid S0;have HB0:Hid (Below W0.heap.size W0 W0):=Below.refl _ _;obtain ⟨i0,hi,hz0,hz1,hz2⟩:=info_parts Tryz.infoVolD;obtain ⟨x,hx⟩:∃ x:Vol,x=⟨ra,rb,rc,0⟩:=⟨_,rfl⟩;have HXC:Hid ([.int .i64 ra,.int .i64 rb,.int .i64 rc,.int .i64 0]=jb1 x):=by show _=_;rw [hx];rfl
 have HXI:Hid (x.id=ra):=by show _=_;rw [hx]
 obtain ⟨L,HL⟩:∃ L,Hid (L=t.vs):=⟨_,rfl⟩;obtain ⟨N,hNN⟩:∃ N,N=N2:=⟨_,rfl⟩;have HLN:Hid (L.length=N):=by show _=_;rw [HL.out,hNN];exact HN2.out
 have HAS:Hid (jmS Vol.id L):=by show jmS _ _;rw [HL.out];exact hs.vup.imp fun h=>Int.le_of_lt h
 have HNB:Hid (N<=8):=by show N<=8;rw [hNN];have:=HN2.out;omega
 obtain ⟨BX,HBXD⟩:∃ BX:List Vol->Nat->Nat->World->Prop,Hid (∀ l g d X,BX l g d X↔Bx3 lo w V0 ⟨5,ra,rb,rc,rd,key⟩ ⟨A1,c1,some ⟨g,0,none⟩,d,A3,c3⟩ { t with vs:=l } X):=⟨_,fun _ _ _ _=>Iff.rfl⟩
 have HGROW:Hid (∀ X,Below W0.heap.size W0 X->jaP (X.alloc (.cells #[.int .i64 ra,.int .i64 rb,.int .i64 rc,.int .i64 0] 82)) lo 82 4 A2 N c2 (jaE jb1 L)/\(∀ j u,([.int .i64 ra,.int .i64 rb,.int .i64 rc,.int .i64 0]:List Value)[j]? = some u->(X.alloc (.cells #[.int .i64 ra,.int .i64 rb,.int .i64 rc,.int .i64 0] 82)).cell? ((⟨X.heap.size,0,none⟩:Addr).add j)=some u)/\lo<=(X.alloc (.cells #[.int .i64 ra,.int .i64 rb,.int .i64 rc,.int .i64 0] 82)).heap.size /\
   jaR w (X.alloc (.cells #[.int .i64 ra,.int .i64 rb,.int .i64 rc,.int .i64 0] 82)) A1 N1 c1 A2 N2 c2 A3 N3 c3 5 ra rb rc rd key /\
   ∀ A' c' w',jaP w' lo 82 4 A' (N + 1) c' (jaE jb1 L ++ [.int .i64 ra,.int .i64 rb,.int .i64 rc,.int .i64 0])->(X.alloc (.cells #[.int .i64 ra,.int .i64 rb,.int .i64 rc,.int .i64 0] 82)).grownBy w' (ob A2)->(ob A'=ob A2∨ob A'=some (X.alloc (.cells #[.int .i64 ra,.int .i64 rb,.int .i64 rc,.int .i64 0] 82)).heap.size) ->
    (w'.cell? ⟨w.heap.size,1,none⟩=some (.slice A2 N c2)/\w'.frozen? ⟨w.heap.size,1,none⟩=false)/\∃ g,A'=some ⟨g,0,none⟩/\BX (L ++ [x]) g c' (w'.setCell ⟨w.heap.size,1,none⟩ (.slice A' (N + 1) c'))):=fun X hb=>by
  have hba:Below X.heap.size X (X.alloc (.cells #[.int .i64 ra,.int .i64 rb,.int .i64 rc,.int .i64 0] 82)):=(Below.refl _ _).alloc (Nat.le_refl _) _;have Sx:=S0.later (jaa hb hba);refine ⟨?_,World.news_of_block (heap_alloc_new _ _),Sx.lo_le,HALL.out _ (jaa hb hba),fun A' c' w' hr hg hw=>?_⟩
  ·have q:=Sx.bx.rows.vs;rw [HN2.out,<- hNN,<- HL.out] at q;exact q
  ·have m:=Sx.midV hg;rw [HN2.out,<- hNN] at m;have eL:(t.vs ++ [x]).length=N + 1:=by rw [List.length_append,HN2.out,hNN];rfl
   have hr2:jaP w' lo 82 4 A' (t.vs ++ [x]).length c' (jaE jb1 (t.vs ++ [x])):=by
    rw [eL,jdw,<- HL.out,<- HXC.out];exact hr
   obtain ⟨g,hA,_⟩:=jgg jaG hr2 rfl (k:=0) (by rw [eL];exact Nat.zero_lt_succ _);have q:=Sx.turnV hr2 hg hw;rw [eL] at q;subst hA;refine ⟨m,g,rfl,(HBXD.out _ _ _ _).2 ?_⟩;rw [HL.out];exact q
 have HLATER:Hid (∀ l g d X Y,BX l g d X->Below X.heap.size X Y->BX l g d Y):=fun l g d X Y h hb=>(HBXD.out _ _ _ _).2 (((HBXD.out _ _ _ _).1 h).later hb)
 have HBALL:Hid (∀ l g d X,BX l g d X->l.length=N + 1->jaR w X A1 N1 c1 (some ⟨g,0,none⟩) (N + 1) d A3 N3 c3 5 ra rb rc rd key/\ja6 lo w V0 X A1 N1 c1 (some ⟨g,0,none⟩) (N + 1) d A3 N3 c3 { t with vs:=l }):=fun l g d X h eM=>by
  have q:=(HBXD.out _ _ _ _).1 h;exact ⟨q.all HN1.out eM HN3.out,q.fin HN1.out eM HN3.out⟩
 have HBAT:Hid (∀ l g d X,BX l g d X->∀ i,(h:i < l.length)->(∀ j v,(jb1 l[i])[j]? = some v->X.cell? ⟨g,i * 4 + j,none⟩=some v)/\∀ j,X.frozen? ⟨g,j,none⟩=false):=fun l g d X h i hi=>by
  have q:=(HBXD.out _ _ _ _).1 h;obtain ⟨g2,hA,_,_,_,hc,hf⟩:=jgg jaG q.bx.rows.vs rfl hi;have:g2=g:=by injection hA with e;injection e with e;exact e.symm
  subst this;exact ⟨hc,hf⟩
 have HBOWN:Hid (∀ l g d X,BX l g d X->∃ d2,X.ownsRow lo 82 4 (.slice (some ⟨g,0,none⟩) l.length d2) l.length (jaE jb1 l)/\∀ l2 Y,l2.length=l.length->Y.ownsRow lo 82 4 (.slice (some ⟨g,0,none⟩) l.length d2) l.length (jaE jb1 l2)->X.grownBy Y (some g)->BX l2 g d Y):=fun l g d X h=>by
  have q:=(HBXD.out _ _ _ _).1 h;obtain ⟨h1,d2,h2,h3⟩:=q.bx.rows.vs;refine ⟨d2,h3,fun l2 Y el ho hg=>(HBXD.out _ _ _ _).2 ?_⟩;have hgl:=(jaU q.bx.rows.vs g rfl).1;exact q.turned (q.bx.inV (vs':=l2) rfl el ⟨h1,d2,h2,ho⟩ hg) hg (jae (Below.refl _ _) hg q.lo_le hgl) (.inr (.inl rfl))
 by_cases hth:(volAt t.vs ra).isSome=true
 ·rcases jcy t.vs ra with ⟨j,hj,he,hlj,hat⟩ | ⟨hlj,hat⟩
  ·rw [jiI hj he hlj] at HVO;have HE:Hid (jd0 t ⟨5,ra,rb,rc,rd,key⟩=(5,t)):=if_pos hth;rw [HE.out];have j0:(j:Int) ≥ 0:=by omega
   clear h hl hs S0 hW0 n1 n2 n3 hlj hat he hj HE hth hx hNN HGROW HBALL HBAT HBOWN HBXD HLATER hi hz0 hz1 hz2;go_enter Tryz.func30,Tryz.ntmps30
   go_wp2_with (first
    | (rw [<- HW0.out];clear HW0)
    | (go_at_call 46;with_reducible (refine Calls.mono (HTE.out _ HB0.out) ?_);rintro e w1 ⟨rfl,hb1⟩;obtain ⟨y0,y1,y2,r0,r1,r2,r3,r4,r5,s0,s1,s2,sf0,sf1,sf2,pf0,pf1⟩:=HALL.out _ hb1)
    | (go_at_call 49;with_reducible (refine Calls.mono (HVO.out _ hb1) ?_);rintro e w2 ⟨rfl,hb2⟩;have hbx:=jaa hb1 hb2;obtain ⟨y0,y1,y2,r0,r1,r2,r3,r4,r5,s0,s1,s2,sf0,sf1,sf2,pf0,pf1⟩:=HALL.out _ hbx))
   have hr:=HFIN.out _ hbx;refine bodyPost_ret (jab rfl _ _ (w.heap.size + 1 + 1) _ _ _ _ rfl hr.1 Tryz.underlying35 rfl (by kernel_rfl)) rfl ?_;exact hr.2 5 _ rfl
  ·rw [hat] at hth;cases hth
 ·have hlj:jhs t.vs ra = -1:=by
   rcases jcy t.vs ra with ⟨j,hj,he,hlj,hat⟩ | ⟨hlj,hat⟩
   ·rw [hat] at hth;exact absurd rfl hth
   ·exact jiQ hlj
  rw [hlj] at HVO;rcases jaX t.ts rb with ⟨j,hj,he,hlt,hat⟩ | ⟨hlt,hat⟩
  ·rw [jdX hj he hlt] at HTE
   have H1:jd0 t ⟨5,ra,rb,rc,rd,key⟩=if t.ts[j].dying=true then (10,t) else (0,{ t with vs:=jcj Vol.id x L }):=by
    unfold jd0;rw [if_neg hth,hx,HL.out]
    show (match tenAt t.ts rb with
     | none=>_
     | some x=>_)=_
    rw [hat]
   obtain ⟨g1,hA1,_,_,hX1⟩:=S0.bx.tenAt hj;simp only at hA1;subst hA1;have j0:(0:Int)<=(j:Int):=by omega
   have jn:¬ (j:Int) < 0:=by omega
   have j1:(j:Int) < (N1:Int):=by have:=HN1.out;omega
   obtain ⟨xd,hxd⟩:∃ d,d=t.ts[j].dying:=⟨_,rfl⟩;have HX:Hid (∀ X,Below W0.heap.size W0 X->X.cell? ⟨g1,j * 6 + 5,none⟩=some (.bool xd)):=fun X hb=>by rw [hxd];exact (hX1 X hb).1.2.2.2.2.2
   rw [<- hxd] at H1;cases xd
   ·have HE:Hid (jd0 t ⟨5,ra,rb,rc,rd,key⟩=(0,{ t with vs:=jcj Vol.id x L })):=by show _=_;rw [H1,if_neg (by decide)]
    rw [<- hNN] at HALL HFIN HTE HVO HW0 y1 ⊢;clear h hl hs S0 hW0 n1 n2 n3 hlj hat he hlt hj hth hx H1 HBXD HN2 hX1 hxd;clear hNN;have HON:Hid (∀ u∈([.int .i64 ra,.int .i64 rb,.int .i64 rc,.int .i64 0]:List Value),u.oneCell'=true):=by rw [HXC.out];exact jbQ x
    go_enter Tryz.func30,Tryz.ntmps30
    go_wp2_with (first
     | (rw [<- HW0.out];clear HW0)
     | (go_at_call 46;with_reducible (refine Calls.mono (HTE.out _ HB0.out) ?_);rintro e w1 ⟨rfl,hb1⟩;obtain ⟨y0,y1,y2,r0,r1,r2,r3,r4,r5,s0,s1,s2,sf0,sf1,sf2,pf0,pf1⟩:=HALL.out _ hb1)
     | (go_at_call 49;with_reducible (refine Calls.mono (HVO.out _ hb1) ?_);rintro e w2 ⟨rfl,hb2⟩;have hbx:=jaa hb1 hb2;obtain ⟨y0,y1,y2,r0,r1,r2,r3,r4,r5,s0,s1,s2,sf0,sf1,sf2,pf0,pf1⟩:=HALL.out _ hbx;have x5:=HX.out _ hbx;obtain ⟨ha1,ha2,ha3,ha4,ha5⟩:=HGROW.out _ hbx;obtain ⟨Xa,hXa⟩:∃ Xa,Xa=w2.alloc (.cells #[.int .i64 ra,.int .i64 rb,.int .i64 rc,.int .i64 0] 82):=⟨_,rfl⟩;obtain ⟨ga,hga⟩:∃ ga,ga=w2.heap.size:=⟨_,rfl⟩;rw [<- hXa] at ha1 ha2 ha3 ha4 ha5;rw [<- hga] at ha2;have HA1:=Lib.hid ha1;have HA2:=Lib.hid ha2;have HA3:=Lib.hid ha3;have HA5:=Lib.hid ha5;have HXA:=Lib.hid hXa;have HGA:=Lib.hid hga;obtain ⟨y0,y1,y2,r0,r1,r2,r3,r4,r5,s0,s1,s2,sf0,sf1,sf2,pf0,pf1⟩:=HALL.out _ hbx;obtain ⟨a0,a1,a2,_,_,_,_,_,_,_,_,_,_,_,_,af0,af1⟩:=ha4;clear ha1 ha2 ha3 ha5 hXa hga)
     | (rw [<- HXA.out,<- HGA.out];clear HXA HGA)
     | (at_builtin;refine jdk _ rfl _ _ 33 rfl lo 82 i0 (.agg #[.int .i64 0,.int .i64 0,.int .i64 0,.int .i64 0]) 4 32 Tryz.underlying33 hi hz0 hz1 hz2 rfl (by decide) A2 N c2 (jaE jb1 L) rfl HA1.out ⟨ga,0,none⟩ 1 1 [.int .i64 ra,.int .i64 rb,.int .i64 rc,.int .i64 0] rfl rfl HA2.out HON.out (by unfold maxLen;have:=HNB.out;omega) (by have:=HNB.out;omega) HA3.out ?_))
    intro A' c' w' hr hg hw;obtain ⟨⟨m0,mf⟩,g,rfl,hB⟩:=HA5.out _ _ _ hr hg hw;obtain ⟨W2,hW2⟩:∃ W2,W2=w'.setCell ⟨w.heap.size,1,none⟩ (.slice (some ⟨g,0,none⟩) (N + 1) c'):=⟨_,rfl⟩;rw [<- hW2] at hB;have HW2:=Lib.hid hW2;have HB2:=Lib.hid hB;have hlL:(L ++ [x]).length=N + 1:=by rw [List.length_append,HLN.out];rfl
    have HQ2:=Lib.hid (HBALL.out _ _ _ _ hB hlL).1;have h0:Hid (∃ M1 M2:List Vol,BX (M1 ++ x :: M2) g c' W2/\M1.length=N/\M1 ++ M2=L/\∀ z∈M2,x.id < z.id):=⟨L,[],hB,HLN.out,List.append_nil _,by simp⟩
    have nw:IntKind.i64.wrap (((N + 1:Nat):Int) - 1)=(N:Int):=by
     have e:((N + 1:Nat):Int) - 1=(N:Int):=by omega
     rw [e];exact IntWalk.i64_in _ (by have:=HNB.out;omega)
    have HIN:Hid (∀ M1 M2:List Vol,M1 ++ M2=L->(∀ z∈M2,x.id < z.id)->(∀ z∈M1,z.id<=x.id)->M1 ++ x :: M2=jcj Vol.id x L):=fun M1 M2 hM h2 h1=>by
     rw [<- hM,<- jeh Vol.id (by rw [hM];exact HAS.out) h2 h1]
    clear hr hg hw hW2 hB hlL HGROW HA1 HA2 HA3 HA5 HON HXC hi hz0 hz1 hz2 hbx hb1 hb2
    go_wp2_with (first
     | (rw [<- HW2.out];clear HW2;obtain ⟨y0,y1,y2,r0,r1,r2,r3,r4,r5,s0,s1,s2,sf0,sf1,sf2,pf0,pf1⟩:=HQ2.out))
    go_loopw [8] (fun v wr=>∃ k:Nat,k<=N/\v=.int .i64 k/\Hid (∃ M1 M2:List Vol,BX (M1 ++ x :: M2) g c' wr/\M1.length=k/\M1 ++ M2=L/\∀ z∈M2,x.id < z.id)) (fun v _=>(intOf v).toNat)
    case atStart=>have n8:=HNB.out;exact ⟨N,Nat.le_refl _,congrArg (Value.int .i64) (IntWalk.wrap64_in (N:Int) (by omega)),h0⟩
    case round =>
     clear h0 nw;obtain ⟨k,hkN,rfl,HI⟩:=hrel;obtain ⟨M1,M2,SJ,hj,hM,h2⟩:=HI.out;have hlM:(M1 ++ x :: M2).length=N + 1:=by rw [List.length_append,List.length_cons,<- HLN.out,<- hM,List.length_append];omega
     obtain ⟨y0,y1,y2,r0,r1,r2,r3,r4,r5,s0,s1,s2,sf0,sf1,sf2,pf0,pf1⟩:=(HBALL.out _ _ _ _ SJ hlM).1;by_cases hk0:0 < k
     ·have n8:=HNB.out;obtain ⟨M0,pv,rfl⟩:∃ M0 pv,M1=M0 ++ [pv]:=⟨M1.dropLast,M1.getLast (by intro e;subst e;simp at hj;omega),(List.dropLast_concat_getLast _).symm⟩;obtain ⟨p,hp⟩:∃ p,p + 1=k:=⟨k - 1,by omega⟩;have hpl:p=M0.length:=by rw [List.length_append] at hj;simp at hj;omega
      have eshape:M0 ++ [pv] ++ x :: M2=M0 ++ pv :: x :: M2:=by simp
      rw [eshape] at SJ hlM;have hpN:p < (M0 ++ pv :: x :: M2).length:=by omega
      have hjN:k < (M0 ++ pv :: x :: M2).length:=by omega
      have gp:(M0 ++ pv :: x :: M2)[p]? = some pv:=by rw [hpl,List.getElem?_append_right (Nat.le_refl _),Nat.sub_self];rfl
      have gj:(M0 ++ pv :: x :: M2)[k]? = some x:=by rw [<- hp,hpl,List.getElem?_append_right (by omega),show M0.length + 1 - M0.length=1 by omega];rfl
      have gp':(M0 ++ pv :: x :: M2)[p]=pv:=by rw [List.getElem?_eq_getElem hpN] at gp;injection gp
      have gj':(M0 ++ pv :: x :: M2)[k]=x:=by rw [List.getElem?_eq_getElem hjN] at gj;injection gj
      have hset:((M0 ++ pv :: x :: M2).set k pv).set p x=M0 ++ x :: pv :: M2:=jgL M0 M2 pv x pv hpl hp.symm gp
      have HAT:Hid (∀ X,Below wr.heap.size wr X->(X.cell? ⟨g,p * 4,none⟩=some (.int .i64 pv.id)/\X.cell? ⟨g,p * 4 + 1,none⟩=some (.int .i64 pv.ten)/\X.cell? ⟨g,p * 4 + 2,none⟩=some (.int .i64 pv.blocks)/\X.cell? ⟨g,p * 4 + 3,none⟩=some (.int .i64 pv.base))/\(X.cell? ⟨g,k * 4,none⟩=some (.int .i64 x.id)/\X.cell? ⟨g,k * 4 + 1,none⟩=some (.int .i64 x.ten)/\X.cell? ⟨g,k * 4 + 2,none⟩=some (.int .i64 x.blocks)/\X.cell? ⟨g,k * 4 + 3,none⟩=some (.int .i64 x.base))):=fun X hb=>by
       have q:=HLATER.out _ _ _ _ _ SJ hb;have q1:=(HBAT.out _ _ _ _ q p hpN).1;have q2:=(HBAT.out _ _ _ _ q k hjN).1;rw [gp'] at q1;rw [gj'] at q2;exact ⟨⟨q1 0 _ rfl,q1 1 _ rfl,q1 2 _ rfl,q1 3 _ rfl⟩,⟨q2 0 _ rfl,q2 1 _ rfl,q2 2 _ rfl,q2 3 _ rfl⟩⟩
      have HALX:Hid (∀ Y,Below wr.heap.size wr Y->jaR w Y (some ⟨g1,0,none⟩) N1 c1 (some ⟨g,0,none⟩) (N + 1) c' A3 N3 c3 5 ra rb rc rd key):=fun Y hb=>(HBALL.out _ _ _ _ (HLATER.out _ _ _ _ _ SJ hb) hlM).1
      obtain ⟨⟨u0,u1,u2,u3⟩,⟨v0,v1,v2,v3⟩⟩:=HAT.out _ (Below.refl _ _)
      have ra1:IntKind.i64.wrap ((k:Int) - 1)=(p:Int):=by
       have e1:(k:Int) - 1=(p:Int):=by omega
       rw [e1];exact IntWalk.i64_in _ (by omega)
      have kg1:(k:Int) > 0:=by omega
      have gd:decide ((k:Int) > 0)=true:=decide_eq_true kg1;have pN:(p:Int) < ((N + 1:Nat):Int):=by omega
      have kN:(k:Int) < ((N + 1:Nat):Int):=by omega
      have pN1:(p:Int) < (N:Int) + 1:=by omega
      have kN1:(k:Int) < (N:Int) + 1:=by omega
      have p0:(0:Int)<=(p:Int):=by omega
      have k0:(0:Int)<=(k:Int):=by omega
      have HSJ:=Lib.hid SJ
      have hle:∀ z∈M0 ++ [pv],z.id<=pv.id:=by
       have ha:=HAS.out;rw [<- hM] at ha;have ha2:=(List.pairwise_append.1 ha).1;intro z hz;rcases List.mem_append.1 hz with hz | hz
       ·exact (List.pairwise_append.1 ha2).2.2 z hz pv (by simp)
       ·rw [List.mem_singleton] at hz;subst hz;exact Int.le_refl _
      by_cases hneg:x.id < pv.id
      ·have gz:decide (x.id < pv.id)=true:=decide_eq_true hneg
       have HNX:Hid (∃ Ma Mb:List Vol,M0 ++ x :: pv :: M2=Ma ++ x :: Mb/\Ma.length=p/\Ma ++ Mb=L/\∀ z∈Mb,x.id < z.id):=by
        refine ⟨M0,pv :: M2,rfl,hpl.symm,by rw [<- hM];simp,fun z hz=>?_⟩;rcases List.mem_cons.1 hz with rfl | hz
        ·exact hneg
        ·exact h2 z hz
       have HSET:=Lib.hid hset;have HPN:Hid (p < (M0 ++ pv :: x :: M2).length/\k < (M0 ++ pv :: x :: M2).length/\(M0 ++ pv :: x :: M2).length=N + 1):=⟨hpN,hjN,hlM⟩;have HPK:=Lib.hid hp;obtain ⟨LL,hLL⟩:∃ LL,LL=M0 ++ pv :: x :: M2:=⟨_,rfl⟩;rw [<- hLL] at HPN HSJ HSET;clear HI SJ hM h2 hj eshape gp gj gp' gj' hset hle hpl hpN hjN hlM hp hLL HIN HAS
       go_wp2_with fail
       go_quiet (fail)
       obtain ⟨Y,hY⟩:∃ Y,Y=wr.drewN nq:=⟨_,rfl⟩;have hbY:Below wr.heap.size wr Y:=by rw [hY];exact jaz (Below.refl _ _) nq
       rw [<- hY]
       have HBX:Hid (∀ X,Below Y.heap.size Y X->X.cell? ⟨w.heap.size,1,none⟩=some (.slice (some ⟨g,0,none⟩) (N + 1) c')):=fun X hb=>by
        obtain ⟨y0,y1,y2,r0,r1,r2,r3,r4,r5,s0,s1,s2,sf0,sf1,sf2,pf0,pf1⟩:=HALX.out _ (jaa hbY hb);assumption
       clear hY
       go_wp2_with fail
       refine wp_region_held_drew (S:=(fun W=>W.cell? ⟨w.heap.size,1,none⟩=some (.slice (some ⟨g,0,none⟩) (N + 1) c'))) (by kernel_rfl) (HBX.out _ (Below.refl _ _).drew) (fun hHeld=>?_);obtain ⟨Z,hZ⟩:∃ Z,Z=Y.drew:=⟨_,rfl⟩;have hYZ:Below Y.heap.size Y Z:=by rw [hZ];exact (Below.refl _ _).drew
       rw [<- hZ] at hHeld ⊢;clear hZ;refine tk 0 161 ?_
       (try simp only [Act.put,tk1,tk2,tk3])
       refine tk 1 162 ?_
       (try simp only [Act.put,tk1,tk2,tk3])
       refine tk 2 163 ?_
       (try simp only [Act.put,tk1,tk2,tk3])
       refine tk 3 164 ?_
       (try simp only [Act.put,tk1,tk2,tk3])
       refine tk 4 165 ?_
       (try simp only [Act.put,tk1,tk2,tk3])
       refine tk 5 166 ?_
       (try simp only [Act.put,tk1,tk2,tk3])
       refine tk 6 167 ?_
       (try simp only [Act.put,tk1,tk2,tk3])
       refine tk 7 168 ?_
       (try simp only [Act.put,tk1,tk2,tk3])
       refine tk 8 169 ?_
       (try simp only [Act.put,tk1,tk2,tk3])
       refine tk 9 170 ?_
       (try simp only [Act.put,tk1,tk2,tk3])
       refine tk 10 171 ?_
       (try simp only [Act.put,tk1,tk2,tk3])
       refine tk 11 172 ?_
       (try simp only [Act.put,tk1,tk2,tk3])
       refine tk 13 174 ?_
       (try simp only [Act.put,tk1,tk2,tk3])
       refine tk 14 175 ?_
       (try simp only [Act.put,tk1,tk2,tk3])
       refine tk 15 176 ?_
       (try simp only [Act.put,tk1,tk2,tk3])
       refine tk 16 177 ?_
       (try simp only [Act.put,tk1,tk2,tk3])
       have hbZ:=jaa hbY hYZ;obtain ⟨⟨u0,u1,u2,u3⟩,⟨v0,v1,v2,v3⟩⟩:=HAT.out _ hbZ;have HBZ:=Lib.hid (HLATER.out _ _ _ _ _ HSJ.out hbZ);obtain ⟨d2,hown,hmk⟩:=HBOWN.out _ _ _ _ HBZ.out;have HOWN:=Lib.hid hown;have HMK:=Lib.hid hmk;have HXV:Hid (#[.int .i64 x.id,.int .i64 x.ten,.int .i64 x.blocks,.int .i64 x.base]=(jb1 x).toArray):=rfl;have HPV:Hid (#[.int .i64 pv.id,.int .i64 pv.ten,.int .i64 pv.blocks,.int .i64 pv.base]=(jb1 pv).toArray):=rfl;clear hown hmk;refine wpAnyH_ready (rs:=[12,17]) (by kernel_rfl) (by simp) ?_;refine AllReadyH.cons (o:=_) rfl (fun K hK=>?_) (AllReadyH.cons (o:=_) rfl (fun K hK=>?_) (AllReadyH.nil))
       ·go_simp
        refine hK.out _ _ (by assumption) (fun hHeldA=>?_)
        (try simp only [Act.put,tk1,tk2,tk3])
        clear hK K;refine wpAnyH_ready (rs:=[17]) (by kernel_rfl) (by simp) ?_;refine AllReadyH.cons (o:=_) rfl (fun K hK=>?_) (AllReadyH.nil)
        go_simp
        refine hK.out _ _ (by assumption) (fun hHeldB=>?_)
        (try simp only [Act.put,tk1,tk2,tk3])
        clear hK K;refine tk 18 179 ?_
        (try simp only [Act.put,tk1,tk2,tk3])
        refine wpAnyH_ready (rs:=[19]) (by kernel_rfl) (by simp) ?_;refine AllReadyH.cons (o:=_) rfl (fun K hK=>?_) (AllReadyH.nil);refine jcH rfl 82 _ _ rfl jaG jbQ HOWN.out rfl rfl HPN.out.2.1 _ ?_ pv rfl _ ?_ rfl Tryz.infVS ?_
        ·first | rfl | (simp;done) | omega
        ·exact HPV.out
        intro Z1 ho1 hg1;have HB1:=Lib.hid (HMK.out _ _ (by simp) ho1 hg1);clear ho1 hg1;refine hK.out _ _ (HBALL.out _ _ _ _ HB1.out (by rw [List.length_set];exact HPN.out.2.2)).1.2.1 (fun hHeld1=>?_);clear hK K;refine tk 20 180 ?_
        (try simp only [Act.put,List.setIfInBounds_toArray])
        obtain ⟨d3,hown3,hmk3⟩:=HBOWN.out _ _ _ _ HB1.out;have HMK3:=Lib.hid hmk3;have HOWN3:=Lib.hid hown3;clear hmk3 hown3;refine wpAnyH_ready (rs:=[21]) (by kernel_rfl) (by simp) ?_;refine AllReadyH.cons (o:=_) rfl (fun K hK=>?_) (AllReadyH.nil);refine jcH rfl 82 _ _ rfl jaG jbQ HOWN3.out rfl rfl (by rw [List.length_set];exact HPN.out.1) _ ?_ x rfl _ ?_ rfl Tryz.infVS ?_
        ·first | rfl | (simp;done) | omega
        ·exact HXV.out
        intro Z2 ho2 hg2;have HB2x:=HMK3.out _ _ (by simp) ho2 hg2;clear ho2 hg2;have hHd2:=(HBALL.out _ _ _ _ HB2x (by rw [List.length_set,List.length_set];exact HPN.out.2.2)).1.2.1;rw [HSET.out] at HB2x
        have S4:Hid (∃ Ma Mb:List Vol,BX (Ma ++ x :: Mb) g c' Z2/\Ma.length=p/\Ma ++ Mb=L/\∀ z∈Mb,x.id < z.id):=by
         obtain ⟨Ma,Mb,e1,e2,e3,e4⟩:=HNX.out;rw [e1] at HB2x;exact ⟨Ma,Mb,HB2x,e2,e3,e4⟩
        refine hK.out _ _ hHd2 (fun hHeld2=>?_);clear hK K hHd2 HB2x;refine wpAnyH_done (by kernel_rfl) ?_ _;have hpk:=HPK.out;clear u0 u1 u2 u3 v0 v1 v2 v3 HPK hHeld hHeld1 hHeld2;go_wp2;go_roundw
        case rel=>first | exact ⟨p,by omega,by go_num,S4⟩ | ((repeat apply Exists.intro);exact ⟨⟨p,by omega,by go_num,S4⟩,rfl⟩)
        case measure=>simp [intOf];omega
       ·go_simp
        refine hK.out _ _ (by assumption) (fun hHeldA=>?_)
        (try simp only [Act.put,tk1,tk2,tk3])
        clear hK K;refine wpAnyH_ready (rs:=[12]) (by kernel_rfl) (by simp) ?_;refine AllReadyH.cons (o:=_) rfl (fun K hK=>?_) (AllReadyH.nil)
        go_simp
        refine hK.out _ _ (by assumption) (fun hHeldB=>?_)
        (try simp only [Act.put,tk1,tk2,tk3])
        clear hK K;refine tk 18 179 ?_
        (try simp only [Act.put,tk1,tk2,tk3])
        refine wpAnyH_ready (rs:=[19]) (by kernel_rfl) (by simp) ?_;refine AllReadyH.cons (o:=_) rfl (fun K hK=>?_) (AllReadyH.nil);refine jcH rfl 82 _ _ rfl jaG jbQ HOWN.out rfl rfl HPN.out.2.1 _ ?_ pv rfl _ ?_ rfl Tryz.infVS ?_
        ·first | rfl | (simp;done) | omega
        ·exact HPV.out
        intro Z1 ho1 hg1;have HB1:=Lib.hid (HMK.out _ _ (by simp) ho1 hg1);clear ho1 hg1;refine hK.out _ _ (HBALL.out _ _ _ _ HB1.out (by rw [List.length_set];exact HPN.out.2.2)).1.2.1 (fun hHeld1=>?_);clear hK K;refine tk 20 180 ?_
        (try simp only [Act.put,List.setIfInBounds_toArray])
        obtain ⟨d3,hown3,hmk3⟩:=HBOWN.out _ _ _ _ HB1.out;have HMK3:=Lib.hid hmk3;have HOWN3:=Lib.hid hown3;clear hmk3 hown3;refine wpAnyH_ready (rs:=[21]) (by kernel_rfl) (by simp) ?_;refine AllReadyH.cons (o:=_) rfl (fun K hK=>?_) (AllReadyH.nil);refine jcH rfl 82 _ _ rfl jaG jbQ HOWN3.out rfl rfl (by rw [List.length_set];exact HPN.out.1) _ ?_ x rfl _ ?_ rfl Tryz.infVS ?_
        ·first | rfl | (simp;done) | omega
        ·exact HXV.out
        intro Z2 ho2 hg2;have HB2x:=HMK3.out _ _ (by simp) ho2 hg2;clear ho2 hg2;have hHd2:=(HBALL.out _ _ _ _ HB2x (by rw [List.length_set,List.length_set];exact HPN.out.2.2)).1.2.1;rw [HSET.out] at HB2x
        have S4:Hid (∃ Ma Mb:List Vol,BX (Ma ++ x :: Mb) g c' Z2/\Ma.length=p/\Ma ++ Mb=L/\∀ z∈Mb,x.id < z.id):=by
         obtain ⟨Ma,Mb,e1,e2,e3,e4⟩:=HNX.out;rw [e1] at HB2x;exact ⟨Ma,Mb,HB2x,e2,e3,e4⟩
        refine hK.out _ _ hHd2 (fun hHeld2=>?_);clear hK K hHd2 HB2x;refine wpAnyH_done (by kernel_rfl) ?_ _;have hpk:=HPK.out;clear u0 u1 u2 u3 v0 v1 v2 v3 HPK hHeld hHeld1 hHeld2;go_wp2;go_roundw
        case rel=>first | exact ⟨p,by omega,by go_num,S4⟩ | ((repeat apply Exists.intro);exact ⟨⟨p,by omega,by go_num,S4⟩,rfl⟩)
        case measure=>simp [intOf];omega
      ·have gz:decide (x.id < pv.id)=false:=decide_eq_false hneg;have HEQ:=Lib.hid (HIN.out (M0 ++ [pv]) M2 hM h2 (fun z hz=>by have:=hle z hz;omega))
       have HYF:Hid (∀ Y,Below wr.heap.size wr Y->jaR w Y (some ⟨g1,0,none⟩) N1 c1 (some ⟨g,0,none⟩) (N + 1) c' A3 N3 c3 5 ra rb rc rd key/\ja6 lo w V0 Y (some ⟨g1,0,none⟩) N1 c1 (some ⟨g,0,none⟩) (N + 1) c' A3 N3 c3 { t with vs:=jcj Vol.id x L }):=fun Y hb=>by
        have q:=HBALL.out _ _ _ _ (HLATER.out _ _ _ _ _ SJ hb) hlM;rw [<- HEQ.out,eshape];exact q
       clear HI SJ hM h2 hj eshape gp gj gp' gj' hset hle hpl hpN hjN hlM hp HIN HAS HEQ HBALL HBAT HBOWN HLATER hneg HSJ HALX HAT
       go_wp2_with fail
       go_quiet (fail)
       have hbx:=jaz (Below.refl wr.heap.size wr) nq;obtain ⟨y0,y1,y2,r0,r1,r2,r3,r4,r5,s0,s1,s2,sf0,sf1,sf2,pf0,pf1⟩:=(HYF.out _ hbx).1;go_wp2;have hr:=(HYF.out _ hbx).2;refine bodyPost_ret (jab rfl _ _ (w.heap.size + 1 + 1) _ _ _ _ rfl hr.1 Tryz.underlying35 rfl (by kernel_rfl)) rfl ?_;rw [HE.out];exact hr.2 0 _ rfl
     ·have hk:k=0:=by omega
      subst hk;have hM1:M1=[]:=List.eq_nil_of_length_eq_zero hj;subst hM1;have HEQ:=Lib.hid (HIN.out [] M2 hM h2 (by simp))
      have HYF:Hid (∀ Y,Below wr.heap.size wr Y->jaR w Y (some ⟨g1,0,none⟩) N1 c1 (some ⟨g,0,none⟩) (N + 1) c' A3 N3 c3 5 ra rb rc rd key/\ja6 lo w V0 Y (some ⟨g1,0,none⟩) N1 c1 (some ⟨g,0,none⟩) (N + 1) c' A3 N3 c3 { t with vs:=jcj Vol.id x L }):=fun Y hb=>by
       have q:=HBALL.out _ _ _ _ (HLATER.out _ _ _ _ _ SJ hb) hlM;rw [<- HEQ.out];exact q
      clear HI SJ hj hM h2 hlM HIN HEQ HBALL HBAT HBOWN HLATER HAS hk0
      go_wp2_with fail
      go_quiet (fail)
      have hbx:=jaz (Below.refl wr.heap.size wr) nq;obtain ⟨y0,y1,y2,r0,r1,r2,r3,r4,r5,s0,s1,s2,sf0,sf1,sf2,pf0,pf1⟩:=(HYF.out _ hbx).1;go_wp2;have hr:=(HYF.out _ hbx).2;refine bodyPost_ret (jab rfl _ _ (w.heap.size + 1 + 1) _ _ _ _ rfl hr.1 Tryz.underlying35 rfl (by kernel_rfl)) rfl ?_;rw [HE.out];exact hr.2 0 _ rfl
   ·have HE:Hid (jd0 t ⟨5,ra,rb,rc,rd,key⟩=(10,t)):=by show _=_;rw [H1,if_pos rfl]
    rw [HE.out];clear h hl hs S0 hW0 n1 n2 n3 hlj hat he hlt hj HE H1 hth hx hNN hX1 hxd HGROW HBALL HBAT HBOWN HBXD HLATER hi hz0 hz1 hz2;go_enter Tryz.func30,Tryz.ntmps30
    go_wp2_with (first
     | (rw [<- HW0.out];clear HW0)
     | (go_at_call 46;with_reducible (refine Calls.mono (HTE.out _ HB0.out) ?_);rintro e w1 ⟨rfl,hb1⟩;obtain ⟨y0,y1,y2,r0,r1,r2,r3,r4,r5,s0,s1,s2,sf0,sf1,sf2,pf0,pf1⟩:=HALL.out _ hb1)
     | (go_at_call 49;with_reducible (refine Calls.mono (HVO.out _ hb1) ?_);rintro e w2 ⟨rfl,hb2⟩;have hbx:=jaa hb1 hb2;obtain ⟨y0,y1,y2,r0,r1,r2,r3,r4,r5,s0,s1,s2,sf0,sf1,sf2,pf0,pf1⟩:=HALL.out _ hbx;have x5:=HX.out _ hbx))
    have hr:=HFIN.out _ hbx;refine bodyPost_ret (jab rfl _ _ (w.heap.size + 1 + 1) _ _ _ _ rfl hr.1 Tryz.underlying35 rfl (by kernel_rfl)) rfl ?_;exact hr.2 10 _ rfl
  ·rw [jdU hlt] at HTE
   have HE:Hid (jd0 t ⟨5,ra,rb,rc,rd,key⟩=(4,t)):=by
    show _=_;unfold jd0;rw [if_neg hth,hat]
   rw [HE.out];clear h hl hs S0 hW0 n1 n2 n3 hlj hat hlt HE hth hx hNN HGROW HBALL HBAT HBOWN HBXD HLATER hi hz0 hz1 hz2;go_enter Tryz.func30,Tryz.ntmps30
   go_wp2_with (first
    | (rw [<- HW0.out];clear HW0)
    | (go_at_call 46;with_reducible (refine Calls.mono (HTE.out _ HB0.out) ?_);rintro e w1 ⟨rfl,hb1⟩;obtain ⟨y0,y1,y2,r0,r1,r2,r3,r4,r5,s0,s1,s2,sf0,sf1,sf2,pf0,pf1⟩:=HALL.out _ hb1)
    | (go_at_call 49;with_reducible (refine Calls.mono (HVO.out _ hb1) ?_);rintro e w2 ⟨rfl,hb2⟩;have hbx:=jaa hb1 hb2;obtain ⟨y0,y1,y2,r0,r1,r2,r3,r4,r5,s0,s1,s2,sf0,sf1,sf2,pf0,pf1⟩:=HALL.out _ hbx))
   have hr:=HFIN.out _ hbx;refine bodyPost_ret (jab rfl _ _ (w.heap.size + 1 + 1) _ _ _ _ rfl hr.1 Tryz.underlying35 rfl (by kernel_rfl)) rfl ?_;exact hr.2 4 _ rfl
end Go.Proofs.YtbnhkplhmanmoaaGreat
