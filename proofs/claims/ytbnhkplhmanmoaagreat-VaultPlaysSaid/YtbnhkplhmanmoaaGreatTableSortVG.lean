/- . -/
import Derived.Test.YtbnhkplhmanmoaaGreatTableSortTG
import Derived.Test.YtbnhkplhmanmoaaGreatTableC12G
import Derived.BigQuiet
import Derived.Shelf.RegionOpenPlain
import Derived.Deep.AppendLies
namespace Go.Proofs.YtbnhkplhmanmoaaGreat
open Go.RowKit
set_option maxHeartbeats 6400000
set_option maxRecDepth 20000
theorem Tryz.infVS:(Tryz.prog.info? 82).map (·.size)=some 4:=by kernel_rfl
structure RwV (lo g N c:Nat) (w:World) (L:List Vol) (wr:World):Prop where
 own:wr.ownsRow lo 82 4 (.slice (some ⟨g,0,none⟩) N c) N (jaE jb1 L)
 grown:w.grownBy wr (some g)
 len:N=L.length
section
variable {lo g N c:Nat} {w wr X:World} {L:List Vol}
theorem RwV.below (h:RwV lo g N c w L wr) (hb:Below wr.heap.size wr X):RwV lo g N c w L X:=⟨jcn h.own hb,h.grown.trans (jaJ hb _),h.len⟩
theorem RwV.at_ (h:RwV lo g N c w L wr) {k:Nat} (hk:k < L.length):wr.cell? ⟨g,k * 4,none⟩=some (.int .i64 L[k].id)/\wr.cell? ⟨g,k * 4 + 1,none⟩=some (.int .i64 L[k].ten)/\wr.cell? ⟨g,k * 4 + 2,none⟩=some (.int .i64 L[k].blocks)/\wr.cell? ⟨g,k * 4 + 3,none⟩=some (.int .i64 L[k].base):=by
 obtain ⟨g2,hA2,_,_,_,hc,_⟩:=jb2 jaG h.own h.len hk;have:g2=g:=by injection hA2 with q;injection q with q;exact q.symm
 subst this;exact ⟨hc 0 _ rfl,hc 1 _ rfl,hc 2 _ rfl,hc 3 _ rfl⟩
theorem RwV.frz (h:RwV lo g N c w L wr) {k:Nat} (hk:k < L.length) (i:Nat):wr.frozen? ⟨g,i,none⟩=false:=by
 obtain ⟨g2,hA2,_,_,_,_,hf⟩:=jb2 jaG h.own h.len hk;have:g2=g:=by injection hA2 with q;injection q with q;exact q.symm
 subst this;exact hf i
theorem RwV.drew (h:RwV lo g N c w L wr):RwV lo g N c w L wr.drew:=h.below (Below.refl _ _).drew
theorem RwV.put (h:RwV lo g N c w L wr) {W:World} {L2:List Vol} (ho:W.ownsRow lo 82 4 (.slice (some ⟨g,0,none⟩) N c) N (jaE jb1 L2)) (hg:wr.grownBy W (some g)) (hl:L2.length=L.length):RwV lo g N c w L2 W:=⟨ho,h.grown.trans hg,h.len.trans hl.symm⟩
end
theorem jiL (lo g N c:Nat) (fn:FuncId) (L0:List Vol) (w:World) (hR:RwV lo g N c w L0 w) (h12:N<=12) (he:∀ args w,(callFunc fn args).run Tryz.prog w=.ok (.enter fn args) w)
  (hc:∀ x∈L0,∀ y∈L0,∀ W,Calls Tryz.prog fn #[.agg (jcJ x),.agg (jcJ y)] W fun e w'=>e=.returned (.int .i64 (x.id - y.id))/\Below W.heap.size W w') :
  Calls Tryz.prog 158 #[.slice (some ⟨g,0,none⟩) N c,.int .i64 0,.int .i64 N,.func (.func fn) #[] #[]] w fun e w'=>e=.returned (.tuple #[])/\RwV lo g N c w (jcW Vol.id L0) w':=by
 have hlen:=hR.len;have HLN:Hid (N=L0.length):=hlen
 have H0:Hid (RwV lo g N c w (jcW Vol.id (L0.take (min 1 N)) ++ L0.drop (min 1 N)) w):=by
  unfold Hid;rcases Nat.lt_or_ge 0 N with h | h
  ·rw [Nat.min_eq_left h];cases L0 with
   | nil=>simp at hlen;omega
   | cons x l=>exact hR
  ·have h0:N=0:=by omega
   have hnil:L0=[]:=List.eq_nil_of_length_eq_zero (by omega);subst hnil;have e:jcW Vol.id (([]:List Vol).take (min 1 N)) ++ ([]:List Vol).drop (min 1 N)=[]:=by simp [jcW]
   rw [e];exact hR
 have HCC:=Lib.hid hc;have eg:=he;clear hc hR hlen;go_enter Tryz.func158,Tryz.ntmps158;go_wp2
 go_loopw [8] (fun v wr=>∃ i:Nat,1<=i/\i<=N + 1/\v=.int .i64 i/\Hid (RwV lo g N c w (jcW Vol.id (L0.take (min i N)) ++ L0.drop (min i N)) wr)) (fun v _=>N + 1 - (intOf v).toNat)
 case atStart=>exact ⟨1,Nat.le_refl _,by omega,rfl,H0⟩
 case round =>
  clear H0;obtain ⟨i,hi1,hiN,rfl,S1⟩:=hrel;by_cases hlt:i < N
  ·have k1:(i:Int) < (N:Int):=by omega
   have hil:i < L0.length:=by have:=HLN.out;omega
   obtain ⟨y,hy⟩:∃ y,y=L0[i]:=⟨_,rfl⟩;obtain ⟨R,hRr⟩:∃ R,R=L0.drop (i + 1):=⟨_,rfl⟩;obtain ⟨T,hT⟩:∃ T,T=jcW Vol.id (L0.take i):=⟨_,rfl⟩;have hdrop:L0.drop i=y :: R:=by rw [hy,hRr];exact List.drop_eq_getElem_cons hil
   have hym:y∈L0:=by rw [hy];exact List.getElem_mem hil
   have hTm:∀ z∈T,z∈L0:=fun z hz=>by rw [hT,jjH] at hz;exact List.mem_of_mem_take hz
   have hTl:T.length=i:=by rw [hT,je9,List.length_take];omega
   have hTa:jmS Vol.id T:=by rw [hT];exact jjL _ _
   have hnext:jcW Vol.id (L0.take (min (i + 1) N)) ++ L0.drop (min (i + 1) N)=jcj Vol.id y T ++ R:=by
    rw [Nat.min_eq_left (by omega),List.take_succ_eq_append_getElem hil,jce,<- hT,<- hy,<- hRr]
   have HI:Hid (∃ M1 M2:List Vol,RwV lo g N c w (M1 ++ y :: (M2 ++ R)) wr/\M1.length=i/\M1 ++ M2=T/\∀ z∈M2,y.id < z.id):=⟨T,[],by
    have h:=S1.out;rw [Nat.min_eq_left (by omega),<- hT,hdrop] at h;exact h,hTl,List.append_nil _,by simp⟩
   have HO:Hid (∀ (M1 M2:List Vol) W,M1 ++ M2=T->(∀ z∈M2,y.id < z.id)->(∀ z∈M1,z.id<=y.id)->RwV lo g N c w (M1 ++ y :: (M2 ++ R)) W->RwV lo g N c w (jcW Vol.id (L0.take (min (i + 1) N)) ++ L0.drop (min (i + 1) N)) W):=fun M1 M2 W hM h2 h1 hW=>by
    have e:M1 ++ y :: (M2 ++ R)=jcj Vol.id y T ++ R:=by
     rw [<- hM,<- jeh Vol.id (by rw [hM];exact hTa) h2 h1];simp
    rw [hnext,<- e];exact hW
   have HASC:=Lib.hid hTa;have HYM:=Lib.hid hym;have HTM:=Lib.hid hTm;have hcl:∀ z∈T,∀ W,Calls Tryz.prog fn #[.agg (jcJ y),.agg (jcJ z)] W fun e w'=>e=.returned (.int .i64 (y.id - z.id))/\Below W.heap.size W w':=fun z hz W=>HCC.out y hym z (hTm z hz) W
   have HCL:=Lib.hid hcl;clear hy hRr hT hdrop hnext hTl hTa hym hTm hcl S1;go_wp2
   go_loopw [9] (fun v wr=>∃ j:Nat,j<=i/\v=.int .i64 j/\Hid (∃ M1 M2:List Vol,RwV lo g N c w (M1 ++ y :: (M2 ++ R)) wr/\M1.length=j/\M1 ++ M2=T/\∀ z∈M2,y.id < z.id)) (fun v _=>(intOf v).toNat)
   case atStart=>exact ⟨i,Nat.le_refl _,rfl,HI⟩
   case round =>
    clear HI;obtain ⟨j,hji,rfl,HI⟩:=hrel;obtain ⟨M1,M2,SJ,hj,hM,h2⟩:=HI.out;by_cases hja:0 < j
    ·obtain ⟨M0,pv,rfl⟩:∃ M0 pv,M1=M0 ++ [pv]:=⟨M1.dropLast,M1.getLast (by intro e;subst e;simp at hj;omega),(List.dropLast_concat_getLast _).symm⟩;have hpT:pv∈T:=by rw [<- hM];simp
     have hcp:=HCL.out pv hpT;obtain ⟨p,hp⟩:∃ p,p + 1=j:=⟨j - 1,by omega⟩;have hpl:p=M0.length:=by rw [List.length_append] at hj;simp at hj;omega
     have eshape:M0 ++ [pv] ++ y :: (M2 ++ R)=M0 ++ pv :: y :: (M2 ++ R):=by simp
     rw [eshape] at SJ;have hLl:(M0 ++ pv :: y :: (M2 ++ R)).length=N:=SJ.len.symm;have hpN:p < (M0 ++ pv :: y :: (M2 ++ R)).length:=by rw [List.length_append,List.length_cons];omega
     have hjN:j < (M0 ++ pv :: y :: (M2 ++ R)).length:=by rw [List.length_append,List.length_cons,List.length_cons];omega
     have gp:(M0 ++ pv :: y :: (M2 ++ R))[p]? = some pv:=by rw [hpl,List.getElem?_append_right (Nat.le_refl _),Nat.sub_self];rfl
     have gj:(M0 ++ pv :: y :: (M2 ++ R))[j]? = some y:=by rw [<- hp,hpl,List.getElem?_append_right (by omega),show M0.length + 1 - M0.length=1 by omega];rfl
     have gp':(M0 ++ pv :: y :: (M2 ++ R))[p]=pv:=by rw [List.getElem?_eq_getElem hpN] at gp;injection gp
     have gj':(M0 ++ pv :: y :: (M2 ++ R))[j]=y:=by rw [List.getElem?_eq_getElem hjN] at gj;injection gj
     have hset:((M0 ++ pv :: y :: (M2 ++ R)).set j pv).set p y=M0 ++ y :: pv :: (M2 ++ R):=jgL M0 (M2 ++ R) pv y pv hpl hp.symm gp;obtain ⟨q,hq⟩:∃ q,q=p * 4:=⟨_,rfl⟩;have hq2:j * 4=q + 4:=by rw [<- hp,hq];omega
     have HAT:Hid (∀ X,Below wr.heap.size wr X->(X.cell? ⟨g,q,none⟩=some (.int .i64 pv.id)/\X.cell? ⟨g,q + 1,none⟩=some (.int .i64 pv.ten)/\X.cell? ⟨g,q + 2,none⟩=some (.int .i64 pv.blocks)/\X.cell? ⟨g,q + 3,none⟩=some (.int .i64 pv.base))/\(X.cell? ⟨g,q + 4,none⟩=some (.int .i64 y.id)/\X.cell? ⟨g,q + 5,none⟩=some (.int .i64 y.ten)/\X.cell? ⟨g,q + 6,none⟩=some (.int .i64 y.blocks)/\X.cell? ⟨g,q + 7,none⟩=some (.int .i64 y.base))):=fun X hb=>by
      have q1:=(SJ.below hb).at_ hpN;have q2:=(SJ.below hb).at_ hjN;rw [gp',<- hq] at q1;rw [gj',hq2] at q2;exact ⟨q1,q2⟩
     have HFZ:Hid (∀ X,Below wr.heap.size wr X->X.frozen? ⟨g,q,none⟩=false/\X.frozen? ⟨g,q + 1,none⟩=false/\X.frozen? ⟨g,q + 2,none⟩=false/\X.frozen? ⟨g,q + 3,none⟩=false/\X.frozen? ⟨g,q + 4,none⟩=false/\X.frozen? ⟨g,q + 5,none⟩=false/\X.frozen? ⟨g,q + 6,none⟩=false/\X.frozen? ⟨g,q + 7,none⟩=false):=fun X hb=>by
      have f:=(SJ.below hb).frz hpN;exact ⟨f _,f _,f _,f _,f _,f _,f _,f _⟩
     have HPUT:Hid (∀ X,Below wr.heap.size wr X->RwV lo g N c w (((M0 ++ pv :: y :: (M2 ++ R)).set j pv).set p y) (((((((((X.setCell ⟨g,q + 4,none⟩ (.int .i64 pv.id)).setCell ⟨g,q + 5,none⟩ (.int .i64 pv.ten)).setCell ⟨g,q + 6,none⟩ (.int .i64 pv.blocks)).setCell ⟨g,q + 7,none⟩ (.int .i64 pv.base)).setCell ⟨g,q,none⟩ (.int .i64 y.id)).setCell ⟨g,q + 1,none⟩ (.int .i64 y.ten)).setCell ⟨g,q + 2,none⟩ (.int .i64 y.blocks)).setCell ⟨g,q + 3,none⟩ (.int .i64 y.base))).drew):=fun X hb=>by
      have s1:=(SJ.below hb);have s2:=s1.put (jdV jaG s1.own rfl s1.len hjN pv) (jal X g (j * 4) (jb1 pv)) (by simp);have s3:=s2.put (jdV jaG s2.own rfl s2.len (by simpa using hpN) y) (jal _ g (p * 4) (jb1 y)) (by simp);rw [hq2,<- hq] at s3;exact s3.drew
     have hq3:p * 4=q:=hq.symm
     have hle:∀ z∈M0 ++ [pv],z.id<=pv.id:=by
      have ha:=HASC.out;rw [<- hM] at ha;have ha2:=(List.pairwise_append.1 ha).1;intro z hz;rcases List.mem_append.1 hz with hz | hz
      ·exact (List.pairwise_append.1 ha2).2.2 z hz pv (by simp)
      ·rw [List.mem_singleton] at hz;subst hz;exact Int.le_refl _
     have HEXIT:Hid (pv.id<=y.id->∀ X,Below wr.heap.size wr X->RwV lo g N c w (jcW Vol.id (L0.take (min (i + 1) N)) ++ L0.drop (min (i + 1) N)) X):=fun hpy X hb =>
      HO.out (M0 ++ [pv]) M2 X hM h2 (fun z hz=>by have:=hle z hz;omega) (by rw [eshape];exact SJ.below hb)
     have HSWAP:Hid (y.id < pv.id->∀ W,RwV lo g N c w (((M0 ++ pv :: y :: (M2 ++ R)).set j pv).set p y) W->∃ M1 M2:List Vol,RwV lo g N c w (M1 ++ y :: (M2 ++ R)) W/\M1.length=p/\M1 ++ M2=T/\∀ z∈M2,y.id < z.id):=fun hyp W hW=>by
      rw [hset] at hW;refine ⟨M0,pv :: M2,hW,hpl.symm,by rw [<- hM];simp,fun z hz=>?_⟩;rcases List.mem_cons.1 hz with rfl | hz
      ·exact hyp
      ·exact h2 z hz
     have SJH:=Lib.hid SJ;obtain ⟨L,hL⟩:∃ L,L=M0 ++ pv :: y :: (M2 ++ R):=⟨_,rfl⟩;rw [<- hL] at hLl hpN hjN SJH HSWAP HPUT;have e1:(j:Int) - 1=(p:Int):=by omega
     have ra:IntKind.i64.wrap ((j:Int) - 1)=(p:Int):=by rw [e1];exact IntWalk.i64_in _ (by omega)
     have g1:(j:Int) > 0:=by omega
     have gd:decide ((j:Int) > 0)=true:=decide_eq_true g1;have pN:(p:Int) < (N:Int):=by omega
     have jN:(j:Int) < (N:Int):=by omega
     have p0:(0:Int)<=(p:Int):=by omega
     have j0:(0:Int)<=(j:Int):=by omega
     have hHL:Hid (p < L.length/\j < L.length/\N=L.length/\L.length=N):=⟨hpN,hjN,hLl.symm,hLl⟩;obtain ⟨z,hz⟩:∃ z,z=y.id - pv.id:=⟨_,rfl⟩;rw [<- hz] at hcp;have HCP:=Lib.hid hcp;have HZ:Hid ((z < 0->y.id < pv.id)/\(¬ z < 0->pv.id<=y.id)):=⟨fun q=>by omega,fun q=>by omega⟩;have HPJ:=Lib.hid hp;clear HI SJ hM h2 hj eshape gp gj gp' gj' hset hle hL hLl hpN hjN hz hcp HCL HO HASC HYM HTM HCC HLN hpl hpT e1 hp hq;have HYV:Hid (jcJ y=#[.int .i64 y.id,.int .i64 y.ten,.int .i64 y.blocks,.int .i64 y.base]):=rfl;have HPV:Hid (jcJ pv=#[.int .i64 pv.id,.int .i64 pv.ten,.int .i64 pv.blocks,.int .i64 pv.base]):=rfl;rw [HYV.out,HPV.out] at HCP;have HCY:Hid (#[.int .i64 y.id,.int .i64 y.ten,.int .i64 y.blocks,.int .i64 y.base]=(jb1 y).toArray):=rfl;have HCPV:Hid (#[.int .i64 pv.id,.int .i64 pv.ten,.int .i64 pv.blocks,.int .i64 pv.base]=(jb1 pv).toArray):=rfl;by_cases hneg:z < 0
     ·have gz:decide (z < 0)=true:=decide_eq_true hneg;have hsw:=Lib.hid (HSWAP.out (HZ.out.1 hneg));clear HZ HSWAP HEXIT
      go_wp2_with fail
      have hbx:Below wr.heap.size wr wr.drew:=(Below.refl _ _).drew
      go_region_held3 (fun X=>(X.cell? ⟨g,q,none⟩=some (.int .i64 pv.id)/\X.cell? ⟨g,q + 1,none⟩=some (.int .i64 pv.ten)/\X.cell? ⟨g,q + 2,none⟩=some (.int .i64 pv.blocks)/\X.cell? ⟨g,q + 3,none⟩=some (.int .i64 pv.base))/\(X.cell? ⟨g,q + 4,none⟩=some (.int .i64 y.id)/\X.cell? ⟨g,q + 5,none⟩=some (.int .i64 y.ten)/\X.cell? ⟨g,q + 6,none⟩=some (.int .i64 y.blocks)/\X.cell? ⟨g,q + 7,none⟩=some (.int .i64 y.base)))
       (exact HAT.out _ hbx)
       (first
        | (go_at_fn fn;with_reducible (refine Calls.mono (HCP.out _) ?_);rintro e w3 ⟨rfl,hb3⟩;have hbx:Below wr.heap.size wr w3:=hbx.trans (hb3.mono hbx.size))
        | fail)
      obtain ⟨⟨xp0,xp1,xp2,xp3⟩,⟨xj0,xj1,xj2,xj3⟩⟩:=HAT.out _ hbx;obtain ⟨xf0,xf1,xf2,xf3,xf4,xf5,xf6,xf7⟩:=HFZ.out _ hbx;have S4:=Lib.hid (hsw.out _ (HPUT.out _ hbx));clear HAT SJH HFZ HPUT hsw
      go_wp2_with fail
      go_region;have hpj:=HPJ.out;clear xp0 xp1 xp2 xp3 xj0 xj1 xj2 xj3 xf0 xf1 xf2 xf3 xf4 xf5 xf6 xf7 hbx HPJ hq2 hq3;go_wp2;go_roundw
      case rel=>first | exact ⟨p,by omega,by go_num,S4.out⟩ | ((repeat apply Exists.intro);exact ⟨⟨p,by omega,by go_num,S4.out⟩,rfl⟩)
      case measure=>simp [intOf];omega
     ·have gz:decide (z < 0)=false:=decide_eq_false hneg;have hex:=Lib.hid (HEXIT.out (HZ.out.2 hneg));clear HZ HSWAP HEXIT HPUT HFZ SJH
      go_wp2_with fail
      have hbx:Below wr.heap.size wr wr.drew:=(Below.refl _ _).drew
      go_region_held3 (fun X=>(X.cell? ⟨g,q,none⟩=some (.int .i64 pv.id)/\X.cell? ⟨g,q + 1,none⟩=some (.int .i64 pv.ten)/\X.cell? ⟨g,q + 2,none⟩=some (.int .i64 pv.blocks)/\X.cell? ⟨g,q + 3,none⟩=some (.int .i64 pv.base))/\(X.cell? ⟨g,q + 4,none⟩=some (.int .i64 y.id)/\X.cell? ⟨g,q + 5,none⟩=some (.int .i64 y.ten)/\X.cell? ⟨g,q + 6,none⟩=some (.int .i64 y.blocks)/\X.cell? ⟨g,q + 7,none⟩=some (.int .i64 y.base)))
       (exact HAT.out _ hbx)
       (first
        | (go_at_fn fn;with_reducible (refine Calls.mono (HCP.out _) ?_);rintro e w3 ⟨rfl,hb3⟩;have hbx:Below wr.heap.size wr w3:=hbx.trans (hb3.mono hbx.size))
        | fail)
      have S4:=Lib.hid (hex.out _ hbx);clear HAT hex hbx HPJ hq2 hq3;go_wp2;go_roundw
      case rel=>first | exact ⟨i + 1,by omega,by omega,by go_num,S4.out⟩ | ((repeat apply Exists.intro);exact ⟨⟨i + 1,by omega,by omega,by go_num,S4.out⟩,rfl⟩)
      case measure=>simp [intOf];omega
    ·have hj0:j=0:=by omega
     subst hj0;have hM1:M1=[]:=List.eq_nil_of_length_eq_zero hj;subst hM1;have S2:Hid (∀ k,RwV lo g N c w (jcW Vol.id (L0.take (min (i + 1) N)) ++ L0.drop (min (i + 1) N)) (wr.drewN k)):=fun k=>HO.out [] M2 _ hM h2 (by simp) (SJ.below (jaz (Below.refl _ _) k))
     clear HI SJ hM h2 HO hj HCL HASC HYM HTM HCC HLN hja
     go_wp2_with fail
     go_quiet (fail)
     go_wp2;go_roundw
     case rel=>first | exact ⟨i + 1,by omega,by omega,by go_num,S2.out nq⟩ | ((repeat apply Exists.intro);exact ⟨⟨i + 1,by omega,by omega,by go_num,S2.out nq⟩,rfl⟩)
     case measure=>simp [intOf];omega
  ·have k1:¬ (i:Int) < (N:Int):=by omega
   have S2:=S1.out;rw [Nat.min_eq_right (by omega),HLN.out,List.take_length,List.drop_length,List.append_nil,<- HLN.out] at S2;have S3:=Lib.hid S2;clear S1 S2 HLN HCC;go_wp2
   go_end0
   exact ⟨rfl,S3.out⟩
theorem jpm (lo g N c:Nat) (fn:FuncId) (lim:Int) (L0:List Vol) (w:World) (hR:RwV lo g N c w L0 w) (h12:N<=12) (he:∀ args w,(callFunc fn args).run Tryz.prog w=.ok (.enter fn args) w)
  (hc:∀ x∈L0,∀ y∈L0,∀ W,Calls Tryz.prog fn #[.agg (jcJ x),.agg (jcJ y)] W fun e w'=>e=.returned (.int .i64 (x.id - y.id))/\Below W.heap.size W w') :
  Calls Tryz.prog 137 #[.slice (some ⟨g,0,none⟩) N c,.int .i64 0,.int .i64 N,.int .i64 lim,.func (.func fn) #[] #[]] w fun e w'=>e=.returned (.tuple #[])/\RwV lo g N c w (jcW Vol.id L0) w':=by
 have H:=Lib.hid (jiL lo g N c fn L0 w hR h12 he hc);have v:IntKind.i64.wrap ((N:Int) - 0)=(N:Int):=by rw [Int.sub_zero];exact IntWalk.i64_in _ (by omega)
 have k1:(N:Int)<=12:=by omega
 have hsub:(N:Int) - 0=N:=Int.sub_zero _;clear hR he hc h12;go_enter Tryz.func137,Tryz.ntmps137;go_wp2
 go_loopw [1,2] (fun a b wr=>a=.int .i64 0/\b=.int .i64 (N:Int)/\wr=w) (fun _ _ _=>0)
 case atStart=>exact ⟨rfl,rfl,rfl⟩
 case round =>
  obtain ⟨rfl,rfl,rfl⟩:=hrel
  go_wp2_with (go_at_call 158;with_reducible (refine Calls.mono H.out ?_);rintro e w1 ⟨rfl,h1⟩)
  exact bodyPost_ret (results_none rfl _ _ _) rfl ⟨rfl,h1⟩
theorem jne (lo g N c:Nat) (fn:FuncId) (L0:List Vol) (w:World) (hR:RwV lo g N c w L0 w) (h12:N<=12) (he:∀ args w,(callFunc fn args).run Tryz.prog w=.ok (.enter fn args) w)
  (hc:∀ x∈L0,∀ y∈L0,∀ W,Calls Tryz.prog fn #[.agg (jcJ x),.agg (jcJ y)] W fun e w'=>e=.returned (.int .i64 (x.id - y.id))/\Below W.heap.size W w') :
  Calls Tryz.prog 100 #[.slice (some ⟨g,0,none⟩) N c,.func (.func fn) #[] #[]] w fun e w'=>e=.returned (.tuple #[])/\RwV lo g N c w (jcW Vol.id L0) w':=by
 have H:=Lib.hid (fun lim=>jpm lo g N c fn lim L0 w hR h12 he hc);have HL:=Lib.hid (jfA N w h12)
 have v:IntKind.u64.wrap (N:Int)=(N:Int):=by
  show (N:Int) % 18446744073709551616=N;omega
 have k1:(N:Int) % 18446744073709551616=N:=by omega
 clear hR he hc h12;go_enter Tryz.func100,Tryz.ntmps100
 go_wp2_with (first
  | (go_at_call 132;with_reducible (refine Calls.mono HL.out ?_);rintro e w1 ⟨lim,rfl,rfl⟩)
  | (go_at_call 137;with_reducible (refine Calls.mono (H.out _) ?_);rintro e w2 ⟨rfl,h2⟩))
 go_end0
 exact ⟨rfl,h2⟩
theorem jnN (x y:Vol) (w:World) (h1:0<=x.id/\x.id<=7) (h2:0<=y.id/\y.id<=7) :
  Calls Tryz.prog 101 #[.agg (jcJ x),.agg (jcJ y)] w fun e w'=>e=.returned (.int .i64 (x.id - y.id))/\Below w.heap.size w w':=by
 have hb0:Below w.heap.size w (w.alloc (.cells (jcJ x) 82)):=(Below.refl _ _).alloc (Nat.le_refl _) _;have hb1:=hb0.alloc hb0.size (.cells (jcJ y) 82);obtain ⟨a0,a1,a2,a3⟩:=x;obtain ⟨b0,b1,b2,b3⟩:=y;simp only [jcJ] at h1 h2 hb1 ⊢;have v:IntKind.i64.wrap (a0 - b0)=a0 - b0:=IntWalk.i64_in _ (by omega);clear h1 h2 hb0;go_enter Tryz.func101,Tryz.ntmps101;go_wp2;go_ret;exact ⟨rfl,hb1⟩
theorem jnW {ts:List Ten} {x:Ten} (h:ts.Pairwise fun a b=>a.id < b.id):jcW Ten.id (ts ++ [x])=jcj Ten.id x ts:=by rw [jce,jfU Ten.id h]
theorem jfF {X:World} {p:Nat} {T:TypeId} {v0 v1 v2:Value} (x:Value) (h:X.heap[p]? = some (.cells #[v0,v1,v2] T (0,0))):(X.setCell ⟨p,0,none⟩ x).heap[p]? = some (.cells #[x,v1,v2] T (0,0))/\X.grownBy (X.setCell ⟨p,0,none⟩ x) (some p) :=
 ⟨by simp [World.setCell,Array.getElem?_modify,h],jal X p 0 [x]⟩
theorem jh8 {lo p:Nat} {w:World} {V:jat} {t:Tab} (h:jaZ lo w p V t) (hs:t.sound) (r:Rc) (hf:jbo r) :
  Calls Tryz.prog 67 #[.pointer (some ⟨p,0,none⟩),.agg #[.int .i64 r.a,.int .i64 r.b,.int .i64 r.c,.int .i64 r.d,.string r.key,.bool false]] w fun e w'=>∃ V',e=.returned (.int .i64 (je7 t r).1)/\jaZ lo w' p V' (je7 t r).2/\Below lo w w':=by
 have HB:Hid (∀ X,Below w.heap.size w X->jaZ lo X p V t/\Below lo w X):=fun X hb=>⟨h.below hb,hb.mono h.lo_le⟩
 obtain ⟨n1,n2,n3⟩:=jam hs;obtain ⟨i0,hi,hz0,hz1,hz2⟩:=info_parts Tryz.infoTenD;obtain ⟨hf1,hf2,hf3,hf4,hf5⟩:=hf;unfold inR at hf1 hf2;have hb0:Below w.heap.size w (w.alloc (.cells #[.int .i64 r.a,.int .i64 r.b,.int .i64 r.c,.int .i64 r.d,.string r.key,.bool false] 52)):=(Below.refl _ _).alloc (Nat.le_refl _) _;have hg0:=heap_alloc_new w (.cells #[.int .i64 r.a,.int .i64 r.b,.int .i64 r.c,.int .i64 r.d,.string r.key,.bool false] 52);obtain ⟨W0,hW0⟩:∃ W,W=w.alloc (.cells #[.int .i64 r.a,.int .i64 r.b,.int .i64 r.c,.int .i64 r.d,.string r.key,.bool false] 52):=⟨_,rfl⟩;rw [<- hW0] at hb0 hg0;have HXB:Hid (∀ X,Below W0.heap.size W0 X->X.cell? ⟨w.heap.size,0,none⟩=some (.int .i64 r.a)/\X.cell? ⟨w.heap.size,1,none⟩=some (.int .i64 r.b)/\X.cell? ⟨w.heap.size,2,none⟩=some (.int .i64 r.c)/\X.cell? ⟨w.heap.size,3,none⟩=some (.int .i64 r.d)/\X.cell? ⟨w.heap.size,4,none⟩=some (.string r.key)/\X.cell? ⟨w.heap.size,5,none⟩=some (.bool false)):=fun X hb=>jbz ((hb.block _ (Array.getElem?_eq_some_iff.1 hg0).1).trans hg0)
 obtain ⟨r0,r1,r2,r3,r4,r5⟩:=HXB.out W0 (Below.refl _ _);have HB0:=Lib.hid hb0;by_cases hth:(tenAt t.ts r.a).isSome=true
 ·obtain ⟨k,hk,he,hl,ha⟩ | ⟨hl,ha⟩:=jaX t.ts r.a
  ·obtain ⟨g,hA,hg,hgl,hX,hC⟩:=h.foundT hs hk he hl;have HC:=Lib.hid (hC W0 hb0);have H1:Hid (je7 t r=(5,t)):=if_pos hth;rw [H1.out];clear hX hC hA hl ha he hth H1 h hs n1 n2 n3 hf1 hf2 hf3 hf4 hf5 hi hz0 hz1 hz2 hg0 hb0;go_enter Tryz.func67,Tryz.ntmps67
   go_wp2_with fail
   rw [<- hW0];clear hW0
   go_wp2_with (go_at_call 91;with_reducible (refine Calls.mono HC.out ?_);rintro e w1 ⟨rfl,hb1⟩)
   go_ret;exact ⟨V,rfl,HB.out _ (jaa HB0.out hb1)⟩
  ·rw [ha] at hth;cases hth
 ·obtain ⟨k,hk,he,hl,ha⟩ | ⟨hl,ha⟩:=jaX t.ts r.a
  ·rw [ha] at hth;exact absurd rfl hth
  ·have HC:=Lib.hid (h.noT hs hl W0 hb0);have HBX:=Lib.hid (fun X (hb:Below w.heap.size w X)=>(h.below hb).cells);have HQ:=Lib.hid (fun X (hb:Below w.heap.size w X)=>jf5 p V.A1 V.c1 t.ts X (h.below hb).cells.1 (h.below hb).tab.ts (by omega) (fun x hx=>(hs.ten x hx).1.quota));have hsq:=jb3 (fun x hx=>(hs.ten x hx).1.quota) t.ts.length;rw [List.take_length] at hsq;obtain ⟨s,hsm⟩:∃ s,s=jbp t.ts:=⟨_,rfl⟩;simp only [<- hsm] at HQ;rw [<- hsm] at hsq
   have hone:je7 t r=if (t.os.length:Int) < s + r.b then (6,t) else (0,{ t with ts:=jcj Ten.id ⟨r.a,r.b,r.c,r.d,r.key,false⟩ t.ts }):=by
    unfold je7;rw [if_neg hth,<- hsm]
   have HONE:=Lib.hid hone;have v:IntKind.i64.wrap (s + r.b)=s + r.b:=IntWalk.i64_in _ (by omega);by_cases c2:(t.os.length:Int) < s + r.b
   ·have H1:Hid (je7 t r=(6,t)):=by show _=_;rw [HONE.out,if_pos c2]
    rw [H1.out];obtain ⟨N3,hN3⟩:∃ x,x=t.os.length:=⟨_,rfl⟩;simp only [<- hN3] at HBX c2;have d2:s + r.b > (N3:Int):=c2;clear H1 HONE hone c2 hl ha hth h hs n1 n2 n3 hf1 hf2 hf3 hf4 hf5 hsq hsm hN3 hi hz0 hz1 hz2 hg0 hb0;go_enter Tryz.func67,Tryz.ntmps67
    go_wp2_with fail
    rw [<- hW0];clear hW0
    go_wp2_with (go_at_call 91;with_reducible (refine Calls.mono HC.out ?_);rintro e w1 ⟨rfl,hb1⟩)
    have hbx:=hb1.drew
    go_region_held3 (fun W=>W.cell? ⟨w.heap.size,1,none⟩=some (.int .i64 r.b)/\W.cell? ⟨p,2,none⟩=some (.slice V.A3 N3 V.c3))
     (exact ⟨(HXB.out _ hbx).2.1,(HBX.out _ (jaa HB0.out hbx)).2.2⟩)
     (first
      | (go_at_call 92;with_reducible (refine Calls.mono (HQ.out _ (jaa HB0.out hbx)) ?_);rintro e w3 ⟨rfl,hb3⟩;have hbx:=jaa hbx hb3)
      | fail)
    go_wp2;go_ret;exact ⟨V,rfl,HB.out _ (jaa HB0.out hbx)⟩
   ·have H1:Hid (je7 t r=(0,{ t with ts:=jcj Ten.id ⟨r.a,r.b,r.c,r.d,r.key,false⟩ t.ts })):=by show _=_;rw [HONE.out,if_neg c2]
    rw [H1.out];have HH:Hid (jaZ lo w p V t):=h
    have hnew:∀ x∈t.ts ++ [(⟨r.a,r.b,r.c,r.d,r.key,false⟩:Ten)],0<=x.id/\x.id<=7:=fun x hx=>by
     rcases List.mem_append.1 hx with hx | hx
     ·have:=(hs.ten x hx).1.id;omega
     ·rw [List.mem_singleton] at hx;subst hx;show 0<=r.a/\r.a<=7;omega
    have HNEW:=Lib.hid hnew;have HUP:Hid (jcW Ten.id (t.ts ++ [(⟨r.a,r.b,r.c,r.d,r.key,false⟩:Ten)])=jcj Ten.id ⟨r.a,r.b,r.c,r.d,r.key,false⟩ t.ts):=jnW hs.up;have HFL:Hid (jaE jbP t.ts ++ [.int .i64 r.a,.int .i64 r.b,.int .i64 r.c,.int .i64 r.d,.string r.key,.bool false]=jaE jbP (t.ts ++ [(⟨r.a,r.b,r.c,r.d,r.key,false⟩:Ten)])):=(jdw (E:=jbP) t.ts ⟨r.a,r.b,r.c,r.d,r.key,false⟩).symm;have HLEN:Hid ((t.ts ++ [(⟨r.a,r.b,r.c,r.d,r.key,false⟩:Ten)]).length=t.ts.length + 1):=List.length_append;have HN1:Hid (t.ts.length + 1<=12):=by unfold Hid;omega
    obtain ⟨N3,hN3⟩:∃ x,x=t.os.length:=⟨_,rfl⟩;simp only [<- hN3] at HBX c2;have d2:¬ s + r.b > (N3:Int):=c2;clear H1 HONE hone c2 hl ha hth h hs n2 n3 hf1 hf2 hf3 hf4 hf5 hsq hsm hg0 hb0 hnew;go_enter Tryz.func67,Tryz.ntmps67
    go_wp2_with fail
    rw [<- hW0];clear hW0
    go_wp2_with (go_at_call 91;with_reducible (refine Calls.mono HC.out ?_);rintro e w1 ⟨rfl,hb1⟩)
    have hbx:=hb1.drew
    go_region_held3 (fun W=>W.cell? ⟨w.heap.size,1,none⟩=some (.int .i64 r.b)/\W.cell? ⟨p,2,none⟩=some (.slice V.A3 N3 V.c3))
     (exact ⟨(HXB.out _ hbx).2.1,(HBX.out _ (jaa HB0.out hbx)).2.2⟩)
     (first
      | (go_at_call 92;with_reducible (refine Calls.mono (HQ.out _ (jaa HB0.out hbx)) ?_);rintro e w3 ⟨rfl,hb3⟩;have hbx:=jaa hbx hb3)
      | fail)
    clear r0 r1 r2 r3 r4 r5
    go_wp2_with fail
    obtain ⟨r0,r1,r2,r3,r4,r5⟩:=HXB.out _ hbx;obtain ⟨y0,y1,y2⟩:=HBX.out _ (jaa HB0.out hbx);have hd3:=(HH.out.below (jaa HB0.out hbx)).below (Below.refl _ _).drew;have hba:Below w3.drew.heap.size w3.drew (w3.drew.alloc (.cells #[.int .i64 r.a,.int .i64 r.b,.int .i64 r.c,.int .i64 r.d,.string r.key,.bool false] 52)):=(Below.refl _ _).alloc (Nat.le_refl _) _;have hda:=hd3.below hba;have za:(w3.alloc (.cells #[.int .i64 r.a,.int .i64 r.b,.int .i64 r.c,.int .i64 r.d,.string r.key,.bool false] 52)).cell? ⟨p,0,none⟩=some (.slice V.A1 t.ts.length V.c1):=hda.cells.1;have HDA:=Lib.hid hda;have HNW:Hid (∀ j u,([.int .i64 r.a,.int .i64 r.b,.int .i64 r.c,.int .i64 r.d,.string r.key,.bool false]:List Value)[j]? = some u->(w3.drew.alloc (.cells #[.int .i64 r.a,.int .i64 r.b,.int .i64 r.c,.int .i64 r.d,.string r.key,.bool false] 52)).cell? ((⟨w3.drew.heap.size,0,none⟩:Addr).add j)=some u):=World.news_of_block (heap_alloc_new _ _);have HON:Hid (∀ u∈([.int .i64 r.a,.int .i64 r.b,.int .i64 r.c,.int .i64 r.d,.string r.key,.bool false]:List Value),u.oneCell'=true):=jbT ⟨r.a,r.b,r.c,r.d,r.key,false⟩;clear hd3 hda
    go_region_law (refine step_append_lies _ rfl _ _ 32 rfl lo 52 i0 (.agg #[.int .i64 0,.int .i64 0,.int .i64 0,.int .i64 0,.string ⟨#[]⟩,.bool false]) 6 56 Tryz.underlying32 hi hz0 hz1 hz2 rfl (by decide) (.slice V.A1 t.ts.length V.c1) t.ts.length (jaE jbP t.ts) rfl HDA.out.rows.ts ⟨w3.drew.heap.size,0,none⟩ 1 1 [.int .i64 r.a,.int .i64 r.b,.int .i64 r.c,.int .i64 r.d,.string r.key,.bool false] rfl rfl HNW.out HON.out (by decide) (by unfold maxLen;have:=HN1.out;omega) (by have:=HN1.out;omega) HDA.out.lo_le _ rfl ?_;intro g5 c5 w5 ho5 hg5 hn5 hl5;have hq5:=(hg5.block p HDA.out.lt (fun q=>HDA.out.p1 p (by rw [<- jaB];exact q.symm) rfl)).trans HDA.out.box;obtain ⟨z0,_,_⟩:=jai hq5;have zf:=frozen_of_row _ _ 0 _ _ hq5)
    all_goals
     have hs6:=jfF (.slice (some ⟨g5,0,none⟩) (t.ts.length + 1) c5) hq5
     have hga:w3.grownBy w5 (ob V.A1):=by
      rw [<- jaB V.A1 t.ts.length V.c1];exact (jaJ (Below.refl _ _).drew _).trans ((jaJ hba _).trans hg5)
     have hd3:=HH.out.below (jaa HB0.out hbx);rw [HFL.out] at ho5;have hd6:=hd3.turnT (W:=(w5.setCell ⟨p,0,none⟩ (.slice (some ⟨g5,0,none⟩) (t.ts.length + 1) c5))) (ts':=t.ts ++ [(⟨r.a,r.b,r.c,r.d,r.key,false⟩:Ten)]) (A':=some ⟨g5,0,none⟩) (c':=c5) (by rw [HLEN.out];exact ho5) hga (hn5.elim (fun q=>.inl (by rw [<- jaB V.A1 t.ts.length V.c1,q];rfl)) (fun q=>.inr (.inr ⟨g5,rfl,by rw [q];exact hba.size⟩))) (by rw [HLEN.out];exact hs6.1) hs6.2
     have hb6:Below lo w (w5.setCell ⟨p,0,none⟩ (.slice (some ⟨g5,0,none⟩) (t.ts.length + 1) c5)):=by
      have q1:=(HB.out _ (jaa HB0.out hbx)).2;have q2:=q1.grown hga hd3.lo_le fun b hb=>(ja1 hd3.rows.ts b hb).1
      exact jae q2 hs6.2 (Nat.le_trans hd3.lo_le hga.size) HH.out.hp
     obtain ⟨W6,hW6⟩:∃ W,W=w5.setCell ⟨p,0,none⟩ (.slice (some ⟨g5,0,none⟩) (t.ts.length + 1) c5):=⟨_,rfl⟩;rw [<- hW6] at hd6 hb6 ⊢;have hR6:RwT lo g5 (t.ts.length + 1) c5 W6 (t.ts ++ [(⟨r.a,r.b,r.c,r.d,r.key,false⟩:Ten)]) W6:=⟨by have:=hd6.rows.ts;rwa [HLEN.out] at this,jcP _ _,HLEN.out.symm⟩;have HSO:=Lib.hid (jn0 lo g5 (t.ts.length + 1) c5 94 _ W6 hR6 HN1.out (fun args w=>by kernel_rfl) (fun x hx y hy X=>jnM x y X (HNEW.out x hx) (HNEW.out y hy)))
     have y6:W6.cell? ⟨p,0,none⟩=some (.slice (some ⟨g5,0,none⟩) (t.ts.length + 1) c5):=by
      have:=hd6.cells.1
      rwa [HLEN.out] at this
     have HD6:=Lib.hid hd6;have HB6:=Lib.hid hb6;clear hs6 hga hd3 hd6 hb6 hR6 hq5 z0 zf ho5 hg5 hn5 hl5 hW6 hba za r0 r1 r2 r3 r4 r5 y0 y1 y2 HNW HON HDA HC HQ HBX hbx hi hz0 hz1 hz2
     go_wp2_with (go_at_call 93;with_reducible (refine Calls.mono HSO.out ?_);rintro e w7 ⟨rfl,hR7⟩)
     go_ret;have hl7:(jcW Ten.id (t.ts ++ [(⟨r.a,r.b,r.c,r.d,r.key,false⟩:Ten)])).length=(t.ts ++ [(⟨r.a,r.b,r.c,r.d,r.key,false⟩:Ten)]).length:=je9 _ _;have hd7:=HD6.out.inT (g:=g5) rfl hl7 (by have:=hR7.own;rw [<- HLEN.out] at this;exact this) hR7.grown;rw [HUP.out] at hd7;exact ⟨_,rfl,hd7,jae HB6.out hR7.grown (HD6.out.lo_le) (ja1 HD6.out.rows.ts g5 rfl).1⟩
end Go.Proofs.YtbnhkplhmanmoaaGreat
