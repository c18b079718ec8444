/- . -/
import Derived.Test.YtbnhkplhmanmoaaGreatTableC12G
import Derived.BigQuiet
import Derived.Shelf.RegionOpenPlain
namespace Go.Proofs.YtbnhkplhmanmoaaGreat
open Go.RowKit
set_option maxHeartbeats 6400000
set_option maxRecDepth 100000
theorem Tryz.infTS:(Tryz.prog.info? 52).map (·.size)=some 6:=by kernel_rfl
structure RwT (lo g N c:Nat) (w:World) (L:List Ten) (wr:World):Prop where
 own:wr.ownsRow lo 52 6 (.slice (some ⟨g,0,none⟩) N c) N (jaE jbP L)
 grown:w.grownBy wr (some g)
 len:N=L.length
section
variable {lo g N c:Nat} {w wr X:World} {L:List Ten}
theorem RwT.below (h:RwT lo g N c w L wr) (hb:Below wr.heap.size wr X):RwT lo g N c w L X:=⟨jcn h.own hb,h.grown.trans (jaJ hb _),h.len⟩
theorem RwT.at_ (h:RwT lo g N c w L wr) {k:Nat} (hk:k < L.length):wr.cell? ⟨g,k * 6,none⟩=some (.int .i64 L[k].id)/\wr.cell? ⟨g,k * 6 + 1,none⟩=some (.int .i64 L[k].quota)/\wr.cell? ⟨g,k * 6 + 2,none⟩=some (.int .i64 L[k].rate)/\wr.cell? ⟨g,k * 6 + 3,none⟩=some (.int .i64 L[k].burst)/\wr.cell? ⟨g,k * 6 + 4,none⟩=some (.string L[k].key)/\wr.cell? ⟨g,k * 6 + 5,none⟩=some (.bool L[k].dying):=by
 obtain ⟨g2,hA2,_,_,_,hc,_⟩:=jb2 jaF h.own h.len hk;have:g2=g:=by injection hA2 with q;injection q with q;exact q.symm
 subst this;exact ⟨hc 0 _ rfl,hc 1 _ rfl,hc 2 _ rfl,hc 3 _ rfl,hc 4 _ rfl,hc 5 _ rfl⟩
theorem RwT.frz (h:RwT lo g N c w L wr) {k:Nat} (hk:k < L.length) (i:Nat):wr.frozen? ⟨g,i,none⟩=false:=by
 obtain ⟨g2,hA2,_,_,_,_,hf⟩:=jb2 jaF h.own h.len hk;have:g2=g:=by injection hA2 with q;injection q with q;exact q.symm
 subst this;exact hf i
theorem RwT.drew (h:RwT lo g N c w L wr):RwT lo g N c w L wr.drew:=h.below (Below.refl _ _).drew
theorem RwT.put (h:RwT lo g N c w L wr) {W:World} {L2:List Ten} (ho:W.ownsRow lo 52 6 (.slice (some ⟨g,0,none⟩) N c) N (jaE jbP L2)) (hg:wr.grownBy W (some g)) (hl:L2.length=L.length):RwT lo g N c w L2 W:=⟨ho,h.grown.trans hg,h.len.trans hl.symm⟩
end
theorem jjl (lo g N c:Nat) (fn:FuncId) (L0:List Ten) (w:World) (hR:RwT lo g N c w L0 w) (h12:N<=12) (he:∀ args w,(callFunc fn args).run Tryz.prog w=.ok (.enter fn args) w)
  (hc:∀ x∈L0,∀ y∈L0,∀ W,Calls Tryz.prog fn #[.agg (jcQ x),.agg (jcQ y)] W fun e w'=>e=.returned (.int .i64 (x.id - y.id))/\Below W.heap.size W w') :
  Calls Tryz.prog 148 #[.slice (some ⟨g,0,none⟩) N c,.int .i64 0,.int .i64 N,.func (.func fn) #[] #[]] w fun e w'=>e=.returned (.tuple #[])/\RwT lo g N c w (jcW Ten.id L0) w':=by
 have hlen:=hR.len;have HLN:Hid (N=L0.length):=hlen
 have H0:Hid (RwT lo g N c w (jcW Ten.id (L0.take (min 1 N)) ++ L0.drop (min 1 N)) w):=by
  unfold Hid;rcases Nat.lt_or_ge 0 N with h | h
  ·rw [Nat.min_eq_left h];cases L0 with
   | nil=>simp at hlen;omega
   | cons x l=>exact hR
  ·have h0:N=0:=by omega
   have hnil:L0=[]:=List.eq_nil_of_length_eq_zero (by omega);subst hnil;have e:jcW Ten.id (([]:List Ten).take (min 1 N)) ++ ([]:List Ten).drop (min 1 N)=[]:=by simp [jcW]
   rw [e];exact hR
 have HCC:=Lib.hid hc;have eg:=he;clear hc hR hlen;go_enter Tryz.func148,Tryz.ntmps148;go_wp2
 go_loopw [8] (fun v wr=>∃ i:Nat,1<=i/\i<=N + 1/\v=.int .i64 i/\Hid (RwT lo g N c w (jcW Ten.id (L0.take (min i N)) ++ L0.drop (min i N)) wr)) (fun v _=>N + 1 - (intOf v).toNat)
 case atStart=>exact ⟨1,Nat.le_refl _,by omega,rfl,H0⟩
 case round =>
  clear H0;obtain ⟨i,hi1,hiN,rfl,S1⟩:=hrel;by_cases hlt:i < N
  ·have k1:(i:Int) < (N:Int):=by omega
   have hil:i < L0.length:=by have:=HLN.out;omega
   obtain ⟨y,hy⟩:∃ y,y=L0[i]:=⟨_,rfl⟩;obtain ⟨R,hRr⟩:∃ R,R=L0.drop (i + 1):=⟨_,rfl⟩;obtain ⟨T,hT⟩:∃ T,T=jcW Ten.id (L0.take i):=⟨_,rfl⟩;have hdrop:L0.drop i=y :: R:=by rw [hy,hRr];exact List.drop_eq_getElem_cons hil
   have hym:y∈L0:=by rw [hy];exact List.getElem_mem hil
   have hTm:∀ z∈T,z∈L0:=fun z hz=>by rw [hT,jjH] at hz;exact List.mem_of_mem_take hz
   have hTl:T.length=i:=by rw [hT,je9,List.length_take];omega
   have hTa:jmS Ten.id T:=by rw [hT];exact jjL _ _
   have hnext:jcW Ten.id (L0.take (min (i + 1) N)) ++ L0.drop (min (i + 1) N)=jcj Ten.id y T ++ R:=by
    rw [Nat.min_eq_left (by omega),List.take_succ_eq_append_getElem hil,jce,<- hT,<- hy,<- hRr]
   have HI:Hid (∃ M1 M2:List Ten,RwT lo g N c w (M1 ++ y :: (M2 ++ R)) wr/\M1.length=i/\M1 ++ M2=T/\∀ z∈M2,y.id < z.id):=⟨T,[],by
    have h:=S1.out;rw [Nat.min_eq_left (by omega),<- hT,hdrop] at h;exact h,hTl,List.append_nil _,by simp⟩
   have HO:Hid (∀ (M1 M2:List Ten) W,M1 ++ M2=T->(∀ z∈M2,y.id < z.id)->(∀ z∈M1,z.id<=y.id)->RwT lo g N c w (M1 ++ y :: (M2 ++ R)) W->RwT lo g N c w (jcW Ten.id (L0.take (min (i + 1) N)) ++ L0.drop (min (i + 1) N)) W):=fun M1 M2 W hM h2 h1 hW=>by
    have e:M1 ++ y :: (M2 ++ R)=jcj Ten.id y T ++ R:=by
     rw [<- hM,<- jeh Ten.id (by rw [hM];exact hTa) h2 h1];simp
    rw [hnext,<- e];exact hW
   have HASC:=Lib.hid hTa;have HYM:=Lib.hid hym;have HTM:=Lib.hid hTm;have hcl:∀ z∈T,∀ W,Calls Tryz.prog fn #[.agg (jcQ y),.agg (jcQ z)] W fun e w'=>e=.returned (.int .i64 (y.id - z.id))/\Below W.heap.size W w':=fun z hz W=>HCC.out y hym z (hTm z hz) W
   have HCL:=Lib.hid hcl;clear hy hRr hT hdrop hnext hTl hTa hym hTm hcl S1;go_wp2
   go_loopw [9] (fun v wr=>∃ j:Nat,j<=i/\v=.int .i64 j/\Hid (∃ M1 M2:List Ten,RwT lo g N c w (M1 ++ y :: (M2 ++ R)) wr/\M1.length=j/\M1 ++ M2=T/\∀ z∈M2,y.id < z.id)) (fun v _=>(intOf v).toNat)
   case atStart=>exact ⟨i,Nat.le_refl _,rfl,HI⟩
   case round =>
    clear HI;obtain ⟨j,hji,rfl,HI⟩:=hrel;obtain ⟨M1,M2,SJ,hj,hM,h2⟩:=HI.out;by_cases hja:0 < j
    ·obtain ⟨M0,pv,rfl⟩:∃ M0 pv,M1=M0 ++ [pv]:=⟨M1.dropLast,M1.getLast (by intro e;subst e;simp at hj;omega),(List.dropLast_concat_getLast _).symm⟩;have hpT:pv∈T:=by rw [<- hM];simp
     have hcp:=HCL.out pv hpT;obtain ⟨p,hp⟩:∃ p,p + 1=j:=⟨j - 1,by omega⟩;have hpl:p=M0.length:=by rw [List.length_append] at hj;simp at hj;omega
     have eshape:M0 ++ [pv] ++ y :: (M2 ++ R)=M0 ++ pv :: y :: (M2 ++ R):=by simp
     rw [eshape] at SJ;have hLl:(M0 ++ pv :: y :: (M2 ++ R)).length=N:=SJ.len.symm;have hpN:p < (M0 ++ pv :: y :: (M2 ++ R)).length:=by rw [List.length_append,List.length_cons];omega
     have hjN:j < (M0 ++ pv :: y :: (M2 ++ R)).length:=by rw [List.length_append,List.length_cons,List.length_cons];omega
     have gp:(M0 ++ pv :: y :: (M2 ++ R))[p]? = some pv:=by rw [hpl,List.getElem?_append_right (Nat.le_refl _),Nat.sub_self];rfl
     have gj:(M0 ++ pv :: y :: (M2 ++ R))[j]? = some y:=by rw [<- hp,hpl,List.getElem?_append_right (by omega),show M0.length + 1 - M0.length=1 by omega];rfl
     have gp':(M0 ++ pv :: y :: (M2 ++ R))[p]=pv:=by rw [List.getElem?_eq_getElem hpN] at gp;injection gp
     have gj':(M0 ++ pv :: y :: (M2 ++ R))[j]=y:=by rw [List.getElem?_eq_getElem hjN] at gj;injection gj
     have hset:((M0 ++ pv :: y :: (M2 ++ R)).set j pv).set p y=M0 ++ y :: pv :: (M2 ++ R):=jgL M0 (M2 ++ R) pv y pv hpl hp.symm gp;obtain ⟨q,hq⟩:∃ q,q=p * 6:=⟨_,rfl⟩;have hq2:j * 6=q + 6:=by rw [<- hp,hq];omega
     have HAT:Hid (∀ X,Below wr.heap.size wr X->(X.cell? ⟨g,q,none⟩=some (.int .i64 pv.id)/\X.cell? ⟨g,q + 1,none⟩=some (.int .i64 pv.quota)/\X.cell? ⟨g,q + 2,none⟩=some (.int .i64 pv.rate)/\X.cell? ⟨g,q + 3,none⟩=some (.int .i64 pv.burst)/\X.cell? ⟨g,q + 4,none⟩=some (.string pv.key)/\X.cell? ⟨g,q + 5,none⟩=some (.bool pv.dying))/\(X.cell? ⟨g,q + 6,none⟩=some (.int .i64 y.id)/\X.cell? ⟨g,q + 7,none⟩=some (.int .i64 y.quota)/\X.cell? ⟨g,q + 8,none⟩=some (.int .i64 y.rate)/\X.cell? ⟨g,q + 9,none⟩=some (.int .i64 y.burst)/\X.cell? ⟨g,q + 10,none⟩=some (.string y.key)/\X.cell? ⟨g,q + 11,none⟩=some (.bool y.dying))):=fun X hb=>by
      have q1:=(SJ.below hb).at_ hpN;have q2:=(SJ.below hb).at_ hjN;rw [gp',<- hq] at q1;rw [gj',hq2] at q2;exact ⟨q1,q2⟩
     have HFZ:Hid (∀ X,Below wr.heap.size wr X->X.frozen? ⟨g,q,none⟩=false/\X.frozen? ⟨g,q + 1,none⟩=false/\X.frozen? ⟨g,q + 2,none⟩=false/\X.frozen? ⟨g,q + 3,none⟩=false/\X.frozen? ⟨g,q + 4,none⟩=false/\X.frozen? ⟨g,q + 5,none⟩=false/\X.frozen? ⟨g,q + 6,none⟩=false/\X.frozen? ⟨g,q + 7,none⟩=false/\X.frozen? ⟨g,q + 8,none⟩=false/\X.frozen? ⟨g,q + 9,none⟩=false/\X.frozen? ⟨g,q + 10,none⟩=false/\X.frozen? ⟨g,q + 11,none⟩=false):=fun X hb=>by
      have f:=(SJ.below hb).frz hpN;exact ⟨f _,f _,f _,f _,f _,f _,f _,f _,f _,f _,f _,f _⟩
     have HPUT:Hid (∀ X,Below wr.heap.size wr X->RwT lo g N c w (((M0 ++ pv :: y :: (M2 ++ R)).set j pv).set p y) (((((((((((((X.setCell ⟨g,q + 6,none⟩ (.int .i64 pv.id)).setCell ⟨g,q + 7,none⟩ (.int .i64 pv.quota)).setCell ⟨g,q + 8,none⟩ (.int .i64 pv.rate)).setCell ⟨g,q + 9,none⟩ (.int .i64 pv.burst)).setCell ⟨g,q + 10,none⟩ (.string pv.key)).setCell ⟨g,q + 11,none⟩ (.bool pv.dying)).setCell ⟨g,q,none⟩ (.int .i64 y.id)).setCell ⟨g,q + 1,none⟩ (.int .i64 y.quota)).setCell ⟨g,q + 2,none⟩ (.int .i64 y.rate)).setCell ⟨g,q + 3,none⟩ (.int .i64 y.burst)).setCell ⟨g,q + 4,none⟩ (.string y.key)).setCell ⟨g,q + 5,none⟩ (.bool y.dying))).drew):=fun X hb=>by
      have s1:=(SJ.below hb);have s2:=s1.put (jdV jaF s1.own rfl s1.len hjN pv) (jal X g (j * 6) (jbP pv)) (by simp);have s3:=s2.put (jdV jaF s2.own rfl s2.len (by simpa using hpN) y) (jal _ g (p * 6) (jbP y)) (by simp);rw [hq2,<- hq] at s3;exact s3.drew
     have hq3:p * 6=q:=hq.symm
     have hle:∀ z∈M0 ++ [pv],z.id<=pv.id:=by
      have ha:=HASC.out;rw [<- hM] at ha;have ha2:=(List.pairwise_append.1 ha).1;intro z hz;rcases List.mem_append.1 hz with hz | hz
      ·exact (List.pairwise_append.1 ha2).2.2 z hz pv (by simp)
      ·rw [List.mem_singleton] at hz;subst hz;exact Int.le_refl _
     have HEXIT:Hid (pv.id<=y.id->∀ X,Below wr.heap.size wr X->RwT lo g N c w (jcW Ten.id (L0.take (min (i + 1) N)) ++ L0.drop (min (i + 1) N)) X):=fun hpy X hb =>
      HO.out (M0 ++ [pv]) M2 X hM h2 (fun z hz=>by have:=hle z hz;omega) (by rw [eshape];exact SJ.below hb)
     have HSWAP:Hid (y.id < pv.id->∀ W,RwT lo g N c w (((M0 ++ pv :: y :: (M2 ++ R)).set j pv).set p y) W->∃ M1 M2:List Ten,RwT lo g N c w (M1 ++ y :: (M2 ++ R)) W/\M1.length=p/\M1 ++ M2=T/\∀ z∈M2,y.id < z.id):=fun hyp W hW=>by
      rw [hset] at hW;refine ⟨M0,pv :: M2,hW,hpl.symm,by rw [<- hM];simp,fun z hz=>?_⟩;rcases List.mem_cons.1 hz with rfl | hz
      ·exact hyp
      ·exact h2 z hz
     have SJH:=Lib.hid SJ;obtain ⟨L,hL⟩:∃ L,L=M0 ++ pv :: y :: (M2 ++ R):=⟨_,rfl⟩;rw [<- hL] at hLl hpN hjN SJH HSWAP HPUT;have e1:(j:Int) - 1=(p:Int):=by omega
     have ra:IntKind.i64.wrap ((j:Int) - 1)=(p:Int):=by rw [e1];exact IntWalk.i64_in _ (by omega)
     have g1:(j:Int) > 0:=by omega
     have gd:decide ((j:Int) > 0)=true:=decide_eq_true g1;have pN:(p:Int) < (N:Int):=by omega
     have jN:(j:Int) < (N:Int):=by omega
     have p0:(0:Int)<=(p:Int):=by omega
     have j0:(0:Int)<=(j:Int):=by omega
     have hHL:Hid (p < L.length/\j < L.length/\N=L.length/\L.length=N):=⟨hpN,hjN,hLl.symm,hLl⟩;obtain ⟨z,hz⟩:∃ z,z=y.id - pv.id:=⟨_,rfl⟩;rw [<- hz] at hcp;have HCP:=Lib.hid hcp;have HZ:Hid ((z < 0->y.id < pv.id)/\(¬ z < 0->pv.id<=y.id)):=⟨fun q=>by omega,fun q=>by omega⟩;have HPJ:=Lib.hid hp;clear HI SJ hM h2 hj eshape gp gj gp' gj' hset hle hL hLl hpN hjN hz hcp HCL HO HASC HYM HTM HCC HLN hpl hpT e1 hp hq;have HYV:Hid (jcQ y=#[.int .i64 y.id,.int .i64 y.quota,.int .i64 y.rate,.int .i64 y.burst,.string y.key,.bool y.dying]):=rfl;have HPV:Hid (jcQ pv=#[.int .i64 pv.id,.int .i64 pv.quota,.int .i64 pv.rate,.int .i64 pv.burst,.string pv.key,.bool pv.dying]):=rfl;rw [HYV.out,HPV.out] at HCP;have HCY:Hid (#[.int .i64 y.id,.int .i64 y.quota,.int .i64 y.rate,.int .i64 y.burst,.string y.key,.bool y.dying]=(jbP y).toArray):=rfl;have HCPV:Hid (#[.int .i64 pv.id,.int .i64 pv.quota,.int .i64 pv.rate,.int .i64 pv.burst,.string pv.key,.bool pv.dying]=(jbP pv).toArray):=rfl;by_cases hneg:z < 0
     ·have gz:decide (z < 0)=true:=decide_eq_true hneg;have hsw:=Lib.hid (HSWAP.out (HZ.out.1 hneg));clear HZ HSWAP HEXIT
      go_wp2_with fail
      have hbx:Below wr.heap.size wr wr.drew:=(Below.refl _ _).drew
      go_region_held3 (fun X=>(X.cell? ⟨g,q,none⟩=some (.int .i64 pv.id)/\X.cell? ⟨g,q + 1,none⟩=some (.int .i64 pv.quota)/\X.cell? ⟨g,q + 2,none⟩=some (.int .i64 pv.rate)/\X.cell? ⟨g,q + 3,none⟩=some (.int .i64 pv.burst)/\X.cell? ⟨g,q + 4,none⟩=some (.string pv.key)/\X.cell? ⟨g,q + 5,none⟩=some (.bool pv.dying))/\(X.cell? ⟨g,q + 6,none⟩=some (.int .i64 y.id)/\X.cell? ⟨g,q + 7,none⟩=some (.int .i64 y.quota)/\X.cell? ⟨g,q + 8,none⟩=some (.int .i64 y.rate)/\X.cell? ⟨g,q + 9,none⟩=some (.int .i64 y.burst)/\X.cell? ⟨g,q + 10,none⟩=some (.string y.key)/\X.cell? ⟨g,q + 11,none⟩=some (.bool y.dying)))
       (exact HAT.out _ hbx)
       (first
        | (go_at_fn fn;with_reducible (refine Calls.mono (HCP.out _) ?_);rintro e w3 ⟨rfl,hb3⟩;have hbx:Below wr.heap.size wr w3:=hbx.trans (hb3.mono hbx.size))
        | fail)
      obtain ⟨⟨xp0,xp1,xp2,xp3,xp4,xp5⟩,⟨xj0,xj1,xj2,xj3,xj4,xj5⟩⟩:=HAT.out _ hbx;obtain ⟨xf0,xf1,xf2,xf3,xf4,xf5,xf6,xf7,xf8,xf9,xf10,xf11⟩:=HFZ.out _ hbx;have S4:=Lib.hid (hsw.out _ (HPUT.out _ hbx));clear HAT SJH HFZ HPUT hsw
      go_wp2_with fail
      go_region;have hpj:=HPJ.out;clear xp0 xp1 xp2 xp3 xp4 xp5 xj0 xj1 xj2 xj3 xj4 xj5 xf0 xf1 xf2 xf3 xf4 xf5 xf6 xf7 xf8 xf9 xf10 xf11 hbx HPJ hq2 hq3;go_wp2;go_roundw
      case rel=>first | exact ⟨p,by omega,by go_num,S4.out⟩ | ((repeat apply Exists.intro);exact ⟨⟨p,by omega,by go_num,S4.out⟩,rfl⟩)
      case measure=>simp [intOf];omega
     ·have gz:decide (z < 0)=false:=decide_eq_false hneg;have hex:=Lib.hid (HEXIT.out (HZ.out.2 hneg));clear HZ HSWAP HEXIT HPUT HFZ SJH
      go_wp2_with fail
      have hbx:Below wr.heap.size wr wr.drew:=(Below.refl _ _).drew
      go_region_held3 (fun X=>(X.cell? ⟨g,q,none⟩=some (.int .i64 pv.id)/\X.cell? ⟨g,q + 1,none⟩=some (.int .i64 pv.quota)/\X.cell? ⟨g,q + 2,none⟩=some (.int .i64 pv.rate)/\X.cell? ⟨g,q + 3,none⟩=some (.int .i64 pv.burst)/\X.cell? ⟨g,q + 4,none⟩=some (.string pv.key)/\X.cell? ⟨g,q + 5,none⟩=some (.bool pv.dying))/\(X.cell? ⟨g,q + 6,none⟩=some (.int .i64 y.id)/\X.cell? ⟨g,q + 7,none⟩=some (.int .i64 y.quota)/\X.cell? ⟨g,q + 8,none⟩=some (.int .i64 y.rate)/\X.cell? ⟨g,q + 9,none⟩=some (.int .i64 y.burst)/\X.cell? ⟨g,q + 10,none⟩=some (.string y.key)/\X.cell? ⟨g,q + 11,none⟩=some (.bool y.dying)))
       (exact HAT.out _ hbx)
       (first
        | (go_at_fn fn;with_reducible (refine Calls.mono (HCP.out _) ?_);rintro e w3 ⟨rfl,hb3⟩;have hbx:Below wr.heap.size wr w3:=hbx.trans (hb3.mono hbx.size))
        | fail)
      have S4:=Lib.hid (hex.out _ hbx);clear HAT hex hbx HPJ hq2 hq3;go_wp2;go_roundw
      case rel=>first | exact ⟨i + 1,by omega,by omega,by go_num,S4.out⟩ | ((repeat apply Exists.intro);exact ⟨⟨i + 1,by omega,by omega,by go_num,S4.out⟩,rfl⟩)
      case measure=>simp [intOf];omega
    ·have hj0:j=0:=by omega
     subst hj0;have hM1:M1=[]:=List.eq_nil_of_length_eq_zero hj;subst hM1;have S2:Hid (∀ k,RwT lo g N c w (jcW Ten.id (L0.take (min (i + 1) N)) ++ L0.drop (min (i + 1) N)) (wr.drewN k)):=fun k=>HO.out [] M2 _ hM h2 (by simp) (SJ.below (jaz (Below.refl _ _) k))
     clear HI SJ hM h2 HO hj HCL HASC HYM HTM HCC HLN hja
     go_wp2_with fail
     go_quiet (fail)
     go_wp2;go_roundw
     case rel=>first | exact ⟨i + 1,by omega,by omega,by go_num,S2.out nq⟩ | ((repeat apply Exists.intro);exact ⟨⟨i + 1,by omega,by omega,by go_num,S2.out nq⟩,rfl⟩)
     case measure=>simp [intOf];omega
  ·have k1:¬ (i:Int) < (N:Int):=by omega
   have S2:=S1.out;rw [Nat.min_eq_right (by omega),HLN.out,List.take_length,List.drop_length,List.append_nil,<- HLN.out] at S2;have S3:=Lib.hid S2;clear S1 S2 HLN HCC;go_wp2
   go_end0
   exact ⟨rfl,S3.out⟩
theorem jpi (lo g N c:Nat) (fn:FuncId) (lim:Int) (L0:List Ten) (w:World) (hR:RwT lo g N c w L0 w) (h12:N<=12) (he:∀ args w,(callFunc fn args).run Tryz.prog w=.ok (.enter fn args) w)
  (hc:∀ x∈L0,∀ y∈L0,∀ W,Calls Tryz.prog fn #[.agg (jcQ x),.agg (jcQ y)] W fun e w'=>e=.returned (.int .i64 (x.id - y.id))/\Below W.heap.size W w') :
  Calls Tryz.prog 131 #[.slice (some ⟨g,0,none⟩) N c,.int .i64 0,.int .i64 N,.int .i64 lim,.func (.func fn) #[] #[]] w fun e w'=>e=.returned (.tuple #[])/\RwT lo g N c w (jcW Ten.id L0) w':=by
 have H:=Lib.hid (jjl lo g N c fn L0 w hR h12 he hc);have v:IntKind.i64.wrap ((N:Int) - 0)=(N:Int):=by rw [Int.sub_zero];exact IntWalk.i64_in _ (by omega)
 have k1:(N:Int)<=12:=by omega
 have hsub:(N:Int) - 0=N:=Int.sub_zero _;clear hR he hc h12;go_enter Tryz.func131,Tryz.ntmps131;go_wp2
 go_loopw [1,2] (fun a b wr=>a=.int .i64 0/\b=.int .i64 (N:Int)/\wr=w) (fun _ _ _=>0)
 case atStart=>exact ⟨rfl,rfl,rfl⟩
 case round =>
  obtain ⟨rfl,rfl,rfl⟩:=hrel
  go_wp2_with (go_at_call 148;with_reducible (refine Calls.mono H.out ?_);rintro e w1 ⟨rfl,h1⟩)
  exact bodyPost_ret (results_none rfl _ _ _) rfl ⟨rfl,h1⟩
theorem jfA (n:Nat) (w:World) (hn:n<=12):Calls Tryz.prog 132 #[.int .u64 (n:Int)] w fun e w'=>∃ r,e=.returned (.int .i64 r)/\w'=w:=by
 rcases (show n=0∨n=1∨n=2∨n=3∨n=4∨n=5∨n=6∨n=7∨n=8∨n=9∨n=10∨n=11∨n=12 by omega) with rfl | rfl | rfl | rfl | rfl | rfl | rfl | rfl | rfl | rfl | rfl | rfl | rfl
 all_goals
  clear hn;go_enter Tryz.func132,Tryz.ntmps132;go_wp2;go_ret;exact ⟨_,rfl,rfl⟩
theorem jn0 (lo g N c:Nat) (fn:FuncId) (L0:List Ten) (w:World) (hR:RwT lo g N c w L0 w) (h12:N<=12) (he:∀ args w,(callFunc fn args).run Tryz.prog w=.ok (.enter fn args) w)
  (hc:∀ x∈L0,∀ y∈L0,∀ W,Calls Tryz.prog fn #[.agg (jcQ x),.agg (jcQ y)] W fun e w'=>e=.returned (.int .i64 (x.id - y.id))/\Below W.heap.size W w') :
  Calls Tryz.prog 93 #[.slice (some ⟨g,0,none⟩) N c,.func (.func fn) #[] #[]] w fun e w'=>e=.returned (.tuple #[])/\RwT lo g N c w (jcW Ten.id L0) w':=by
 have H:=Lib.hid (fun lim=>jpi lo g N c fn lim L0 w hR h12 he hc);have HL:=Lib.hid (jfA N w h12)
 have v:IntKind.u64.wrap (N:Int)=(N:Int):=by
  show (N:Int) % 18446744073709551616=N;omega
 have k1:(N:Int) % 18446744073709551616=N:=by omega
 clear hR he hc h12;go_enter Tryz.func93,Tryz.ntmps93
 go_wp2_with (first
  | (go_at_call 132;with_reducible (refine Calls.mono HL.out ?_);rintro e w1 ⟨lim,rfl,rfl⟩)
  | (go_at_call 131;with_reducible (refine Calls.mono (H.out _) ?_);rintro e w2 ⟨rfl,h2⟩))
 go_end0
 exact ⟨rfl,h2⟩
theorem jnM (x y:Ten) (w:World) (h1:0<=x.id/\x.id<=7) (h2:0<=y.id/\y.id<=7) :
  Calls Tryz.prog 94 #[.agg (jcQ x),.agg (jcQ y)] w fun e w'=>e=.returned (.int .i64 (x.id - y.id))/\Below w.heap.size w w':=by
 have hb0:Below w.heap.size w (w.alloc (.cells (jcQ x) 52)):=(Below.refl _ _).alloc (Nat.le_refl _) _;have hb1:=hb0.alloc hb0.size (.cells (jcQ y) 52);obtain ⟨a0,a1,a2,a3,a4,a5⟩:=x;obtain ⟨b0,b1,b2,b3,b4,b5⟩:=y;simp only [jcQ] at h1 h2 hb1 ⊢;have v:IntKind.i64.wrap (a0 - b0)=a0 - b0:=IntWalk.i64_in _ (by omega);clear h1 h2 hb0;go_enter Tryz.func94,Tryz.ntmps94;go_wp2;go_ret;exact ⟨rfl,hb1⟩
end Go.Proofs.YtbnhkplhmanmoaaGreat
