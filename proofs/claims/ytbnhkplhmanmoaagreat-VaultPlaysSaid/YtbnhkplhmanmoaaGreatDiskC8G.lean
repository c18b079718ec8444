/- . -/
import Derived.Test.YtbnhkplhmanmoaaGreatDiskC4G
import Derived.Deep.AppendLies
import Derived.Great.BuildSlice
import Derived.Test.YtbnhkplhmanmoaaGreatTkG
import Derived.Deep.CutRange
namespace Go.Proofs.YtbnhkplhmanmoaaGreat
open Go.RowKit
set_option maxRecDepth 20000
section
variable {P:Program} {ops:Array Oper} {o:Oper} {a:Act} {w:World} {K:Act->World->Prop} {Q:Exit->Act->World->Prop} {E:Prop}
theorem jik {S:World->Prop} (hw:Region.wanted o (yielded ops a.tmps)=true) (t:TypeId) (parts:Array (Nat × Operand)) (ho:o.op=.build t parts)
  (vs:Array (Nat × Value)) (hv:parts.map (fun (i,x)=>(i,a.eval x))=vs) (cells:Array Value) (hb:∀ w,(Instr.build t vs).run P w=.ok (.agg cells) w):YieldsIf P ops S o (.agg cells) a :=
 .inl ⟨hw,fun w _=>by
  unfold execOp;simp only [ho,hv,hb,Sem.run_bind,Sem.run_pure,Result.andThen_ok]⟩
theorem jdr (hw:Region.wanted o (yielded ops a.tmps)=true) (t:TypeId) (len:Nat) (parts:Array (Nat × Operand)) (ho:o.op=.buildSlice t len parts)
  (vs:Array (Nat × Value)) (hv:parts.map (fun (i,x)=>(i,a.eval x))=vs) (v:Value) (w':World) (hb:(Instr.buildSlice t len vs).run P w=.ok v w') (h:K (a.put o.dst v) w') :
  if Region.wanted o (yielded ops a.tmps)=true then Oper.wp P o a w K Q else E:=by
 rw [if_pos hw];unfold Oper.wp execOp;simp only [ho,hv,hb,Sem.run_bind,Sem.run_pure,Result.andThen_ok];exact h
end
theorem Tryz.infoWb:(Tryz.prog.info? 105).map (fun i=>(i.zero,i.size,i.bytes))=some (some (.agg (wrV (0,jas)).toArray),65,72):=by kernel_rfl
theorem jid {P:Program} {t:TypeId} {z:Array Value} {pl:List (Nat × Nat)} (h:(match P.info? t,P.underlying t with
  | some it,some (.struct fields)=>(match it.zero,fields.toList.mapM (fun f=>(P.info? f.type).map fun i=>(f.offset,i.size)) with
   | some z,some places=>some (z.cells,places)
   | _,_=>none)
  | _,_=>none)=some (z,pl)) (parts:List (Nat × Value)):P.built t parts=Instr.fill (pl.toArray[·]?) z parts:=by
 unfold Program.built;cases hi:P.info? t with
 | none=>rw [hi] at h;cases h
 | some it =>
  cases hu:P.underlying t with
  | none=>rw [hi,hu] at h;cases h
  | some d =>
   rw [hi,hu] at h;cases d <;> try (cases h;done)
   rename_i fields;cases hz:it.zero with
   | none=>simp only [hz] at h;cases h
   | some z0 =>
    cases hp:fields.toList.mapM (fun f=>(P.info? f.type).map fun i=>(f.offset,i.size)) with
    | none=>simp only [hz,hp] at h;cases h
    | some pl0 =>
     simp only [hz,hp] at h ⊢;injection h with h
     injection h with h1 h2
     rw [h1,h2]
theorem jip {place:Nat->Option (Nat × Nat)} {cells:Array Value} {i off size:Nat} {v:Value} {rest:List (Nat × Value)} (hp:place i=some (off,size)) (hv:v.cells.size=size) (hl:off + size<=cells.size) :
  Instr.fill place cells ((i,v) :: rest)=Instr.fill place ((v.cells.toList.zipIdx 0).foldl (fun cs (x:Value × Nat)=>cs.setIfInBounds (off + x.2) x.1) cells) rest:=by
 conv=>lhs;unfold Instr.fill
 rw [hp];simp only [hv];rw [if_neg (by simp;omega)]
 congr 1
 rw [<- Array.foldl_toList,Array.toList_zipIdx]
theorem jp7:(match Tryz.prog.info? 105,Tryz.prog.underlying 105 with
  | some it,some (.struct fields)=>(match it.zero,fields.toList.mapM (fun f=>(Tryz.prog.info? f.type).map fun i=>(f.offset,i.size)) with
   | some z,some places=>some (z.cells,places)
   | _,_=>none)
  | _,_=>none)=some ((wrV (0,jas)).toArray,[(0,64),(64,1)]):=by kernel_rfl
theorem jqm (i:Int) {T C:Array Value} (hT:T.size=64) (hC:C=(T.toList ++ [Value.int .i64 i]).toArray) (W:World):(Instr.build 105 #[(0,.agg T),(1,.int .i64 i)]).run Tryz.prog W=.ok (.agg C) W:=by
 refine run_build W _ _ _ ?_;rw [jid jp7];have hs:(wrV (0,jas)).toArray.size=65:=rfl;obtain ⟨g1,g2⟩:=Great.foldl_set 0 T.toList 0 (wrV (0,jas)).toArray;show Instr.fill _ _ [(0,Value.agg T),(1,Value.int .i64 i)]=_;rw [jip (off:=0) (size:=64) rfl (by exact hT) (by rw [hs];decide)];obtain ⟨D,hD⟩:∃ D,D=((T.toList.zipIdx 0).foldl (fun cs (x:Value × Nat)=>cs.setIfInBounds (0 + x.2) x.1) (wrV (0,jas)).toArray):=⟨_,rfl⟩;rw [<- hD] at g1 g2;show Instr.fill _ ((T.toList.zipIdx 0).foldl (fun cs (x:Value × Nat)=>cs.setIfInBounds (0 + x.2) x.1) (wrV (0,jas)).toArray) _=_;rw [<- hD,jip (off:=64) (size:=1) rfl rfl (by rw [g1,hs];decide)];show some (D.setIfInBounds (64 + 0) (.int .i64 i))=_
 congr 1
 apply Array.ext_getElem?;intro k;rw [hC,Array.getElem?_setIfInBounds];rw [hs] at g1 g2;have hTl:T.toList.length=64:=by rw [Array.length_toList];exact hT
 have hr:(T.toList ++ [Value.int .i64 i]).toArray[k]? = (T.toList ++ [Value.int .i64 i])[k]?:=List.getElem?_toArray;rw [hr];by_cases e:64 + 0=k
 ·rw [if_pos e,if_pos (by rw [g1];omega),<- e,List.getElem?_append_right (by omega),hTl];rfl
 ·rw [if_neg e];rcases Nat.lt_or_ge k 64 with hk | hk
  ·rw [g2 k,if_pos ⟨by omega,by omega,by omega⟩,List.getElem?_append_left (by omega)];rfl
  ·rw [Array.getElem?_eq_none (by rw [g1];omega),List.getElem?_eq_none (by rw [List.length_append,hTl];simp;omega)]
theorem jqg {C:Array Value} (hC:C.size=65) (W:World):(Instr.buildSlice 60 1 #[(0,.agg C)]).run Tryz.prog W=.ok (.slice (some ⟨W.heap.size,0,none⟩) 1 1) (W.alloc (.cells C 105)):=by
 obtain ⟨i0,hif,hz0,hz1,hz2⟩:=info_parts Tryz.infoWb;refine run_buildSlice W _ _ 1 _ C i0 _ Tryz.underlying60 hif hz0 (by rw [hz1];decide) (by rw [hz1];decide) ?_;rw [hz1];have h:=Great.fill_whole (s:=65) (by decide) [.agg C] ((Array.range (1 * 65)).map (fun k=>(Value.agg (wrV (0,jas)).toArray).cells[k % (Value.agg (wrV (0,jas)).toArray).cells.size]!)) (fun v hv=>by rw [List.mem_singleton.1 hv];exact hC) (by simp);refine Eq.trans ?_ (h.trans ?_)
 ·rfl
 ·simp [Value.cells]
section
variable {w w2 w3 w7:World} {p gl gn:Nat} {V V':Value} {z:Int} {DL:DataW Value} {DN:DataW Unit} {s:Dk}
theorem jak.push (h:jak w p gl gn V z DL DN s) {i:Nat} {t:List Nat} (hi:i < s.last.length) (ht:Sec t) (ho:w2.ownsMap Tryz.prog 3 (plainElem Tryz.prog 3) gn (s.pend.length + 1) (DN.put (.int .i64 (i:Int)) (.lit (.int .i64 (s.pend.length:Int)))))
  (hm:w.mapTurned w2 gn) (hb:Below w2.heap.size w2 w3) (hg:w3.grownBy w7 V.ownBlock) (hown:w7.ownsRow 0 105 65 V' (s.pend.length + 1) (je0 s.pend ++ wrV (i,t))) (hV:V.ownBlock=V'.ownBlock∨∃ g,V'.ownBlock=some g/\w3.heap.size<=g) :
  jak (w7.setCell ⟨p,2,none⟩ V') p gl gn V' z DL (DN.put (.int .i64 (i:Int)) (.lit (.int .i64 (s.pend.length:Int)))) ⟨s.last,s.pend ++ [(i,t)],s.lim,s.off⟩:=by
 have hsz:w.heap.size<=w2.heap.size:=by
  obtain ⟨es,clock,es',clock',hb',rfl⟩:=hm;simp [ChangeMaps.setBlock]
 have lp:=Nat.lt_of_lt_of_le (h.lt p jdL) hsz;have ll:=Nat.lt_of_lt_of_le (h.lt gl jkg) hsz;have ln:=Nat.lt_of_lt_of_le (h.lt gn jma) hsz
 have hne:∀ b,b < w2.heap.size->V.ownBlock≠some b->V'.ownBlock≠some b:=fun b hlt hn e=>by
  rcases hV with e2 | ⟨g,e2,hl⟩
  ·exact hn (e2.trans e)
  ·rw [e2] at e;injection e with e;have:=hb.size;omega
 have k7:∀ b,b < w2.heap.size->V.ownBlock≠some b->w7.heap[b]? = w2.heap[b]?:=fun b hlt hn=>(hg.block b (Nat.lt_of_lt_of_le hlt hb.size) (fun e=>hn e.symm)).trans (hb.block b hlt)
 have kp:=(k7 p lp h.a2.1).trans ((jbm hm h.a1.2.1).trans h.box);refine ⟨⟨h.ok.pos,h.ok.le,h.ok.sec,fun j hj=>?_⟩,jaC w7 p 2 V' _ _ kp,jdf h.last ((jah w7 p gl 2 V' h.a1.1).trans ((k7 gl ll h.a2.2.1).trans (jbm hm h.a1.2.2))),h.lsays,?_,?_,?_,h.lim,h.zi,h.a1,⟨hne p lp h.a2.1,hne gl ll h.a2.2.1,hne gn ln h.a2.2.2⟩⟩
 ·simp only [List.length_append,List.length_cons,List.length_nil] at hj;rw [List.getD_eq_getElem?_getD];by_cases hj2:j < s.pend.length
  ·rw [List.getElem?_append_left hj2,<- List.getD_eq_getElem?_getD];exact h.ok.pen j hj2
  ·rw [List.getElem?_append_right (by omega),show j - s.pend.length=0 by omega];exact ⟨hi,ht⟩
 ·rw [show (s.pend ++ [(i,t)]).length=s.pend.length + 1 by simp];exact jdf ho ((jah w7 p gn 2 V' h.a1.2.1).trans (k7 gn ln h.a2.2.2))
 ·exact h.nsays.put h.new.isMap i t
 ·rw [show (s.pend ++ [(i,t)]).length=s.pend.length + 1 by simp,jlX];exact jek hown (fun g e=>jah w7 p g 2 V' (fun e2=>hne p lp h.a2.1 (by rw [e2];exact e)))
end
set_option maxHeartbeats 6400000
section
variable {w:World} {p gl gn:Nat} {V:Value} {z:Int} {DL:DataW Value} {DN:DataW Unit} {s:Dk}
theorem jlY (h:jak w p gl gn V z DL DN s) (b0 b1 b2 N c:Nat) (A:Option Addr) (n:Int) (t:List Nat) (hN:N=t.length) (hb0:w.cell? ⟨b0,0,none⟩=some (.pointer (some ⟨p,0,none⟩))) (hb1:w.cell? ⟨b1,0,none⟩=some (.slice A N c)) (hb2:w.cell? ⟨b2,0,none⟩=some (.int .i64 n)) (hE:ja5 s n t≠0) :
  Calls Tryz.prog 118 #[.pointer (some ⟨b0,0,none⟩),.pointer (some ⟨b1,0,none⟩),.pointer (some ⟨b2,0,none⟩)] w fun e w'=>e=.panicked (upV (ja5 s n t))/\(jak w' p gl gn V z DL DN (jbl s n t)/\jaM (jbh p gl gn V) w w'):=by
 obtain ⟨_,_,_,_,_,c5⟩:=h.cells;have hnot:∀ (x:Bool) (w:World),(Op.unary .not (.bool x)).run Tryz.prog w=.ok (.bool (!x)) w:=fun _ _=>rfl
 have R0:=Lib.hid (And.intro h (jaM.refl (jbh p gl gn V) w));cases ho:s.off with
 | true =>
  have e:ja5 s n t=8:=by unfold ja5;rw [ho];rfl
  have e2:jbl s n t=s:=by unfold jbl;rw [ho];rfl
  rw [e,e2];rw [ho] at c5;clear h hE e e2 hN;go_enter Tryz.func118,Tryz.ntmps118
  go_wp2_with (go_at_call 55;with_reducible (refine Calls.mono (jch _ _) ?_);rintro e w1 ⟨rfl,rfl⟩)
  exact ⟨rfl,rfl,R0.out⟩
 | false =>
  rw [ho] at c5;have hf:¬ (false=true):=by decide
  by_cases hl:t.length=64
  ·have hl':¬ (t.length≠64):=by omega
   have d1:N=64:=by omega
   by_cases hout:je6 s n
   ·have e:ja5 s n t=7:=by unfold ja5;rw [ho,if_neg hf,if_neg hl',if_pos hout]
    have e2:jbl s n t=s:=by unfold jbl;rw [ho,if_neg hf,if_neg hl',if_pos hout]
    rw [e,e2];have HH:=Lib.hid (jlW h n hout);subst d1;clear h hE e e2 hN hl hl' hout;go_enter Tryz.func118,Tryz.ntmps118
    go_wp2_with (first
     | (go_at_call 56;with_reducible (refine Calls.mono HH.out ?_);rintro e w1 ⟨rfl,rfl⟩;have h7:=hnot)
     | (go_at_call 55;have h7':=h7;with_reducible (refine Calls.mono (jch _ _) ?_);rintro e w1 ⟨rfl,rfl⟩)
     | (go_at_call 55;with_reducible (refine Calls.mono (jbs _ _) ?_);rintro e w1 ⟨rfl,rfl⟩))
    exact ⟨rfl,rfl,R0.out⟩
   ·have hs:jbV s≠0:=fun q=>hE (by unfold ja5;rw [ho,if_neg hf,if_neg hl',if_neg hout];exact q)
    have e:ja5 s n t=8:=by unfold ja5;rw [ho,if_neg hf,if_neg hl',if_neg hout];exact (jii s).resolve_left hs
    have e2:jbl s n t=jaT s:=by unfold jbl;rw [ho,if_neg hf,if_neg hl',if_neg hout,if_neg hs]
    rw [e,e2];have HH:=Lib.hid (jgY h n hout);have HSP:=Lib.hid (jfr h hs);obtain ⟨s2,hs2⟩:∃ s2,s2=jaT s:=⟨_,rfl⟩;rw [<- hs2] at HSP ⊢;subst d1;clear h hE e e2 hN hl hl' hout hs hs2 R0;go_enter Tryz.func118,Tryz.ntmps118
    go_wp2_with (first
     | (go_at_call 56;with_reducible (refine Calls.mono HH.out ?_);rintro e w1 ⟨rfl,rfl⟩)
     | (go_at_call 119;with_reducible (refine Calls.mono HSP.out ?_);rintro e w1 ⟨rfl,hr1,ha1⟩)
     | (go_at_call 55;with_reducible (refine Calls.mono (jbs _ _) ?_);rintro e w1 ⟨rfl,rfl⟩))
    exact ⟨rfl,rfl,hr1,ha1⟩
  ·have e:ja5 s n t=1:=by unfold ja5;rw [ho,if_neg hf,if_pos hl]
   have e2:jbl s n t=s:=by unfold jbl;rw [ho,if_neg hf,if_pos hl]
   rw [e,e2];have d1:((N:Int) == 64)=false:=beq_eq_false_iff_ne.2 (by omega);clear h hE e e2 hN hl;go_enter Tryz.func118,Tryz.ntmps118
   go_wp2_with (first
    | (go_at_call 55;with_reducible (refine Calls.mono (jbs 8 _) ?_);rintro e w1 ⟨rfl,rfl⟩)
    | (go_at_call 55;with_reducible (refine Calls.mono (jch 1 _) ?_);rintro e w1 ⟨rfl,rfl⟩))
   exact ⟨rfl,rfl,R0.out⟩
theorem jmJ (h:jak w p gl gn V z DL DN s) (b0 b1 b2 c i:Nat) (A:Option Addr) (t:List Nat) (hI:jaO w w.heap.size .u8 A (up t)) (ht:∀ y∈t,y < 256) (hF:∀ b o,A=some ⟨b,o,none⟩->¬ jbh p gl gn V b)
  (hb0:w.cell? ⟨b0,0,none⟩=some (.pointer (some ⟨p,0,none⟩))) (hb1:w.cell? ⟨b1,0,none⟩=some (.slice A t.length c)) (hb2:w.cell? ⟨b2,0,none⟩=some (.int .i64 (i:Int)))
  (hn:¬ jbh p gl gn V b0/\¬ jbh p gl gn V b1/\¬ jbh p gl gn V b2) (hm:s.pend.length<=2147483647) (hE:ja5 s (i:Int) t=0) :
  Calls Tryz.prog 118 #[.pointer (some ⟨b0,0,none⟩),.pointer (some ⟨b1,0,none⟩),.pointer (some ⟨b2,0,none⟩)] w fun e w'=>e=.returned (.tuple #[]) /\
   ((∃ V' z' DN',jak w' p gl gn V' z' DL DN' (jbl s (i:Int) t)/\(V.ownBlock=V'.ownBlock∨∃ g,V'.ownBlock=some g/\w.heap.size<=g))/\jaM (jbh p gl gn V) w w'):=by
 obtain ⟨_,_,_,_,_,c5⟩:=h.cells;have hnot:∀ (x:Bool) (w:World),(Op.unary .not (.bool x)).run Tryz.prog w=.ok (.bool (!x)) w:=fun _ _=>rfl
 have hf:¬ (false=true):=by decide
 have ho:s.off=false:=by
  cases q:s.off
  ·rfl
  ·unfold ja5 at hE;rw [q] at hE;cases hE
 have hl:t.length=64:=by
  unfold ja5 at hE;rw [ho,if_neg hf] at hE;by_cases q:t.length=64
  ·exact q
  ·rw [if_pos q] at hE;cases hE
 have hl':¬ (t.length≠64):=by omega
 have hout:¬ je6 s (i:Int):=fun q=>by unfold ja5 at hE;rw [ho,if_neg hf,if_neg hl',if_pos q] at hE;cases hE
 have hs:jbV s=0:=by unfold ja5 at hE;rw [ho,if_neg hf,if_neg hl',if_neg hout] at hE;exact hE
 have e2:jbl s (i:Int) t=⟨s.last,s.pend ++ [(i,t)],(jaT s).lim,false⟩:=by
  unfold jbl;rw [ho,if_neg hf,if_neg hl',if_neg hout,if_pos hs,(jhE hs).1,ho];rfl
 rw [e2];rw [ho] at c5;rw [hl] at hb1;have hi:i < s.last.length:=by unfold je6 at hout;omega
 have hi6:(i:Int) < 4096:=by have:=h.ok.le;omega
 have HH:=Lib.hid (jgY h (i:Int) hout);have HSP:=Lib.hid (jfG h hs);have hkey:=Lib.hid (jjN (x:=(i:Int)) (by unfold jeI;omega));obtain ⟨b,o,rfl,hbl,_⟩:=hI 0 (by rw [jfW,hl];decide)
 have HC:Hid (∀ W,jaM (jbh p gl gn V) w W->W.cell? ⟨b0,0,none⟩=some (.pointer (some ⟨p,0,none⟩))/\W.cell? ⟨b1,0,none⟩=some (.slice (some ⟨b,o,none⟩) 64 c)/\W.cell? ⟨b2,0,none⟩=some (.int .i64 (i:Int))/\W.rangeAt b o (BA t).toList):=fun W ha=>by
  refine ⟨(ha.cell (World.block_lt_of_cell? w _ hb0) hn.1).trans hb0,(ha.cell (World.block_lt_of_cell? w _ hb1) hn.2.1).trans hb1,(ha.cell (World.block_lt_of_cell? w _ hb2) hn.2.2).trans hb2,fun j v hv=>?_⟩
  have hj:j < t.length:=by
   rcases Nat.lt_or_ge j t.length with q | q
   ·exact q
   ·rw [List.getElem?_eq_none (by rw [Array.length_toList,jcN];exact q)] at hv;cases hv
  have hv2:(BA t)[j]? = some v:=by rw [<- Array.getElem?_toList];exact hv
  rw [jnj t j hj] at hv2;obtain ⟨b',o',e',_,hc⟩:=hI j (by rw [jfW];exact hj);injection e' with e'
  injection e' with e1 e2
  subst e1 e2;rw [jk9] at hc;rw [ha.cell hbl (hF _ _ rfl),hc];exact hv2
 have hpn:(s.pend.length:Int)<=2147483647:=by omega
 -- what the map of the newest writes becomes
 have HMU:Hid (∀ W z',jak W p gl gn V z' DL DN ⟨s.last,s.pend,(jaT s).lim,false⟩->∃ w2,(Instr.mapUpdate 59 (.map (some gn)) (.int .i64 (i:Int)) (.int .i64 (s.pend.length:Int))).run Tryz.prog W.drew=.ok () w2/\w2.ownsMap Tryz.prog 3 (plainElem Tryz.prog 3) gn (s.pend.length + 1) (DN.put (.int .i64 (i:Int)) (.lit (.int .i64 (s.pend.length:Int))))/\W.drew.mapTurned w2 gn):=fun W z' hW =>
  World.ownsMap.store (w:=W.drew) hW.new joK Tryz.undMapN (by show s.pend.length < maxLen;unfold maxLen;omega) hkey.out (plainElem_int Tryz.undIntD (by simp [Lit.wf,IntKind.min,IntKind.max,IntKind.signed,IntKind.bits];omega))
 obtain ⟨A',c',hV,_,_⟩:=h.len;have HV:=Lib.hid hV;have hsec:Sec t:=⟨hl,ht⟩;have HHN:=Lib.hid hn;clear hI hF hE ho hl' hout hs e2 h hn hV hf;go_enter Tryz.func118,Tryz.ntmps118
 go_wp2_with (first
  | (go_at_call 56;with_reducible (refine Calls.mono HH.out ?_);rintro e wx ⟨rfl,hwx⟩;obtain rfl:=hwx.symm)
  | (go_at_call 119;with_reducible (refine Calls.mono HSP.out ?_);rintro e w1 ⟨rfl,⟨z1,hr1⟩,ha1⟩;have y0:=(HC.out _ ha1).1)
  | (go_at_call 55;with_reducible (refine Calls.mono (jbs _ _) ?_);rintro e wx ⟨rfl,hwx⟩;obtain rfl:=hwx.symm))
 obtain ⟨w2,hmu,ho2,hm2⟩:=HMU.out w1 z1 hr1;obtain ⟨_,_,y2,y3,_,_⟩:=hr1.cells;obtain ⟨_,_,y4,_⟩:=HC.out _ ha1;rw [HV.out] at y2;have ha2:jaM (jbh p gl gn V) w w2:=jgS (jdy ha1) hm2 jma
 have HS2:Hid (w2.cell? ⟨b0,0,none⟩=some (.pointer (some ⟨p,0,none⟩))/\w2.cell? ⟨p,3,none⟩=some (.map (some gn))/\w2.cell? ⟨b2,0,none⟩=some (.int .i64 (i:Int))/\w2.cell? ⟨p,2,none⟩=some (.slice A' s.pend.length c')) :=
  ⟨(HC.out _ ha2).1,(World.cell?_of_block (jbm hm2 hr1.a1.2.1)).trans y3,(HC.out _ ha2).2.2.1,(World.cell?_of_block (jbm hm2 hr1.a1.2.1)).trans y2⟩
 have HR1:=Lib.hid (And.intro hr1 (And.intro ho2 hm2));have HA:=Lib.hid (And.intro ha1 ha2);have HS2V:Hid (w2.cell? ⟨p,2,none⟩=some V):=by unfold Hid;rw [HV.out];exact HS2.out.2.2.2
 clear hr1 ho2 hm2 ha1 ha2 HMU HSP HH
 go_region_held3 (fun W=>W.cell? ⟨b0,0,none⟩=some (.pointer (some ⟨p,0,none⟩))/\W.cell? ⟨p,3,none⟩=some (.map (some gn))/\W.cell? ⟨b2,0,none⟩=some (.int .i64 (i:Int))/\W.cell? ⟨p,2,none⟩=some (.slice A' s.pend.length c'))
  (first
   | exact ⟨y0,y3,y4,y2⟩
   | exact HS2.out)
  (first | fail)
 obtain ⟨T,hT⟩:∃ T,T=BA t:=⟨_,rfl⟩;have hTs:T.size=64:=by rw [hT,jcN,hl]
 obtain ⟨C,hC⟩:∃ C,C=(T.toList ++ [Value.int .i64 (i:Int)]).toArray:=⟨_,rfl⟩;have hCw:Hid (C=(wrV (i,t)).toArray):=by unfold Hid wrV;rw [hC,hT]
 have HBD:=Lib.hid (fun W=>jqm (i:Int) hTs hC W);have hCs:C.size=65:=by rw [hC];simp [hTs]
 have HSL:=Lib.hid (fun W=>jqg hCs W);have hu:=Tryz.und64;have hinL:(Tryz.prog.info? 103).map (·.size)=some T.toList.length:=by rw [Array.length_toList,hTs];exact Tryz.infS
 have HS5:Hid (∀ W,jaM (jbh p gl gn V) w W->W.cell? ⟨b0,0,none⟩=some (.pointer (some ⟨p,0,none⟩))/\W.cell? ⟨b1,0,none⟩=some (.slice (some ⟨b,o,none⟩) 64 c)/\W.cell? ⟨b2,0,none⟩=some (.int .i64 (i:Int))/\W.rangeAt b o T.toList):=by rw [hT];exact HC.out
 have HA5:=Lib.hid (jdy HA.out.2);have harr:∀ W:World,(Instr.arrayAt 103 (.slice (some ⟨b,o,none⟩) 64 c)).run Tryz.prog W=.ok (.pointer (some ⟨b,o,none⟩)) W:=fun W=>by simp [Instr.arrayAt,run_underlying hu]
 clear hT hC y0 y2 y3 y4 hmu
 -- the facts behind the slice
 have hV2:=HV.out;obtain ⟨hr1,ho2,hm2⟩:=HR1.out
 have hw1s:w1.heap.size<=w2.heap.size:=by
  obtain ⟨es,clock,es',clock',hb',rfl⟩:=hm2;simp [ChangeMaps.setBlock]
 obtain ⟨W3,hW3⟩:∃ W3,W3=w2.drew.alloc (.cells C 105):=⟨_,rfl⟩;have HW3:=Lib.hid hW3;have hb3:Below w2.heap.size w2 W3:=by rw [hW3];exact (Below.refl w2.heap.size w2).drew.alloc (Nat.le_refl _) _
 have HA6:Hid (jaM (jbh p gl gn V) w (w2.drew.alloc (.cells C 105))):=jhh HA5.out _;have HA6b:Hid (jaM (jbh p gl gn V) w W3):=by rw [hW3];exact HA6.out
 have k3:∀ b',b' < w1.heap.size->b'≠gn->W3.heap[b']? = w1.heap[b']?:=fun b' q1 q2=>(hb3.block b' (Nat.lt_of_lt_of_le q1 hw1s)).trans (jbm (w:=w1.drew) hm2 q2)
 have kp:=(k3 p (hr1.lt p jdL) hr1.a1.2.1).trans hr1.box
 have HPD:Hid (W3.ownsRow 0 105 65 (.slice A' s.pend.length c') s.pend.length (je0 s.pend)):=by
  rw [<- hV2];exact jek hr1.pend (fun g e=>k3 g (hr1.pend.lt g e).2 (fun e2=>hr1.a2.2.2 (e2 ▸ e)))
 have y2:w2.drew.cell? ⟨p,2,none⟩=some (.slice A' s.pend.length c'):=by rw [<- hV2];exact HS2V.out
 have y3:W3.cell? ⟨p,2,none⟩=some (.slice A' s.pend.length c'):=by rw [<- hV2];exact cell_of_row _ _ _ _ _ _ kp
 have HCl:Hid (C.toList.length=1 * 65):=by unfold Hid;rw [Array.length_toList,hCs]
 have HCN:Hid (∀ (j:Nat) (u:Value),C.toList[j]? = some u->W3.cell? ((⟨w2.heap.size,0,none⟩:Addr).add j)=some u):=fun j u hj=>by
  have hg:W3.heap[w2.heap.size]? = some (.cells C 105 (0,0)):=by rw [hW3];exact heap_alloc_new w2.drew _
  rw [Addr.add_mid,cell_of_row _ _ _ _ _ _ hg,Nat.zero_add,<- Array.getElem?_toList];exact hj
 have HC1:Hid (∀ u∈C.toList,u.oneCell'=true):=fun u hu=>by
  have h1:=jll (i,t);rw [<- hCw.out,Array.all_eq_true_iff_forall_mem] at h1;exact h1 u (by simpa using hu)
 have HG:Hid (∀ w7,W3.grownBy w7 (Value.ownBlock (.slice A' s.pend.length c'))->jaM (jbh p gl gn V) w w7):=fun w7 hg=>by
  rw [<- hV2] at hg;exact ⟨hg.os.trans HA6b.out.os,hg.tape.trans HA6b.out.tape,hg.output.trans HA6b.out.output,Nat.le_trans HA6b.out.size hg.size,fun k k1 k2=>(hg.block k (Nat.lt_of_lt_of_le k1 HA6b.out.size) (fun e=>k2 (.inr (.inr (.inr e.symm))))).trans (HA6b.out.block k k1 k2)⟩
 have HQ:Hid (∀ w7,W3.grownBy w7 (Value.ownBlock (.slice A' s.pend.length c'))->w7.cell? ⟨p,2,none⟩=some (.slice A' s.pend.length c')/\w7.frozen? ⟨p,2,none⟩=false):=fun w7 hg=>by
  rw [<- hV2] at hg ⊢;have hc:=(hg.block p (Array.getElem?_eq_some_iff.1 kp).1 (fun e=>hr1.a2.1 e.symm)).trans kp;exact ⟨cell_of_row _ _ _ _ _ _ hc,frozen_of_row _ _ _ _ _ hc⟩
 have HE:Hid (∀ g7 c7 w7,w7.ownsRow 0 105 65 (.slice (some ⟨g7,0,none⟩) (s.pend.length + 1) c7) (s.pend.length + 1) (je0 s.pend ++ C.toList)->W3.grownBy w7 (Value.ownBlock (.slice A' s.pend.length c'))->(Value.ownBlock (.slice A' s.pend.length c')=some g7∨g7=W3.heap.size) ->
   ((∃ V' z' DN',jak (w7.setCell ⟨p,2,none⟩ (.slice (some ⟨g7,0,none⟩) (s.pend.length + 1) c7)) p gl gn V' z' DL DN' ⟨s.last,s.pend ++ [(i,t)],(jaT s).lim,false⟩/\(V.ownBlock=V'.ownBlock∨∃ g,V'.ownBlock=some g/\w.heap.size<=g))/\jaM (jbh p gl gn V) w (w7.setCell ⟨p,2,none⟩ (.slice (some ⟨g7,0,none⟩) (s.pend.length + 1) c7)))):=fun g7 c7 w7 q1 q2 q3=>by
  have qa:=(HG.out w7 q2).set jdL 2 (.slice (some ⟨g7,0,none⟩) (s.pend.length + 1) c7);rw [hCw.out] at q1;rw [<- hV2] at q2 q3;refine ⟨⟨_,_,_,(hr1.keep (w':=w1.drew) (fun _ _=>rfl)).push hi hsec ho2 hm2 hb3 q2 q1 (q3.imp (fun e=>e) (fun e=>⟨g7,rfl,by rw [e];exact Nat.le_refl _⟩)),q3.imp (fun e=>e) (fun e=>⟨g7,rfl,by rw [e];exact HA6b.out.size⟩)⟩,qa⟩
 obtain ⟨i0,hif,hz0,hz1,hz2⟩:=info_parts Tryz.infoWb;have HZs:Hid ((Value.agg (wrV (0,jas)).toArray).cells.size=65):=rfl;clear hr1 ho2 hm2 hw1s hW3 hb3 k3 kp hV2 hCs
 go_wp2_with fail
 refine wp_region_held_drew (S:=(fun W=>W.cell? ⟨b0,0,none⟩=some (.pointer (some ⟨p,0,none⟩))/\W.cell? ⟨b1,0,none⟩=some (.slice (some ⟨b,o,none⟩) 64 c)/\W.cell? ⟨b2,0,none⟩=some (.int .i64 (i:Int))/\W.rangeAt b o T.toList)) (by kernel_rfl) (HS5.out _ HA5.out) (fun hHeld=>?_);refine tkS 0 29 (v:=?_) ?_ ?_
 rotate_left 1
 ·intro w hSw;(try dsimp only at hSw);(try obtain ⟨m0,m1,m2,m3⟩:=hSw);first | (go_simp;done) | (go_simp;with_reducible rfl)
 (try simp only [Act.put,tk1,tk2,tk3])
 refine tkS 1 30 (v:=?_) ?_ ?_
 rotate_left 1
 ·intro w hSw;(try dsimp only at hSw);(try obtain ⟨m0,m1,m2,m3⟩:=hSw);first | (go_simp;done) | (go_simp;with_reducible rfl)
 (try simp only [Act.put,tk1,tk2,tk3])
 refine tkS 2 31 (v:=?_) ?_ ?_
 rotate_left 1
 ·intro w hSw;(try dsimp only at hSw);(try obtain ⟨m0,m1,m2,m3⟩:=hSw);first | (go_simp;done) | (go_simp;with_reducible rfl)
 (try simp only [Act.put,tk1,tk2,tk3])
 refine tkS 3 32 (v:=?_) ?_ ?_
 rotate_left 1
 ·intro w hSw;(try dsimp only at hSw);(try obtain ⟨m0,m1,m2,m3⟩:=hSw);first | (go_simp;done) | (go_simp;with_reducible rfl)
 (try simp only [Act.put,tk1,tk2,tk3])
 refine tkS 5 34 (v:=?_) ?_ ?_
 rotate_left 1
 ·intro w hSw;(try dsimp only at hSw);(try obtain ⟨m0,m1,m2,m3⟩:=hSw);first | (go_simp;done) | (go_simp;with_reducible rfl)
 (try simp only [Act.put,tk1,tk2,tk3])
 refine tkS 6 35 (v:=?_) ?_ ?_
 rotate_left 1
 ·intro w hSw;(try dsimp only at hSw);(try obtain ⟨m0,m1,m2,m3⟩:=hSw);first | (go_simp;done) | (go_simp;with_reducible rfl)
 (try simp only [Act.put,tk1,tk2,tk3])
 refine wpAnyH_take (i:=7) (oi:=_) rfl (by kernel_rfl) (by kernel_rfl) (by kernel_rfl) (fun _ _ _ h=>h) (yieldsIf_load_mid (by rfl) 103 _ rfl b o rfl T.toList _ (fun W hW=>hW.2.2.2) hu rfl hinL) (by assumption) ?_;change wpAnyH _ _ _ _ _ _ _ (Act.put _ (some 36) _) _
 (try simp only [Act.put,tk1,tk2,tk3])
 refine tkS 8 37 (v:=?_) ?_ ?_
 rotate_left 1
 ·intro w hSw;(try dsimp only at hSw);(try obtain ⟨m0,m1,m2,m3⟩:=hSw);first | (go_simp;done) | (go_simp;with_reducible rfl)
 (try simp only [Act.put,tk1,tk2,tk3])
 refine wpAnyH_take (i:=9) (oi:=_) rfl (by kernel_rfl) (by kernel_rfl) (by kernel_rfl) (fun _ _ _ h=>h) (jik (by rfl) 105 #[(0,Operand.tmp 36),(1,Operand.tmp 37)] rfl #[(0,.agg T),(1,.int .i64 (i:Int))] (by simp;exact ⟨rfl,rfl⟩) C HBD.out) (by assumption) ?_;change wpAnyH _ _ _ _ _ _ _ (Act.put _ (some 38) _) _
 (try simp only [Act.put,tk1,tk2,tk3])
 refine wpAnyH_ready (rs:=[4,10]) (by kernel_rfl) (by simp) ?_;refine AllReadyH.cons (o:=_) rfl (fun K hK=>?_) (AllReadyH.cons (o:=_) rfl (fun K hK=>?_) (AllReadyH.nil))
 ·go_simp
  refine hK.out _ _ (HS5.out _ (HA5.out)) (fun hHeld4=>?_)
  (try simp only [Act.put,tk1,tk2,tk3])
  clear hK K;refine wpAnyH_ready (rs:=[10]) (by kernel_rfl) (by simp) ?_;refine AllReadyH.cons (o:=_) rfl (fun K hK=>?_) (AllReadyH.nil);refine jdr (by rfl) 60 1 #[(0,Operand.tmp 38)] rfl #[(0,.agg C)] (by simp;rfl) _ _ (HSL.out w2.drew) ?_;refine hK.out _ _ (HS5.out _ (HA6.out)) (fun hHeld10=>?_);change wpAnyH _ _ _ _ _ _ _ (Act.put _ (some 39) _) _
  (try simp only [Act.put,tk1,tk2,tk3])
  clear hK K;rw [<- HW3.out];refine wpAnyH_ready (rs:=[11]) (by kernel_rfl) (by simp) ?_;refine AllReadyH.cons (o:=_) rfl (fun K hK=>?_) (AllReadyH.nil);refine step_append_lies _ rfl _ _ 60 rfl 0 105 i0 (.agg (wrV (0,jas)).toArray) 65 72 Tryz.underlying60 hif hz0 hz1 hz2 HZs.out (by decide) (.slice A' s.pend.length c') s.pend.length (je0 s.pend) rfl HPD.out ⟨w2.heap.size,0,none⟩ 1 1 C.toList rfl HCl.out HCN.out HC1.out (by decide) (by unfold maxLen;omega) (by omega) (Nat.zero_le _) W3.heap.size rfl ?_;intro g7 c7 w7 hown7 hg7 hl7 _;refine hK.out _ _ (HS5.out _ (HG.out _ hg7)) (fun hHeld11=>?_);change wpAnyH _ _ _ _ _ _ _ (Act.put _ (some 40) _) _
  (try simp only [Act.put,tk1,tk2,tk3])
  clear hK K;refine tkS 12 41 (v:=?_) ?_ ?_
  rotate_left 1
  ·intro w hSw;(try dsimp only at hSw);(try obtain ⟨m0,m1,m2,m3⟩:=hSw);first | (go_simp;done) | (go_simp;with_reducible rfl)
  (try simp only [Act.put,tk1,tk2,tk3])
  refine tkS 13 42 (v:=?_) ?_ ?_
  rotate_left 1
  ·intro w hSw;(try dsimp only at hSw);(try obtain ⟨m0,m1,m2,m3⟩:=hSw);first | (go_simp;done) | (go_simp;with_reducible rfl)
  (try simp only [Act.put,tk1,tk2,tk3])
  refine wpAnyH_ready (rs:=[14]) (by kernel_rfl) (by simp) ?_;refine AllReadyH.cons (o:=_) rfl (fun K hK=>?_) (AllReadyH.nil);have y7:=(HQ.out _ hg7).1;have y8:=(HQ.out _ hg7).2
  go_simp
  refine hK.out _ _ (HS5.out _ ((HG.out _ hg7).set jdL _ _)) (fun hHeld14=>?_)
  (try simp only [Act.put,tk1,tk2,tk3])
  clear hK K;refine wpAnyH_done (by kernel_rfl) ?_ _;exact bodyPost_end (results_none rfl _ _ _) rfl ⟨rfl,HE.out _ _ _ hown7 hg7 hl7⟩
 ·refine jdr (by rfl) 60 1 #[(0,Operand.tmp 38)] rfl #[(0,.agg C)] (by simp;rfl) _ _ (HSL.out w2.drew) ?_;refine hK.out _ _ (HS5.out _ (HA6.out)) (fun hHeld10=>?_);change wpAnyH _ _ _ _ _ _ _ (Act.put _ (some 39) _) _
  (try simp only [Act.put,tk1,tk2,tk3])
  clear hK K;rw [<- HW3.out];refine wpAnyH_ready (rs:=[4]) (by kernel_rfl) (by simp) ?_;refine AllReadyH.cons (o:=_) rfl (fun K hK=>?_) (AllReadyH.nil)
  go_simp
  refine hK.out _ _ (HS5.out _ (HA6b.out)) (fun hHeld4=>?_)
  (try simp only [Act.put,tk1,tk2,tk3])
  clear hK K;refine wpAnyH_ready (rs:=[11]) (by kernel_rfl) (by simp) ?_;refine AllReadyH.cons (o:=_) rfl (fun K hK=>?_) (AllReadyH.nil);refine step_append_lies _ rfl _ _ 60 rfl 0 105 i0 (.agg (wrV (0,jas)).toArray) 65 72 Tryz.underlying60 hif hz0 hz1 hz2 HZs.out (by decide) (.slice A' s.pend.length c') s.pend.length (je0 s.pend) rfl HPD.out ⟨w2.heap.size,0,none⟩ 1 1 C.toList rfl HCl.out HCN.out HC1.out (by decide) (by unfold maxLen;omega) (by omega) (Nat.zero_le _) W3.heap.size rfl ?_;intro g7 c7 w7 hown7 hg7 hl7 _;refine hK.out _ _ (HS5.out _ (HG.out _ hg7)) (fun hHeld11=>?_);change wpAnyH _ _ _ _ _ _ _ (Act.put _ (some 40) _) _
  (try simp only [Act.put,tk1,tk2,tk3])
  clear hK K;refine tkS 12 41 (v:=?_) ?_ ?_
  rotate_left 1
  ·intro w hSw;(try dsimp only at hSw);(try obtain ⟨m0,m1,m2,m3⟩:=hSw);first | (go_simp;done) | (go_simp;with_reducible rfl)
  (try simp only [Act.put,tk1,tk2,tk3])
  refine tkS 13 42 (v:=?_) ?_ ?_
  rotate_left 1
  ·intro w hSw;(try dsimp only at hSw);(try obtain ⟨m0,m1,m2,m3⟩:=hSw);first | (go_simp;done) | (go_simp;with_reducible rfl)
  (try simp only [Act.put,tk1,tk2,tk3])
  refine wpAnyH_ready (rs:=[14]) (by kernel_rfl) (by simp) ?_;refine AllReadyH.cons (o:=_) rfl (fun K hK=>?_) (AllReadyH.nil);have y7:=(HQ.out _ hg7).1;have y8:=(HQ.out _ hg7).2
  go_simp
  refine hK.out _ _ (HS5.out _ ((HG.out _ hg7).set jdL _ _)) (fun hHeld14=>?_)
  (try simp only [Act.put,tk1,tk2,tk3])
  clear hK K;refine wpAnyH_done (by kernel_rfl) ?_ _;exact bodyPost_end (results_none rfl _ _ _) rfl ⟨rfl,HE.out _ _ _ hown7 hg7 hl7⟩
end
end Go.Proofs.YtbnhkplhmanmoaaGreat
