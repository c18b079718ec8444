/- . -/
import Derived.Test.YtbnhkplhmanmoaaGreatLineC6G
import Derived.Test.YtbnhkplhmanmoaaGreatTableC21G
import Derived.Test.YtbnhkplhmanmoaaGreatVaultPlaysG
import Derived.Test.YtbnhkplhmanmoaaGreatRecArgG
import Derived.Test.YtbnhkplhmanmoaaGreatDiskCDG
namespace Go.Proofs.YtbnhkplhmanmoaaGreat
open Go.RowKit
set_option maxHeartbeats 6400000
set_option maxRecDepth 20000
section
variable {t e:TypeId} {w wr w':World} {vo vn vo' vn':Value} {ts:List (List Rc)} {rs:List Rc}
theorem jhq.void (t e:TypeId) (w:World):jhq t e w w (.slice none 0 0) (.slice none 0 0) [] [] :=
 ⟨Below.refl _ _,⟨⟨[],⟨rfl,.inl ⟨rfl,rfl⟩⟩,fun i hi=>absurd hi (Nat.not_lt_zero i)⟩⟩,⟨rfl,.inl ⟨rfl,rfl⟩⟩,fun q hq=>by cases hq⟩
theorem jhq.flushN {A:Option Addr} {n c:Nat} (h:jhq t e w wr vo (.slice A n c) ts rs) (hn:n=rs.length) {Vs:List Value} (hVs:∃ X,wr.ownsRow w.heap.size t 1 vo ts.length X/\Vs=X) (hr:∀ i,(h:i < ts.length)->∃ Ai ci,Vs[i]? = some (.slice Ai ts[i].length ci)/\ts[i].length<=ci/\jax wr wr.heap.size Ai ts[i]/\∀ b o,Ai=some ⟨b,o,none⟩->b < wr.heap.size/\some b≠vo.ownBlock/\some b≠(Value.slice A n c).ownBlock)
  (hown:w'.ownsRow w.heap.size t 1 vo' (ts.length + 1) (Vs ++ [.slice A n c])) (hg:wr.grownBy w' vo.ownBlock) (hv:vo'.ownBlock=vo.ownBlock∨vo'.ownBlock=some wr.heap.size) :
  jhq t e w w' vo' (.slice none 0 0) (ts ++ [rs]) []:=by
 subst hn
 have hb':Below w.heap.size w w':=h.below.grown hg h.below.size fun q hq=>by
  obtain ⟨X,hX,_⟩:=hVs;exact (hX.lt q hq).1
 have key:∀ b,b < wr.heap.size->some b≠vo.ownBlock->some b≠vo'.ownBlock:=fun b hb hne q=>by
  rcases hv with hv | hv
  ·exact hne (q.trans hv)
  ·rw [hv] at q;injection q with q;omega
 refine ⟨hb',⟨⟨Vs ++ [.slice A rs.length c],?_,fun i hi=>?_⟩⟩,⟨rfl,.inl ⟨rfl,rfl⟩⟩,fun q hq hq2=>by cases hq2⟩
 ·rw [List.length_append];exact hown
 ·have hl:Vs.length=ts.length:=by obtain ⟨X,hX,rfl⟩:=hVs;have:=hX.1;omega
  by_cases hi2:i < ts.length
  ·obtain ⟨Ai,ci,e1,e2,e3,e4⟩:=hr i hi2;rw [List.getElem?_append_left (by omega),List.getElem_append_left hi2];refine ⟨Ai,ci,e1,e2,e3.keep hg.size (fun b o ea hl=>hg.block b hl (e4 b o ea).2.1),fun b o ea=>⟨?_,key b (e4 b o ea).1 (e4 b o ea).2.1,fun q=>by cases q⟩⟩;have:=(e4 b o ea).1;have:=hg.size;omega
  ·have hi3:i=ts.length:=by rw [List.length_append] at hi;simp at hi;omega
   subst hi3;rw [List.getElem?_append_right (by omega),List.getElem_append_right (Nat.le_refl _)];refine ⟨A,c,by simp [hl],?_,?_,fun b o ea=>?_⟩
   ·simp only [Nat.sub_self,List.getElem_cons_zero];rcases h.now.2 with ⟨hv,h0⟩ | ⟨g,cap,cur,hv,_,_,hle,_⟩
    ·omega
    ·injection hv with _ _ h3;omega
   ·simp only [Nat.sub_self,List.getElem_cons_zero];exact (jjr h.now rfl).keep hg.size fun b o ea hl=>hg.block b hl fun q=>h.apart b q.symm (by rw [ea];rfl)
   ·have hob:(Value.slice A rs.length c).ownBlock=some b:=by rw [ea];rfl
    have hlt:=(h.now.lt b hob).2;exact ⟨by have:=hg.size;omega,key b hlt (fun q=>h.apart b q.symm hob),fun q=>by cases q⟩
end
theorem jkz (A : Option Addr) (c : Nat) (ps : List jer) (g : Int) (w : World) (h : jiB w w.heap.size A ps) (hm : ps.length <= 9223372036854775807) (hg : jdD g) :
    Calls Tryz.prog 87 #[.slice A ps.length c, .int .i64 g] w fun e w' => ∃ A' c', e = .returned (.slice A' (jda (jaS ps) g).length c') /\ (jda (jaS ps) g).length <= c' /\ jaL w' w'.heap.size A' (jda (jaS ps) g) /\ Below w.heap.size w w' := by
  obtain ⟨i6, hf6, hz60, hz61, hz62⟩ := info_parts Tryz.infoRec6;obtain ⟨i1, hf1, hz10, hz11, hz12⟩ := info_parts Tryz.infoTrans;have HI := Lib.hid h;have HRE : Hid (∀ k, k <= ps.length -> (∀ i, i < k -> jbd (jaS ps) g i = true) -> (k < ps.length -> jbd (jaS ps) g k = false) -> jda (jaS ps) g = jba (jaS ps) k) := fun k a b d => je8 (by rw [jhy]; exact a) b (by rw [jhy]; exact d)
  have HSM : Hid (∀ k, (∀ i, i < k -> jbd (jaS ps) g i = true) -> k <= 2147483648) := fun k hk => by
    rcases Nat.eq_zero_or_pos k with h0 | h0
    · omega
    · have := jkf (hk (k - 1) (by omega)); omega
  have HGA : Hid (∀ k, (hk : k < ps.length) -> jbd (jaS ps) g k = (decide ((jbF ps[k].b).1 = 0) && decide ((jbF ps[k].b).2.g = g) && decide ((jbF ps[k].b).2.s = (k : Int)))) := fun k hk => by unfold jbd; rw [jhi ps hk]
  have HLA : Hid (∀ k, (hk : k < ps.length) -> jbO (jaS ps) k = (jbF ps[k].b).2.last /\ jdH (jaS ps) k = (jbF ps[k].b).2.r) := fun k hk => by unfold jbO jdH; rw [jhi ps hk]; exact ⟨rfl, rfl⟩
  have HNO : Hid (∀ k, jbO (jaS ps) k = false -> jba (jaS ps) (k + 1) = jba (jaS ps) k /\ jcb (jaS ps) (k + 1) = jcb (jaS ps) k ++ [jdH (jaS ps) k]) := fun k => jgZ
  have HYE : Hid (∀ k, jbO (jaS ps) k = true -> jba (jaS ps) (k + 1) = jba (jaS ps) k ++ [jcb (jaS ps) k ++ [jdH (jaS ps) k]] /\ jcb (jaS ps) (k + 1) = []) := fun k => jgb
  have HON : Hid (∀ k, (jba (jaS ps) k).length <= k /\ (jcb (jaS ps) k).length <= k) := fun k => ⟨jhD _ k, jhY _ k⟩
  have HO0 : Hid (jba (jaS ps) 0 = [] /\ jcb (jaS ps) 0 = []) := ⟨rfl, rfl⟩;obtain ⟨O, hO⟩ : ∃ O, O = jba (jaS ps) := ⟨_, rfl⟩;obtain ⟨U, hU⟩ : ∃ O, O = jcb (jaS ps) := ⟨_, rfl⟩;obtain ⟨LA, hLA⟩ : ∃ O, O = jbO (jaS ps) := ⟨_, rfl⟩;obtain ⟨RA, hRA⟩ : ∃ O, O = jdH (jaS ps) := ⟨_, rfl⟩;obtain ⟨G, hG⟩ : ∃ O, O = jbd (jaS ps) g := ⟨_, rfl⟩;obtain ⟨RR, hRR⟩ : ∃ O, O = jda (jaS ps) g := ⟨_, rfl⟩;simp only [<- hO, <- hU, <- hLA, <- hRA, <- hG, <- hRR] at HRE HSM HGA HLA HNO HYE HON HO0 ⊢;clear hO hU hLA hRA hG hRR h;have hps : ∃ N, N = ps.length := ⟨_, rfl⟩;obtain ⟨N, hN⟩ := hps;have HN := Lib.hid hN;have HST : Hid (jhq 36 56 w w (.slice none 0 0) (.slice none 0 0) [] []) := jhq.void _ _ w;rw [<- hN] at hm ⊢;clear hN;go_enter Tryz.func87, Tryz.ntmps87;go_wp2
  go_loopw [5, 6, 13] (fun vo vn i wr => ∃ k : Nat, k <= N /\ i = .int .i64 k /\ (∃ A c, vo = .slice A (O k).length c) /\ (∃ A c, vn = .slice A (U k).length c) /\ Hid (jhq 36 56 w wr vo vn (O k) (U k)) /\ Hid (∀ i, i < k -> G i = true)) (fun _ _ i _ => N - (intOf i).toNat)
  case atStart =>
    refine ⟨0, Nat.zero_le _, rfl, ?_, ?_, ?_, fun j hj => absurd hj (Nat.not_lt_zero j)⟩
    · rw [HO0.out.1]; exact ⟨_, _, rfl⟩
    · rw [HO0.out.2]; exact ⟨_, _, rfl⟩
    · rw [HO0.out.1, HO0.out.2]; exact HST.out
  case round =>
    obtain ⟨k, hk, rfl, ⟨A1, c1, rfl⟩, ⟨A2, c2, rfl⟩, hS, hall⟩ := hrel;clear HST;by_cases hlt : k < N
    · have hkp : k < ps.length := by have := HN.out; omega
      have hbw := hS.out.below;obtain ⟨b, off, rfl, hbb, hcell, hok⟩ := (HI.out.below hbw) k hkp;have hDEC := Lib.hid (jgu ps[k].A ps[k].c ps[k].b wr (hok.ints.more hbw.size) hok.byte hok.le);have hga := HGA.out k hkp;obtain ⟨hla, hra⟩ := HLA.out k hkp;have hDC := jih ps[k].b;have k1 : (k : Int) < (N : Int) := by omega
      have k0 : (0 : Int) <= (k : Int) := by omega
      obtain ⟨⟨E, ⟨lg, ls, ll, ⟨rk, ra, rb, rc, rd, key⟩⟩⟩, hD⟩ : ∃ D, D = jbF ps[k].b := ⟨_, rfl⟩;rw [<- hD] at hDEC hga hla hra hDC;simp only at hDEC hga hla hra hDC
      have hEE : E = 0 ∨ E = 2 := by
        rcases hDC with h | h
        · exact .inl h.1
        · injection h with h _; exact .inr h
      obtain ⟨pA, hpA⟩ : ∃ x, x = ps[k].A := ⟨_, rfl⟩;obtain ⟨pl, hpl⟩ : ∃ x, x = ps[k].b.length := ⟨_, rfl⟩;obtain ⟨pc, hpc⟩ : ∃ x, x = ps[k].c := ⟨_, rfl⟩;rw [<- hpA, <- hpl, <- hpc] at hcell;rw [<- hpA, <- hpl, <- hpc] at hDEC;have hinf : (Tryz.prog.info? 135).map (·.size) = some (lnV ⟨lg, ls, ll, ⟨rk, ra, rb, rc, rd, key⟩⟩).size := Tryz.infoLine;have hone := jdP ⟨lg, ls, ll, ⟨rk, ra, rb, rc, rd, key⟩⟩;have HLC : Hid (∀ (q : Nat) (W W' : World), W.heap[q]? = some (.cells (lnV ⟨lg, ls, ll, ⟨rk, ra, rb, rc, rd, key⟩⟩) 135 (0, 0)) -> Below W.heap.size W W' -> W'.cell? ⟨q, 0, none⟩ = some (.int .i64 lg) /\ W'.cell? ⟨q, 1, none⟩ = some (.int .i64 ls) /\ W'.cell? ⟨q, 2, none⟩ = some (.bool ll) /\ W'.rangeAt q 3 [.int .i64 rk, .int .i64 ra, .int .i64 rb, .int .i64 rc, .int .i64 rd, .string key]) := fun q W W' a b => jav a b
      have hold : Hid (9 = (lnV ⟨lg, ls, ll, ⟨rk, ra, rb, rc, rd, key⟩⟩).size) := rfl;have HNEW := Lib.hid (fun W : World => heap_alloc_new W (.cells #[.int .i64 0, .int .i64 0, .bool false, .int .i64 0, .int .i64 0, .int .i64 0, .int .i64 0, .int .i64 0, .string ⟨#[]⟩] 135));have HAL := Lib.hid (fun W : World => (Below.refl W.heap.size W).alloc (Nat.le_refl _) (.cells #[.int .i64 0, .int .i64 0, .bool false, .int .i64 0, .int .i64 0, .int .i64 0, .int .i64 0, .int .i64 0, .string ⟨#[]⟩] 135));have hLR : Hid (lnV ⟨lg, ls, ll, ⟨rk, ra, rb, rc, rd, key⟩⟩ = lnV ⟨lg, ls, ll, ⟨rk, ra, rb, rc, rd, key⟩⟩) := rfl;obtain ⟨L, hL⟩ : ∃ L, L = lnV ⟨lg, ls, ll, ⟨rk, ra, rb, rc, rd, key⟩⟩ := ⟨_, rfl⟩;rw [<- hL] at hDEC hinf hone hold;simp only [<- hL] at HLC;have hRN := HRE.out k (Nat.le_of_lt hkp) hall.out;have hsm := HSM.out;have hon := HON.out k;clear hLR hL hD hpA hpl hpc hok hDC HRE HSM HGA HLA HO0 hbb;by_cases hG : G k = true
      · rw [hG] at hga
        have hga2 := hga.symm;simp only [Bool.and_eq_true, decide_eq_true_eq] at hga2;obtain ⟨⟨rfl, rfl⟩, rfl⟩ := hga2
        have hall2 : Hid (∀ i, i < k + 1 -> G i = true) := fun j hj => by
          rcases Nat.lt_or_ge j k with q | q
          · exact hall.out j q
          · rw [show j = k by omega]; exact hG
        have hk31 := hsm (k + 1) hall2.out;have hRS : Hid (∀ A v, jhq 36 56 w A (.slice A1 (O k).length c1) v (O k) (U k ++ [⟨rk, ra, rb, rc, rd, key⟩]) -> jhq 36 56 w A (.slice A1 (O k).length c1) v (O k) (U k ++ [⟨rk, ra, rb, rc, rd, key⟩])) := fun _ _ h => h
        clear hRS;have HK31 := Lib.hid hk31;have HONK := Lib.hid hon;obtain ⟨On, hOn⟩ : ∃ x, x = (O k).length := ⟨_, rfl⟩;obtain ⟨Un, hUn⟩ : ∃ x, x = (U k).length := ⟨_, rfl⟩;rw [<- hOn, <- hUn] at hon;have hU1 : Un <= 2147483648 := by omega
        have hO1 : On <= 2147483648 := by omega
        have HOn := Lib.hid hOn;have HUn := Lib.hid hUn;rw [<- hOn, <- hUn] at hS;rw [<- hOn, <- hUn];clear hG hga hall hsm hon hk31 hRN hOn hUn
        go_wp2_with (first
          | (go_at_call 86; with_reducible (refine Calls.mono hDEC.out ?_); rintro e w1 ⟨rfl, hb1⟩)
          | (refine jad rfl 135 _ _ rfl w1.heap.size L rfl rfl 135 _ (HNEW.out _) hinf hold.out hone (HAL.out _) (Nat.le_refl _) ?_; intro W1 hW1 hbW1 hkW hsW
             have hbx := jaa hb1 hbW1;have hS1 := Lib.hid (hS.out.later hbx);obtain ⟨l0, l1, l2, l3⟩ := HLC.out w1.heap.size W1 W1 hW1 (Below.refl _ _);have HW1 := Lib.hid hW1;have HQ1 : Hid (wr.heap.size <= w1.heap.size /\ w1.heap.size < W1.heap.size) := ⟨hb1.size, (Array.getElem?_eq_some_iff.1 hW1).1⟩;clear hW1 hkW hsW hbW1)
          | (refine wpList_load_mid rfl 56 _ rfl w1.heap.size 3 rfl _ _ l3 Tryz.underlying56 rfl Tryz.infoRec ?_)
          | (at_builtin; refine wpList_append_own_at _ rfl _ _ 36 rfl w.heap.size 56 i6 (.agg #[.int .i64 0, .int .i64 0, .int .i64 0, .int .i64 0, .int .i64 0, .string ⟨#[]⟩]) 6 56 Tryz.underlying36 hf6 hz60 hz61 hz62 rfl (by decide) _ _ _ rfl (hS1.out.now.alloc _) ⟨W1.heap.size, 0, none⟩ 1 1 [.int .i64 rk, .int .i64 ra, .int .i64 rb, .int .i64 rc, .int .i64 rd, .string key] rfl rfl (jps _ _ _ _ _ _ _ _) ?d1 ?d2 ?d3 ?d4 ?_))
        case d1 => exact jju ⟨rk, ra, rb, rc, rd, key⟩
        case d2 => unfold maxLen; have := HUn.out; omega
        case d3 => have := HUn.out; omega
        case d4 => have := hS1.out.below.size; simp; omega
        intro v3 w3 hown3 hg3 _ hob3;rw [<- HUn.out] at hown3;have hSA := hS1.out.later ((Below.refl W1.heap.size W1).alloc (Nat.le_refl _) (.cells #[.int .i64 rk, .int .i64 ra, .int .i64 rb, .int .i64 rc, .int .i64 rd, .string key] 56));have hS3 := hSA.push (r := ⟨rk, ra, rb, rc, rd, key⟩) (by rw [<- HUn.out]; exact hown3) hg3 (hob3.imp id fun q => by rw [q]; simp);obtain ⟨A3, c3, rfl⟩ := jgs hown3
        have hq3 : w3.heap[w1.heap.size]? = some (.cells L 135 (0, 0)) := by
          have hlt1 := HQ1.out.2
          have h1 : (W1.alloc (.cells #[.int .i64 rk, .int .i64 ra, .int .i64 rb, .int .i64 rc, .int .i64 rd, .string key] 56)).heap[w1.heap.size]? = some (.cells L 135 (0, 0)) := by
            rw [Below.heap_alloc _ _ _ hlt1]; exact HW1.out
          rw [hg3.block w1.heap.size (by simp; omega) (fun q => by have := (hS.out.now.lt w1.heap.size q.symm).2; have := HQ1.out.1; omega)];exact h1
        obtain ⟨_, _, m2, _⟩ := HLC.out w1.heap.size w3 w3 hq3 (Below.refl _ _);have HS3 := Lib.hid hS3;clear hown3 hg3 hob3 hSA hS3 hq3 HW1 HQ1 hS1 l0 l1 l2 l3 HLC HNEW HAL hinf hone hold hDEC hS hbx hb1 hbw;cases ll
        · have hno := HNO.out k hla
          rw [hra] at hno;have hl2 : (U k ++ [(⟨rk, ra, rb, rc, rd, key⟩ : Rc)]).length = Un + 1 := by rw [List.length_append, <- HUn.out]; rfl
          rw [<- hno.2] at hl2
          have R9 : Hid (jhq 36 56 w w3 (.slice A1 (O (k + 1)).length c1) (.slice A3 (U (k + 1)).length c3) (O (k + 1)) (U (k + 1))) := by
            have h := HS3.out;rw [hno.1, hl2, hno.2, <- HOn.out]; exact h
          have HL2 := Lib.hid hl2;have HL1 : Hid ((O (k + 1)).length = On) := by unfold Hid; rw [hno.1]; exact HOn.out.symm
          clear hno hl2 HS3 HNO HYE hla hra;go_wp2;go_roundw
          case rel => first | exact ⟨k + 1, by omega, by go_num, ⟨A1, c1, by rw [HL1.out]⟩, ⟨A3, c3, by rw [HL2.out]⟩, by have := R9.out; rw [HL1.out, HL2.out] at this; exact this, hall2⟩ | ((repeat apply Exists.intro); exact ⟨⟨k + 1, by omega, by go_num, ⟨A1, c1, by rw [HL1.out]⟩, ⟨A3, c3, by rw [HL2.out]⟩, by have := R9.out; rw [HL1.out, HL2.out] at this; exact this, hall2⟩, rfl⟩)
          case measure => first | (simp [intOf]; done) | (simp [intOf]; omega)
        · have hye := HYE.out k hla
          rw [hra] at hye;have hl2 : (U k ++ [(⟨rk, ra, rb, rc, rd, key⟩ : Rc)]).length = Un + 1 := by rw [List.length_append, <- HUn.out]; rfl
          have hS4 := HS3.out.later ((Below.refl w3.heap.size w3).alloc (Nat.le_refl _) (.cells #[.slice A3 (Un + 1) c3] 36));obtain ⟨Vs, ho4, hr4⟩ := hS4.out.row;rw [<- HOn.out] at ho4
          have HF : Hid (∀ v5 w5, w5.ownsRow w.heap.size 36 1 v5 (On + 1) (Vs ++ [.slice A3 (Un + 1) c3]) -> (w3.alloc (.cells #[.slice A3 (Un + 1) c3] 36)).grownBy w5 (Value.slice A1 On c1).ownBlock -> (v5.ownBlock = (Value.slice A1 On c1).ownBlock ∨ v5.ownBlock = some (w3.alloc (.cells #[.slice A3 (Un + 1) c3] 36)).heap.size) ->
              jhq 36 56 w w5 v5 (.slice none 0 0) (O (k + 1)) (U (k + 1))) := fun v5 w5 h1 h2 h3 => by
            have hx := hS4.flushN (n := Un + 1) hl2.symm ⟨Vs, by rw [<- HOn.out]; exact ho4, rfl⟩ hr4 (vo' := v5) (w' := w5) (by rw [<- HOn.out]; exact h1) h2 h3;rw [hye.1, hye.2]; exact hx
          have HL1 : Hid ((O (k + 1)).length = On + 1) := by unfold Hid; rw [hye.1, List.length_append, <- HOn.out]; rfl
          have HL2 : Hid ((U (k + 1)).length = 0) := by unfold Hid; rw [hye.2]; rfl
          have hsz := hS4.below.size;clear hye hl2 hr4 hS4 HS3 HNO HYE hla hra
          go_wp2_with (at_builtin; refine wpList_append_own_at _ rfl _ _ 85 rfl w.heap.size 36 i1 (.slice none 0 0) 1 24 Tryz.underlying85 hf1 hz10 hz11 hz12 rfl (by decide) _ _ _ rfl ho4 ⟨w3.heap.size, 0, none⟩ 1 1 [.slice A3 (Un + 1) c3] rfl rfl (cell_one_new _ _ _) ?d1 ?d2 ?d3 ?d4 ?_)
          case d1 => intro u hu; simp at hu; subst hu; rfl
          case d2 => unfold maxLen; omega
          case d3 => omega
          case d4 => exact hsz
          intro v5 w5 hown5 hg5 _ hob5;have R9 := Lib.hid (HF.out v5 w5 hown5 hg5 (hob5.imp id fun q => by rw [q]; simp));obtain ⟨A5, c5, rfl⟩ := jgs hown5;clear hown5 hg5 hob5 HF ho4;go_wp2;go_roundw
          case rel => first | exact ⟨k + 1, by omega, by go_num, ⟨A5, c5, by rw [HL1.out]⟩, ⟨_, _, by rw [HL2.out]⟩, R9, hall2⟩ | ((repeat apply Exists.intro); exact ⟨⟨k + 1, by omega, by go_num, ⟨A5, c5, by rw [HL1.out]⟩, ⟨_, _, by rw [HL2.out]⟩, R9, hall2⟩, rfl⟩)
          case measure => first | (simp [intOf]; done) | (simp [intOf]; omega)
      · have hGf : G k = false := by cases h : G k
                                     · rfl
                                     · exact absurd h hG
        have hrn := hRN (fun _ => hGf);rw [hGf] at hga
        have R9 : Hid (∀ W, Below wr.heap.size wr W -> (O k).length <= c1 /\ jaL W W.heap.size A1 (O k) /\ Below w.heap.size w W) := fun W hb => by
          have hS2 := hS.out.later hb;obtain ⟨Vs, ho, _⟩ := hS2.out.row;exact ⟨jif ho, hS2.out.trans rfl, hS2.below⟩
        have HRK := Lib.hid hrn;clear hRN hsm hon hrn hG hGf hS hall HNO HYE HON hla hra hbw;rcases hEE with rfl | rfl
        · by_cases hg1 : lg = g
          · have hs1 : ¬ ls = (k : Int) := fun q => by
              rw [decide_eq_true hg1, decide_eq_true q] at hga; simp at hga
            have d1 : (lg != g) = false := by rw [bne_eq_false_iff_eq]; exact hg1
            have d2 : (ls != (k : Int)) = true := by rw [bne_iff_ne]; exact hs1
            have d3 : (lg == g) = true := by rw [beq_iff_eq]; exact hg1
            have d4 : (ls == (k : Int)) = false := by rw [beq_eq_false_iff_ne]; exact hs1
            clear hga hg1 hs1
            go_wp2_with (first
              | (go_at_call 86; with_reducible (refine Calls.mono hDEC.out ?_); rintro e w1 ⟨rfl, hb1⟩)
              | (refine jad rfl 135 _ _ rfl w1.heap.size L rfl rfl 135 _ (HNEW.out _) hinf hold.out hone (HAL.out _) (Nat.le_refl _) ?_; intro W1 hW1 hbW1 hkW hsW
                 obtain ⟨l0, l1, l2, l3⟩ := HLC.out w1.heap.size W1 W1 hW1 (Below.refl _ _);have R8 := Lib.hid (R9.out W1 (jaa hb1 hbW1));clear hW1 hkW hsW))
            go_ret;rw [HRK.out];exact ⟨A1, c1, rfl, R8.out.1, R8.out.2.1, R8.out.2.2⟩
          · have d1 : (lg != g) = true := by rw [bne_iff_ne]; exact hg1
            have d3 : (lg == g) = false := by rw [beq_eq_false_iff_ne]; exact hg1
            clear hga hg1
            go_wp2_with (first
              | (go_at_call 86; with_reducible (refine Calls.mono hDEC.out ?_); rintro e w1 ⟨rfl, hb1⟩)
              | (refine jad rfl 135 _ _ rfl w1.heap.size L rfl rfl 135 _ (HNEW.out _) hinf hold.out hone (HAL.out _) (Nat.le_refl _) ?_; intro W1 hW1 hbW1 hkW hsW
                 obtain ⟨l0, l1, l2, l3⟩ := HLC.out w1.heap.size W1 W1 hW1 (Below.refl _ _);have R8 := Lib.hid (R9.out W1 (jaa hb1 hbW1));clear hW1 hkW hsW))
            go_ret;rw [HRK.out];exact ⟨A1, c1, rfl, R8.out.1, R8.out.2.1, R8.out.2.2⟩
        · clear hga
          go_wp2_with (first
            | (go_at_call 86; with_reducible (refine Calls.mono hDEC.out ?_); rintro e w1 ⟨rfl, hb1⟩)
            | (refine jad rfl 135 _ _ rfl w1.heap.size L rfl rfl 135 _ (HNEW.out _) hinf hold.out hone (HAL.out _) (Nat.le_refl _) ?_; intro W1 hW1 hbW1 hkW hsW
               obtain ⟨l0, l1, l2, l3⟩ := HLC.out w1.heap.size W1 W1 hW1 (Below.refl _ _);have R8 := Lib.hid (R9.out W1 (jaa hb1 hbW1));clear hW1 hkW hsW))
          go_ret;rw [HRK.out];exact ⟨A1, c1, rfl, R8.out.1, R8.out.2.1, R8.out.2.2⟩
    · have hk8 : k = N := by omega
      have k1 : ¬ (k : Int) < (N : Int) := by omega
      have hr := HRE.out k (by have := HN.out; omega) hall.out (fun q => by have := HN.out; omega)
      have R9 : Hid ((O k).length <= c1 /\ jaL wr wr.heap.size A1 (O k) /\ Below w.heap.size w wr) := by
        obtain ⟨Vs, ho, _⟩ := hS.out.out.row;exact ⟨jif ho, hS.out.out.trans rfl, hS.out.below⟩
      have HRK := Lib.hid hr;clear hS hall HRE HSM HGA HLA HNO HYE HON HO0 hr hk8;go_wp2;go_ret;rw [HRK.out];exact ⟨A1, c1, rfl, R9.out.1, R9.out.2.1, R9.out.2.2⟩
theorem jlG (w:World):jjG w :=
 ⟨fun l W _ _ hE=>jgn l W hE,
  fun l W _ _ hE=>jhA l W hE,
  fun A c b W _ h hz hc _=>jgu A c b W h hz hc,
  fun A c ps g W _ h _ hm hg=>jkz A c ps g W h (by omega) hg⟩
theorem jks (w0:World):jhR w0 where
 new:=fun n w _ h1 h2=>jo9 n w h1 h2
 newNo:=fun n w _ _ hr=>jqx n w hr
 check:=fun V t w _ h ho hs=>by
  have:=jc0 V t w h ho true (by simp [hs]);exact this
 checkNo:=fun V t w _ h ho hs=>by
  have:=jc0 V t w h ho false (by simp [hs]);exact this
 owned:=fun V t id w _ h ho _=>jdu V t id w h ho.no
 apply:=fun V t A c l w _ h ho hl _ _ hm=>by
  by_cases hs:t.sound
  ·rw [jcV hs];exact jlT V t A c l w h hl hs hm
  ·exact jn5 V t A c l w h ho hs
 image:=fun V t w _ h _ hs=>jmm V t w h hs
 imageNo:=fun V t w _ h ho hs=>jnO V t w h ho hs
theorem vault_lowsP:jbX jbq:=⟨fun w=>jmr w,fun w=>jlG w,fun w=>jks w⟩
end Go.Proofs.YtbnhkplhmanmoaaGreat
