/- Parts of the proof, put together from smaller texts (blanks that Lean does not want are struck). Conditions: those that each theorem writes out. -/
import Derived.Test.YthcmkpiajkbpnaaGreatDoorZ24
namespace Go.Proofs.YthcmkpiajkbpnaaGreatDoor
open Go.RowKit
theorem leaf_lead {s:ByteArray} {n:Int} {d q:Nat} {x:NT × Nat} (h:leafR s n d false q (.ok x)):x.1.h.lead=[]:=by
 unfold leafR at h
 split at h
 ·rw[if_neg (by decide)] at h
  obtain ⟨A,E,C,_,h⟩:=h
  split at h
  ·injection h with h;subst h;rfl
  ·cases h
 ·split at h
  ·obtain ⟨T,E,O,C,_,h⟩:=h
   split at h
   ·injection h with h;subst h;rfl
   ·cases h
  ·split at h
   ·obtain ⟨y,E,C,hZ,h⟩:=h
    cases y with
    | none=>cases h
    | some y=>
     injection h with h;subst h
     unfold FlowZ at hZ
     split at hZ
     ·obtain ⟨g,o,hc,hm⟩:=hZ
      cases o with
      | bad p c=>cases hm.1
      | ok r=>
       obtain ⟨e1,_,_⟩:=hm
       injection e1 with e1;subst e1
       cases g with
       | zero=>exact hc.elim
       | succ g=>
        rcases hc with ⟨_,e⟩|⟨_,hc⟩
        ·cases e
        ·rcases hc with ⟨_,_,_,e⟩|⟨b,_,hc⟩
         ·cases e
         ·rcases hc with ⟨_,_,_,e⟩|⟨z,_,e⟩
          ·cases e
          ·injection e with e
           rw[e];rfl
     ·cases hZ.1
   ·split at h
    ·obtain ⟨st,T,hd,t,E,C,_,h⟩:=h
     split at h
     ·injection h with h;subst h;rfl
     ·cases h
    ·split at h
     ·obtain ⟨T,E,O,C,_,h⟩:=h
      split at h
      ·injection h with h;subst h;rfl
      ·cases h
     ·cases h
theorem trail_lead (x:NT) (L:Coms) (S:Bool) (q:Nat):(trailT x L S q).1.h.lead=x.h.lead:=by
 unfold trailT
 split <;> rfl
theorem cnt_lead {s:ByteArray} {n:Int} {d p:Nat} {x:Tre} (h:cntP s n d p (.ok x)):x.1.h.lead=[]:=by
 rcases h with ⟨_,_,_,e⟩|⟨y,h1,h⟩
 ·cases e
 ·rcases h with ⟨_,_,_,e⟩|⟨b,_,e⟩
  ·cases e
  ·injection e with e;subst e
   rw[trail_lead];exact leaf_lead h1
theorem pass_few {s:ByteArray} {p:Nat} {l:Coms × Bool × Nat} (h:passR s p (.ok l)) (hp:p≤s.size):l.1.length≤s.size:=by
 obtain ⟨L,S,E,C,hZ,e⟩:=h
 obtain ⟨E',rfl,h1,h2⟩:=hZ.far_le hp
 have:=(facts_of hZ hp).2.1
 split at e
 ·rename_i hC
  injection e with e;subst e
  have:=this hC
  rw[Int.toNat_natCast] at this
  show L.length≤_
  omega
 ·cases e
def LeadB (blk:Nat→Nat→Rd Tre→Prop):Prop:=∀ d p x,blk d p (.ok x)→x.1.h.lead=[]
theorem beg_lead {s:ByteArray} {blk:Nat→Nat→Rd Tre→Prop} (hl:LeadB blk) {b:Nat} {n:Int} {d fro p:Nat} {x:Tre} (hp:p≤s.size) (h:bgnP s blk b n d fro p (.ok x)):x.1.h.lead.length≤s.size:=by
 have z:∀ {y:NT},y.h.lead=[]→y.h.lead.length≤s.size:=fun h=>by rw[h];exact Nat.zero_le _
 obtain ⟨op,_,h⟩:=h
 split at h
 ·split at h
  ·exact z (hl _ _ _ h)
  ·split at h
   ·cases h
   ·rcases h with ⟨_,_,e⟩|⟨_,h⟩
    ·cases e
    ·exact z (hl _ _ _ h)
 ·obtain ⟨A,T,E,C,hZ,h⟩:=h
  obtain ⟨E',rfl,e1,e2⟩:=hZ.far_le hp
  split at h
  ·cases h
  ·split at h
   ·exact z (cnt_lead h)
   ·rcases h with ⟨_,_,_,e⟩|⟨y,h1,e⟩
    ·cases e
    ·injection e with e;subst e
     show y.2.length≤_
     rw[Int.toNat_natCast] at h1
     rcases h1 with ⟨_,_,_,e⟩|⟨l,h2,h1⟩
     ·cases e
     ·have hf:=pass_few h2 e2
      split at h1
      ·injection h1 with h1;subst h1;exact Nat.zero_le _
      ·have own:∀ {o},ownC s n d l o→o=.ok y→y.2.length≤s.size:=fun {o} ho he=>by
        subst he
        unfold ownC at ho
        split at ho
        ·cases ho
        ·rcases ho with ⟨_,_,_,e⟩|⟨z,_,e⟩
         ·cases e
         ·injection e with e;subst e;exact hf
       unfold ownP at h1
       split at h1
       ·obtain ⟨op,_,h1⟩:=h1
        split at h1
        ·rcases h1 with ⟨_,_,_,e⟩|⟨z,_,e⟩
         ·cases e
         ·injection e with e;subst e;exact hf
        ·exact own h1 rfl
       ·exact own h1 rfl
theorem node_end {g:Nat} {s:ByteArray} {w w5 w12:World} {y:NT} {q nb:Nat} {L lead:Coms} {v v2:Value} {R:Nat→Prop} {c0 c1 c2 c3 c4 c5 c6 c7 c8 c9 c10 c11:Value} (M:TrM g s w w5 q v L R) (hN:IsN R w5 y [c0,c1,c2,c3,c4,c5,c6,c7,c8,c9,c10,c11]) (hnb:w.heap.size≤nb) (hng:nb≠g) (hnR:¬ R nb∧¬ R (w.heap.size+1)) (hnV:v.ownBlock≠some nb∧v.ownBlock≠some (w.heap.size+1)) (hg:g<w.heap.size)
  (vo:Value) (hvo:∀ k,vo.ownBlock=some k→w.heap.size+2≤k∧k≠nb∧¬ R k∧v.ownBlock≠some k∧k<w5.heap.size) (hv2:v2.ownBlock=vo.ownBlock∨v2.ownBlock=some w5.heap.size) (hH:HasV 2 w12 v2 lead.length (comV lead)) (hz5:w.heap.size+2≤w5.heap.size)
  (hs:∀ k,¬ k=w.heap.size+1→¬ k=nb→vo.ownBlock≠some k→k<w5.heap.size→w12.heap[k]?=w5.heap[k]?) (hz:w5.heap.size≤w12.heap.size) (hz2:∀ k,v2.ownBlock=some k→k<w12.heap.size) (ho:w12.os=w5.os∧w12.tape=w5.tape∧w12.output=w5.output) :
  NodG g s w (y.withLead lead,L,q) (.returned (.agg #[c0,c1,c2,c3,c4,c5,c6,c7,v2,c9,c10,c11])) w12:=by
 have hgo:vo.ownBlock≠some g:=fun e=>by have:=(hvo g e).1;omega
 have fr:∀ k,R k→(R k∨v2.ownBlock=some k)∧w12.heap[k]?=w5.heap[k]?:=fun k hk=>⟨.inl hk,hs k (fun e=>hnR.2 (e ▸ hk)) (fun e=>hnR.1 (e ▸ hk)) (fun e=>(hvo k e).2.2.1 hk) (M.new k hk).2⟩
 have hvL:∀ k,v.ownBlock=some k→k<w5.heap.size:=M.has.own
 refine ⟨_,v,fun k=>R k∨v2.ownBlock=some k,rfl,?_,⟨?_,?_,?_,?_,?_,M.le,M.few⟩⟩
 ·obtain ⟨kv,lv,fv,e,h1,h2,h3⟩:=hN.open
  unfold headC at e
  simp only[List.cons.injEq,and_true] at e
  obtain ⟨rfl,rfl,rfl,rfl,rfl,rfl,rfl,rfl,rfl,rfl,rfl,rfl⟩:=e
  exact IsN.shut (hd:={ y.h with lead:=lead }) (hH.toComs.frame fun b hb=>⟨.inr hb,rfl⟩) (h2.frame fr) (h3.frame fr)
 ·exact (hs g (by omega) (fun e=>hng e.symm) hgo M.cells.lt).trans M.cells
 ·exact M.has.keep fun k hk hlt=>hs k (fun e=>hnV.2 (e ▸ hk)) (fun e=>hnV.1 (e ▸ hk)) (fun e=>(hvo k e).2.2.2.1 hk) hlt
 ·intro k hk
  refine ⟨(M.own k hk).1,fun h=>?_⟩
  rcases h with h|h
  ·exact (M.own k hk).2 h
  ·rcases hv2 with e|e
   ·exact (hvo k (by rw[←e];exact h)).2.2.2.1 hk
   ·rw[e] at h;injection h with h;have:=hvL k hk;omega
 ·intro k hk
  rcases hk with hk|hk
  ·exact ⟨(M.new k hk).1,Nat.lt_of_lt_of_le (M.new k hk).2 hz⟩
  ·refine ⟨?_,hz2 k hk⟩
   rcases hv2 with e|e
   ·have:=(hvo k (by rw[←e];exact hk)).1;omega
   ·rw[e] at hk;injection hk with hk;omega
 ·exact M.keep.trans (Q:=fun k=>k<w.heap.size) ⟨ho.1,ho.2.1,ho.2.2,hz,fun k hk=>hs k (by omega) (by omega) (fun e=>by have:=(hvo k e).1;omega) (by omega)⟩ (fun _ hk=>hk.1)
set_option maxRecDepth 100000 in
set_option maxHeartbeats 3200000 in
theorem trNode_is {Ev:World→Prop} {P:ByteArray→Prop} (K:CntC Ev P) (w0:World) (hEv:Ev w0) (g:Nat) (hg0:w0.heap.size≤g) (s:ByteArray) (hs:s.size≤10000) (hPs:P s) (blk:Nat→Nat→Rd Tre→Prop) (hblk:BlkC w0 g s blk) (hld:LeadB blk) (b:Nat) (n:Int) (d p:Nat) (v:Value) (o:Rd Tre) (w:World) (hB:Below w0.heap.size w0 w) (hv:∃ a n c,v=.slice a n c) (h:TrAt g s p v w) (hp:p≤s.size) (ho:nodP s blk b n d p o) :
  Calls Tryz.prog 15 #[.pointer (some ⟨g,0,none⟩),.agg #[.int .i64 (b:Int),.int .i64 n,.int .i64 (d:Int)]] w fun e w'=>TrPost g w o (NodG g s w) e w':=by
 have hg:=h.lt
 obtain ⟨W1,hW1⟩:∃ W1,W1=(w.alloc (.cells #[.int .i64 (b:Int),.int .i64 n,.int .i64 (d:Int)] 55)).alloc (.cells #[.int .i64 0,.int .i64 0,.int .i64 0,.int .i64 0,.string ⟨#[]⟩,.string ⟨#[]⟩,.string ⟨#[]⟩,.slice none 0 0,.slice none 0 0,.slice none 0 0,.bool false,.string ⟨#[]⟩] 27):=⟨_,rfl⟩
 have u1:W1.heap.size=w.heap.size+2:=by rw[hW1];simp
 have b1:Below w.heap.size w W1:=by rw[hW1];exact ((Below.refl _ _).alloc (Nat.le_refl _) _).alloc (by simp) _
 have rp:W1.heap[w.heap.size]?=some (.cells #[.int .i64 (b:Int),.int .i64 n,.int .i64 (d:Int)] 55 (0,0)):=by rw[hW1];exact (heap_alloc_old _ _ (by simp)).trans (heap_alloc_new w _)
 have ra:W1.heap[w.heap.size+1]?=some (.cells #[.int .i64 0,.int .i64 0,.int .i64 0,.int .i64 0,.string ⟨#[]⟩,.string ⟨#[]⟩,.string ⟨#[]⟩,.slice none 0 0,.slice none 0 0,.slice none 0 0,.bool false,.string ⟨#[]⟩] 27 (0,0)):=by
  rw[hW1]
  have:=heap_alloc_new (w.alloc (.cells #[.int .i64 (b:Int),.int .i64 n,.int .i64 (d:Int)] 55)) (.cells #[.int .i64 0,.int .i64 0,.int .i64 0,.int .i64 0,.string ⟨#[]⟩,.string ⟨#[]⟩,.string ⟨#[]⟩,.slice none 0 0,.slice none 0 0,.slice none 0 0,.bool false,.string ⟨#[]⟩] 27)
  simpa using this
 have h1:=h.below b1 hg
 have B1:Below w0.heap.size w0 W1:=hB.trans (b1.mono hB.size)
 have c1:=h1.cell
 obtain ⟨va,vm,vc,rfl⟩:=hv
 have HW:=Lib.hid hW1
 have HB1:=Lib.hid B1
 have HT1:=Lib.hid h1
 clear hW1 h1 B1 h
 go_enter Tryz.func15,Tryz.ntmps15
 go_upto_region 1 with fail
 rw[←HW.out]
 go_wp2_with fail
 have k1:Keep (Lx g w.heap.size) w W1:=below_lx b1
 rcases ho with ⟨q,c,hps,rfl⟩|⟨l,hps,ho⟩
 ·refine (trSkip_is g s p _ W1 hs hp ⟨_,_,_,rfl⟩ HT1.out _ hps).mono ?_
  rintro e w4 ⟨rfl,k4⟩
  exact ⟨rfl,rfl,k1.lx k4 b1.size⟩
 refine (trSkip_is g s p _ W1 hs hp ⟨_,_,_,rfl⟩ HT1.out _ hps).mono ?_
 rintro e w4 ⟨rfl,hnl,v4,M4⟩
 obtain ⟨L,S,q⟩:=l
 have hfar:=pass_far hps hp
 have hpq:p≤q:=hfar.1
 have hnw:=fun hq=>pass_nw hps hq
 have k4:Keep (Lx g w.heap.size) w w4:=k1.lx M4.keep b1.size
 have z4:=M4.keep.size
 have rp4:=(M4.keep.block w.heap.size ⟨by omega,by omega⟩).trans rp
 have ra4:=(M4.keep.block (w.heap.size+1) ⟨by omega,by omega⟩).trans ra
 have B4:Below w0.heap.size w0 w4:=HB1.out.trans (M4.keep.below (fun k hk=>⟨by have:=HB1.out.size;omega,by omega⟩))
 obtain ⟨va4,vc4,rfl⟩:=M4.has.form
 have hvo:∀ k,(Value.slice va4 L.length vc4).ownBlock=some k→w.heap.size+2≤k∧k<w4.heap.size:=fun k hk=>⟨by have:=(M4.own k hk).1;omega,M4.has.own k hk⟩
 have qp4:∀ j,w4.cell? ⟨w.heap.size,j,none⟩=(#[.int .i64 (b:Int),.int .i64 n,.int .i64 (d:Int)]:Array Value)[j]?:=fun j=>cell_of_row w4 _ j _ _ _ rp4
 have CM:=trMissing_is g s q _ w4 b n d M4.cells hs hfar.2
 obtain ⟨near,hnear⟩:∃ near,(S&&!(decide (b=0)))=near:=⟨_,rfl⟩
 have hnl2:near=true→L≠[]:=fun e=>hnl (by rw[←hnear,Bool.and_eq_true] at e;exact e.1)
 have hfew:L.length≤s.size:=M4.few
 have HM4:=Lib.hid M4
 have HB4:=Lib.hid B4
 have HK4:=Lib.hid k4
 have RA4:=Lib.hid ra4
 have RP4:=Lib.hid rp4
 clear M4 B4 k4 ra4 rp4 rp ra c1 k1
 replace ho:if missP s b n q=true then o=.ok (emptyT (decide (b=3)) L near q) else andR (bgnP s blk b n d p q) (fun x o=>o=.ok (x.1.withLead (L++x.1.h.lead),x.2)) o:=by
  rw[←hnear]
  exact ho
 have way:(S=false∧near=false)∨(S=true∧((b:Int) != 0)=near):=by
  cases S with
  | false=>exact .inl ⟨rfl,by rw[←hnear];rfl⟩
  | true=>
   refine .inr ⟨rfl,?_⟩
   rw[←hnear,Bool.true_and,bne,Bool.eq_iff_iff]
   simp
 clear hnear hnl
 rcases way with ⟨rfl,rfl⟩|⟨rfl,e1⟩
 all_goals
  go_wp2_with fail
  refine CM.mono ?_
  rintro e w6 ⟨rfl,b6⟩
  clear CM
  have sz6:=b6.size
  have M6:=HM4.out.below b6
  have k6:Keep (Lx g w.heap.size) w w6:=HK4.out.lxB b6 HK4.out.size
  have ra6:=(b6.block (w.heap.size+1) (by omega)).trans RA4.out
  have rp6:=(b6.block w.heap.size (by omega)).trans RP4.out
  have qp6:∀ j,w6.cell? ⟨w.heap.size,j,none⟩=(#[.int .i64 (b:Int),.int .i64 n,.int .i64 (d:Int)]:Array Value)[j]?:=fun j=>cell_of_row w6 _ j _ _ _ rp6
  have B6:Below w0.heap.size w0 w6:=HB4.out.trans (b6.mono HB4.out.size)
  clear qp4
  cases hmi:missP s b n q with
  | true=>
   rw[if_pos hmi] at ho
   subst ho
   have CE:=trEmpty_is g s q _ L w6 b n d _ M6.cells M6.has (fun e=>by have:=hvo _ e;omega) hfew hnl2 hs
   go_wp2_with fail
   refine CE.mono ?_
   rintro e w5 ⟨cs,v5,R,rfl,hN,T5,HH5,hvv,hRn,k5⟩
   clear CE
   have hvq:∀ k,v5.ownBlock=some k→w.heap.size+2≤k∧k<w4.heap.size:=fun k hk=>hvo k (by rw[←hvv];exact hk)
   have zk5:=k5.size
   have hRb:∀ k,R k→w6.heap.size≤k:=fun k hk=>(hRn k hk).1
   obtain ⟨y0,y1,y2,y3,y4,y5,y6,ya,yb,yc,yd,ye,yf,yg,yh,yi,y7,y8,rfl⟩:=hN.cells12
   have ra5:=(k5.block (w.heap.size+1) ⟨by omega,by omega⟩).trans ra6
   have qa5:∀ j,w5.cell? ⟨w.heap.size+1,j,none⟩=(#[.int .i64 0,.int .i64 0,.int .i64 0,.int .i64 0,.string ⟨#[]⟩,.string ⟨#[]⟩,.string ⟨#[]⟩,.slice none 0 0,.slice none 0 0,.slice none 0 0,.bool false,.string ⟨#[]⟩]:Array Value)[j]?:=fun j=>cell_of_row w5 _ j _ _ _ ra5
   have fa5:∀ j,w5.frozen? ⟨w.heap.size+1,j,none⟩=false:=fun j=>frozen_of_row w5 _ j _ _ ra5
   have HRA5:=Lib.hid ra5
   have HN5:=Lib.hid hN
   have HH:=Lib.hid HH5
   have HT5:=Lib.hid T5
   have HK5:=Lib.hid k5
   clear ra5 hN HH5 T5 k5 M6
   go_wp2
   obtain ⟨w12,hw12⟩:∃ w12,w12=((((((((((((w5.setCell ⟨w.heap.size+1,0,none⟩ (.int .i64 y0)).setCell ⟨w.heap.size+1,1,none⟩ (.int .i64 y1)).setCell ⟨w.heap.size+1,2,none⟩ (.int .i64 y2)).setCell ⟨w.heap.size+1,3,none⟩ (.int .i64 y3)).setCell ⟨w.heap.size+1,4,none⟩ (.string y4)).setCell ⟨w.heap.size+1,5,none⟩ (.string y5)).setCell ⟨w.heap.size+1,6,none⟩ (.string y6)).setCell ⟨w.heap.size+1,7,none⟩ (.slice ya yb yc)).setCell ⟨w.heap.size+1,8,none⟩ (.slice yd ye yf)).setCell ⟨w.heap.size+1,9,none⟩ (.slice yg yh yi)).setCell ⟨w.heap.size+1,10,none⟩ (.bool y7)).setCell ⟨w.heap.size+1,11,none⟩ (.string y8)):=⟨_,rfl⟩
   have rw12:w12.heap[w.heap.size+1]?=some (.cells #[.int .i64 y0,.int .i64 y1,.int .i64 y2,.int .i64 y3,.string y4,.string y5,.string y6,.slice ya yb yc,.slice yd ye yf,.slice yg yh yi,.bool y7,.string y8] 27 (0,0)):=by rw[hw12];exact row12_set w5 (hg:=HRA5.out) ..
   have bw12:Below (w.heap.size+1) w5 w12:=by rw[hw12];exact row12_below w5 _ _ (Nat.le_refl _) _ _ _ _ _ _ _ _ _ _ _ _
   have zw12:w12.heap.size=w5.heap.size:=by rw[hw12,row12_size]
   have sw12:∀ k,¬ k=w.heap.size+1→w12.heap[k]?=w5.heap[k]?:=fun k hk=>by rw[hw12];exact row12_other w5 _ k hk ..
   rw[←hw12]
   clear hw12
   have hcz:∀ j,w12.cell? ⟨w.heap.size+1,j,none⟩=(#[.int .i64 y0,.int .i64 y1,.int .i64 y2,.int .i64 y3,.string y4,.string y5,.string y6,.slice ya yb yc,.slice yd ye yf,.slice yg yh yi,.bool y7,.string y8]:Array Value)[j]?:=fun j=>cell_of_row w12 _ j _ _ _ rw12
   try subst hnear
   refine bodyPost_ret (v:=.agg #[.int .i64 y0,.int .i64 y1,.int .i64 y2,.int .i64 y3,.string y4,.string y5,.string y6,.slice ya yb yc,.slice yd ye yf,.slice yg yh yi,.bool y7,.string y8]) (by simp[results,Tryz.results15,go_sem,hcz]) rfl ?_
   refine ⟨_,v5,R,rfl,IsN.frame (fun k hk=>⟨hk,sw12 k (by have:=hRb k hk;omega)⟩) _ _ HN5.out,?_⟩
   rw[emptyT_at]
   exact ⟨(sw12 g (by omega)).trans HT5.out,HH.out.keep (fun k hk _=>sw12 k (by have:=hvq k hk;omega)),fun k hk=>⟨by have:=hvq k hk;omega,fun h=>by have:=hvq k hk;have:=hRb k h;omega⟩,fun k hk=>⟨by have:=hRb k hk;omega,by rw[zw12];exact (hRn k hk).2⟩,(k6.trans HK5.out (fun k hk=>⟨by have:=hk.1;omega,hk.2⟩)).trans (Q:=fun k=>k<w.heap.size) ⟨bw12.os,bw12.tape,bw12.output,by omega,fun k hk=>bw12.block k (by omega)⟩ (fun _ hk=>hk.1),hfar.2,Nat.le_trans (empty_few _ _ _ _) hfew⟩
  | false=>
   rw[if_neg (by rw[hmi];decide)] at ho
   obtain ⟨bo,hbo,hoo⟩:∃ bo,bgnP s blk b n d p q bo∧o=rdMap (fun x=>(x.1.withLead (L++x.1.h.lead),x.2)) bo:=by
    rcases ho with ⟨r,c,h1,rfl⟩|⟨x,h1,rfl⟩
    ·exact ⟨_,h1,rfl⟩
    ·exact ⟨_,h1,rfl⟩
   clear ho
   have hxl:∀ x,bo=.ok x→x.1.h.lead.length≤s.size:=fun x hx=>beg_lead hld hfar.2 (by rw[←hx];exact hbo)
   obtain ⟨op,hop,hbo⟩:=hbo
   have hql:=over_lt (miss_no hmi).1
   have CT:=trTake_is g s q _ w6 M6.cells
   go_wp2_with fail
   refine CT.mono ?_
   rintro e w7 ⟨rfl,rfl⟩
   obtain ⟨W7,hW7⟩:∃ W7,W7=(w6.setCell ⟨g,2,none⟩ (.slice none 0 0)).alloc (.cells #[.int .i64 0,.int .i64 0,.int .i64 0,.int .i64 0,.string ⟨#[]⟩,.string ⟨#[]⟩,.string ⟨#[]⟩,.slice none 0 0,.slice none 0 0,.slice none 0 0,.bool false,.string ⟨#[]⟩] 27):=⟨_,rfl⟩
   obtain ⟨nb,hnb⟩:∃ nb,nb=w6.heap.size:=⟨_,rfl⟩
   have z7:W7.heap.size=nb+1:=by rw[hW7,hnb];simp[World.setCell]
   have T7:TrAt g s q (.slice none 0 0) W7:=by rw[hW7];exact (heap_alloc_old _ _ (by simp[World.setCell];omega)).trans (heap_setCell_same _ _ 2 _ _ _ M6.cells)
   have s7:∀ k,k≠g→k<nb→W7.heap[k]?=w6.heap[k]?:=fun k k1 k2=>by rw[hW7];exact (heap_alloc_old _ _ (by simp[World.setCell];omega)).trans (heap_setCell_other _ _ _ _ k1)
   have rn7:W7.heap[nb]?=some (.cells #[.int .i64 0,.int .i64 0,.int .i64 0,.int .i64 0,.string ⟨#[]⟩,.string ⟨#[]⟩,.string ⟨#[]⟩,.slice none 0 0,.slice none 0 0,.slice none 0 0,.bool false,.string ⟨#[]⟩] 27 (0,0)):=by
    rw[hW7,hnb]
    have:=heap_alloc_new (w6.setCell ⟨g,2,none⟩ (.slice none 0 0)) (.cells #[.int .i64 0,.int .i64 0,.int .i64 0,.int .i64 0,.string ⟨#[]⟩,.string ⟨#[]⟩,.string ⟨#[]⟩,.slice none 0 0,.slice none 0 0,.slice none 0 0,.bool false,.string ⟨#[]⟩] 27)
    rwa [show (w6.setCell ⟨g,2,none⟩ (.slice none 0 0)).heap.size=w6.heap.size by simp[World.setCell]] at this
   have ra7:=(s7 (w.heap.size+1) (by omega) (by omega)).trans ra6
   have rp7:=(s7 w.heap.size (by omega) (by omega)).trans rp6
   have k7:Keep (Lx g w.heap.size) w W7:=by
    have b3:Keep (Lx g w.heap.size) w (w6.setCell ⟨g,2,none⟩ (.slice none 0 0)):=k6.trans (tr_keep1 _ _ _) (fun _ hk=>hk)
    rw[hW7]
    exact b3.alloc (fun k hk=>by have:=hk.1;simp[World.setCell];omega) _
   have B7:Below w0.heap.size w0 W7:=by rw[hW7];exact (B6.setCell (p:=⟨g,2,none⟩) hg0 _).alloc (by simp[World.setCell];exact B6.size) _
   have hv7:HasV 2 W7 (.slice va4 L.length vc4) L.length (comV L):=M6.has.keep fun k hk _=>s7 k (by have:=hvo k hk;omega) (by have:=hvo k hk;omega)
   have qp7:∀ j,W7.cell? ⟨w.heap.size,j,none⟩=(#[.int .i64 (b:Int),.int .i64 n,.int .i64 (d:Int)]:Array Value)[j]?:=fun j=>cell_of_row W7 _ j _ _ _ rp7
   have CB:=trBegins_is K g s q _ W7 op T7 hs hPs (K.below _ _ hEv B7) (hnw hql) hop
   have hnb1:w.heap.size+2≤nb:=by omega
   have hvo:∀ k,(Value.slice va4 L.length vc4).ownBlock=some k→w.heap.size+2≤k∧k<nb:=fun k hk=>by have:=hvo k hk;omega
   have HNB:=Lib.hid hnb
   have HW7:=Lib.hid hW7
   clear CT M6 B6 k6 ra6 rp6 qp6 s7 hW7 hnb
   go_upto_region 7 with fail
   rw[←HW7.out,←HNB.out]
   go_wp2_with fail
   refine CB.mono ?_
   rintro e w8 ⟨rfl,b8⟩
   clear CB
   have sz8:=b8.size
   have T8:=T7.below b8 T7.lt
   have B8:Below w0.heap.size w0 w8:=B7.trans (b8.mono B7.size)
   have k8:Keep (Lx g w.heap.size) w w8:=k7.lxB b8 k7.size
   have rn8:=(b8.block nb (by omega)).trans rn7
   have ra8:=(b8.block (w.heap.size+1) (by omega)).trans ra7
   have rp8:=(b8.block w.heap.size (by omega)).trans rp7
   have hv8:HasV 2 w8 (.slice va4 L.length vc4) L.length (comV L):=hv7.below b8 (Nat.le_refl _)
   have qp8:∀ j,w8.cell? ⟨w.heap.size,j,none⟩=(#[.int .i64 (b:Int),.int .i64 n,.int .i64 (d:Int)]:Array Value)[j]?:=fun j=>cell_of_row w8 _ j _ _ _ rp8
   clear T7 B7 k7 rn7 ra7 rp7 hv7 qp7
   cases op with
   | true=>
    rw[if_pos rfl] at hbo
    have hway:(blk d q bo∧(b=0∨sameRow s p q=false∨(b≠1∧b≠5∧NoTab s p q)))∨∃ r c,bo=.bad r c∧b≠0∧sameRow s p q=true∧(((b=1∨b=5)∧r=q∧c=5)∨(b≠1∧b≠5∧TabN s p q r∧c=4)):=by
     by_cases h1:b=0∨sameRow s p q=false
     ·rw[if_pos h1] at hbo
      exact .inl ⟨hbo,h1.imp id .inl⟩
     ·rw[if_neg h1] at hbo
      rw[not_or] at h1
      have hr:sameRow s p q=true:=by simpa using h1.2
      by_cases h2:b=1∨b=5
      ·rw[if_pos h2] at hbo
       exact .inr ⟨q,5,hbo,h1.1,hr,.inl ⟨h2,rfl,rfl⟩⟩
      ·rw[if_neg h2] at hbo
       rw[not_or] at h2
       rcases hbo with ⟨i,hi,hbo⟩|⟨hn,hbo⟩
       ·exact .inr ⟨i,4,hbo,h1.1,hr,.inr ⟨h2.1,h2.2,hi,rfl⟩⟩
       ·exact .inl ⟨hbo,.inr (.inr ⟨h2.1,h2.2,hn⟩)⟩
    rcases hway with ⟨hbk,hok⟩|⟨r,c,hbb,hb0,hrr,hcc⟩
    ·have CBS:=trBeside_ok g s q _ w8 b n d p T8 hpq hfar.2 hok
     go_wp2_with fail
     refine CBS.mono ?_
     rintro e w9 ⟨rfl,b9⟩
     clear CBS
     have sz9:=b9.size
     have T9:=T8.below b9 T8.lt
     have B9:Below w0.heap.size w0 w9:=B8.trans (b9.mono B8.size)
     have k9:Keep (Lx g w.heap.size) w w9:=k8.lxB b9 k8.size
     have rn9:=(b9.block nb (by omega)).trans rn8
     have ra9:=(b9.block (w.heap.size+1) (by omega)).trans ra8
     have hv9:HasV 2 w9 (.slice va4 L.length vc4) L.length (comV L):=hv8.below b9 (Nat.le_refl _)
     have qp9:∀ j,w9.cell? ⟨w.heap.size,j,none⟩=(#[.int .i64 (b:Int),.int .i64 n,.int .i64 (d:Int)]:Array Value)[j]?:=fun j=>cell_of_row w9 _ j _ _ _ ((b9.block w.heap.size (by omega)).trans rp8)
     have CK:=hblk d q _ bo w9 B9 rfl T9 hql (hnw hql) hbk
     clear T8 B8 k8 rn8 ra8 rp8 hv8 qp8
     go_wp2_with fail
     refine CK.mono ?_
     rintro e wA hpost
     clear CK
     cases bo with
     | bad r c=>
      obtain ⟨rfl,kA⟩:=hpost
      subst hoo
      exact ⟨rfl,rfl,k9.lx kA k9.size⟩
     | ok x=>
      obtain ⟨cs,vA,R,rfl,hN,M⟩:=hpost
      obtain ⟨y0,y1,y2,y3,y4,y5,y6,ya,yb,yc,yd,ye,yf,yg,yh,yi,y7,y8,rfl⟩:=hN.cells12
      have kA:=M.keep
      have zA:=kA.size
      have raA:=(kA.block (w.heap.size+1) ⟨by omega,by omega⟩).trans ra9
      have rnA:=(kA.block nb ⟨by omega,by omega⟩).trans rn9
      have hvA:HasV 2 wA (.slice va4 L.length vc4) L.length (comV L):=hv9.keep fun k hk _=>kA.block k ⟨by have:=hvo k hk;omega,by have:=hvo k hk;omega⟩
      have qnA:∀ j,wA.cell? ⟨nb,j,none⟩=(#[.int .i64 0,.int .i64 0,.int .i64 0,.int .i64 0,.string ⟨#[]⟩,.string ⟨#[]⟩,.string ⟨#[]⟩,.slice none 0 0,.slice none 0 0,.slice none 0 0,.bool false,.string ⟨#[]⟩]:Array Value)[j]?:=fun j=>cell_of_row wA _ j _ _ _ rnA
      have fnA:∀ j,wA.frozen? ⟨nb,j,none⟩=false:=fun j=>frozen_of_row wA _ j _ _ rnA
      have HRA:=Lib.hid raA
      have HRN:=Lib.hid rnA
      have HM:=Lib.hid M
      have HN:=Lib.hid hN
      have HK:=Lib.hid kA
      have HVA:=Lib.hid hvA
      clear M hN kA raA rnA hvA
      go_upto_region 11 with fail
      obtain ⟨w11,hw11⟩:∃ w11,w11=((((((((((((wA.setCell ⟨nb,0,none⟩ (.int .i64 y0)).setCell ⟨nb,1,none⟩ (.int .i64 y1)).setCell ⟨nb,2,none⟩ (.int .i64 y2)).setCell ⟨nb,3,none⟩ (.int .i64 y3)).setCell ⟨nb,4,none⟩ (.string y4)).setCell ⟨nb,5,none⟩ (.string y5)).setCell ⟨nb,6,none⟩ (.string y6)).setCell ⟨nb,7,none⟩ (.slice ya yb yc)).setCell ⟨nb,8,none⟩ (.slice yd ye yf)).setCell ⟨nb,9,none⟩ (.slice yg yh yi)).setCell ⟨nb,10,none⟩ (.bool y7)).setCell ⟨nb,11,none⟩ (.string y8)):=⟨_,rfl⟩
      have rw11:w11.heap[nb]?=some (.cells #[.int .i64 y0,.int .i64 y1,.int .i64 y2,.int .i64 y3,.string y4,.string y5,.string y6,.slice ya yb yc,.slice yd ye yf,.slice yg yh yi,.bool y7,.string y8] 27 (0,0)):=by rw[hw11];exact row12_set wA (hg:=HRN.out) ..
      have bw11:Below (nb) wA w11:=by rw[hw11];exact row12_below wA _ _ (Nat.le_refl _) _ _ _ _ _ _ _ _ _ _ _ _
      have zw11:w11.heap.size=wA.heap.size:=by rw[hw11,row12_size]
      have sw11:∀ k,¬ k=nb→w11.heap[k]?=wA.heap[k]?:=fun k hk=>by rw[hw11];exact row12_other wA _ k hk ..
      rw[←hw11]
      clear hw11
      have ra11:=(sw11 (w.heap.size+1) (by omega)).trans HRA.out
      have hv11:HasV 2 w11 (.slice va4 L.length vc4) L.length (comV L):=HVA.out.keep fun k hk _=>sw11 k (by have:=hvo k hk;omega)
      have hN11:IsN R w11 x.1 [.int .i64 y0,.int .i64 y1,.int .i64 y2,.int .i64 y3,.string y4,.string y5,.string y6,.slice ya yb yc,.slice yd ye yf,.slice yg yh yi,.bool y7,.string y8]:=IsN.frame (fun k hk=>⟨hk,sw11 k (by have:=(HM.out.new k hk).1;omega)⟩) x.1 _ HN.out
      obtain ⟨hyl,hcom⟩:ye=x.1.h.lead.length∧ComsR R w11 (.slice yd x.1.h.lead.length yf) x.1.h.lead:=by
       obtain ⟨kv,lv,fv,e,h1,_,_⟩:=hN11.open
       unfold headC at e
       simp only[List.cons.injEq,and_true] at e
       have e8:=e.2.2.2.2.2.2.2.2.1
       obtain ⟨ao,cap,rfl,k1,k2,k3⟩:=h1
       injection e8 with q1 q2 q3
       refine ⟨q2,ao,cap,?_,k1,k2,k3⟩
       rw[q1,q3]
      have zL:L.length+x.1.h.lead.length≤1000000000:=by have:=hxl x rfl;omega
      obtain ⟨lead,hlead⟩:∃ lead,L++x.1.h.lead=lead:=⟨_,rfl⟩
      have qn11:∀ j,w11.cell? ⟨nb,j,none⟩=(#[.int .i64 y0,.int .i64 y1,.int .i64 y2,.int .i64 y3,.string y4,.string y5,.string y6,.slice ya yb yc,.slice yd ye yf,.slice yg yh yi,.bool y7,.string y8]:Array Value)[j]?:=fun j=>cell_of_row w11 _ j _ _ _ rw11
      have fn11:∀ j,w11.frozen? ⟨nb,j,none⟩=false:=fun j=>frozen_of_row w11 _ j _ _ rw11
      have HCL:=Lib.hid hcom
      have HV11:=Lib.hid hv11
      have HLD:=Lib.hid hlead
      have HN11:=Lib.hid hN11
      have HR11:=Lib.hid rw11
      have HRA11:=Lib.hid ra11
      have HYL:=Lib.hid hyl
      have hzw11:w11.heap.size=wA.heap.size:=zw11
      clear qnA fnA hcom hv11 hlead hN11 rw11 ra11
      subst hyl
      go_upto_region 12 with (at_builtin;refine appendH rfl _ _ rfl R (.slice va4 L.length vc4) (.slice yd x.1.h.lead.length yf) L x.1.h.lead rfl rfl HV11.out HCL.out zL ?_;intro v5 w12 o5 g5 n5;rw[HLD.out] at o5;obtain ⟨v5a,v5c,rfl⟩:=o5.form;have rn12:=(g5.block nb (by omega) (fun e=>by have:=hvo nb e.symm;omega)).trans HR11.out;have qn12:∀ j,w12.cell? ⟨nb,j,none⟩=(#[.int .i64 y0,.int .i64 y1,.int .i64 y2,.int .i64 y3,.string y4,.string y5,.string y6,.slice ya yb yc,.slice yd x.1.h.lead.length yf,.slice yg yh yi,.bool y7,.string y8]:Array Value)[j]?:=fun j=>cell_of_row w12 _ j _ _ _ rn12;have fn12:∀ j,w12.frozen? ⟨nb,j,none⟩=false:=fun j=>frozen_of_row w12 _ j _ _ rn12;have HO5:=Lib.hid o5;clear o5)
      obtain ⟨w13,hw13⟩:∃ w13,w13=w12.setCell ⟨nb,8,none⟩ (.slice v5a lead.length v5c):=⟨_,rfl⟩
      have rw13:w13.heap[nb]?=some (.cells #[.int .i64 y0,.int .i64 y1,.int .i64 y2,.int .i64 y3,.string y4,.string y5,.string y6,.slice ya yb yc,.slice v5a lead.length v5c,.slice yg yh yi,.bool y7,.string y8] 27 (0,0)):=by rw[hw13];exact heap_setCell_same _ _ 8 _ _ _ rn12
      have sw13:∀ k,¬ k=nb→w13.heap[k]?=w12.heap[k]?:=fun k hk=>by rw[hw13];exact heap_setCell_other _ _ _ _ hk
      have zw13:w13.heap.size=w12.heap.size:=by rw[hw13];simp[World.setCell]
      have ow13:w13.os=w12.os∧w13.tape=w12.tape∧w13.output=w12.output:=by rw[hw13];exact ⟨rfl,rfl,rfl⟩
      rw[←hw13]
      clear hw13 qn12 fn12 qn11 fn11
      have ra13:=(sw13 (w.heap.size+1) (by omega)).trans ((g5.block (w.heap.size+1) (by omega) (fun e=>by have:=hvo _ e.symm;omega)).trans HRA11.out)
      have qn13:∀ j,w13.cell? ⟨nb,j,none⟩=(#[.int .i64 y0,.int .i64 y1,.int .i64 y2,.int .i64 y3,.string y4,.string y5,.string y6,.slice ya yb yc,.slice v5a lead.length v5c,.slice yg yh yi,.bool y7,.string y8]:Array Value)[j]?:=fun j=>cell_of_row w13 _ j _ _ _ rw13
      have fn13:∀ j,w13.frozen? ⟨nb,j,none⟩=false:=fun j=>frozen_of_row w13 _ j _ _ rw13
      have qa13:∀ j,w13.cell? ⟨w.heap.size+1,j,none⟩=(#[.int .i64 0,.int .i64 0,.int .i64 0,.int .i64 0,.string ⟨#[]⟩,.string ⟨#[]⟩,.string ⟨#[]⟩,.slice none 0 0,.slice none 0 0,.slice none 0 0,.bool false,.string ⟨#[]⟩]:Array Value)[j]?:=fun j=>cell_of_row w13 _ j _ _ _ ra13
      have fa13:∀ j,w13.frozen? ⟨w.heap.size+1,j,none⟩=false:=fun j=>frozen_of_row w13 _ j _ _ ra13
      have HRA13:=Lib.hid ra13
      clear ra13 rw13 rn12
      go_wp2
      obtain ⟨w14,hw14⟩:∃ w14,w14=((((((((((((w13.setCell ⟨w.heap.size+1,0,none⟩ (.int .i64 y0)).setCell ⟨w.heap.size+1,1,none⟩ (.int .i64 y1)).setCell ⟨w.heap.size+1,2,none⟩ (.int .i64 y2)).setCell ⟨w.heap.size+1,3,none⟩ (.int .i64 y3)).setCell ⟨w.heap.size+1,4,none⟩ (.string y4)).setCell ⟨w.heap.size+1,5,none⟩ (.string y5)).setCell ⟨w.heap.size+1,6,none⟩ (.string y6)).setCell ⟨w.heap.size+1,7,none⟩ (.slice ya yb yc)).setCell ⟨w.heap.size+1,8,none⟩ (.slice v5a lead.length v5c)).setCell ⟨w.heap.size+1,9,none⟩ (.slice yg yh yi)).setCell ⟨w.heap.size+1,10,none⟩ (.bool y7)).setCell ⟨w.heap.size+1,11,none⟩ (.string y8)):=⟨_,rfl⟩
      have rw14:w14.heap[w.heap.size+1]?=some (.cells #[.int .i64 y0,.int .i64 y1,.int .i64 y2,.int .i64 y3,.string y4,.string y5,.string y6,.slice ya yb yc,.slice v5a lead.length v5c,.slice yg yh yi,.bool y7,.string y8] 27 (0,0)):=by rw[hw14];exact row12_set w13 (hg:=HRA13.out) ..
      have bw14:Below (w.heap.size+1) w13 w14:=by rw[hw14];exact row12_below w13 _ _ (Nat.le_refl _) _ _ _ _ _ _ _ _ _ _ _ _
      have zw14:w14.heap.size=w13.heap.size:=by rw[hw14,row12_size]
      have sw14:∀ k,¬ k=w.heap.size+1→w14.heap[k]?=w13.heap[k]?:=fun k hk=>by rw[hw14];exact row12_other w13 _ k hk ..
      rw[←hw14]
      clear hw14
      have hcz:∀ j,w14.cell? ⟨w.heap.size+1,j,none⟩=(#[.int .i64 y0,.int .i64 y1,.int .i64 y2,.int .i64 y3,.string y4,.string y5,.string y6,.slice ya yb yc,.slice v5a lead.length v5c,.slice yg yh yi,.bool y7,.string y8]:Array Value)[j]?:=fun j=>cell_of_row w14 _ j _ _ _ rw14
      refine bodyPost_ret (v:=.agg #[.int .i64 y0,.int .i64 y1,.int .i64 y2,.int .i64 y3,.string y4,.string y5,.string y6,.slice ya yb yc,.slice v5a lead.length v5c,.slice yg yh yi,.bool y7,.string y8]) (by simp[results,Tryz.results15,go_sem,hcz]) rfl ?_
      subst hoo
      show NodG g s w (x.1.withLead (L++x.1.h.lead),x.2) _ _
      rw[HLD.out]
      have zg5:=g5.size
      have M:=HM.out
      have hV:∀ k,vA.ownBlock=some k→nb+1≤k:=fun k hk=>by have:=(M.own k hk).1;omega
      have hRk:∀ k,R k→nb+1≤k:=fun k hk=>by have:=(M.new k hk).1;omega
      have hv5:∀ k,(Value.slice v5a lead.length v5c).ownBlock=some k→k≠nb∧k≠w.heap.size+1:=fun k hk=>by
       rcases n5 with e|e
       ·rw[e] at hk;have:=hvo k hk;omega
       ·rw[e] at hk;injection hk with hk;omega
      exact node_end (q:=x.2.2) (nb:=nb) (M.mono k9) HN.out (by omega) (by omega) ⟨fun h=>by have:=hRk _ h;omega,fun h=>by have:=hRk _ h;omega⟩ ⟨fun e=>by have:=hV _ e;omega,fun e=>by have:=hV _ e;omega⟩ hg (.slice va4 L.length vc4) (fun k hk=>by
        have h1:=hvo k hk
        exact ⟨by omega,by omega,fun h=>by have:=hRk k h;omega,fun e=>by have:=hV k e;omega,by omega⟩) (by rw[←zw11];exact n5) (HO5.out.keep fun k hk _=>(sw14 k (hv5 k hk).2).trans (sw13 k (hv5 k hk).1)) (by omega)
       (fun k h1 h2 h3 h4=>(sw14 k h1).trans ((sw13 k h2).trans ((g5.block k (by omega) (fun e=>h3 e.symm)).trans (sw11 k h2)))) (by omega) (fun k hk=>by have:=HO5.out.own k hk;omega) ⟨(bw14.os.trans ow13.1).trans (g5.os.trans bw11.os),(bw14.tape.trans ow13.2.1).trans (g5.tape.trans bw11.tape),(bw14.output.trans ow13.2.2).trans (g5.output.trans bw11.output)⟩
    ·subst hbb hoo
     have CBS:=trBeside_bad g s q _ w8 b n d p T8 hs hpq hfar.2 hb0 hrr r c hcc
     go_wp2_with fail
     refine CBS.mono ?_
     rintro e w9 ⟨rfl,b9⟩
     exact ⟨rfl,rfl,k8.lxB b9 k8.size⟩
   | false=>
    rw[if_neg (by decide)] at hbo
    have CK:=trNamed_is K w0 hEv g hg0 s hs hPs blk hblk b n d q _ bo w8 B8 ⟨_,_,_,rfl⟩ T8 hql hbo
    go_wp2_with fail
    refine CK.mono ?_
    rintro e wA hpost
    clear CK
    cases bo with
    | bad r c=>
     obtain ⟨rfl,kA⟩:=hpost
     subst hoo
     exact ⟨rfl,rfl,k8.lx kA k8.size⟩
    | ok x=>
     obtain ⟨cs,vA,R,rfl,hN,M⟩:=hpost
     obtain ⟨y0,y1,y2,y3,y4,y5,y6,ya,yb,yc,yd,ye,yf,yg,yh,yi,y7,y8,rfl⟩:=hN.cells12
     have kA:=M.keep
     have zA:=kA.size
     have raA:=(kA.block (w.heap.size+1) ⟨by omega,by omega⟩).trans ra8
     have rnA:=(kA.block nb ⟨by omega,by omega⟩).trans rn8
     have hvA:HasV 2 wA (.slice va4 L.length vc4) L.length (comV L):=hv8.keep fun k hk _=>kA.block k ⟨by have:=hvo k hk;omega,by have:=hvo k hk;omega⟩
     have qnA:∀ j,wA.cell? ⟨nb,j,none⟩=(#[.int .i64 0,.int .i64 0,.int .i64 0,.int .i64 0,.string ⟨#[]⟩,.string ⟨#[]⟩,.string ⟨#[]⟩,.slice none 0 0,.slice none 0 0,.slice none 0 0,.bool false,.string ⟨#[]⟩]:Array Value)[j]?:=fun j=>cell_of_row wA _ j _ _ _ rnA
     have fnA:∀ j,wA.frozen? ⟨nb,j,none⟩=false:=fun j=>frozen_of_row wA _ j _ _ rnA
     have HRA:=Lib.hid raA
     have HRN:=Lib.hid rnA
     have HM:=Lib.hid M
     have HN:=Lib.hid hN
     have HK:=Lib.hid kA
     have HVA:=Lib.hid hvA
     clear M hN kA raA rnA hvA
     go_upto_region 11 with fail
     obtain ⟨w11,hw11⟩:∃ w11,w11=((((((((((((wA.setCell ⟨nb,0,none⟩ (.int .i64 y0)).setCell ⟨nb,1,none⟩ (.int .i64 y1)).setCell ⟨nb,2,none⟩ (.int .i64 y2)).setCell ⟨nb,3,none⟩ (.int .i64 y3)).setCell ⟨nb,4,none⟩ (.string y4)).setCell ⟨nb,5,none⟩ (.string y5)).setCell ⟨nb,6,none⟩ (.string y6)).setCell ⟨nb,7,none⟩ (.slice ya yb yc)).setCell ⟨nb,8,none⟩ (.slice yd ye yf)).setCell ⟨nb,9,none⟩ (.slice yg yh yi)).setCell ⟨nb,10,none⟩ (.bool y7)).setCell ⟨nb,11,none⟩ (.string y8)):=⟨_,rfl⟩
     have rw11:w11.heap[nb]?=some (.cells #[.int .i64 y0,.int .i64 y1,.int .i64 y2,.int .i64 y3,.string y4,.string y5,.string y6,.slice ya yb yc,.slice yd ye yf,.slice yg yh yi,.bool y7,.string y8] 27 (0,0)):=by rw[hw11];exact row12_set wA (hg:=HRN.out) ..
     have bw11:Below (nb) wA w11:=by rw[hw11];exact row12_below wA _ _ (Nat.le_refl _) _ _ _ _ _ _ _ _ _ _ _ _
     have zw11:w11.heap.size=wA.heap.size:=by rw[hw11,row12_size]
     have sw11:∀ k,¬ k=nb→w11.heap[k]?=wA.heap[k]?:=fun k hk=>by rw[hw11];exact row12_other wA _ k hk ..
     rw[←hw11]
     clear hw11
     have ra11:=(sw11 (w.heap.size+1) (by omega)).trans HRA.out
     have hv11:HasV 2 w11 (.slice va4 L.length vc4) L.length (comV L):=HVA.out.keep fun k hk _=>sw11 k (by have:=hvo k hk;omega)
     have hN11:IsN R w11 x.1 [.int .i64 y0,.int .i64 y1,.int .i64 y2,.int .i64 y3,.string y4,.string y5,.string y6,.slice ya yb yc,.slice yd ye yf,.slice yg yh yi,.bool y7,.string y8]:=IsN.frame (fun k hk=>⟨hk,sw11 k (by have:=(HM.out.new k hk).1;omega)⟩) x.1 _ HN.out
     obtain ⟨hyl,hcom⟩:ye=x.1.h.lead.length∧ComsR R w11 (.slice yd x.1.h.lead.length yf) x.1.h.lead:=by
      obtain ⟨kv,lv,fv,e,h1,_,_⟩:=hN11.open
      unfold headC at e
      simp only[List.cons.injEq,and_true] at e
      have e8:=e.2.2.2.2.2.2.2.2.1
      obtain ⟨ao,cap,rfl,k1,k2,k3⟩:=h1
      injection e8 with q1 q2 q3
      refine ⟨q2,ao,cap,?_,k1,k2,k3⟩
      rw[q1,q3]
     have zL:L.length+x.1.h.lead.length≤1000000000:=by have:=hxl x rfl;omega
     obtain ⟨lead,hlead⟩:∃ lead,L++x.1.h.lead=lead:=⟨_,rfl⟩
     have qn11:∀ j,w11.cell? ⟨nb,j,none⟩=(#[.int .i64 y0,.int .i64 y1,.int .i64 y2,.int .i64 y3,.string y4,.string y5,.string y6,.slice ya yb yc,.slice yd ye yf,.slice yg yh yi,.bool y7,.string y8]:Array Value)[j]?:=fun j=>cell_of_row w11 _ j _ _ _ rw11
     have fn11:∀ j,w11.frozen? ⟨nb,j,none⟩=false:=fun j=>frozen_of_row w11 _ j _ _ rw11
     have HCL:=Lib.hid hcom
     have HV11:=Lib.hid hv11
     have HLD:=Lib.hid hlead
     have HN11:=Lib.hid hN11
     have HR11:=Lib.hid rw11
     have HRA11:=Lib.hid ra11
     have HYL:=Lib.hid hyl
     have hzw11:w11.heap.size=wA.heap.size:=zw11
     clear qnA fnA hcom hv11 hlead hN11 rw11 ra11
     subst hyl
     go_upto_region 12 with (at_builtin;refine appendH rfl _ _ rfl R (.slice va4 L.length vc4) (.slice yd x.1.h.lead.length yf) L x.1.h.lead rfl rfl HV11.out HCL.out zL ?_;intro v5 w12 o5 g5 n5;rw[HLD.out] at o5;obtain ⟨v5a,v5c,rfl⟩:=o5.form;have rn12:=(g5.block nb (by omega) (fun e=>by have:=hvo nb e.symm;omega)).trans HR11.out;have qn12:∀ j,w12.cell? ⟨nb,j,none⟩=(#[.int .i64 y0,.int .i64 y1,.int .i64 y2,.int .i64 y3,.string y4,.string y5,.string y6,.slice ya yb yc,.slice yd x.1.h.lead.length yf,.slice yg yh yi,.bool y7,.string y8]:Array Value)[j]?:=fun j=>cell_of_row w12 _ j _ _ _ rn12;have fn12:∀ j,w12.frozen? ⟨nb,j,none⟩=false:=fun j=>frozen_of_row w12 _ j _ _ rn12;have HO5:=Lib.hid o5;clear o5)
     obtain ⟨w13,hw13⟩:∃ w13,w13=w12.setCell ⟨nb,8,none⟩ (.slice v5a lead.length v5c):=⟨_,rfl⟩
     have rw13:w13.heap[nb]?=some (.cells #[.int .i64 y0,.int .i64 y1,.int .i64 y2,.int .i64 y3,.string y4,.string y5,.string y6,.slice ya yb yc,.slice v5a lead.length v5c,.slice yg yh yi,.bool y7,.string y8] 27 (0,0)):=by rw[hw13];exact heap_setCell_same _ _ 8 _ _ _ rn12
     have sw13:∀ k,¬ k=nb→w13.heap[k]?=w12.heap[k]?:=fun k hk=>by rw[hw13];exact heap_setCell_other _ _ _ _ hk
     have zw13:w13.heap.size=w12.heap.size:=by rw[hw13];simp[World.setCell]
     have ow13:w13.os=w12.os∧w13.tape=w12.tape∧w13.output=w12.output:=by rw[hw13];exact ⟨rfl,rfl,rfl⟩
     rw[←hw13]
     clear hw13 qn12 fn12 qn11 fn11
     have ra13:=(sw13 (w.heap.size+1) (by omega)).trans ((g5.block (w.heap.size+1) (by omega) (fun e=>by have:=hvo _ e.symm;omega)).trans HRA11.out)
     have qn13:∀ j,w13.cell? ⟨nb,j,none⟩=(#[.int .i64 y0,.int .i64 y1,.int .i64 y2,.int .i64 y3,.string y4,.string y5,.string y6,.slice ya yb yc,.slice v5a lead.length v5c,.slice yg yh yi,.bool y7,.string y8]:Array Value)[j]?:=fun j=>cell_of_row w13 _ j _ _ _ rw13
     have fn13:∀ j,w13.frozen? ⟨nb,j,none⟩=false:=fun j=>frozen_of_row w13 _ j _ _ rw13
     have qa13:∀ j,w13.cell? ⟨w.heap.size+1,j,none⟩=(#[.int .i64 0,.int .i64 0,.int .i64 0,.int .i64 0,.string ⟨#[]⟩,.string ⟨#[]⟩,.string ⟨#[]⟩,.slice none 0 0,.slice none 0 0,.slice none 0 0,.bool false,.string ⟨#[]⟩]:Array Value)[j]?:=fun j=>cell_of_row w13 _ j _ _ _ ra13
     have fa13:∀ j,w13.frozen? ⟨w.heap.size+1,j,none⟩=false:=fun j=>frozen_of_row w13 _ j _ _ ra13
     have HRA13:=Lib.hid ra13
     clear ra13 rw13 rn12
     go_wp2
     obtain ⟨w14,hw14⟩:∃ w14,w14=((((((((((((w13.setCell ⟨w.heap.size+1,0,none⟩ (.int .i64 y0)).setCell ⟨w.heap.size+1,1,none⟩ (.int .i64 y1)).setCell ⟨w.heap.size+1,2,none⟩ (.int .i64 y2)).setCell ⟨w.heap.size+1,3,none⟩ (.int .i64 y3)).setCell ⟨w.heap.size+1,4,none⟩ (.string y4)).setCell ⟨w.heap.size+1,5,none⟩ (.string y5)).setCell ⟨w.heap.size+1,6,none⟩ (.string y6)).setCell ⟨w.heap.size+1,7,none⟩ (.slice ya yb yc)).setCell ⟨w.heap.size+1,8,none⟩ (.slice v5a lead.length v5c)).setCell ⟨w.heap.size+1,9,none⟩ (.slice yg yh yi)).setCell ⟨w.heap.size+1,10,none⟩ (.bool y7)).setCell ⟨w.heap.size+1,11,none⟩ (.string y8)):=⟨_,rfl⟩
     have rw14:w14.heap[w.heap.size+1]?=some (.cells #[.int .i64 y0,.int .i64 y1,.int .i64 y2,.int .i64 y3,.string y4,.string y5,.string y6,.slice ya yb yc,.slice v5a lead.length v5c,.slice yg yh yi,.bool y7,.string y8] 27 (0,0)):=by rw[hw14];exact row12_set w13 (hg:=HRA13.out) ..
     have bw14:Below (w.heap.size+1) w13 w14:=by rw[hw14];exact row12_below w13 _ _ (Nat.le_refl _) _ _ _ _ _ _ _ _ _ _ _ _
     have zw14:w14.heap.size=w13.heap.size:=by rw[hw14,row12_size]
     have sw14:∀ k,¬ k=w.heap.size+1→w14.heap[k]?=w13.heap[k]?:=fun k hk=>by rw[hw14];exact row12_other w13 _ k hk ..
     rw[←hw14]
     clear hw14
     have hcz:∀ j,w14.cell? ⟨w.heap.size+1,j,none⟩=(#[.int .i64 y0,.int .i64 y1,.int .i64 y2,.int .i64 y3,.string y4,.string y5,.string y6,.slice ya yb yc,.slice v5a lead.length v5c,.slice yg yh yi,.bool y7,.string y8]:Array Value)[j]?:=fun j=>cell_of_row w14 _ j _ _ _ rw14
     refine bodyPost_ret (v:=.agg #[.int .i64 y0,.int .i64 y1,.int .i64 y2,.int .i64 y3,.string y4,.string y5,.string y6,.slice ya yb yc,.slice v5a lead.length v5c,.slice yg yh yi,.bool y7,.string y8]) (by simp[results,Tryz.results15,go_sem,hcz]) rfl ?_
     subst hoo
     show NodG g s w (x.1.withLead (L++x.1.h.lead),x.2) _ _
     rw[HLD.out]
     have zg5:=g5.size
     have M:=HM.out
     have hV:∀ k,vA.ownBlock=some k→nb+1≤k:=fun k hk=>by have:=(M.own k hk).1;omega
     have hRk:∀ k,R k→nb+1≤k:=fun k hk=>by have:=(M.new k hk).1;omega
     have hv5:∀ k,(Value.slice v5a lead.length v5c).ownBlock=some k→k≠nb∧k≠w.heap.size+1:=fun k hk=>by
      rcases n5 with e|e
      ·rw[e] at hk;have:=hvo k hk;omega
      ·rw[e] at hk;injection hk with hk;omega
     exact node_end (q:=x.2.2) (nb:=nb) (M.mono k8) HN.out (by omega) (by omega) ⟨fun h=>by have:=hRk _ h;omega,fun h=>by have:=hRk _ h;omega⟩ ⟨fun e=>by have:=hV _ e;omega,fun e=>by have:=hV _ e;omega⟩ hg (.slice va4 L.length vc4) (fun k hk=>by
       have h1:=hvo k hk
       exact ⟨by omega,by omega,fun h=>by have:=hRk k h;omega,fun e=>by have:=hV k e;omega,by omega⟩) (by rw[←zw11];exact n5) (HO5.out.keep fun k hk _=>(sw14 k (hv5 k hk).2).trans (sw13 k (hv5 k hk).1)) (by omega)
      (fun k h1 h2 h3 h4=>(sw14 k h1).trans ((sw13 k h2).trans ((g5.block k (by omega) (fun e=>h3 e.symm)).trans (sw11 k h2)))) (by omega) (fun k hk=>by have:=HO5.out.own k hk;omega) ⟨(bw14.os.trans ow13.1).trans (g5.os.trans bw11.os),(bw14.tape.trans ow13.2.1).trans (g5.tape.trans bw11.tape),(bw14.output.trans ow13.2.2).trans (g5.output.trans bw11.output)⟩
end Go.Proofs.YthcmkpiajkbpnaaGreatDoor
