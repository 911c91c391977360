/- Parts of the proof, put together from smaller texts (blanks that Lean does not want are struck). Conditions: those that each theorem writes out. -/
import Derived.Test.YthcmkpiajkbpnaaGreatDoorZ26
namespace Go.Proofs.YthcmkpiajkbpnaaGreatDoor
open Go.RowKit
def PairG (g:Nat) (s:ByteArray) (w:World) (x:NT × NT × Coms × Nat) (e:Ending) (w':World):Prop:=∃ cs ds v R,e=.returned (.tuple #[.agg cs.toArray,.agg ds.toArray])∧IsN R w' x.1 cs∧IsN R w' x.2.1 ds∧TrM g s w w' x.2.2.2 v x.2.2.1 R
theorem setCell_self {w:World} {g i:Nat} {arr:Array Value} {T:TypeId} {u:Value} (h:w.heap[g]?=some (.cells arr T (0,0))) (hu:arr[i]?=some u):w.setCell ⟨g,i,none⟩ u=w:=by
 have ea:arr.setIfInBounds i u=arr:=by
  obtain ⟨h5,_⟩:=Array.getElem?_eq_some_iff.1 hu
  refine Array.ext_getElem? fun j=>?_
  rw[Array.getElem?_setIfInBounds]
  split
  ·rename_i e
   subst e
   first|exact hu.symm|(rw[if_pos h5];exact hu.symm)
  ·rfl
 have e:(w.setCell ⟨g,i,none⟩ u).heap=w.heap:=by
  refine Array.ext_getElem? fun k=>?_
  by_cases hk:k=g
  ·subst hk
   rw[heap_setCell_same _ _ i _ _ u h,ea,h]
  ·exact heap_setCell_other _ _ _ _ hk
 have e2:w.setCell ⟨g,i,none⟩ u={ w with heap:=(w.setCell ⟨g,i,none⟩ u).heap }:=rfl
 rw[e2,e]
theorem nod_lead {s:ByteArray} {blk:Nat→Nat→Rd Tre→Prop} (hl:LeadB blk) {b:Nat} {n:Int} {d p:Nat} {x:Tre} (hp:p≤s.size) (h:nodP s blk b n d p (.ok x)):x.1.h.lead.length≤2*s.size:=by
 rcases h with ⟨_,_,_,e⟩|⟨l,h1,h⟩
 ·cases e
 ·have hf:=pass_few h1 hp
  split at h
  ·injection h with h
   subst h
   have:=congrArg (fun t=>t.h.lead) (empty_lead (decide (b=3)) l.1 (l.2.1&&!(decide (b=0))) l.2.2)
   have e:(emptyT (decide (b=3)) l.1 (l.2.1&&!(decide (b=0))) l.2.2).1.h.lead=[]:=this.symm
   rw[e]
   exact Nat.zero_le _
  ·rcases h with ⟨_,_,_,e⟩|⟨y,h2,e⟩
   ·cases e
   ·injection e with e
    subst e
    have:=beg_lead hl (pass_far h1 hp).2 h2
    show (l.1++y.1.h.lead).length≤_
    rw[List.length_append]
    omega
theorem IsN.untrail12 {R:Nat→Prop} {w:World} {x:NT} {c0 c1 c2 c3 c4 c5 c6 c7 c8 c9 c10 c11:Value} (h:IsN R w x [c0,c1,c2,c3,c4,c5,c6,c7,c8,c9,c10,c11]):IsN R w (.mk { x.h with ht:=false,trail:=[] } x.kids) [c0,c1,c2,c3,c4,c5,c6,c7,c8,c9,.bool false,.string ⟨#[]⟩]:=by
 obtain ⟨kv,lv,fv,e,h1,h2,h3⟩:=h.open
 unfold headC at e
 simp only[List.cons.injEq,and_true] at e
 obtain ⟨rfl,rfl,rfl,rfl,rfl,rfl,rfl,rfl,rfl,rfl,_,_⟩:=e
 exact IsN.shut (hd:={ x.h with ht:=false,trail:=[] }) h1 h2 h3
theorem pair_end {g:Nat} {s:ByteArray} {w w5 w12:World} {a y:NT} {q:Nat} {L lead:Coms} {v v2:Value} {R:Nat→Prop} {ks:List Value} {c0 c1 c2 c3 c4 c5 c6 c7 c8 c9 c10 c11:Value} (M:TrM g s w w5 q v L R) (hK:IsN R w5 a ks) (hN:IsN R w5 y [c0,c1,c2,c3,c4,c5,c6,c7,c8,c9,c10,c11]) (hnR:∀ k,R k→w.heap.size+2≤k) (hnV:∀ k,v.ownBlock=some k→w.heap.size+2≤k) (hg:g<w.heap.size)
  (vo:Value) (hvo:∀ k,vo.ownBlock=some k→w.heap.size+2≤k∧¬ R k∧v.ownBlock≠some k∧k<w5.heap.size) (hv2:v2.ownBlock=vo.ownBlock∨v2.ownBlock=some w5.heap.size) (hH:HasV 2 w12 v2 lead.length (comV lead)) (hz5:w.heap.size+2≤w5.heap.size)
  (hs:∀ k,¬ k=w.heap.size+1→vo.ownBlock≠some k→k<w5.heap.size→w12.heap[k]?=w5.heap[k]?) (hz:w5.heap.size≤w12.heap.size) (ho:w12.os=w5.os∧w12.tape=w5.tape∧w12.output=w5.output) :
  PairG g s w (a,y.withLead lead,L,q) (.returned (.tuple #[.agg ks.toArray,.agg #[c0,c1,c2,c3,c4,c5,c6,c7,v2,c9,c10,c11]])) w12:=by
 have hz2:=hH.own
 have hgo:vo.ownBlock≠some g:=fun e=>by have:=(hvo g e).1;omega
 have fr:∀ k,R k→(R k∨v2.ownBlock=some k)∧w12.heap[k]?=w5.heap[k]?:=fun k hk=>⟨.inl hk,hs k (by have:=hnR k hk;omega) (fun e=>(hvo k e).2.1 hk) (M.new k hk).2⟩
 have hvL:∀ k,v.ownBlock=some k→k<w5.heap.size:=M.has.own
 refine ⟨ks,_,v,fun k=>R k∨v2.ownBlock=some k,rfl,IsN.frame fr a _ hK,?_,⟨?_,?_,?_,?_,?_,M.le,M.few⟩⟩
 ·obtain ⟨kv,lv,fv,e,h1,h2,h3⟩:=hN.open
  unfold headC at e
  simp only[List.cons.injEq,and_true] at e
  obtain ⟨rfl,rfl,rfl,rfl,rfl,rfl,rfl,rfl,rfl,rfl,rfl,rfl⟩:=e
  exact IsN.shut (hd:={ y.h with lead:=lead }) (hH.toComs.frame fun b hb=>⟨.inr hb,rfl⟩) (h2.frame fr) (h3.frame fr)
 ·exact (hs g (by omega) hgo M.cells.lt).trans M.cells
 ·exact M.has.keep fun k hk hlt=>hs k (by have:=hnV k hk;omega) (fun e=>(hvo k e).2.2.1 hk) hlt
 ·intro k hk
  refine ⟨(M.own k hk).1,fun h=>?_⟩
  rcases h with h|h
  ·exact (M.own k hk).2 h
  ·rcases hv2 with e|e
   ·exact (hvo k (by rw[←e];exact h)).2.2.1 hk
   ·rw[e] at h;injection h with h;have:=hvL k hk;omega
 ·intro k hk
  rcases hk with hk|hk
  ·exact ⟨(M.new k hk).1,Nat.lt_of_lt_of_le (M.new k hk).2 hz⟩
  ·refine ⟨?_,hz2 k hk⟩
   rcases hv2 with e|e
   ·have:=(hvo k (by rw[←e];exact hk)).1;omega
   ·rw[e] at hk;injection hk with hk;omega
 ·exact M.keep.trans (Q:=fun k=>k<w.heap.size) ⟨ho.1,ho.2.1,ho.2.2,hz,fun k hk=>hs k (by omega) (fun e=>by have:=(hvo k e).1;omega) (by omega)⟩ (fun _ hk=>hk.1)
set_option maxRecDepth 100000 in
set_option maxHeartbeats 6400000 in
theorem trAsked_is {Ev:World→Prop} {P:ByteArray→Prop} (K:CntC Ev P) (w0:World) (hEv:Ev w0) (g:Nat) (hg0:w0.heap.size≤g) (s:ByteArray) (hs:s.size≤10000) (hPs:P s) (blk:Nat→Nat→Rd Tre→Prop) (hblk:BlkC w0 g s blk) (hld:LeadB blk) (c d p:Nat) (v:Value) (o:Rd (NT × NT × Coms × Nat)) (w:World) (hB:Below w0.heap.size w0 w) (hv:∃ a n c,v=.slice a n c) (h:TrAt g s p v w) (hp:p<s.size) (ho:queryP s blk c d p o) :
  Calls Tryz.prog 124 #[.pointer (some ⟨g,0,none⟩),.int .i64 (c:Int),.int .i64 (d:Int)] w fun e w'=>TrPost g w o (PairG g s w) e w':=by
 have hg:=h.lt
 obtain ⟨W1,hW1⟩:∃ W1,W1=(w.alloc (.cells #[.int .i64 0,.int .i64 0,.int .i64 0,.int .i64 0,.string ⟨#[]⟩,.string ⟨#[]⟩,.string ⟨#[]⟩,.slice none 0 0,.slice none 0 0,.slice none 0 0,.bool false,.string ⟨#[]⟩] 27)).alloc (.cells #[.int .i64 0,.int .i64 0,.int .i64 0,.int .i64 0,.string ⟨#[]⟩,.string ⟨#[]⟩,.string ⟨#[]⟩,.slice none 0 0,.slice none 0 0,.slice none 0 0,.bool false,.string ⟨#[]⟩] 27):=⟨_,rfl⟩
 have u1:W1.heap.size=w.heap.size+2:=by rw[hW1];simp
 have b1:Below w.heap.size w W1:=by rw[hW1];exact ((Below.refl _ _).alloc (Nat.le_refl _) _).alloc (by simp) _
 have rk:W1.heap[w.heap.size]?=some (.cells #[.int .i64 0,.int .i64 0,.int .i64 0,.int .i64 0,.string ⟨#[]⟩,.string ⟨#[]⟩,.string ⟨#[]⟩,.slice none 0 0,.slice none 0 0,.slice none 0 0,.bool false,.string ⟨#[]⟩] 27 (0,0)):=by rw[hW1];exact (heap_alloc_old _ _ (by simp)).trans (heap_alloc_new w _)
 have rv:W1.heap[w.heap.size+1]?=some (.cells #[.int .i64 0,.int .i64 0,.int .i64 0,.int .i64 0,.string ⟨#[]⟩,.string ⟨#[]⟩,.string ⟨#[]⟩,.slice none 0 0,.slice none 0 0,.slice none 0 0,.bool false,.string ⟨#[]⟩] 27 (0,0)):=by
  rw[hW1]
  have:=heap_alloc_new (w.alloc (.cells #[.int .i64 0,.int .i64 0,.int .i64 0,.int .i64 0,.string ⟨#[]⟩,.string ⟨#[]⟩,.string ⟨#[]⟩,.slice none 0 0,.slice none 0 0,.slice none 0 0,.bool false,.string ⟨#[]⟩] 27)) (.cells #[.int .i64 0,.int .i64 0,.int .i64 0,.int .i64 0,.string ⟨#[]⟩,.string ⟨#[]⟩,.string ⟨#[]⟩,.slice none 0 0,.slice none 0 0,.slice none 0 0,.bool false,.string ⟨#[]⟩] 27)
  simpa using this
 have h1:=h.below b1 hg
 have B1:Below w0.heap.size w0 W1:=hB.trans (b1.mono hB.size)
 have c1:=h1.cell
 have f1:=h1.free
 obtain ⟨va,vm,vc,rfl⟩:=hv
 have HW:=Lib.hid hW1
 clear hW1 h
 go_enter Tryz.func124,Tryz.ntmps124
 go_upto_region 1 with fail
 rw[←HW.out]
 go_upto_region 2 with fail
 obtain ⟨W2,hW2⟩:∃ W2,W2=W1.setCell ⟨g,1,none⟩ (.int .i64 ((p+1:Nat):Int)):=⟨_,rfl⟩
 have s2:∀ k,k≠g→W2.heap[k]?=W1.heap[k]?:=fun k hk=>by rw[hW2];exact heap_setCell_other _ _ _ _ hk
 have z2:W2.heap.size=W1.heap.size:=by rw[hW2];simp[World.setCell]
 have h2:TrAt g s (p+1) (.slice va vm vc) W2:=by rw[hW2];exact heap_setCell_same _ _ 1 _ _ _ h1
 have k2:Keep (Lx g w.heap.size) w W2:=(below_lx b1).trans (by rw[hW2];exact tr_keep1 _ _ _) (fun _ hk=>hk)
 have B2:Below w0.heap.size w0 W2:=by rw[hW2];exact B1.setCell (p:=⟨g,1,none⟩) hg0 _
 have hp1:(p:Int)+1=((p+1:Nat):Int):=by omega
 try rw[hp1]
 rw[←hW2]
 clear hp1
 have rk2:=(s2 w.heap.size (by omega)).trans rk
 have rv2:=(s2 (w.heap.size+1) (by omega)).trans rv
 clear hW2 c1 f1 rk rv h1 B1 b1 s2
 obtain ⟨ko,hko,hrest⟩:∃ ko,nodP s blk 3 c d (p+1) ko∧(match ko with | .bad q e=>o=.bad q e | .ok k=>if markB s k.2.2 58=true∧colF s k.2.2=c then andR (nodP s blk 4 c d (k.2.2+1)) (fun v o=>o=.ok (untrail k.1,v.1.withLead ((if k.1.h.ht=true then [(k.1.h.trail,0)] else [])++k.2.1++v.1.h.lead),v.2)) o else o=.ok (untrail k.1,voidN.withLead (if k.1.h.ht=true then [(k.1.h.trail,0)] else []),k.2)):=by
  rcases ho with ⟨q,e,h1,rfl⟩|⟨x,h1,h2⟩
  ·exact ⟨_,h1,rfl⟩
  ·exact ⟨_,h1,h2⟩
 clear ho
 have CN:Calls Tryz.prog 15 #[.pointer (some ⟨g,0,none⟩),.agg #[.int .i64 3,.int .i64 (c:Int),.int .i64 (d:Int)]] W2 fun e w'=>TrPost g W2 ko (NodG g s W2) e w':=trNode_is K w0 hEv g hg0 s hs hPs blk hblk hld 3 c d (p+1) (.slice va vm vc) ko W2 B2 ⟨_,_,_,rfl⟩ h2 (by omega) hko
 go_wp2_with fail
 refine CN.mono ?_
 rintro e w3 hpost
 clear CN
 cases ko with
 | bad q e=>
  obtain ⟨rfl,k3⟩:=hpost
  have hrest:o=.bad q e:=hrest
  subst hrest
  exact ⟨rfl,rfl,k2.lx k3 k2.size⟩
 | ok k=>
  obtain ⟨cs,v1,R1,rfl,hN,M⟩:=hpost
  have hh:=hN.open
  obtain ⟨y0,y1,y2,y3,y4,y5,y6,ya,yb,yc,yd,ye,yf,yg,yh,yi,y7,y8,rfl⟩:=hN.cells12
  obtain ⟨e7,e8⟩:y7=k.1.h.ht∧y8=⟨k.1.h.trail.toArray⟩:=by
   obtain ⟨kv,lv,fv,e,_,_,_⟩:=hh
   unfold headC at e
   simp only[List.cons.injEq,and_true,Value.bool.injEq,Value.string.injEq] at e
   exact ⟨e.2.2.2.2.2.2.2.2.2.2.1,e.2.2.2.2.2.2.2.2.2.2.2⟩
  have HE7:=Lib.hid e7
  have HE8:=Lib.hid e8.symm
  clear e7 e8
  have k3:=M.keep
  have z3:=k3.size
  have rk3:=(k3.block w.heap.size ⟨by omega,by omega⟩).trans rk2
  have rv3:=(k3.block (w.heap.size+1) ⟨by omega,by omega⟩).trans rv2
  have qk3:∀ j,w3.cell? ⟨w.heap.size,j,none⟩=(#[.int .i64 0,.int .i64 0,.int .i64 0,.int .i64 0,.string ⟨#[]⟩,.string ⟨#[]⟩,.string ⟨#[]⟩,.slice none 0 0,.slice none 0 0,.slice none 0 0,.bool false,.string ⟨#[]⟩]:Array Value)[j]?:=fun j=>cell_of_row w3 _ j _ _ _ rk3
  have fk3:∀ j,w3.frozen? ⟨w.heap.size,j,none⟩=false:=fun j=>frozen_of_row w3 _ j _ _ rk3
  have HRK:=Lib.hid rk3
  have HRV:=Lib.hid rv3
  have HM:=Lib.hid M
  have HN:=Lib.hid hN
  have HK:=Lib.hid k2
  clear M hN rk3 rv3 k2 k3 hh h2 B2 rk2 rv2
  go_upto_region 3 with fail
  obtain ⟨w4,hw4⟩:∃ w4,w4=((((((((((((w3.setCell ⟨w.heap.size,0,none⟩ (.int .i64 y0)).setCell ⟨w.heap.size,1,none⟩ (.int .i64 y1)).setCell ⟨w.heap.size,2,none⟩ (.int .i64 y2)).setCell ⟨w.heap.size,3,none⟩ (.int .i64 y3)).setCell ⟨w.heap.size,4,none⟩ (.string y4)).setCell ⟨w.heap.size,5,none⟩ (.string y5)).setCell ⟨w.heap.size,6,none⟩ (.string y6)).setCell ⟨w.heap.size,7,none⟩ (.slice ya yb yc)).setCell ⟨w.heap.size,8,none⟩ (.slice yd ye yf)).setCell ⟨w.heap.size,9,none⟩ (.slice yg yh yi)).setCell ⟨w.heap.size,10,none⟩ (.bool y7)).setCell ⟨w.heap.size,11,none⟩ (.string y8)):=⟨_,rfl⟩
  have rk4:w4.heap[w.heap.size]?=some (.cells #[.int .i64 y0,.int .i64 y1,.int .i64 y2,.int .i64 y3,.string y4,.string y5,.string y6,.slice ya yb yc,.slice yd ye yf,.slice yg yh yi,.bool y7,.string y8] 27 (0,0)):=by rw[hw4];exact row12_set w3 (hg:=HRK.out) ..
  have s4:∀ k,¬ k=w.heap.size→w4.heap[k]?=w3.heap[k]?:=fun k hk=>by rw[hw4];exact row12_other w3 _ k hk ..
  have z4:w4.heap.size=w3.heap.size:=by rw[hw4,row12_size]
  have o4:Below w.heap.size w3 w4:=by rw[hw4];exact row12_below w3 _ _ (Nat.le_refl _) _ _ _ _ _ _ _ _ _ _ _ _
  rw[←hw4]
  clear hw4 qk3 fk3
  have hR1:∀ j,R1 j→w.heap.size+2≤j:=fun j hj=>by have:=(HM.out.new j hj).1;omega
  have hv1:∀ j,v1.ownBlock=some j→w.heap.size+2≤j:=fun j hj=>by have:=(HM.out.own j hj).1;omega
  have hfew:k.2.1.length≤s.size:=HM.out.few
  have hle:k.2.2≤s.size:=HM.out.le
  have M4:TrM g s w w4 k.2.2 v1 k.2.1 R1:=(HM.out.mono HK.out).put (fun j=>j=w.heap.size) (fun j hj=>⟨by omega,by omega,fun h=>by have:=hR1 j h;omega,fun h=>by have:=hv1 j h;omega⟩) s4 z4 ⟨o4.os,o4.tape,o4.output⟩
  have N4:IsN R1 w4 k.1 [.int .i64 y0,.int .i64 y1,.int .i64 y2,.int .i64 y3,.string y4,.string y5,.string y6,.slice ya yb yc,.slice yd ye yf,.slice yg yh yi,.bool y7,.string y8]:=IsN.frame (fun j hj=>⟨hj,s4 j (by have:=hR1 j hj;omega)⟩) k.1 _ HN.out
  have rv4:=(s4 (w.heap.size+1) (by omega)).trans HRV.out
  have z4a:w3.heap.size≤w4.heap.size:=Nat.le_of_eq z4.symm
  clear HM HN HRK HRV HK o4 s4 z4
  cases y7 with
  | false=>
   have hun:untrail k.1=k.1:=by unfold untrail;rw[if_neg (by rw[←HE7.out];decide)]
   have hLC:(if k.1.h.ht=true then [(k.1.h.trail,0)] else ([]:Coms))=[]:=if_neg (by rw[←HE7.out];decide)
   have N6:IsN R1 w4 (untrail k.1) [.int .i64 y0,.int .i64 y1,.int .i64 y2,.int .i64 y3,.string y4,.string y5,.string y6,.slice ya yb yc,.slice yd ye yf,.slice yg yh yi,.bool false,.string y8]:=by rw[hun];exact N4
   obtain ⟨LC,hLCv⟩:∃ LC:Coms,LC=[]:=⟨_,rfl⟩
   have hLC1:LC.length≤1:=by rw[hLCv];decide
   have V6:HasV 2 w4 (.slice none 0 0) LC.length (comV LC):=by rw[hLCv];exact HasV.nil _ _
   have V6o:∀ j,(Value.slice none 0 0).ownBlock=some j→w.heap.size+2≤j∧¬ R1 j∧v1.ownBlock≠some j∧j<w4.heap.size:=fun j hj=>by cases hj
   rw[hLC,←hLCv] at hrest
   have M6:=M4
   have rk6:=rk4
   have rv6:=rv4
   have qk4:∀ j,w4.cell? ⟨w.heap.size,j,none⟩=(#[.int .i64 y0,.int .i64 y1,.int .i64 y2,.int .i64 y3,.string y4,.string y5,.string y6,.slice ya yb yc,.slice yd ye yf,.slice yg yh yi,.bool false,.string y8]:Array Value)[j]?:=fun j=>cell_of_row w4 _ j _ _ _ rk4
   clear M4 N4 rk4 rv4
   go_upto_region 7 with fail
   clear qk4
   obtain ⟨a1,c1,rfl⟩:=M6.has.form
   have z06:=M6.keep.size
   have HM6:=Lib.hid M6
   have HN6:=Lib.hid N6
   have HV6:=Lib.hid V6
   have HRK6:=Lib.hid rk6
   have HRV6:=Lib.hid rv6
   have zW:w.heap.size+2≤w4.heap.size:=by omega
   clear M6 N6 V6 rk6 rv6
   go_wp2_with fail
   refine (trBlank_is w4).mono ?_
   rintro e w7 ⟨rfl,b7⟩
   have z7:=b7.size
   have rv7:=(b7.block (w.heap.size+1) (by omega)).trans HRV6.out
   have qv7:∀ j,w7.cell? ⟨w.heap.size+1,j,none⟩=(#[.int .i64 0,.int .i64 0,.int .i64 0,.int .i64 0,.string ⟨#[]⟩,.string ⟨#[]⟩,.string ⟨#[]⟩,.slice none 0 0,.slice none 0 0,.slice none 0 0,.bool false,.string ⟨#[]⟩]:Array Value)[j]?:=fun j=>cell_of_row w7 _ j _ _ _ rv7
   have fv7:∀ j,w7.frozen? ⟨w.heap.size+1,j,none⟩=false:=fun j=>frozen_of_row w7 _ j _ _ rv7
   have HRV7:=Lib.hid rv7
   clear rv7
   go_upto_region 8 with fail
   obtain ⟨w8,hw8⟩:∃ w8,w8=((((((((((((w7.setCell ⟨w.heap.size+1,0,none⟩ (.int .i64 1)).setCell ⟨w.heap.size+1,1,none⟩ (.int .i64 1)).setCell ⟨w.heap.size+1,2,none⟩ (.int .i64 (-1))).setCell ⟨w.heap.size+1,3,none⟩ (.int .i64 0)).setCell ⟨w.heap.size+1,4,none⟩ (.string ⟨#[]⟩)).setCell ⟨w.heap.size+1,5,none⟩ (.string ⟨#[]⟩)).setCell ⟨w.heap.size+1,6,none⟩ (.string ⟨#[]⟩)).setCell ⟨w.heap.size+1,7,none⟩ (.slice none 0 0)).setCell ⟨w.heap.size+1,8,none⟩ (.slice none 0 0)).setCell ⟨w.heap.size+1,9,none⟩ (.slice none 0 0)).setCell ⟨w.heap.size+1,10,none⟩ (.bool false)).setCell ⟨w.heap.size+1,11,none⟩ (.string ⟨#[]⟩)):=⟨_,rfl⟩
   have rv8:w8.heap[w.heap.size+1]?=some (.cells #[.int .i64 1,.int .i64 1,.int .i64 (-1),.int .i64 0,.string ⟨#[]⟩,.string ⟨#[]⟩,.string ⟨#[]⟩,.slice none 0 0,.slice none 0 0,.slice none 0 0,.bool false,.string ⟨#[]⟩] 27 (0,0)):=by rw[hw8];exact row12_set w7 (hg:=HRV7.out) ..
   have s8:∀ k,¬ k=w.heap.size+1→w8.heap[k]?=w7.heap[k]?:=fun k hk=>by rw[hw8];exact row12_other w7 _ k hk ..
   have z8:w8.heap.size=w7.heap.size:=by rw[hw8,row12_size]
   have o8:Below (w.heap.size+1) w7 w8:=by rw[hw8];exact row12_below w7 _ _ (Nat.le_refl _) _ _ _ _ _ _ _ _ _ _ _ _
   rw[←hw8]
   clear hw8 qv7 fv7 HRV7 HRV6
   have M8:TrM g s w w8 k.2.2 (.slice a1 k.2.1.length c1) k.2.1 R1:=(HM6.out.below b7).put (fun j=>j=w.heap.size+1) (fun j hj=>⟨by omega,by omega,fun h=>by have:=hR1 j h;omega,fun h=>by have:=hv1 j h;omega⟩) s8 z8 ⟨o8.os,o8.tape,o8.output⟩
   have f68:∀ j,j<w4.heap.size→¬ j=w.heap.size+1→w8.heap[j]?=w4.heap[j]?:=fun j h1 h2=>(s8 j h2).trans (b7.block j h1)
   have N8:IsN R1 w8 (untrail k.1) [.int .i64 y0,.int .i64 y1,.int .i64 y2,.int .i64 y3,.string y4,.string y5,.string y6,.slice ya yb yc,.slice yd ye yf,.slice yg yh yi,.bool false,.string y8]:=IsN.frame (fun j hj=>⟨hj,f68 j (HM6.out.new j hj).2 (by have:=hR1 j hj;omega)⟩) _ _ HN6.out
   have V8:HasV 2 w8 (.slice none 0 0) LC.length (comV LC):=HV6.out.keep fun j hj hlt=>f68 j hlt (by have:=(V6o j hj).1;omega)
   have rk8:=(f68 w.heap.size (by omega) (by omega)).trans HRK6.out
   have z8a:w4.heap.size≤w8.heap.size:=by omega
   obtain ⟨mk,hmk⟩:∃ mk,markB s k.2.2 58=mk:=⟨_,rfl⟩
   have CM:=trMark_is g s k.2.2 (.slice a1 k.2.1.length c1) w8 mk 58 M8.cells hs hmk
   have HM8:=Lib.hid M8
   have HN8:=Lib.hid N8
   have HV8:=Lib.hid V8
   have HRK8:=Lib.hid rk8
   have HRV8:=Lib.hid rv8
   clear M8 N8 V8 rk8 rv8 HM6 HN6 HV6 HRK6 s8 z8 o8 b7 f68 z7
   go_wp2_with fail
   refine CM.mono ?_
   rintro e w9 ⟨rfl,j9,e9⟩
   have b9:Below w8.heap.size w8 w9:=by rw[e9];exact Go.below_drewN (Below.refl _ _) _
   clear e9 CM
   have z9:=b9.size
   have HM9:=Lib.hid (HM8.out.below b9)
   have HN9:=Lib.hid (IsN.frame (fun j hj=>⟨hj,b9.block j (HM8.out.new j hj).2⟩) _ _ HN8.out)
   have HV9:=Lib.hid (HV8.out.below b9 (Nat.le_refl _))
   have HRK9:=Lib.hid ((b9.block w.heap.size (by omega)).trans HRK8.out)
   have HRV9:=Lib.hid ((b9.block (w.heap.size+1) (by omega)).trans HRV8.out)
   clear HM8 HN8 HV8 HRK8 HRV8 b9
   cases mk with
   | false=>
    have hno:¬ (markB s k.2.2 58=true∧colF s k.2.2=c):=by rw[hmk];rintro ⟨h,_⟩;cases h
    have ho:o=.ok (untrail k.1,voidN.withLead LC,k.2):=by
     have hrest:=hrest
     rw[if_neg hno] at hrest
     exact hrest
    subst ho
    have HCL:=Lib.hid (show ComsR R1 w9 (.slice none 0 0) ([]) from ComsR.nil _ _)
    obtain ⟨lead,hlead⟩:∃ lead,LC++([])=lead:=⟨_,rfl⟩
    have HLD:=Lib.hid hlead
    clear hlead
    have zL:(LC).length+([]:Coms).length≤1000000000:=by simp;omega
    have zX:w.heap.size+2≤w9.heap.size:=by omega
    have qvX:∀ j,w9.cell? ⟨w.heap.size+1,j,none⟩=(#[.int .i64 1,.int .i64 1,.int .i64 (-1),.int .i64 0,.string ⟨#[]⟩,.string ⟨#[]⟩,.string ⟨#[]⟩,.slice none 0 0,.slice none 0 0,.slice none 0 0,.bool false,.string ⟨#[]⟩]:Array Value)[j]?:=fun j=>cell_of_row w9 _ j _ _ _ HRV9.out
    have HVO:=Lib.hid (show ∀ j,(.slice none 0 0:Value).ownBlock=some j→w.heap.size+2≤j∧¬ R1 j∧((.slice a1 k.2.1.length c1):Value).ownBlock≠some j∧j<w9.heap.size from fun j hj=>⟨(V6o j hj).1,(V6o j hj).2.1,(V6o j hj).2.2.1,by have:=(V6o j hj).2.2.2;omega⟩)
    go_upto_region 13 with (at_builtin;refine appendH rfl _ _ rfl R1 (.slice none 0 0) (.slice none 0 0) (LC) ([]) rfl rfl HV9.out HCL.out zL ?_;intro v12 w12 o12 g12 n12;rw[HLD.out] at o12;obtain ⟨v12a,v12c,rfl⟩:=o12.form;have rv12:=(g12.block (w.heap.size+1) (by omega) (fun e=>by have:=HVO.out _ e.symm;omega)).trans HRV9.out;have qv12:∀ j,w12.cell? ⟨w.heap.size+1,j,none⟩=(#[.int .i64 1,.int .i64 1,.int .i64 (-1),.int .i64 0,.string ⟨#[]⟩,.string ⟨#[]⟩,.string ⟨#[]⟩,.slice none 0 0,.slice none 0 0,.slice none 0 0,.bool false,.string ⟨#[]⟩]:Array Value)[j]?:=fun j=>cell_of_row w12 _ j _ _ _ rv12;have fv12:∀ j,w12.frozen? ⟨w.heap.size+1,j,none⟩=false:=fun j=>frozen_of_row w12 _ j _ _ rv12;have HO12:=Lib.hid o12;have HRV12:=Lib.hid rv12;clear o12 rv12)
    obtain ⟨w13,hw13⟩:∃ w13,w13=w12.setCell ⟨w.heap.size+1,8,none⟩ (.slice v12a lead.length v12c):=⟨_,rfl⟩
    have rv13:w13.heap[w.heap.size+1]?=some (.cells #[.int .i64 1,.int .i64 1,.int .i64 (-1),.int .i64 0,.string ⟨#[]⟩,.string ⟨#[]⟩,.string ⟨#[]⟩,.slice none 0 0,.slice v12a lead.length v12c,.slice none 0 0,.bool false,.string ⟨#[]⟩] 27 (0,0)):=by rw[hw13];exact heap_setCell_same _ _ 8 _ _ _ HRV12.out
    have s13:∀ k,¬ k=w.heap.size+1→w13.heap[k]?=w12.heap[k]?:=fun k hk=>by rw[hw13];exact heap_setCell_other _ _ _ _ hk
    have z13:w13.heap.size=w12.heap.size:=by rw[hw13];simp[World.setCell]
    have o13:w13.os=w12.os∧w13.tape=w12.tape∧w13.output=w12.output:=by rw[hw13];exact ⟨rfl,rfl,rfl⟩
    rw[←hw13]
    clear hw13 qv12 fv12 qvX HRV12
    have rk13:=(s13 w.heap.size (by omega)).trans ((g12.block w.heap.size (by omega) (fun e=>by have:=HVO.out _ e.symm;omega)).trans HRK9.out)
    have qk14:∀ j,w13.cell? ⟨w.heap.size,j,none⟩=(#[.int .i64 y0,.int .i64 y1,.int .i64 y2,.int .i64 y3,.string y4,.string y5,.string y6,.slice ya yb yc,.slice yd ye yf,.slice yg yh yi,.bool false,.string y8]:Array Value)[j]?:=fun j=>cell_of_row w13 _ j _ _ _ rk13
    have qv14:∀ j,w13.cell? ⟨w.heap.size+1,j,none⟩=(#[.int .i64 1,.int .i64 1,.int .i64 (-1),.int .i64 0,.string ⟨#[]⟩,.string ⟨#[]⟩,.string ⟨#[]⟩,.slice none 0 0,.slice v12a lead.length v12c,.slice none 0 0,.bool false,.string ⟨#[]⟩]:Array Value)[j]?:=fun j=>cell_of_row w13 _ j _ _ _ rv13
    have fk14:∀ j,w13.frozen? ⟨w.heap.size,j,none⟩=false:=fun j=>frozen_of_row w13 _ j _ _ rk13
    have fv14:∀ j,w13.frozen? ⟨w.heap.size+1,j,none⟩=false:=fun j=>frozen_of_row w13 _ j _ _ rv13
    have eK0:=setCell_self (i:=0) (u:=.int .i64 y0) rk13 rfl
    have eV0:=setCell_self (i:=0) (u:=.int .i64 1) rv13 rfl
    have eK1:=setCell_self (i:=1) (u:=.int .i64 y1) rk13 rfl
    have eV1:=setCell_self (i:=1) (u:=.int .i64 1) rv13 rfl
    have eK2:=setCell_self (i:=2) (u:=.int .i64 y2) rk13 rfl
    have eV2:=setCell_self (i:=2) (u:=.int .i64 (-1)) rv13 rfl
    have eK3:=setCell_self (i:=3) (u:=.int .i64 y3) rk13 rfl
    have eV3:=setCell_self (i:=3) (u:=.int .i64 0) rv13 rfl
    have eK4:=setCell_self (i:=4) (u:=.string y4) rk13 rfl
    have eV4:=setCell_self (i:=4) (u:=.string ⟨#[]⟩) rv13 rfl
    have eK5:=setCell_self (i:=5) (u:=.string y5) rk13 rfl
    have eV5:=setCell_self (i:=5) (u:=.string ⟨#[]⟩) rv13 rfl
    have eK6:=setCell_self (i:=6) (u:=.string y6) rk13 rfl
    have eV6:=setCell_self (i:=6) (u:=.string ⟨#[]⟩) rv13 rfl
    have eK7:=setCell_self (i:=7) (u:=.slice ya yb yc) rk13 rfl
    have eV7:=setCell_self (i:=7) (u:=.slice none 0 0) rv13 rfl
    have eK8:=setCell_self (i:=8) (u:=.slice yd ye yf) rk13 rfl
    have eV8:=setCell_self (i:=8) (u:=.slice v12a lead.length v12c) rv13 rfl
    have eK9:=setCell_self (i:=9) (u:=.slice yg yh yi) rk13 rfl
    have eV9:=setCell_self (i:=9) (u:=.slice none 0 0) rv13 rfl
    have eK10:=setCell_self (i:=10) (u:=.bool false) rk13 rfl
    have eV10:=setCell_self (i:=10) (u:=.bool false) rv13 rfl
    have eK11:=setCell_self (i:=11) (u:=.string y8) rk13 rfl
    have eV11:=setCell_self (i:=11) (u:=.string ⟨#[]⟩) rv13 rfl
    clear rv13 rk13
    have HQK:=Lib.hid qk14
    have HQV:=Lib.hid qv14
    go_region
    all_goals
     try simp only[eK0,eK1,eK2,eK3,eK4,eK5,eK6,eK7,eK8,eK9,eK10,eK11,eV0,eV1,eV2,eV3,eV4,eV5,eV6,eV7,eV8,eV9,eV10,eV11]
     clear eK0 eK1 eK2 eK3 eK4 eK5 eK6 eK7 eK8 eK9 eK10 eK11 eV0 eV1 eV2 eV3 eV4 eV5 eV6 eV7 eV8 eV9 eV10 eV11
     go_wp2
     refine bodyPost_ret (v:=.tuple #[.agg #[.int .i64 y0,.int .i64 y1,.int .i64 y2,.int .i64 y3,.string y4,.string y5,.string y6,.slice ya yb yc,.slice yd ye yf,.slice yg yh yi,.bool false,.string y8],.agg #[.int .i64 1,.int .i64 1,.int .i64 (-1),.int .i64 0,.string ⟨#[]⟩,.string ⟨#[]⟩,.string ⟨#[]⟩,.slice none 0 0,.slice v12a lead.length v12c,.slice none 0 0,.bool false,.string ⟨#[]⟩]]) (by simp[results,Tryz.results124,go_sem,HQK.out,HQV.out]) rfl ?_
     have z12:=g12.size
     rw[show LC=lead from by rw[←HLD.out,List.append_nil]]
     exact pair_end (y:=voidN) (v2:=.slice v12a lead.length v12c) HM9.out HN9.out (IsN.shut (hd:=voidH [] [] (-1)) (ComsR.nil _ _) (ComsR.nil _ _) (NodesR.nil _ _)) hR1 hv1 hg (.slice none 0 0) HVO.out n12 (HO12.out.keep fun j hj _=>s13 j (by rcases n12 with e|e;(rw[e] at hj;have:=HVO.out j hj;omega);(rw[e] at hj;injection hj with hj;omega))) zX (fun k h1 h2 h3=>(s13 k h1).trans (g12.block k h3 (fun e=>h2 e.symm))) (by show w9.heap.size≤w13.heap.size;omega) ⟨o13.1.trans g12.os,o13.2.1.trans g12.tape,o13.2.2.trans g12.output⟩
   | true=>
    have CC:=trCol_is g s k.2.2 (.slice a1 k.2.1.length c1) w9 HM9.out.cells hs hle
    go_wp2_with fail
    refine CC.mono ?_
    rintro e w10 ⟨rfl,j10,e10⟩
    have b10:Below w9.heap.size w9 w10:=by rw[e10];exact Go.below_drewN (Below.refl _ _) _
    clear e10 CC
    have z10:=b10.size
    have HM10:=Lib.hid (HM9.out.below b10)
    have HN10:=Lib.hid (IsN.frame (fun j hj=>⟨hj,b10.block j (HM9.out.new j hj).2⟩) _ _ HN9.out)
    have HV10:=Lib.hid (HV9.out.below b10 (Nat.le_refl _))
    have HRK10:=Lib.hid ((b10.block w.heap.size (by omega)).trans HRK9.out)
    have HRV10:=Lib.hid ((b10.block (w.heap.size+1) (by omega)).trans HRV9.out)
    clear HM9 HN9 HV9 HRK9 HRV9 b10
    by_cases hcl:colF s k.2.2=c
    ·have hci:((colF s k.2.2:Int)==(c:Int))=true:=by rw[beq_iff_eq];omega
     obtain ⟨ko2,hko2,ho2⟩:∃ ko2,nodP s blk 4 c d (k.2.2+1) ko2∧o=rdMap (fun v=>(untrail k.1,v.1.withLead (LC++k.2.1++v.1.h.lead),v.2)) ko2:=by
      have hrest:=hrest
      rw[if_pos ⟨hmk,hcl⟩] at hrest
      rcases hrest with ⟨q,e,h1,rfl⟩|⟨x,h1,rfl⟩
      ·exact ⟨_,h1,rfl⟩
      ·exact ⟨_,h1,rfl⟩
     subst ho2
     have hql:k.2.2<s.size:=by
      by_cases hq:k.2.2<s.size
      ·exact hq
      ·exfalso
       unfold markB at hmk
       rw[Bool.and_eq_true] at hmk
       have:=isB_lt hmk.1
       omega
     have CT:=trTake_is g s k.2.2 (.slice a1 k.2.1.length c1) w10 HM10.out.cells
     go_wp2_with fail
     refine CT.mono ?_
     rintro e w11 ⟨rfl,e11⟩
     have s11:∀ j,¬ j=g→w11.heap[j]?=w10.heap[j]?:=fun j hj=>by rw[e11];exact heap_setCell_other _ _ _ _ hj
     have z11:w11.heap.size=w10.heap.size:=by rw[e11];simp[World.setCell]
     have HT11:=Lib.hid (show TrAt g s k.2.2 (.slice none 0 0) w11 by rw[e11];exact heap_setCell_same _ _ 2 _ _ _ HM10.out.cells)
     have k11:Keep (Lx g w.heap.size) w w11:=HM10.out.keep.trans (by rw[e11];exact tr_keep1 _ _ _) (fun _ hk=>hk)
     clear e11 CT
     have HV11:=Lib.hid (HV10.out.keep (w':=w11) fun j hj _=>s11 j (by have:=(V6o j hj).1;omega))
     have HH11:=Lib.hid (HM10.out.has.keep (w':=w11) fun j hj _=>s11 j (by have:=hv1 j hj;omega)).toComs
     obtain ⟨LB,hLB⟩:∃ LB,LC++k.2.1=LB:=⟨_,rfl⟩
     have HLB:=Lib.hid hLB
     have hLBn:LB.length≤1+s.size:=by rw[←hLB,List.length_append];omega
     clear hLB
     have z11a:w10.heap.size≤w11.heap.size:=Nat.le_of_eq z11.symm
     have z11b:w11.heap.size≤w10.heap.size:=Nat.le_of_eq z11
     have K11:=Lib.hid k11
     clear z11 k11
     have zB:LC.length+k.2.1.length≤1000000000:=by omega
     have hVO:=fun j hj=>V6o j hj
     have HVO6:=Lib.hid hVO
     clear hVO
     go_upto_region 10 with (at_builtin;refine appendH rfl _ _ rfl (fun j=>(Value.slice a1 k.2.1.length c1).ownBlock=some j) (.slice none 0 0) (.slice a1 k.2.1.length c1) LC k.2.1 rfl rfl HV11.out HH11.out zB ?_;intro v2' w12 o12 g12 n12;rw[HLB.out] at o12;obtain ⟨a2,c2,rfl⟩:=o12.form)
     have z12:=g12.size
     have T12:TrAt g s k.2.2 (.slice none 0 0) w12:=(g12.block g (by omega) (fun e=>by have:=(HVO6.out g e.symm).1;omega)).trans HT11.out
     have k12:Keep (Lx g w.heap.size) w w12:=K11.out.trans (Q:=fun j=>j<w.heap.size) ⟨g12.os,g12.tape,g12.output,g12.size,fun j hj=>g12.block j (by omega) (fun e=>by have:=(HVO6.out j e.symm).1;omega)⟩ (fun _ hk=>hk.1)
     have f12:∀ j,j<w10.heap.size→¬ j=g→(.slice none 0 0:Value).ownBlock≠some j→w12.heap[j]?=w10.heap[j]?:=fun j h1 h2 h3=>(g12.block j (by omega) (fun e=>h3 e.symm)).trans (s11 j h2)
     have hv2o:∀ j,(Value.slice a2 LB.length c2).ownBlock=some j→w.heap.size+2≤j∧¬ R1 j∧j<w12.heap.size:=fun j hj=>by
      have h0:=o12.own j hj
      rcases n12 with e|e
      ·rw[e] at hj
       exact ⟨(HVO6.out j hj).1,(HVO6.out j hj).2.1,h0⟩
      ·rw[e] at hj
       injection hj with hj
       exact ⟨by omega,fun h=>by have:=(HM10.out.new j h).2;omega,h0⟩
     have c12:=T12.cell
     have q12:=T12.free
     have HO12:=Lib.hid o12
     have HT12:=Lib.hid T12
     have HK12:=Lib.hid k12
     clear o12 T12 k12 HT11 K11 HV11 HH11
     go_upto_region 11 with fail
     have hq1:(k.2.2:Int)+1=((k.2.2+1:Nat):Int):=by omega
     try rw[hq1]
     clear hq1
     obtain ⟨w13,hw13⟩:∃ w13,w13=w12.setCell ⟨g,1,none⟩ (.int .i64 ((k.2.2+1:Nat):Int)):=⟨_,rfl⟩
     have s13:∀ j,¬ j=g→w13.heap[j]?=w12.heap[j]?:=fun j hj=>by rw[hw13];exact heap_setCell_other _ _ _ _ hj
     have z13:w13.heap.size=w12.heap.size:=by rw[hw13];simp[World.setCell]
     have T13:TrAt g s (k.2.2+1) (.slice none 0 0) w13:=by rw[hw13];exact heap_setCell_same _ _ 1 _ _ _ HT12.out
     have k13:Keep (Lx g w.heap.size) w w13:=HK12.out.trans (by rw[hw13];exact tr_keep1 _ _ _) (fun _ hk=>hk)
     have z13a:w12.heap.size≤w13.heap.size:=Nat.le_of_eq z13.symm
     have z13b:w13.heap.size≤w12.heap.size:=Nat.le_of_eq z13
     rw[←hw13]
     clear hw13 z13 c12 q12
     have B13:Below w0.heap.size w0 w13:=hB.trans (k13.below (fun j hj=>⟨by have:=hB.size;omega,by omega⟩))
     have CN:Calls Tryz.prog 15 #[.pointer (some ⟨g,0,none⟩),.agg #[.int .i64 4,.int .i64 (c:Int),.int .i64 (d:Int)]] w13 fun e w'=>TrPost g w13 ko2 (NodG g s w13) e w':=trNode_is K w0 hEv g hg0 s hs hPs blk hblk hld 4 c d (k.2.2+1) (.slice none 0 0) ko2 w13 B13 ⟨_,_,_,rfl⟩ T13 (by omega) hko2
     go_wp2_with fail
     refine CN.mono ?_
     rintro e wA hpost
     clear CN
     cases ko2 with
     | bad r e=>
      obtain ⟨rfl,kA⟩:=hpost
      exact ⟨rfl,rfl,k13.lx kA k13.size⟩
     | ok x=>
      obtain ⟨cs,v2,R2,rfl,hNA,M2⟩:=hpost
      obtain ⟨x0,x1,x2,x3,x4,x5,x6,xa,xb,xc,xd,xe,xf,xg,xh,xi,x7,x8,rfl⟩:=hNA.cells12
      have kA:=M2.keep
      have zA:=kA.size
      have zxl:x.1.h.lead.length≤2*s.size:=nod_lead hld (by omega) hko2
      have rvA:=(kA.block (w.heap.size+1) ⟨by omega,by omega⟩).trans ((s13 (w.heap.size+1) (by omega)).trans ((f12 (w.heap.size+1) (by omega) (by omega) (fun e=>by have:=(HVO6.out _ e).1;omega)).trans HRV10.out))
      have qvA:∀ j,wA.cell? ⟨w.heap.size+1,j,none⟩=(#[.int .i64 1,.int .i64 1,.int .i64 (-1),.int .i64 0,.string ⟨#[]⟩,.string ⟨#[]⟩,.string ⟨#[]⟩,.slice none 0 0,.slice none 0 0,.slice none 0 0,.bool false,.string ⟨#[]⟩]:Array Value)[j]?:=fun j=>cell_of_row wA _ j _ _ _ rvA
      have fvA:∀ j,wA.frozen? ⟨w.heap.size+1,j,none⟩=false:=fun j=>frozen_of_row wA _ j _ _ rvA
      have HRVA:=Lib.hid rvA
      have HNA:=Lib.hid hNA
      have HM2:=Lib.hid M2
      have HKA:=Lib.hid kA
      have HK13:=Lib.hid k13
      clear rvA hNA M2 kA k13 T13 B13
      go_upto_region 12 with fail
      obtain ⟨w15,hw15⟩:∃ w15,w15=((((((((((((wA.setCell ⟨w.heap.size+1,0,none⟩ (.int .i64 x0)).setCell ⟨w.heap.size+1,1,none⟩ (.int .i64 x1)).setCell ⟨w.heap.size+1,2,none⟩ (.int .i64 x2)).setCell ⟨w.heap.size+1,3,none⟩ (.int .i64 x3)).setCell ⟨w.heap.size+1,4,none⟩ (.string x4)).setCell ⟨w.heap.size+1,5,none⟩ (.string x5)).setCell ⟨w.heap.size+1,6,none⟩ (.string x6)).setCell ⟨w.heap.size+1,7,none⟩ (.slice xa xb xc)).setCell ⟨w.heap.size+1,8,none⟩ (.slice xd xe xf)).setCell ⟨w.heap.size+1,9,none⟩ (.slice xg xh xi)).setCell ⟨w.heap.size+1,10,none⟩ (.bool x7)).setCell ⟨w.heap.size+1,11,none⟩ (.string x8)):=⟨_,rfl⟩
      have rv15:w15.heap[w.heap.size+1]?=some (.cells #[.int .i64 x0,.int .i64 x1,.int .i64 x2,.int .i64 x3,.string x4,.string x5,.string x6,.slice xa xb xc,.slice xd xe xf,.slice xg xh xi,.bool x7,.string x8] 27 (0,0)):=by rw[hw15];exact row12_set wA (hg:=HRVA.out) ..
      have s15:∀ k,¬ k=w.heap.size+1→w15.heap[k]?=wA.heap[k]?:=fun k hk=>by rw[hw15];exact row12_other wA _ k hk ..
      have z15:w15.heap.size=wA.heap.size:=by rw[hw15,row12_size]
      have o15:Below (w.heap.size+1) wA w15:=by rw[hw15];exact row12_below wA _ _ (Nat.le_refl _) _ _ _ _ _ _ _ _ _ _ _ _
      rw[←hw15]
      clear hw15 qvA fvA HRVA
      obtain ⟨RX,hRXd⟩:∃ RX:Nat→Prop,RX=fun j=>R1 j∨R2 j:=⟨_,rfl⟩
      have g15:∀ j,j<w10.heap.size→¬ j=g→¬ j=w.heap.size+1→(.slice none 0 0:Value).ownBlock≠some j→w15.heap[j]?=w10.heap[j]?:=fun j h1 h2 h3 h4=>(s15 j h3).trans ((HKA.out.block j ⟨by omega,h2⟩).trans ((s13 j h2).trans (f12 j h1 h2 h4)))
      have hR1n:∀ j,R1 j→j<w10.heap.size:=fun j hj=>(HM10.out.new j hj).2
      have hR2n:∀ j,R2 j→w13.heap.size≤j∧j<wA.heap.size:=fun j hj=>HM2.out.new j hj
      have hRX:∀ j,RX j→w.heap.size+2≤j:=fun j hj=>by
       rw[hRXd] at hj
       rcases hj with h|h
       ·exact hR1 j h
       ·have:=(hR2n j h).1;omega
      have hv2n:∀ j,v2.ownBlock=some j→w13.heap.size≤j∧¬ R2 j:=fun j hj=>HM2.out.own j hj
      have hvX:∀ j,v2.ownBlock=some j→w.heap.size+2≤j:=fun j hj=>by have:=(hv2n j hj).1;omega
      have MM:=(HM2.out.mono HK13.out).put (fun j=>j=w.heap.size+1) (fun j hj=>⟨by omega,by omega,fun h=>by have:=(hR2n j h).1;omega,fun h=>by have:=(hv2n j h).1;omega⟩) s15 z15 ⟨o15.os,o15.tape,o15.output⟩
      have HM15:Hid (TrM g s w w15 x.2.2 v2 x.2.1 RX):=Lib.hid ⟨MM.cells,MM.has,fun j hj=>⟨(MM.own j hj).1,fun h=>by
       rw[hRXd] at h
       rcases h with h|h
       ·have:=hR1n j h;have:=(hv2n j hj).1;omega
       ·exact (hv2n j hj).2 h⟩,fun j hj=>⟨by have:=hRX j hj;omega,by
       rw[hRXd] at hj
       rcases hj with h|h
       ·have:=hR1n j h;omega
       ·have:=(hR2n j h).2;omega⟩,MM.keep,MM.le,MM.few⟩
      have HN15:Hid (IsN RX w15 (untrail k.1) [.int .i64 y0,.int .i64 y1,.int .i64 y2,.int .i64 y3,.string y4,.string y5,.string y6,.slice ya yb yc,.slice yd ye yf,.slice yg yh yi,.bool false,.string y8]):=Lib.hid (IsN.frame (fun j hj=>⟨by rw[hRXd];exact .inl hj,g15 j (hR1n j hj) (by have:=hR1 j hj;omega) (by have:=hR1 j hj;omega) (fun e=>(HVO6.out j e).2.1 hj)⟩) _ _ HN10.out)
      have hNX:IsN RX w15 x.1 [.int .i64 x0,.int .i64 x1,.int .i64 x2,.int .i64 x3,.string x4,.string x5,.string x6,.slice xa xb xc,.slice xd xe xf,.slice xg xh xi,.bool x7,.string x8]:=IsN.frame (fun j hj=>⟨by rw[hRXd];exact .inr hj,s15 j (by have:=(hR2n j hj).1;omega)⟩) _ _ HNA.out
      have HV15:Hid (HasV 2 w15 (.slice a2 LB.length c2) LB.length (comV LB)):=Lib.hid (HO12.out.keep fun j hj hlt=>(s15 j (by have:=(hv2o j hj).1;omega)).trans ((HKA.out.block j ⟨by omega,by have:=(hv2o j hj).1;omega⟩).trans (s13 j (by have:=(hv2o j hj).1;omega))))
      have HRK15:=Lib.hid ((g15 w.heap.size (by omega) (by omega) (by omega) (fun e=>by have:=(HVO6.out _ e).1;omega)).trans HRK10.out)
      have HRV15:=Lib.hid rv15
      have hvoX:∀ j,(Value.slice a2 LB.length c2).ownBlock=some j→w.heap.size+2≤j∧¬ RX j∧v2.ownBlock≠some j∧j<w15.heap.size:=fun j hj=>by
       have h1:=hv2o j hj
       refine ⟨h1.1,fun h=>?_,fun h=>by have:=(hv2n j h).1;omega,by omega⟩
       rw[hRXd] at h
       rcases h with h|h
       ·exact h1.2.1 h
       ·have:=(hR2n j h).1;omega
      obtain ⟨hxl,hcomX⟩:xe=x.1.h.lead.length∧ComsR RX w15 (.slice xd x.1.h.lead.length xf) x.1.h.lead:=by
       obtain ⟨kv,lv,fv,e,h1,_,_⟩:=hNX.open
       unfold headC at e
       simp only[List.cons.injEq,and_true] at e
       have e8:=e.2.2.2.2.2.2.2.2.1
       obtain ⟨ao,cap,rfl,k1,k2,k3⟩:=h1
       injection e8 with q1 q2 q3
       refine ⟨q2,ao,cap,?_,k1,k2,k3⟩
       rw[q1,q3]
      subst hxl
      have HNX:=Lib.hid hNX
      have zLX:LB.length+x.1.h.lead.length≤1000000000:=by omega
      have HCX:=Lib.hid hcomX
      have zA15:wA.heap.size≤w15.heap.size:=Nat.le_of_eq z15.symm
      clear hNX hcomX rv15 MM o15 s15 z15 g15 s13 f12 HM2 HNA HO12 HKA
      have HCL:=Lib.hid (show ComsR RX w15 (.slice xd x.1.h.lead.length xf) (x.1.h.lead) from HCX.out)
      obtain ⟨lead,hlead⟩:∃ lead,LB++(x.1.h.lead)=lead:=⟨_,rfl⟩
      have HLD:=Lib.hid hlead
      clear hlead
      have zL:(LB).length+(x.1.h.lead:Coms).length≤1000000000:=zLX
      have zX:w.heap.size+2≤w15.heap.size:=by omega
      have qvX:∀ j,w15.cell? ⟨w.heap.size+1,j,none⟩=(#[.int .i64 x0,.int .i64 x1,.int .i64 x2,.int .i64 x3,.string x4,.string x5,.string x6,.slice xa xb xc,.slice xd x.1.h.lead.length xf,.slice xg xh xi,.bool x7,.string x8]:Array Value)[j]?:=fun j=>cell_of_row w15 _ j _ _ _ HRV15.out
      have HVO:=Lib.hid (show ∀ j,(.slice a2 LB.length c2:Value).ownBlock=some j→w.heap.size+2≤j∧¬ RX j∧(v2:Value).ownBlock≠some j∧j<w15.heap.size from hvoX)
      go_upto_region 13 with (at_builtin;refine appendH rfl _ _ rfl RX (.slice a2 LB.length c2) (.slice xd x.1.h.lead.length xf) (LB) (x.1.h.lead) rfl rfl HV15.out HCL.out zL ?_;intro v12 w12 o12 g12 n12;rw[HLD.out] at o12;obtain ⟨v12a,v12c,rfl⟩:=o12.form;have rv12:=(g12.block (w.heap.size+1) (by omega) (fun e=>by have:=HVO.out _ e.symm;omega)).trans HRV15.out;have qv12:∀ j,w12.cell? ⟨w.heap.size+1,j,none⟩=(#[.int .i64 x0,.int .i64 x1,.int .i64 x2,.int .i64 x3,.string x4,.string x5,.string x6,.slice xa xb xc,.slice xd x.1.h.lead.length xf,.slice xg xh xi,.bool x7,.string x8]:Array Value)[j]?:=fun j=>cell_of_row w12 _ j _ _ _ rv12;have fv12:∀ j,w12.frozen? ⟨w.heap.size+1,j,none⟩=false:=fun j=>frozen_of_row w12 _ j _ _ rv12;have HO12:=Lib.hid o12;have HRV12:=Lib.hid rv12;clear o12 rv12)
      obtain ⟨w13,hw13⟩:∃ w13,w13=w12.setCell ⟨w.heap.size+1,8,none⟩ (.slice v12a lead.length v12c):=⟨_,rfl⟩
      have rv13:w13.heap[w.heap.size+1]?=some (.cells #[.int .i64 x0,.int .i64 x1,.int .i64 x2,.int .i64 x3,.string x4,.string x5,.string x6,.slice xa xb xc,.slice v12a lead.length v12c,.slice xg xh xi,.bool x7,.string x8] 27 (0,0)):=by rw[hw13];exact heap_setCell_same _ _ 8 _ _ _ HRV12.out
      have s13:∀ k,¬ k=w.heap.size+1→w13.heap[k]?=w12.heap[k]?:=fun k hk=>by rw[hw13];exact heap_setCell_other _ _ _ _ hk
      have z13:w13.heap.size=w12.heap.size:=by rw[hw13];simp[World.setCell]
      have o13:w13.os=w12.os∧w13.tape=w12.tape∧w13.output=w12.output:=by rw[hw13];exact ⟨rfl,rfl,rfl⟩
      rw[←hw13]
      clear hw13 qv12 fv12 qvX HRV12
      have rk13:=(s13 w.heap.size (by omega)).trans ((g12.block w.heap.size (by omega) (fun e=>by have:=HVO.out _ e.symm;omega)).trans HRK15.out)
      have qk14:∀ j,w13.cell? ⟨w.heap.size,j,none⟩=(#[.int .i64 y0,.int .i64 y1,.int .i64 y2,.int .i64 y3,.string y4,.string y5,.string y6,.slice ya yb yc,.slice yd ye yf,.slice yg yh yi,.bool false,.string y8]:Array Value)[j]?:=fun j=>cell_of_row w13 _ j _ _ _ rk13
      have qv14:∀ j,w13.cell? ⟨w.heap.size+1,j,none⟩=(#[.int .i64 x0,.int .i64 x1,.int .i64 x2,.int .i64 x3,.string x4,.string x5,.string x6,.slice xa xb xc,.slice v12a lead.length v12c,.slice xg xh xi,.bool x7,.string x8]:Array Value)[j]?:=fun j=>cell_of_row w13 _ j _ _ _ rv13
      have fk14:∀ j,w13.frozen? ⟨w.heap.size,j,none⟩=false:=fun j=>frozen_of_row w13 _ j _ _ rk13
      have fv14:∀ j,w13.frozen? ⟨w.heap.size+1,j,none⟩=false:=fun j=>frozen_of_row w13 _ j _ _ rv13
      have eK0:=setCell_self (i:=0) (u:=.int .i64 y0) rk13 rfl
      have eV0:=setCell_self (i:=0) (u:=.int .i64 x0) rv13 rfl
      have eK1:=setCell_self (i:=1) (u:=.int .i64 y1) rk13 rfl
      have eV1:=setCell_self (i:=1) (u:=.int .i64 x1) rv13 rfl
      have eK2:=setCell_self (i:=2) (u:=.int .i64 y2) rk13 rfl
      have eV2:=setCell_self (i:=2) (u:=.int .i64 x2) rv13 rfl
      have eK3:=setCell_self (i:=3) (u:=.int .i64 y3) rk13 rfl
      have eV3:=setCell_self (i:=3) (u:=.int .i64 x3) rv13 rfl
      have eK4:=setCell_self (i:=4) (u:=.string y4) rk13 rfl
      have eV4:=setCell_self (i:=4) (u:=.string x4) rv13 rfl
      have eK5:=setCell_self (i:=5) (u:=.string y5) rk13 rfl
      have eV5:=setCell_self (i:=5) (u:=.string x5) rv13 rfl
      have eK6:=setCell_self (i:=6) (u:=.string y6) rk13 rfl
      have eV6:=setCell_self (i:=6) (u:=.string x6) rv13 rfl
      have eK7:=setCell_self (i:=7) (u:=.slice ya yb yc) rk13 rfl
      have eV7:=setCell_self (i:=7) (u:=.slice xa xb xc) rv13 rfl
      have eK8:=setCell_self (i:=8) (u:=.slice yd ye yf) rk13 rfl
      have eV8:=setCell_self (i:=8) (u:=.slice v12a lead.length v12c) rv13 rfl
      have eK9:=setCell_self (i:=9) (u:=.slice yg yh yi) rk13 rfl
      have eV9:=setCell_self (i:=9) (u:=.slice xg xh xi) rv13 rfl
      have eK10:=setCell_self (i:=10) (u:=.bool false) rk13 rfl
      have eV10:=setCell_self (i:=10) (u:=.bool x7) rv13 rfl
      have eK11:=setCell_self (i:=11) (u:=.string y8) rk13 rfl
      have eV11:=setCell_self (i:=11) (u:=.string x8) rv13 rfl
      clear rv13 rk13
      have HQK:=Lib.hid qk14
      have HQV:=Lib.hid qv14
      go_region
      all_goals
       try simp only[eK0,eK1,eK2,eK3,eK4,eK5,eK6,eK7,eK8,eK9,eK10,eK11,eV0,eV1,eV2,eV3,eV4,eV5,eV6,eV7,eV8,eV9,eV10,eV11]
       clear eK0 eK1 eK2 eK3 eK4 eK5 eK6 eK7 eK8 eK9 eK10 eK11 eV0 eV1 eV2 eV3 eV4 eV5 eV6 eV7 eV8 eV9 eV10 eV11
       go_wp2
       refine bodyPost_ret (v:=.tuple #[.agg #[.int .i64 y0,.int .i64 y1,.int .i64 y2,.int .i64 y3,.string y4,.string y5,.string y6,.slice ya yb yc,.slice yd ye yf,.slice yg yh yi,.bool false,.string y8],.agg #[.int .i64 x0,.int .i64 x1,.int .i64 x2,.int .i64 x3,.string x4,.string x5,.string x6,.slice xa xb xc,.slice v12a lead.length v12c,.slice xg xh xi,.bool x7,.string x8]]) (by simp[results,Tryz.results124,go_sem,HQK.out,HQV.out]) rfl ?_
       have z12:=g12.size
       show TrPost g w (.ok (untrail k.1,x.1.withLead (LC++k.2.1++x.1.h.lead),x.2)) (PairG g s w) _ _
       rw[HLB.out,HLD.out]
       exact pair_end (y:=x.1) (v2:=.slice v12a lead.length v12c) HM15.out HN15.out (HNX.out) hRX hvX hg (.slice a2 LB.length c2) HVO.out n12 (HO12.out.keep fun j hj _=>s13 j (by rcases n12 with e|e;(rw[e] at hj;have:=HVO.out j hj;omega);(rw[e] at hj;injection hj with hj;omega))) zX (fun k h1 h2 h3=>(s13 k h1).trans (g12.block k h3 (fun e=>h2 e.symm))) (by show w15.heap.size≤w13.heap.size;omega) ⟨o13.1.trans g12.os,o13.2.1.trans g12.tape,o13.2.2.trans g12.output⟩
    ·have hci:((colF s k.2.2:Int)==(c:Int))=false:=by rw[beq_eq_false_iff_ne];omega
     have hno:¬ (markB s k.2.2 58=true∧colF s k.2.2=c):=fun h=>hcl h.2
     have ho:o=.ok (untrail k.1,voidN.withLead LC,k.2):=by
      have hrest:=hrest
      rw[if_neg hno] at hrest
      exact hrest
     subst ho
     have HCL:=Lib.hid (show ComsR R1 w10 (.slice none 0 0) ([]) from ComsR.nil _ _)
     obtain ⟨lead,hlead⟩:∃ lead,LC++([])=lead:=⟨_,rfl⟩
     have HLD:=Lib.hid hlead
     clear hlead
     have zL:(LC).length+([]:Coms).length≤1000000000:=by simp;omega
     have zX:w.heap.size+2≤w10.heap.size:=by omega
     have qvX:∀ j,w10.cell? ⟨w.heap.size+1,j,none⟩=(#[.int .i64 1,.int .i64 1,.int .i64 (-1),.int .i64 0,.string ⟨#[]⟩,.string ⟨#[]⟩,.string ⟨#[]⟩,.slice none 0 0,.slice none 0 0,.slice none 0 0,.bool false,.string ⟨#[]⟩]:Array Value)[j]?:=fun j=>cell_of_row w10 _ j _ _ _ HRV10.out
     have HVO:=Lib.hid (show ∀ j,(.slice none 0 0:Value).ownBlock=some j→w.heap.size+2≤j∧¬ R1 j∧((.slice a1 k.2.1.length c1):Value).ownBlock≠some j∧j<w10.heap.size from fun j hj=>⟨(V6o j hj).1,(V6o j hj).2.1,(V6o j hj).2.2.1,by have:=(V6o j hj).2.2.2;omega⟩)
     go_upto_region 13 with (at_builtin;refine appendH rfl _ _ rfl R1 (.slice none 0 0) (.slice none 0 0) (LC) ([]) rfl rfl HV10.out HCL.out zL ?_;intro v12 w12 o12 g12 n12;rw[HLD.out] at o12;obtain ⟨v12a,v12c,rfl⟩:=o12.form;have rv12:=(g12.block (w.heap.size+1) (by omega) (fun e=>by have:=HVO.out _ e.symm;omega)).trans HRV10.out;have qv12:∀ j,w12.cell? ⟨w.heap.size+1,j,none⟩=(#[.int .i64 1,.int .i64 1,.int .i64 (-1),.int .i64 0,.string ⟨#[]⟩,.string ⟨#[]⟩,.string ⟨#[]⟩,.slice none 0 0,.slice none 0 0,.slice none 0 0,.bool false,.string ⟨#[]⟩]:Array Value)[j]?:=fun j=>cell_of_row w12 _ j _ _ _ rv12;have fv12:∀ j,w12.frozen? ⟨w.heap.size+1,j,none⟩=false:=fun j=>frozen_of_row w12 _ j _ _ rv12;have HO12:=Lib.hid o12;have HRV12:=Lib.hid rv12;clear o12 rv12)
     obtain ⟨w13,hw13⟩:∃ w13,w13=w12.setCell ⟨w.heap.size+1,8,none⟩ (.slice v12a lead.length v12c):=⟨_,rfl⟩
     have rv13:w13.heap[w.heap.size+1]?=some (.cells #[.int .i64 1,.int .i64 1,.int .i64 (-1),.int .i64 0,.string ⟨#[]⟩,.string ⟨#[]⟩,.string ⟨#[]⟩,.slice none 0 0,.slice v12a lead.length v12c,.slice none 0 0,.bool false,.string ⟨#[]⟩] 27 (0,0)):=by rw[hw13];exact heap_setCell_same _ _ 8 _ _ _ HRV12.out
     have s13:∀ k,¬ k=w.heap.size+1→w13.heap[k]?=w12.heap[k]?:=fun k hk=>by rw[hw13];exact heap_setCell_other _ _ _ _ hk
     have z13:w13.heap.size=w12.heap.size:=by rw[hw13];simp[World.setCell]
     have o13:w13.os=w12.os∧w13.tape=w12.tape∧w13.output=w12.output:=by rw[hw13];exact ⟨rfl,rfl,rfl⟩
     rw[←hw13]
     clear hw13 qv12 fv12 qvX HRV12
     have rk13:=(s13 w.heap.size (by omega)).trans ((g12.block w.heap.size (by omega) (fun e=>by have:=HVO.out _ e.symm;omega)).trans HRK10.out)
     have qk14:∀ j,w13.cell? ⟨w.heap.size,j,none⟩=(#[.int .i64 y0,.int .i64 y1,.int .i64 y2,.int .i64 y3,.string y4,.string y5,.string y6,.slice ya yb yc,.slice yd ye yf,.slice yg yh yi,.bool false,.string y8]:Array Value)[j]?:=fun j=>cell_of_row w13 _ j _ _ _ rk13
     have qv14:∀ j,w13.cell? ⟨w.heap.size+1,j,none⟩=(#[.int .i64 1,.int .i64 1,.int .i64 (-1),.int .i64 0,.string ⟨#[]⟩,.string ⟨#[]⟩,.string ⟨#[]⟩,.slice none 0 0,.slice v12a lead.length v12c,.slice none 0 0,.bool false,.string ⟨#[]⟩]:Array Value)[j]?:=fun j=>cell_of_row w13 _ j _ _ _ rv13
     have fk14:∀ j,w13.frozen? ⟨w.heap.size,j,none⟩=false:=fun j=>frozen_of_row w13 _ j _ _ rk13
     have fv14:∀ j,w13.frozen? ⟨w.heap.size+1,j,none⟩=false:=fun j=>frozen_of_row w13 _ j _ _ rv13
     have eK0:=setCell_self (i:=0) (u:=.int .i64 y0) rk13 rfl
     have eV0:=setCell_self (i:=0) (u:=.int .i64 1) rv13 rfl
     have eK1:=setCell_self (i:=1) (u:=.int .i64 y1) rk13 rfl
     have eV1:=setCell_self (i:=1) (u:=.int .i64 1) rv13 rfl
     have eK2:=setCell_self (i:=2) (u:=.int .i64 y2) rk13 rfl
     have eV2:=setCell_self (i:=2) (u:=.int .i64 (-1)) rv13 rfl
     have eK3:=setCell_self (i:=3) (u:=.int .i64 y3) rk13 rfl
     have eV3:=setCell_self (i:=3) (u:=.int .i64 0) rv13 rfl
     have eK4:=setCell_self (i:=4) (u:=.string y4) rk13 rfl
     have eV4:=setCell_self (i:=4) (u:=.string ⟨#[]⟩) rv13 rfl
     have eK5:=setCell_self (i:=5) (u:=.string y5) rk13 rfl
     have eV5:=setCell_self (i:=5) (u:=.string ⟨#[]⟩) rv13 rfl
     have eK6:=setCell_self (i:=6) (u:=.string y6) rk13 rfl
     have eV6:=setCell_self (i:=6) (u:=.string ⟨#[]⟩) rv13 rfl
     have eK7:=setCell_self (i:=7) (u:=.slice ya yb yc) rk13 rfl
     have eV7:=setCell_self (i:=7) (u:=.slice none 0 0) rv13 rfl
     have eK8:=setCell_self (i:=8) (u:=.slice yd ye yf) rk13 rfl
     have eV8:=setCell_self (i:=8) (u:=.slice v12a lead.length v12c) rv13 rfl
     have eK9:=setCell_self (i:=9) (u:=.slice yg yh yi) rk13 rfl
     have eV9:=setCell_self (i:=9) (u:=.slice none 0 0) rv13 rfl
     have eK10:=setCell_self (i:=10) (u:=.bool false) rk13 rfl
     have eV10:=setCell_self (i:=10) (u:=.bool false) rv13 rfl
     have eK11:=setCell_self (i:=11) (u:=.string y8) rk13 rfl
     have eV11:=setCell_self (i:=11) (u:=.string ⟨#[]⟩) rv13 rfl
     clear rv13 rk13
     have HQK:=Lib.hid qk14
     have HQV:=Lib.hid qv14
     go_region
     all_goals
      try simp only[eK0,eK1,eK2,eK3,eK4,eK5,eK6,eK7,eK8,eK9,eK10,eK11,eV0,eV1,eV2,eV3,eV4,eV5,eV6,eV7,eV8,eV9,eV10,eV11]
      clear eK0 eK1 eK2 eK3 eK4 eK5 eK6 eK7 eK8 eK9 eK10 eK11 eV0 eV1 eV2 eV3 eV4 eV5 eV6 eV7 eV8 eV9 eV10 eV11
      go_wp2
      refine bodyPost_ret (v:=.tuple #[.agg #[.int .i64 y0,.int .i64 y1,.int .i64 y2,.int .i64 y3,.string y4,.string y5,.string y6,.slice ya yb yc,.slice yd ye yf,.slice yg yh yi,.bool false,.string y8],.agg #[.int .i64 1,.int .i64 1,.int .i64 (-1),.int .i64 0,.string ⟨#[]⟩,.string ⟨#[]⟩,.string ⟨#[]⟩,.slice none 0 0,.slice v12a lead.length v12c,.slice none 0 0,.bool false,.string ⟨#[]⟩]]) (by simp[results,Tryz.results124,go_sem,HQK.out,HQV.out]) rfl ?_
      have z12:=g12.size
      rw[show LC=lead from by rw[←HLD.out,List.append_nil]]
      exact pair_end (y:=voidN) (v2:=.slice v12a lead.length v12c) HM10.out HN10.out (IsN.shut (hd:=voidH [] [] (-1)) (ComsR.nil _ _) (ComsR.nil _ _) (NodesR.nil _ _)) hR1 hv1 hg (.slice none 0 0) HVO.out n12 (HO12.out.keep fun j hj _=>s13 j (by rcases n12 with e|e;(rw[e] at hj;have:=HVO.out j hj;omega);(rw[e] at hj;injection hj with hj;omega))) zX (fun k h1 h2 h3=>(s13 k h1).trans (g12.block k h3 (fun e=>h2 e.symm))) (by show w10.heap.size≤w13.heap.size;omega) ⟨o13.1.trans g12.os,o13.2.1.trans g12.tape,o13.2.2.trans g12.output⟩
  | true=>
   have hun:untrail k.1=.mk { k.1.h with ht:=false,trail:=[] } k.1.kids:=if_pos HE7.out.symm
   have hLC:(if k.1.h.ht=true then [(k.1.h.trail,0)] else ([]:Coms))=[(k.1.h.trail,0)]:=if_pos HE7.out.symm
   have HM4:=Lib.hid M4
   have HN4:=Lib.hid N4
   have HRK4:=Lib.hid rk4
   have HRV4:=Lib.hid rv4
   have qk4:∀ j,w4.cell? ⟨w.heap.size,j,none⟩=(#[.int .i64 y0,.int .i64 y1,.int .i64 y2,.int .i64 y3,.string y4,.string y5,.string y6,.slice ya yb yc,.slice yd ye yf,.slice yg yh yi,.bool true,.string y8]:Array Value)[j]?:=fun j=>cell_of_row w4 _ j _ _ _ rk4
   clear M4 N4 rk4 rv4
   go_upto_region 6 with (at_builtin;refine appendC _ y8 k.1.h.trail 0 _ HE8.out rfl rfl _ _ rfl w4.heap.size w4 _ [] rfl rfl (OutC.nil _ _) (Below.refl _ _) (by decide) (Nat.le_refl _) ?_;intro v5 w5 o5 b5;have o5o:=o5.lt;have o5:HasV 2 w5 v5 1 (comV [(k.1.h.trail,0)]):=HasV.of_own o5;obtain ⟨a5,c5,rfl⟩:=o5.form;have rk5:=(b5.block w.heap.size (by omega)).trans HRK4.out;have qk5:∀ j,w5.cell? ⟨w.heap.size,j,none⟩=(#[.int .i64 y0,.int .i64 y1,.int .i64 y2,.int .i64 y3,.string y4,.string y5,.string y6,.slice ya yb yc,.slice yd ye yf,.slice yg yh yi,.bool true,.string y8]:Array Value)[j]?:=fun j=>cell_of_row w5 _ j _ _ _ rk5;have fk5:∀ j,w5.frozen? ⟨w.heap.size,j,none⟩=false:=fun j=>frozen_of_row w5 _ j _ _ rk5;have HO5:=Lib.hid o5;have HRK5:=Lib.hid rk5;clear o5 rk5)
   go_upto_region 7 with fail
   obtain ⟨w6,hw6⟩:∃ w6,w6=(w5.setCell ⟨w.heap.size,10,none⟩ (.bool false)).setCell ⟨w.heap.size,11,none⟩ (.string ⟨#[]⟩):=⟨_,rfl⟩
   have rk6:w6.heap[w.heap.size]?=some (.cells #[.int .i64 y0,.int .i64 y1,.int .i64 y2,.int .i64 y3,.string y4,.string y5,.string y6,.slice ya yb yc,.slice yd ye yf,.slice yg yh yi,.bool false,.string ⟨#[]⟩] 27 (0,0)):=by rw[hw6];exact heap_setCell_same _ _ 11 _ _ _ (heap_setCell_same _ _ 10 _ _ _ HRK5.out)
   have s6:∀ k,¬ k=w.heap.size→w6.heap[k]?=w5.heap[k]?:=fun k hk=>by rw[hw6];exact (heap_setCell_other _ _ _ _ hk).trans (heap_setCell_other _ _ _ _ hk)
   have z6:w6.heap.size=w5.heap.size:=by rw[hw6];simp[World.setCell]
   have o6:w6.os=w5.os∧w6.tape=w5.tape∧w6.output=w5.output:=by rw[hw6];exact ⟨rfl,rfl,rfl⟩
   rw[←hw6]
   clear hw6 qk5 fk5 qk4
   have z5:=b5.size
   have M6:TrM g s w w6 k.2.2 v1 k.2.1 R1:=(HM4.out.below b5).put (fun j=>j=w.heap.size) (fun j hj=>⟨by omega,by omega,fun h=>by have:=hR1 j h;omega,fun h=>by have:=hv1 j h;omega⟩) s6 z6 o6
   have N6:IsN R1 w6 (untrail k.1) [.int .i64 y0,.int .i64 y1,.int .i64 y2,.int .i64 y3,.string y4,.string y5,.string y6,.slice ya yb yc,.slice yd ye yf,.slice yg yh yi,.bool false,.string ⟨#[]⟩]:=by
    rw[hun]
    exact IsN.untrail12 (IsN.frame (fun j hj=>⟨hj,(s6 j (by have:=hR1 j hj;omega)).trans (b5.block j (HM4.out.new j hj).2)⟩) k.1 _ HN4.out)
   obtain ⟨LC,hLCv⟩:∃ LC:Coms,LC=[(k.1.h.trail,0)]:=⟨_,rfl⟩
   have hLC1:LC.length≤1:=by rw[hLCv];exact Nat.le_refl _
   have V6:HasV 2 w6 (.slice a5 1 c5) LC.length (comV LC):=by rw[hLCv];exact HO5.out.keep fun j hj _=>s6 j (by have:=(o5o j hj).1;omega)
   have V6o:∀ j,(Value.slice a5 1 c5).ownBlock=some j→w.heap.size+2≤j∧¬ R1 j∧v1.ownBlock≠some j∧j<w6.heap.size:=fun j hj=>by
    have h1:=(o5o j hj).1
    have h2:=(o5o j hj).2
    exact ⟨by omega,fun h=>by have:=(HM4.out.new j h).2;omega,fun h=>by have:=HM4.out.has.own j h;omega,by omega⟩
   rw[hLC,←hLCv] at hrest
   have rv6:=(s6 (w.heap.size+1) (by omega)).trans ((b5.block (w.heap.size+1) (by omega)).trans HRV4.out)
   have z6a:w4.heap.size≤w6.heap.size:=by omega
   clear s6 o6 z6 b5 HM4 HN4 HRK4 HRV4 HRK5 HO5 o5o z5
   obtain ⟨a1,c1,rfl⟩:=M6.has.form
   have z06:=M6.keep.size
   have HM6:=Lib.hid M6
   have HN6:=Lib.hid N6
   have HV6:=Lib.hid V6
   have HRK6:=Lib.hid rk6
   have HRV6:=Lib.hid rv6
   have zW:w.heap.size+2≤w6.heap.size:=by omega
   clear M6 N6 V6 rk6 rv6
   go_wp2_with fail
   refine (trBlank_is w6).mono ?_
   rintro e w7 ⟨rfl,b7⟩
   have z7:=b7.size
   have rv7:=(b7.block (w.heap.size+1) (by omega)).trans HRV6.out
   have qv7:∀ j,w7.cell? ⟨w.heap.size+1,j,none⟩=(#[.int .i64 0,.int .i64 0,.int .i64 0,.int .i64 0,.string ⟨#[]⟩,.string ⟨#[]⟩,.string ⟨#[]⟩,.slice none 0 0,.slice none 0 0,.slice none 0 0,.bool false,.string ⟨#[]⟩]:Array Value)[j]?:=fun j=>cell_of_row w7 _ j _ _ _ rv7
   have fv7:∀ j,w7.frozen? ⟨w.heap.size+1,j,none⟩=false:=fun j=>frozen_of_row w7 _ j _ _ rv7
   have HRV7:=Lib.hid rv7
   clear rv7
   go_upto_region 8 with fail
   obtain ⟨w8,hw8⟩:∃ w8,w8=((((((((((((w7.setCell ⟨w.heap.size+1,0,none⟩ (.int .i64 1)).setCell ⟨w.heap.size+1,1,none⟩ (.int .i64 1)).setCell ⟨w.heap.size+1,2,none⟩ (.int .i64 (-1))).setCell ⟨w.heap.size+1,3,none⟩ (.int .i64 0)).setCell ⟨w.heap.size+1,4,none⟩ (.string ⟨#[]⟩)).setCell ⟨w.heap.size+1,5,none⟩ (.string ⟨#[]⟩)).setCell ⟨w.heap.size+1,6,none⟩ (.string ⟨#[]⟩)).setCell ⟨w.heap.size+1,7,none⟩ (.slice none 0 0)).setCell ⟨w.heap.size+1,8,none⟩ (.slice none 0 0)).setCell ⟨w.heap.size+1,9,none⟩ (.slice none 0 0)).setCell ⟨w.heap.size+1,10,none⟩ (.bool false)).setCell ⟨w.heap.size+1,11,none⟩ (.string ⟨#[]⟩)):=⟨_,rfl⟩
   have rv8:w8.heap[w.heap.size+1]?=some (.cells #[.int .i64 1,.int .i64 1,.int .i64 (-1),.int .i64 0,.string ⟨#[]⟩,.string ⟨#[]⟩,.string ⟨#[]⟩,.slice none 0 0,.slice none 0 0,.slice none 0 0,.bool false,.string ⟨#[]⟩] 27 (0,0)):=by rw[hw8];exact row12_set w7 (hg:=HRV7.out) ..
   have s8:∀ k,¬ k=w.heap.size+1→w8.heap[k]?=w7.heap[k]?:=fun k hk=>by rw[hw8];exact row12_other w7 _ k hk ..
   have z8:w8.heap.size=w7.heap.size:=by rw[hw8,row12_size]
   have o8:Below (w.heap.size+1) w7 w8:=by rw[hw8];exact row12_below w7 _ _ (Nat.le_refl _) _ _ _ _ _ _ _ _ _ _ _ _
   rw[←hw8]
   clear hw8 qv7 fv7 HRV7 HRV6
   have M8:TrM g s w w8 k.2.2 (.slice a1 k.2.1.length c1) k.2.1 R1:=(HM6.out.below b7).put (fun j=>j=w.heap.size+1) (fun j hj=>⟨by omega,by omega,fun h=>by have:=hR1 j h;omega,fun h=>by have:=hv1 j h;omega⟩) s8 z8 ⟨o8.os,o8.tape,o8.output⟩
   have f68:∀ j,j<w6.heap.size→¬ j=w.heap.size+1→w8.heap[j]?=w6.heap[j]?:=fun j h1 h2=>(s8 j h2).trans (b7.block j h1)
   have N8:IsN R1 w8 (untrail k.1) [.int .i64 y0,.int .i64 y1,.int .i64 y2,.int .i64 y3,.string y4,.string y5,.string y6,.slice ya yb yc,.slice yd ye yf,.slice yg yh yi,.bool false,.string ⟨#[]⟩]:=IsN.frame (fun j hj=>⟨hj,f68 j (HM6.out.new j hj).2 (by have:=hR1 j hj;omega)⟩) _ _ HN6.out
   have V8:HasV 2 w8 (.slice a5 1 c5) LC.length (comV LC):=HV6.out.keep fun j hj hlt=>f68 j hlt (by have:=(V6o j hj).1;omega)
   have rk8:=(f68 w.heap.size (by omega) (by omega)).trans HRK6.out
   have z8a:w6.heap.size≤w8.heap.size:=by omega
   obtain ⟨mk,hmk⟩:∃ mk,markB s k.2.2 58=mk:=⟨_,rfl⟩
   have CM:=trMark_is g s k.2.2 (.slice a1 k.2.1.length c1) w8 mk 58 M8.cells hs hmk
   have HM8:=Lib.hid M8
   have HN8:=Lib.hid N8
   have HV8:=Lib.hid V8
   have HRK8:=Lib.hid rk8
   have HRV8:=Lib.hid rv8
   clear M8 N8 V8 rk8 rv8 HM6 HN6 HV6 HRK6 s8 z8 o8 b7 f68 z7
   go_wp2_with fail
   refine CM.mono ?_
   rintro e w9 ⟨rfl,j9,e9⟩
   have b9:Below w8.heap.size w8 w9:=by rw[e9];exact Go.below_drewN (Below.refl _ _) _
   clear e9 CM
   have z9:=b9.size
   have HM9:=Lib.hid (HM8.out.below b9)
   have HN9:=Lib.hid (IsN.frame (fun j hj=>⟨hj,b9.block j (HM8.out.new j hj).2⟩) _ _ HN8.out)
   have HV9:=Lib.hid (HV8.out.below b9 (Nat.le_refl _))
   have HRK9:=Lib.hid ((b9.block w.heap.size (by omega)).trans HRK8.out)
   have HRV9:=Lib.hid ((b9.block (w.heap.size+1) (by omega)).trans HRV8.out)
   clear HM8 HN8 HV8 HRK8 HRV8 b9
   cases mk with
   | false=>
    have hno:¬ (markB s k.2.2 58=true∧colF s k.2.2=c):=by rw[hmk];rintro ⟨h,_⟩;cases h
    have ho:o=.ok (untrail k.1,voidN.withLead LC,k.2):=by
     have hrest:=hrest
     rw[if_neg hno] at hrest
     exact hrest
    subst ho
    have HCL:=Lib.hid (show ComsR R1 w9 (.slice none 0 0) ([]) from ComsR.nil _ _)
    obtain ⟨lead,hlead⟩:∃ lead,LC++([])=lead:=⟨_,rfl⟩
    have HLD:=Lib.hid hlead
    clear hlead
    have zL:(LC).length+([]:Coms).length≤1000000000:=by simp;omega
    have zX:w.heap.size+2≤w9.heap.size:=by omega
    have qvX:∀ j,w9.cell? ⟨w.heap.size+1,j,none⟩=(#[.int .i64 1,.int .i64 1,.int .i64 (-1),.int .i64 0,.string ⟨#[]⟩,.string ⟨#[]⟩,.string ⟨#[]⟩,.slice none 0 0,.slice none 0 0,.slice none 0 0,.bool false,.string ⟨#[]⟩]:Array Value)[j]?:=fun j=>cell_of_row w9 _ j _ _ _ HRV9.out
    have HVO:=Lib.hid (show ∀ j,(.slice a5 1 c5:Value).ownBlock=some j→w.heap.size+2≤j∧¬ R1 j∧((.slice a1 k.2.1.length c1):Value).ownBlock≠some j∧j<w9.heap.size from fun j hj=>⟨(V6o j hj).1,(V6o j hj).2.1,(V6o j hj).2.2.1,by have:=(V6o j hj).2.2.2;omega⟩)
    go_upto_region 13 with (at_builtin;refine appendH rfl _ _ rfl R1 (.slice a5 1 c5) (.slice none 0 0) (LC) ([]) rfl rfl HV9.out HCL.out zL ?_;intro v12 w12 o12 g12 n12;rw[HLD.out] at o12;obtain ⟨v12a,v12c,rfl⟩:=o12.form;have rv12:=(g12.block (w.heap.size+1) (by omega) (fun e=>by have:=HVO.out _ e.symm;omega)).trans HRV9.out;have qv12:∀ j,w12.cell? ⟨w.heap.size+1,j,none⟩=(#[.int .i64 1,.int .i64 1,.int .i64 (-1),.int .i64 0,.string ⟨#[]⟩,.string ⟨#[]⟩,.string ⟨#[]⟩,.slice none 0 0,.slice none 0 0,.slice none 0 0,.bool false,.string ⟨#[]⟩]:Array Value)[j]?:=fun j=>cell_of_row w12 _ j _ _ _ rv12;have fv12:∀ j,w12.frozen? ⟨w.heap.size+1,j,none⟩=false:=fun j=>frozen_of_row w12 _ j _ _ rv12;have HO12:=Lib.hid o12;have HRV12:=Lib.hid rv12;clear o12 rv12)
    obtain ⟨w13,hw13⟩:∃ w13,w13=w12.setCell ⟨w.heap.size+1,8,none⟩ (.slice v12a lead.length v12c):=⟨_,rfl⟩
    have rv13:w13.heap[w.heap.size+1]?=some (.cells #[.int .i64 1,.int .i64 1,.int .i64 (-1),.int .i64 0,.string ⟨#[]⟩,.string ⟨#[]⟩,.string ⟨#[]⟩,.slice none 0 0,.slice v12a lead.length v12c,.slice none 0 0,.bool false,.string ⟨#[]⟩] 27 (0,0)):=by rw[hw13];exact heap_setCell_same _ _ 8 _ _ _ HRV12.out
    have s13:∀ k,¬ k=w.heap.size+1→w13.heap[k]?=w12.heap[k]?:=fun k hk=>by rw[hw13];exact heap_setCell_other _ _ _ _ hk
    have z13:w13.heap.size=w12.heap.size:=by rw[hw13];simp[World.setCell]
    have o13:w13.os=w12.os∧w13.tape=w12.tape∧w13.output=w12.output:=by rw[hw13];exact ⟨rfl,rfl,rfl⟩
    rw[←hw13]
    clear hw13 qv12 fv12 qvX HRV12
    have rk13:=(s13 w.heap.size (by omega)).trans ((g12.block w.heap.size (by omega) (fun e=>by have:=HVO.out _ e.symm;omega)).trans HRK9.out)
    have qk14:∀ j,w13.cell? ⟨w.heap.size,j,none⟩=(#[.int .i64 y0,.int .i64 y1,.int .i64 y2,.int .i64 y3,.string y4,.string y5,.string y6,.slice ya yb yc,.slice yd ye yf,.slice yg yh yi,.bool false,.string ⟨#[]⟩]:Array Value)[j]?:=fun j=>cell_of_row w13 _ j _ _ _ rk13
    have qv14:∀ j,w13.cell? ⟨w.heap.size+1,j,none⟩=(#[.int .i64 1,.int .i64 1,.int .i64 (-1),.int .i64 0,.string ⟨#[]⟩,.string ⟨#[]⟩,.string ⟨#[]⟩,.slice none 0 0,.slice v12a lead.length v12c,.slice none 0 0,.bool false,.string ⟨#[]⟩]:Array Value)[j]?:=fun j=>cell_of_row w13 _ j _ _ _ rv13
    have fk14:∀ j,w13.frozen? ⟨w.heap.size,j,none⟩=false:=fun j=>frozen_of_row w13 _ j _ _ rk13
    have fv14:∀ j,w13.frozen? ⟨w.heap.size+1,j,none⟩=false:=fun j=>frozen_of_row w13 _ j _ _ rv13
    have eK0:=setCell_self (i:=0) (u:=.int .i64 y0) rk13 rfl
    have eV0:=setCell_self (i:=0) (u:=.int .i64 1) rv13 rfl
    have eK1:=setCell_self (i:=1) (u:=.int .i64 y1) rk13 rfl
    have eV1:=setCell_self (i:=1) (u:=.int .i64 1) rv13 rfl
    have eK2:=setCell_self (i:=2) (u:=.int .i64 y2) rk13 rfl
    have eV2:=setCell_self (i:=2) (u:=.int .i64 (-1)) rv13 rfl
    have eK3:=setCell_self (i:=3) (u:=.int .i64 y3) rk13 rfl
    have eV3:=setCell_self (i:=3) (u:=.int .i64 0) rv13 rfl
    have eK4:=setCell_self (i:=4) (u:=.string y4) rk13 rfl
    have eV4:=setCell_self (i:=4) (u:=.string ⟨#[]⟩) rv13 rfl
    have eK5:=setCell_self (i:=5) (u:=.string y5) rk13 rfl
    have eV5:=setCell_self (i:=5) (u:=.string ⟨#[]⟩) rv13 rfl
    have eK6:=setCell_self (i:=6) (u:=.string y6) rk13 rfl
    have eV6:=setCell_self (i:=6) (u:=.string ⟨#[]⟩) rv13 rfl
    have eK7:=setCell_self (i:=7) (u:=.slice ya yb yc) rk13 rfl
    have eV7:=setCell_self (i:=7) (u:=.slice none 0 0) rv13 rfl
    have eK8:=setCell_self (i:=8) (u:=.slice yd ye yf) rk13 rfl
    have eV8:=setCell_self (i:=8) (u:=.slice v12a lead.length v12c) rv13 rfl
    have eK9:=setCell_self (i:=9) (u:=.slice yg yh yi) rk13 rfl
    have eV9:=setCell_self (i:=9) (u:=.slice none 0 0) rv13 rfl
    have eK10:=setCell_self (i:=10) (u:=.bool false) rk13 rfl
    have eV10:=setCell_self (i:=10) (u:=.bool false) rv13 rfl
    have eK11:=setCell_self (i:=11) (u:=.string ⟨#[]⟩) rk13 rfl
    have eV11:=setCell_self (i:=11) (u:=.string ⟨#[]⟩) rv13 rfl
    clear rv13 rk13
    have HQK:=Lib.hid qk14
    have HQV:=Lib.hid qv14
    go_region
    all_goals
     try simp only[eK0,eK1,eK2,eK3,eK4,eK5,eK6,eK7,eK8,eK9,eK10,eK11,eV0,eV1,eV2,eV3,eV4,eV5,eV6,eV7,eV8,eV9,eV10,eV11]
     clear eK0 eK1 eK2 eK3 eK4 eK5 eK6 eK7 eK8 eK9 eK10 eK11 eV0 eV1 eV2 eV3 eV4 eV5 eV6 eV7 eV8 eV9 eV10 eV11
     go_wp2
     refine bodyPost_ret (v:=.tuple #[.agg #[.int .i64 y0,.int .i64 y1,.int .i64 y2,.int .i64 y3,.string y4,.string y5,.string y6,.slice ya yb yc,.slice yd ye yf,.slice yg yh yi,.bool false,.string ⟨#[]⟩],.agg #[.int .i64 1,.int .i64 1,.int .i64 (-1),.int .i64 0,.string ⟨#[]⟩,.string ⟨#[]⟩,.string ⟨#[]⟩,.slice none 0 0,.slice v12a lead.length v12c,.slice none 0 0,.bool false,.string ⟨#[]⟩]]) (by simp[results,Tryz.results124,go_sem,HQK.out,HQV.out]) rfl ?_
     have z12:=g12.size
     rw[show LC=lead from by rw[←HLD.out,List.append_nil]]
     exact pair_end (y:=voidN) (v2:=.slice v12a lead.length v12c) HM9.out HN9.out (IsN.shut (hd:=voidH [] [] (-1)) (ComsR.nil _ _) (ComsR.nil _ _) (NodesR.nil _ _)) hR1 hv1 hg (.slice a5 1 c5) HVO.out n12 (HO12.out.keep fun j hj _=>s13 j (by rcases n12 with e|e;(rw[e] at hj;have:=HVO.out j hj;omega);(rw[e] at hj;injection hj with hj;omega))) zX (fun k h1 h2 h3=>(s13 k h1).trans (g12.block k h3 (fun e=>h2 e.symm))) (by show w9.heap.size≤w13.heap.size;omega) ⟨o13.1.trans g12.os,o13.2.1.trans g12.tape,o13.2.2.trans g12.output⟩
   | true=>
    have CC:=trCol_is g s k.2.2 (.slice a1 k.2.1.length c1) w9 HM9.out.cells hs hle
    go_wp2_with fail
    refine CC.mono ?_
    rintro e w10 ⟨rfl,j10,e10⟩
    have b10:Below w9.heap.size w9 w10:=by rw[e10];exact Go.below_drewN (Below.refl _ _) _
    clear e10 CC
    have z10:=b10.size
    have HM10:=Lib.hid (HM9.out.below b10)
    have HN10:=Lib.hid (IsN.frame (fun j hj=>⟨hj,b10.block j (HM9.out.new j hj).2⟩) _ _ HN9.out)
    have HV10:=Lib.hid (HV9.out.below b10 (Nat.le_refl _))
    have HRK10:=Lib.hid ((b10.block w.heap.size (by omega)).trans HRK9.out)
    have HRV10:=Lib.hid ((b10.block (w.heap.size+1) (by omega)).trans HRV9.out)
    clear HM9 HN9 HV9 HRK9 HRV9 b10
    by_cases hcl:colF s k.2.2=c
    ·have hci:((colF s k.2.2:Int)==(c:Int))=true:=by rw[beq_iff_eq];omega
     obtain ⟨ko2,hko2,ho2⟩:∃ ko2,nodP s blk 4 c d (k.2.2+1) ko2∧o=rdMap (fun v=>(untrail k.1,v.1.withLead (LC++k.2.1++v.1.h.lead),v.2)) ko2:=by
      have hrest:=hrest
      rw[if_pos ⟨hmk,hcl⟩] at hrest
      rcases hrest with ⟨q,e,h1,rfl⟩|⟨x,h1,rfl⟩
      ·exact ⟨_,h1,rfl⟩
      ·exact ⟨_,h1,rfl⟩
     subst ho2
     have hql:k.2.2<s.size:=by
      by_cases hq:k.2.2<s.size
      ·exact hq
      ·exfalso
       unfold markB at hmk
       rw[Bool.and_eq_true] at hmk
       have:=isB_lt hmk.1
       omega
     have CT:=trTake_is g s k.2.2 (.slice a1 k.2.1.length c1) w10 HM10.out.cells
     go_wp2_with fail
     refine CT.mono ?_
     rintro e w11 ⟨rfl,e11⟩
     have s11:∀ j,¬ j=g→w11.heap[j]?=w10.heap[j]?:=fun j hj=>by rw[e11];exact heap_setCell_other _ _ _ _ hj
     have z11:w11.heap.size=w10.heap.size:=by rw[e11];simp[World.setCell]
     have HT11:=Lib.hid (show TrAt g s k.2.2 (.slice none 0 0) w11 by rw[e11];exact heap_setCell_same _ _ 2 _ _ _ HM10.out.cells)
     have k11:Keep (Lx g w.heap.size) w w11:=HM10.out.keep.trans (by rw[e11];exact tr_keep1 _ _ _) (fun _ hk=>hk)
     clear e11 CT
     have HV11:=Lib.hid (HV10.out.keep (w':=w11) fun j hj _=>s11 j (by have:=(V6o j hj).1;omega))
     have HH11:=Lib.hid (HM10.out.has.keep (w':=w11) fun j hj _=>s11 j (by have:=hv1 j hj;omega)).toComs
     obtain ⟨LB,hLB⟩:∃ LB,LC++k.2.1=LB:=⟨_,rfl⟩
     have HLB:=Lib.hid hLB
     have hLBn:LB.length≤1+s.size:=by rw[←hLB,List.length_append];omega
     clear hLB
     have z11a:w10.heap.size≤w11.heap.size:=Nat.le_of_eq z11.symm
     have z11b:w11.heap.size≤w10.heap.size:=Nat.le_of_eq z11
     have K11:=Lib.hid k11
     clear z11 k11
     have zB:LC.length+k.2.1.length≤1000000000:=by omega
     have hVO:=fun j hj=>V6o j hj
     have HVO6:=Lib.hid hVO
     clear hVO
     go_upto_region 10 with (at_builtin;refine appendH rfl _ _ rfl (fun j=>(Value.slice a1 k.2.1.length c1).ownBlock=some j) (.slice a5 1 c5) (.slice a1 k.2.1.length c1) LC k.2.1 rfl rfl HV11.out HH11.out zB ?_;intro v2' w12 o12 g12 n12;rw[HLB.out] at o12;obtain ⟨a2,c2,rfl⟩:=o12.form)
     have z12:=g12.size
     have T12:TrAt g s k.2.2 (.slice none 0 0) w12:=(g12.block g (by omega) (fun e=>by have:=(HVO6.out g e.symm).1;omega)).trans HT11.out
     have k12:Keep (Lx g w.heap.size) w w12:=K11.out.trans (Q:=fun j=>j<w.heap.size) ⟨g12.os,g12.tape,g12.output,g12.size,fun j hj=>g12.block j (by omega) (fun e=>by have:=(HVO6.out j e.symm).1;omega)⟩ (fun _ hk=>hk.1)
     have f12:∀ j,j<w10.heap.size→¬ j=g→(.slice a5 1 c5:Value).ownBlock≠some j→w12.heap[j]?=w10.heap[j]?:=fun j h1 h2 h3=>(g12.block j (by omega) (fun e=>h3 e.symm)).trans (s11 j h2)
     have hv2o:∀ j,(Value.slice a2 LB.length c2).ownBlock=some j→w.heap.size+2≤j∧¬ R1 j∧j<w12.heap.size:=fun j hj=>by
      have h0:=o12.own j hj
      rcases n12 with e|e
      ·rw[e] at hj
       exact ⟨(HVO6.out j hj).1,(HVO6.out j hj).2.1,h0⟩
      ·rw[e] at hj
       injection hj with hj
       exact ⟨by omega,fun h=>by have:=(HM10.out.new j h).2;omega,h0⟩
     have c12:=T12.cell
     have q12:=T12.free
     have HO12:=Lib.hid o12
     have HT12:=Lib.hid T12
     have HK12:=Lib.hid k12
     clear o12 T12 k12 HT11 K11 HV11 HH11
     go_upto_region 11 with fail
     have hq1:(k.2.2:Int)+1=((k.2.2+1:Nat):Int):=by omega
     try rw[hq1]
     clear hq1
     obtain ⟨w13,hw13⟩:∃ w13,w13=w12.setCell ⟨g,1,none⟩ (.int .i64 ((k.2.2+1:Nat):Int)):=⟨_,rfl⟩
     have s13:∀ j,¬ j=g→w13.heap[j]?=w12.heap[j]?:=fun j hj=>by rw[hw13];exact heap_setCell_other _ _ _ _ hj
     have z13:w13.heap.size=w12.heap.size:=by rw[hw13];simp[World.setCell]
     have T13:TrAt g s (k.2.2+1) (.slice none 0 0) w13:=by rw[hw13];exact heap_setCell_same _ _ 1 _ _ _ HT12.out
     have k13:Keep (Lx g w.heap.size) w w13:=HK12.out.trans (by rw[hw13];exact tr_keep1 _ _ _) (fun _ hk=>hk)
     have z13a:w12.heap.size≤w13.heap.size:=Nat.le_of_eq z13.symm
     have z13b:w13.heap.size≤w12.heap.size:=Nat.le_of_eq z13
     rw[←hw13]
     clear hw13 z13 c12 q12
     have B13:Below w0.heap.size w0 w13:=hB.trans (k13.below (fun j hj=>⟨by have:=hB.size;omega,by omega⟩))
     have CN:Calls Tryz.prog 15 #[.pointer (some ⟨g,0,none⟩),.agg #[.int .i64 4,.int .i64 (c:Int),.int .i64 (d:Int)]] w13 fun e w'=>TrPost g w13 ko2 (NodG g s w13) e w':=trNode_is K w0 hEv g hg0 s hs hPs blk hblk hld 4 c d (k.2.2+1) (.slice none 0 0) ko2 w13 B13 ⟨_,_,_,rfl⟩ T13 (by omega) hko2
     go_wp2_with fail
     refine CN.mono ?_
     rintro e wA hpost
     clear CN
     cases ko2 with
     | bad r e=>
      obtain ⟨rfl,kA⟩:=hpost
      exact ⟨rfl,rfl,k13.lx kA k13.size⟩
     | ok x=>
      obtain ⟨cs,v2,R2,rfl,hNA,M2⟩:=hpost
      obtain ⟨x0,x1,x2,x3,x4,x5,x6,xa,xb,xc,xd,xe,xf,xg,xh,xi,x7,x8,rfl⟩:=hNA.cells12
      have kA:=M2.keep
      have zA:=kA.size
      have zxl:x.1.h.lead.length≤2*s.size:=nod_lead hld (by omega) hko2
      have rvA:=(kA.block (w.heap.size+1) ⟨by omega,by omega⟩).trans ((s13 (w.heap.size+1) (by omega)).trans ((f12 (w.heap.size+1) (by omega) (by omega) (fun e=>by have:=(HVO6.out _ e).1;omega)).trans HRV10.out))
      have qvA:∀ j,wA.cell? ⟨w.heap.size+1,j,none⟩=(#[.int .i64 1,.int .i64 1,.int .i64 (-1),.int .i64 0,.string ⟨#[]⟩,.string ⟨#[]⟩,.string ⟨#[]⟩,.slice none 0 0,.slice none 0 0,.slice none 0 0,.bool false,.string ⟨#[]⟩]:Array Value)[j]?:=fun j=>cell_of_row wA _ j _ _ _ rvA
      have fvA:∀ j,wA.frozen? ⟨w.heap.size+1,j,none⟩=false:=fun j=>frozen_of_row wA _ j _ _ rvA
      have HRVA:=Lib.hid rvA
      have HNA:=Lib.hid hNA
      have HM2:=Lib.hid M2
      have HKA:=Lib.hid kA
      have HK13:=Lib.hid k13
      clear rvA hNA M2 kA k13 T13 B13
      go_upto_region 12 with fail
      obtain ⟨w15,hw15⟩:∃ w15,w15=((((((((((((wA.setCell ⟨w.heap.size+1,0,none⟩ (.int .i64 x0)).setCell ⟨w.heap.size+1,1,none⟩ (.int .i64 x1)).setCell ⟨w.heap.size+1,2,none⟩ (.int .i64 x2)).setCell ⟨w.heap.size+1,3,none⟩ (.int .i64 x3)).setCell ⟨w.heap.size+1,4,none⟩ (.string x4)).setCell ⟨w.heap.size+1,5,none⟩ (.string x5)).setCell ⟨w.heap.size+1,6,none⟩ (.string x6)).setCell ⟨w.heap.size+1,7,none⟩ (.slice xa xb xc)).setCell ⟨w.heap.size+1,8,none⟩ (.slice xd xe xf)).setCell ⟨w.heap.size+1,9,none⟩ (.slice xg xh xi)).setCell ⟨w.heap.size+1,10,none⟩ (.bool x7)).setCell ⟨w.heap.size+1,11,none⟩ (.string x8)):=⟨_,rfl⟩
      have rv15:w15.heap[w.heap.size+1]?=some (.cells #[.int .i64 x0,.int .i64 x1,.int .i64 x2,.int .i64 x3,.string x4,.string x5,.string x6,.slice xa xb xc,.slice xd xe xf,.slice xg xh xi,.bool x7,.string x8] 27 (0,0)):=by rw[hw15];exact row12_set wA (hg:=HRVA.out) ..
      have s15:∀ k,¬ k=w.heap.size+1→w15.heap[k]?=wA.heap[k]?:=fun k hk=>by rw[hw15];exact row12_other wA _ k hk ..
      have z15:w15.heap.size=wA.heap.size:=by rw[hw15,row12_size]
      have o15:Below (w.heap.size+1) wA w15:=by rw[hw15];exact row12_below wA _ _ (Nat.le_refl _) _ _ _ _ _ _ _ _ _ _ _ _
      rw[←hw15]
      clear hw15 qvA fvA HRVA
      obtain ⟨RX,hRXd⟩:∃ RX:Nat→Prop,RX=fun j=>R1 j∨R2 j:=⟨_,rfl⟩
      have g15:∀ j,j<w10.heap.size→¬ j=g→¬ j=w.heap.size+1→(.slice a5 1 c5:Value).ownBlock≠some j→w15.heap[j]?=w10.heap[j]?:=fun j h1 h2 h3 h4=>(s15 j h3).trans ((HKA.out.block j ⟨by omega,h2⟩).trans ((s13 j h2).trans (f12 j h1 h2 h4)))
      have hR1n:∀ j,R1 j→j<w10.heap.size:=fun j hj=>(HM10.out.new j hj).2
      have hR2n:∀ j,R2 j→w13.heap.size≤j∧j<wA.heap.size:=fun j hj=>HM2.out.new j hj
      have hRX:∀ j,RX j→w.heap.size+2≤j:=fun j hj=>by
       rw[hRXd] at hj
       rcases hj with h|h
       ·exact hR1 j h
       ·have:=(hR2n j h).1;omega
      have hv2n:∀ j,v2.ownBlock=some j→w13.heap.size≤j∧¬ R2 j:=fun j hj=>HM2.out.own j hj
      have hvX:∀ j,v2.ownBlock=some j→w.heap.size+2≤j:=fun j hj=>by have:=(hv2n j hj).1;omega
      have MM:=(HM2.out.mono HK13.out).put (fun j=>j=w.heap.size+1) (fun j hj=>⟨by omega,by omega,fun h=>by have:=(hR2n j h).1;omega,fun h=>by have:=(hv2n j h).1;omega⟩) s15 z15 ⟨o15.os,o15.tape,o15.output⟩
      have HM15:Hid (TrM g s w w15 x.2.2 v2 x.2.1 RX):=Lib.hid ⟨MM.cells,MM.has,fun j hj=>⟨(MM.own j hj).1,fun h=>by
       rw[hRXd] at h
       rcases h with h|h
       ·have:=hR1n j h;have:=(hv2n j hj).1;omega
       ·exact (hv2n j hj).2 h⟩,fun j hj=>⟨by have:=hRX j hj;omega,by
       rw[hRXd] at hj
       rcases hj with h|h
       ·have:=hR1n j h;omega
       ·have:=(hR2n j h).2;omega⟩,MM.keep,MM.le,MM.few⟩
      have HN15:Hid (IsN RX w15 (untrail k.1) [.int .i64 y0,.int .i64 y1,.int .i64 y2,.int .i64 y3,.string y4,.string y5,.string y6,.slice ya yb yc,.slice yd ye yf,.slice yg yh yi,.bool false,.string ⟨#[]⟩]):=Lib.hid (IsN.frame (fun j hj=>⟨by rw[hRXd];exact .inl hj,g15 j (hR1n j hj) (by have:=hR1 j hj;omega) (by have:=hR1 j hj;omega) (fun e=>(HVO6.out j e).2.1 hj)⟩) _ _ HN10.out)
      have hNX:IsN RX w15 x.1 [.int .i64 x0,.int .i64 x1,.int .i64 x2,.int .i64 x3,.string x4,.string x5,.string x6,.slice xa xb xc,.slice xd xe xf,.slice xg xh xi,.bool x7,.string x8]:=IsN.frame (fun j hj=>⟨by rw[hRXd];exact .inr hj,s15 j (by have:=(hR2n j hj).1;omega)⟩) _ _ HNA.out
      have HV15:Hid (HasV 2 w15 (.slice a2 LB.length c2) LB.length (comV LB)):=Lib.hid (HO12.out.keep fun j hj hlt=>(s15 j (by have:=(hv2o j hj).1;omega)).trans ((HKA.out.block j ⟨by omega,by have:=(hv2o j hj).1;omega⟩).trans (s13 j (by have:=(hv2o j hj).1;omega))))
      have HRK15:=Lib.hid ((g15 w.heap.size (by omega) (by omega) (by omega) (fun e=>by have:=(HVO6.out _ e).1;omega)).trans HRK10.out)
      have HRV15:=Lib.hid rv15
      have hvoX:∀ j,(Value.slice a2 LB.length c2).ownBlock=some j→w.heap.size+2≤j∧¬ RX j∧v2.ownBlock≠some j∧j<w15.heap.size:=fun j hj=>by
       have h1:=hv2o j hj
       refine ⟨h1.1,fun h=>?_,fun h=>by have:=(hv2n j h).1;omega,by omega⟩
       rw[hRXd] at h
       rcases h with h|h
       ·exact h1.2.1 h
       ·have:=(hR2n j h).1;omega
      obtain ⟨hxl,hcomX⟩:xe=x.1.h.lead.length∧ComsR RX w15 (.slice xd x.1.h.lead.length xf) x.1.h.lead:=by
       obtain ⟨kv,lv,fv,e,h1,_,_⟩:=hNX.open
       unfold headC at e
       simp only[List.cons.injEq,and_true] at e
       have e8:=e.2.2.2.2.2.2.2.2.1
       obtain ⟨ao,cap,rfl,k1,k2,k3⟩:=h1
       injection e8 with q1 q2 q3
       refine ⟨q2,ao,cap,?_,k1,k2,k3⟩
       rw[q1,q3]
      subst hxl
      have HNX:=Lib.hid hNX
      have zLX:LB.length+x.1.h.lead.length≤1000000000:=by omega
      have HCX:=Lib.hid hcomX
      have zA15:wA.heap.size≤w15.heap.size:=Nat.le_of_eq z15.symm
      clear hNX hcomX rv15 MM o15 s15 z15 g15 s13 f12 HM2 HNA HO12 HKA
      have HCL:=Lib.hid (show ComsR RX w15 (.slice xd x.1.h.lead.length xf) (x.1.h.lead) from HCX.out)
      obtain ⟨lead,hlead⟩:∃ lead,LB++(x.1.h.lead)=lead:=⟨_,rfl⟩
      have HLD:=Lib.hid hlead
      clear hlead
      have zL:(LB).length+(x.1.h.lead:Coms).length≤1000000000:=zLX
      have zX:w.heap.size+2≤w15.heap.size:=by omega
      have qvX:∀ j,w15.cell? ⟨w.heap.size+1,j,none⟩=(#[.int .i64 x0,.int .i64 x1,.int .i64 x2,.int .i64 x3,.string x4,.string x5,.string x6,.slice xa xb xc,.slice xd x.1.h.lead.length xf,.slice xg xh xi,.bool x7,.string x8]:Array Value)[j]?:=fun j=>cell_of_row w15 _ j _ _ _ HRV15.out
      have HVO:=Lib.hid (show ∀ j,(.slice a2 LB.length c2:Value).ownBlock=some j→w.heap.size+2≤j∧¬ RX j∧(v2:Value).ownBlock≠some j∧j<w15.heap.size from hvoX)
      go_upto_region 13 with (at_builtin;refine appendH rfl _ _ rfl RX (.slice a2 LB.length c2) (.slice xd x.1.h.lead.length xf) (LB) (x.1.h.lead) rfl rfl HV15.out HCL.out zL ?_;intro v12 w12 o12 g12 n12;rw[HLD.out] at o12;obtain ⟨v12a,v12c,rfl⟩:=o12.form;have rv12:=(g12.block (w.heap.size+1) (by omega) (fun e=>by have:=HVO.out _ e.symm;omega)).trans HRV15.out;have qv12:∀ j,w12.cell? ⟨w.heap.size+1,j,none⟩=(#[.int .i64 x0,.int .i64 x1,.int .i64 x2,.int .i64 x3,.string x4,.string x5,.string x6,.slice xa xb xc,.slice xd x.1.h.lead.length xf,.slice xg xh xi,.bool x7,.string x8]:Array Value)[j]?:=fun j=>cell_of_row w12 _ j _ _ _ rv12;have fv12:∀ j,w12.frozen? ⟨w.heap.size+1,j,none⟩=false:=fun j=>frozen_of_row w12 _ j _ _ rv12;have HO12:=Lib.hid o12;have HRV12:=Lib.hid rv12;clear o12 rv12)
      obtain ⟨w13,hw13⟩:∃ w13,w13=w12.setCell ⟨w.heap.size+1,8,none⟩ (.slice v12a lead.length v12c):=⟨_,rfl⟩
      have rv13:w13.heap[w.heap.size+1]?=some (.cells #[.int .i64 x0,.int .i64 x1,.int .i64 x2,.int .i64 x3,.string x4,.string x5,.string x6,.slice xa xb xc,.slice v12a lead.length v12c,.slice xg xh xi,.bool x7,.string x8] 27 (0,0)):=by rw[hw13];exact heap_setCell_same _ _ 8 _ _ _ HRV12.out
      have s13:∀ k,¬ k=w.heap.size+1→w13.heap[k]?=w12.heap[k]?:=fun k hk=>by rw[hw13];exact heap_setCell_other _ _ _ _ hk
      have z13:w13.heap.size=w12.heap.size:=by rw[hw13];simp[World.setCell]
      have o13:w13.os=w12.os∧w13.tape=w12.tape∧w13.output=w12.output:=by rw[hw13];exact ⟨rfl,rfl,rfl⟩
      rw[←hw13]
      clear hw13 qv12 fv12 qvX HRV12
      have rk13:=(s13 w.heap.size (by omega)).trans ((g12.block w.heap.size (by omega) (fun e=>by have:=HVO.out _ e.symm;omega)).trans HRK15.out)
      have qk14:∀ j,w13.cell? ⟨w.heap.size,j,none⟩=(#[.int .i64 y0,.int .i64 y1,.int .i64 y2,.int .i64 y3,.string y4,.string y5,.string y6,.slice ya yb yc,.slice yd ye yf,.slice yg yh yi,.bool false,.string ⟨#[]⟩]:Array Value)[j]?:=fun j=>cell_of_row w13 _ j _ _ _ rk13
      have qv14:∀ j,w13.cell? ⟨w.heap.size+1,j,none⟩=(#[.int .i64 x0,.int .i64 x1,.int .i64 x2,.int .i64 x3,.string x4,.string x5,.string x6,.slice xa xb xc,.slice v12a lead.length v12c,.slice xg xh xi,.bool x7,.string x8]:Array Value)[j]?:=fun j=>cell_of_row w13 _ j _ _ _ rv13
      have fk14:∀ j,w13.frozen? ⟨w.heap.size,j,none⟩=false:=fun j=>frozen_of_row w13 _ j _ _ rk13
      have fv14:∀ j,w13.frozen? ⟨w.heap.size+1,j,none⟩=false:=fun j=>frozen_of_row w13 _ j _ _ rv13
      have eK0:=setCell_self (i:=0) (u:=.int .i64 y0) rk13 rfl
      have eV0:=setCell_self (i:=0) (u:=.int .i64 x0) rv13 rfl
      have eK1:=setCell_self (i:=1) (u:=.int .i64 y1) rk13 rfl
      have eV1:=setCell_self (i:=1) (u:=.int .i64 x1) rv13 rfl
      have eK2:=setCell_self (i:=2) (u:=.int .i64 y2) rk13 rfl
      have eV2:=setCell_self (i:=2) (u:=.int .i64 x2) rv13 rfl
      have eK3:=setCell_self (i:=3) (u:=.int .i64 y3) rk13 rfl
      have eV3:=setCell_self (i:=3) (u:=.int .i64 x3) rv13 rfl
      have eK4:=setCell_self (i:=4) (u:=.string y4) rk13 rfl
      have eV4:=setCell_self (i:=4) (u:=.string x4) rv13 rfl
      have eK5:=setCell_self (i:=5) (u:=.string y5) rk13 rfl
      have eV5:=setCell_self (i:=5) (u:=.string x5) rv13 rfl
      have eK6:=setCell_self (i:=6) (u:=.string y6) rk13 rfl
      have eV6:=setCell_self (i:=6) (u:=.string x6) rv13 rfl
      have eK7:=setCell_self (i:=7) (u:=.slice ya yb yc) rk13 rfl
      have eV7:=setCell_self (i:=7) (u:=.slice xa xb xc) rv13 rfl
      have eK8:=setCell_self (i:=8) (u:=.slice yd ye yf) rk13 rfl
      have eV8:=setCell_self (i:=8) (u:=.slice v12a lead.length v12c) rv13 rfl
      have eK9:=setCell_self (i:=9) (u:=.slice yg yh yi) rk13 rfl
      have eV9:=setCell_self (i:=9) (u:=.slice xg xh xi) rv13 rfl
      have eK10:=setCell_self (i:=10) (u:=.bool false) rk13 rfl
      have eV10:=setCell_self (i:=10) (u:=.bool x7) rv13 rfl
      have eK11:=setCell_self (i:=11) (u:=.string ⟨#[]⟩) rk13 rfl
      have eV11:=setCell_self (i:=11) (u:=.string x8) rv13 rfl
      clear rv13 rk13
      have HQK:=Lib.hid qk14
      have HQV:=Lib.hid qv14
      go_region
      all_goals
       try simp only[eK0,eK1,eK2,eK3,eK4,eK5,eK6,eK7,eK8,eK9,eK10,eK11,eV0,eV1,eV2,eV3,eV4,eV5,eV6,eV7,eV8,eV9,eV10,eV11]
       clear eK0 eK1 eK2 eK3 eK4 eK5 eK6 eK7 eK8 eK9 eK10 eK11 eV0 eV1 eV2 eV3 eV4 eV5 eV6 eV7 eV8 eV9 eV10 eV11
       go_wp2
       refine bodyPost_ret (v:=.tuple #[.agg #[.int .i64 y0,.int .i64 y1,.int .i64 y2,.int .i64 y3,.string y4,.string y5,.string y6,.slice ya yb yc,.slice yd ye yf,.slice yg yh yi,.bool false,.string ⟨#[]⟩],.agg #[.int .i64 x0,.int .i64 x1,.int .i64 x2,.int .i64 x3,.string x4,.string x5,.string x6,.slice xa xb xc,.slice v12a lead.length v12c,.slice xg xh xi,.bool x7,.string x8]]) (by simp[results,Tryz.results124,go_sem,HQK.out,HQV.out]) rfl ?_
       have z12:=g12.size
       show TrPost g w (.ok (untrail k.1,x.1.withLead (LC++k.2.1++x.1.h.lead),x.2)) (PairG g s w) _ _
       rw[HLB.out,HLD.out]
       exact pair_end (y:=x.1) (v2:=.slice v12a lead.length v12c) HM15.out HN15.out (HNX.out) hRX hvX hg (.slice a2 LB.length c2) HVO.out n12 (HO12.out.keep fun j hj _=>s13 j (by rcases n12 with e|e;(rw[e] at hj;have:=HVO.out j hj;omega);(rw[e] at hj;injection hj with hj;omega))) zX (fun k h1 h2 h3=>(s13 k h1).trans (g12.block k h3 (fun e=>h2 e.symm))) (by show w15.heap.size≤w13.heap.size;omega) ⟨o13.1.trans g12.os,o13.2.1.trans g12.tape,o13.2.2.trans g12.output⟩
    ·have hci:((colF s k.2.2:Int)==(c:Int))=false:=by rw[beq_eq_false_iff_ne];omega
     have hno:¬ (markB s k.2.2 58=true∧colF s k.2.2=c):=fun h=>hcl h.2
     have ho:o=.ok (untrail k.1,voidN.withLead LC,k.2):=by
      have hrest:=hrest
      rw[if_neg hno] at hrest
      exact hrest
     subst ho
     have HCL:=Lib.hid (show ComsR R1 w10 (.slice none 0 0) ([]) from ComsR.nil _ _)
     obtain ⟨lead,hlead⟩:∃ lead,LC++([])=lead:=⟨_,rfl⟩
     have HLD:=Lib.hid hlead
     clear hlead
     have zL:(LC).length+([]:Coms).length≤1000000000:=by simp;omega
     have zX:w.heap.size+2≤w10.heap.size:=by omega
     have qvX:∀ j,w10.cell? ⟨w.heap.size+1,j,none⟩=(#[.int .i64 1,.int .i64 1,.int .i64 (-1),.int .i64 0,.string ⟨#[]⟩,.string ⟨#[]⟩,.string ⟨#[]⟩,.slice none 0 0,.slice none 0 0,.slice none 0 0,.bool false,.string ⟨#[]⟩]:Array Value)[j]?:=fun j=>cell_of_row w10 _ j _ _ _ HRV10.out
     have HVO:=Lib.hid (show ∀ j,(.slice a5 1 c5:Value).ownBlock=some j→w.heap.size+2≤j∧¬ R1 j∧((.slice a1 k.2.1.length c1):Value).ownBlock≠some j∧j<w10.heap.size from fun j hj=>⟨(V6o j hj).1,(V6o j hj).2.1,(V6o j hj).2.2.1,by have:=(V6o j hj).2.2.2;omega⟩)
     go_upto_region 13 with (at_builtin;refine appendH rfl _ _ rfl R1 (.slice a5 1 c5) (.slice none 0 0) (LC) ([]) rfl rfl HV10.out HCL.out zL ?_;intro v12 w12 o12 g12 n12;rw[HLD.out] at o12;obtain ⟨v12a,v12c,rfl⟩:=o12.form;have rv12:=(g12.block (w.heap.size+1) (by omega) (fun e=>by have:=HVO.out _ e.symm;omega)).trans HRV10.out;have qv12:∀ j,w12.cell? ⟨w.heap.size+1,j,none⟩=(#[.int .i64 1,.int .i64 1,.int .i64 (-1),.int .i64 0,.string ⟨#[]⟩,.string ⟨#[]⟩,.string ⟨#[]⟩,.slice none 0 0,.slice none 0 0,.slice none 0 0,.bool false,.string ⟨#[]⟩]:Array Value)[j]?:=fun j=>cell_of_row w12 _ j _ _ _ rv12;have fv12:∀ j,w12.frozen? ⟨w.heap.size+1,j,none⟩=false:=fun j=>frozen_of_row w12 _ j _ _ rv12;have HO12:=Lib.hid o12;have HRV12:=Lib.hid rv12;clear o12 rv12)
     obtain ⟨w13,hw13⟩:∃ w13,w13=w12.setCell ⟨w.heap.size+1,8,none⟩ (.slice v12a lead.length v12c):=⟨_,rfl⟩
     have rv13:w13.heap[w.heap.size+1]?=some (.cells #[.int .i64 1,.int .i64 1,.int .i64 (-1),.int .i64 0,.string ⟨#[]⟩,.string ⟨#[]⟩,.string ⟨#[]⟩,.slice none 0 0,.slice v12a lead.length v12c,.slice none 0 0,.bool false,.string ⟨#[]⟩] 27 (0,0)):=by rw[hw13];exact heap_setCell_same _ _ 8 _ _ _ HRV12.out
     have s13:∀ k,¬ k=w.heap.size+1→w13.heap[k]?=w12.heap[k]?:=fun k hk=>by rw[hw13];exact heap_setCell_other _ _ _ _ hk
     have z13:w13.heap.size=w12.heap.size:=by rw[hw13];simp[World.setCell]
     have o13:w13.os=w12.os∧w13.tape=w12.tape∧w13.output=w12.output:=by rw[hw13];exact ⟨rfl,rfl,rfl⟩
     rw[←hw13]
     clear hw13 qv12 fv12 qvX HRV12
     have rk13:=(s13 w.heap.size (by omega)).trans ((g12.block w.heap.size (by omega) (fun e=>by have:=HVO.out _ e.symm;omega)).trans HRK10.out)
     have qk14:∀ j,w13.cell? ⟨w.heap.size,j,none⟩=(#[.int .i64 y0,.int .i64 y1,.int .i64 y2,.int .i64 y3,.string y4,.string y5,.string y6,.slice ya yb yc,.slice yd ye yf,.slice yg yh yi,.bool false,.string ⟨#[]⟩]:Array Value)[j]?:=fun j=>cell_of_row w13 _ j _ _ _ rk13
     have qv14:∀ j,w13.cell? ⟨w.heap.size+1,j,none⟩=(#[.int .i64 1,.int .i64 1,.int .i64 (-1),.int .i64 0,.string ⟨#[]⟩,.string ⟨#[]⟩,.string ⟨#[]⟩,.slice none 0 0,.slice v12a lead.length v12c,.slice none 0 0,.bool false,.string ⟨#[]⟩]:Array Value)[j]?:=fun j=>cell_of_row w13 _ j _ _ _ rv13
     have fk14:∀ j,w13.frozen? ⟨w.heap.size,j,none⟩=false:=fun j=>frozen_of_row w13 _ j _ _ rk13
     have fv14:∀ j,w13.frozen? ⟨w.heap.size+1,j,none⟩=false:=fun j=>frozen_of_row w13 _ j _ _ rv13
     have eK0:=setCell_self (i:=0) (u:=.int .i64 y0) rk13 rfl
     have eV0:=setCell_self (i:=0) (u:=.int .i64 1) rv13 rfl
     have eK1:=setCell_self (i:=1) (u:=.int .i64 y1) rk13 rfl
     have eV1:=setCell_self (i:=1) (u:=.int .i64 1) rv13 rfl
     have eK2:=setCell_self (i:=2) (u:=.int .i64 y2) rk13 rfl
     have eV2:=setCell_self (i:=2) (u:=.int .i64 (-1)) rv13 rfl
     have eK3:=setCell_self (i:=3) (u:=.int .i64 y3) rk13 rfl
     have eV3:=setCell_self (i:=3) (u:=.int .i64 0) rv13 rfl
     have eK4:=setCell_self (i:=4) (u:=.string y4) rk13 rfl
     have eV4:=setCell_self (i:=4) (u:=.string ⟨#[]⟩) rv13 rfl
     have eK5:=setCell_self (i:=5) (u:=.string y5) rk13 rfl
     have eV5:=setCell_self (i:=5) (u:=.string ⟨#[]⟩) rv13 rfl
     have eK6:=setCell_self (i:=6) (u:=.string y6) rk13 rfl
     have eV6:=setCell_self (i:=6) (u:=.string ⟨#[]⟩) rv13 rfl
     have eK7:=setCell_self (i:=7) (u:=.slice ya yb yc) rk13 rfl
     have eV7:=setCell_self (i:=7) (u:=.slice none 0 0) rv13 rfl
     have eK8:=setCell_self (i:=8) (u:=.slice yd ye yf) rk13 rfl
     have eV8:=setCell_self (i:=8) (u:=.slice v12a lead.length v12c) rv13 rfl
     have eK9:=setCell_self (i:=9) (u:=.slice yg yh yi) rk13 rfl
     have eV9:=setCell_self (i:=9) (u:=.slice none 0 0) rv13 rfl
     have eK10:=setCell_self (i:=10) (u:=.bool false) rk13 rfl
     have eV10:=setCell_self (i:=10) (u:=.bool false) rv13 rfl
     have eK11:=setCell_self (i:=11) (u:=.string ⟨#[]⟩) rk13 rfl
     have eV11:=setCell_self (i:=11) (u:=.string ⟨#[]⟩) rv13 rfl
     clear rv13 rk13
     have HQK:=Lib.hid qk14
     have HQV:=Lib.hid qv14
     go_region
     all_goals
      try simp only[eK0,eK1,eK2,eK3,eK4,eK5,eK6,eK7,eK8,eK9,eK10,eK11,eV0,eV1,eV2,eV3,eV4,eV5,eV6,eV7,eV8,eV9,eV10,eV11]
      clear eK0 eK1 eK2 eK3 eK4 eK5 eK6 eK7 eK8 eK9 eK10 eK11 eV0 eV1 eV2 eV3 eV4 eV5 eV6 eV7 eV8 eV9 eV10 eV11
      go_wp2
      refine bodyPost_ret (v:=.tuple #[.agg #[.int .i64 y0,.int .i64 y1,.int .i64 y2,.int .i64 y3,.string y4,.string y5,.string y6,.slice ya yb yc,.slice yd ye yf,.slice yg yh yi,.bool false,.string ⟨#[]⟩],.agg #[.int .i64 1,.int .i64 1,.int .i64 (-1),.int .i64 0,.string ⟨#[]⟩,.string ⟨#[]⟩,.string ⟨#[]⟩,.slice none 0 0,.slice v12a lead.length v12c,.slice none 0 0,.bool false,.string ⟨#[]⟩]]) (by simp[results,Tryz.results124,go_sem,HQK.out,HQV.out]) rfl ?_
      have z12:=g12.size
      rw[show LC=lead from by rw[←HLD.out,List.append_nil]]
      exact pair_end (y:=voidN) (v2:=.slice v12a lead.length v12c) HM10.out HN10.out (IsN.shut (hd:=voidH [] [] (-1)) (ComsR.nil _ _) (ComsR.nil _ _) (NodesR.nil _ _)) hR1 hv1 hg (.slice a5 1 c5) HVO.out n12 (HO12.out.keep fun j hj _=>s13 j (by rcases n12 with e|e;(rw[e] at hj;have:=HVO.out j hj;omega);(rw[e] at hj;injection hj with hj;omega))) zX (fun k h1 h2 h3=>(s13 k h1).trans (g12.block k h3 (fun e=>h2 e.symm))) (by show w10.heap.size≤w13.heap.size;omega) ⟨o13.1.trans g12.os,o13.2.1.trans g12.tape,o13.2.2.trans g12.output⟩
end Go.Proofs.YthcmkpiajkbpnaaGreatDoor
