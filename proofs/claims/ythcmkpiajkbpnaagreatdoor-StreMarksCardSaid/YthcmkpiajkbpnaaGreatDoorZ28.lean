/- Parts of the proof, put together from smaller texts (blanks that Lean does not want are struck). Conditions: those that each theorem writes out. -/
import Derived.RegionDies
import Derived.Test.YthcmkpiajkbpnaaGreatDoorZ27
namespace Go.Proofs.YthcmkpiajkbpnaaGreatDoor
open Go.RowKit
theorem impl_lt {s:ByteArray} {d p:Nat} {x:NT × Nat} (h:implP s d p (.ok x)):x.2<s.size:=by
 obtain ⟨A,T,E,C,q,_,_,_,_,hq,_,h⟩:=h
 rcases h with ⟨_,_,_,e⟩|⟨y,h,e⟩
 ·cases e
 ·injection e with e
  subst e
  show y.2<_
  split at h
  ·injection h with h;subst h;exact hq
  ·rcases h with ⟨_,_,_,e⟩|⟨z,_,c,_,hc,_,e⟩
   ·cases e
   ·injection e with e;subst e;exact hc
set_option maxRecDepth 100000 in
set_option maxHeartbeats 6400000 in
theorem trEntry_is {Ev:World→Prop} {P:ByteArray→Prop} (K:CntC Ev P) (w0:World) (hEv:Ev w0) (g:Nat) (hg0:w0.heap.size≤g) (s:ByteArray) (hs:s.size≤10000) (hPs:P s) (blk:Nat→Nat→Rd Tre→Prop) (hblk:BlkC w0 g s blk) (hld:LeadB blk) (c d p:Nat) (v:Value) (o:Rd (NT × NT × Coms × Nat)) (w:World) (hB:Below w0.heap.size w0 w) (hv:∃ a n c,v=.slice a n c) (h:TrAt g s p v w) (hp:p<s.size) (ho:pairP s blk c d p o) :
  Calls Tryz.prog 85 #[.pointer (some ⟨g,0,none⟩),.int .i64 (c:Int),.int .i64 (d:Int)] w fun e w'=>TrPost g w o (PairG g s w) e w':=by
 have hg:=h.lt
 obtain ⟨W1,hW1⟩:∃ W1,W1=(w.alloc (.cells #[.int .i64 0,.int .i64 0,.int .i64 0,.int .i64 0,.string ⟨#[]⟩,.string ⟨#[]⟩,.string ⟨#[]⟩,.slice none 0 0,.slice none 0 0,.slice none 0 0,.bool false,.string ⟨#[]⟩] 27)).alloc (.cells #[.int .i64 0,.int .i64 0,.int .i64 0,.int .i64 0,.string ⟨#[]⟩,.string ⟨#[]⟩,.string ⟨#[]⟩,.slice none 0 0,.slice none 0 0,.slice none 0 0,.bool false,.string ⟨#[]⟩] 27):=⟨_,rfl⟩
 have u1:W1.heap.size=w.heap.size+2:=by rw[hW1];simp
 have b1:Below w.heap.size w W1:=by rw[hW1];exact ((Below.refl _ _).alloc (Nat.le_refl _) _).alloc (by simp) _
 have rk:W1.heap[w.heap.size]?=some (.cells #[.int .i64 0,.int .i64 0,.int .i64 0,.int .i64 0,.string ⟨#[]⟩,.string ⟨#[]⟩,.string ⟨#[]⟩,.slice none 0 0,.slice none 0 0,.slice none 0 0,.bool false,.string ⟨#[]⟩] 27 (0,0)):=by rw[hW1];exact (heap_alloc_old _ _ (by simp)).trans (heap_alloc_new w _)
 have rv:W1.heap[w.heap.size+1]?=some (.cells #[.int .i64 0,.int .i64 0,.int .i64 0,.int .i64 0,.string ⟨#[]⟩,.string ⟨#[]⟩,.string ⟨#[]⟩,.slice none 0 0,.slice none 0 0,.slice none 0 0,.bool false,.string ⟨#[]⟩] 27 (0,0)):=by
  rw[hW1]
  have:=heap_alloc_new (w.alloc (.cells #[.int .i64 0,.int .i64 0,.int .i64 0,.int .i64 0,.string ⟨#[]⟩,.string ⟨#[]⟩,.string ⟨#[]⟩,.slice none 0 0,.slice none 0 0,.slice none 0 0,.bool false,.string ⟨#[]⟩] 27)) (.cells #[.int .i64 0,.int .i64 0,.int .i64 0,.int .i64 0,.string ⟨#[]⟩,.string ⟨#[]⟩,.string ⟨#[]⟩,.slice none 0 0,.slice none 0 0,.slice none 0 0,.bool false,.string ⟨#[]⟩] 27)
  simpa using this
 have h1:=h.below b1 hg
 have B1:Below w0.heap.size w0 W1:=hB.trans (b1.mono hB.size)
 obtain ⟨va,vm,vc,rfl⟩:=hv
 obtain ⟨mk,hmk⟩:∃ mk,markB s p 63=mk:=⟨_,rfl⟩
 have CM:=trMark_is g s p (.slice va vm vc) W1 mk 63 h1 hs hmk
 have HW:=Lib.hid hW1
 clear hW1 h
 go_enter Tryz.func85,Tryz.ntmps85
 go_upto_region 1 with fail
 rw[←HW.out]
 go_wp2_with fail
 refine CM.mono ?_
 rintro e w2 ⟨rfl,j2,e2⟩
 have b2:Below W1.heap.size W1 w2:=by rw[e2];exact Go.below_drewN (Below.refl _ _) _
 clear e2 CM
 have z2:=b2.size
 have h2:=h1.below b2 h1.lt
 have B2:=B1.trans (b2.mono B1.size)
 have k2:Keep (Lx g w.heap.size) w w2:=(below_lx b1).lxB b2 b1.size
 have rk2:=(b2.block w.heap.size (by omega)).trans rk
 have rv2:=(b2.block (w.heap.size+1) (by omega)).trans rv
 unfold pairP at ho
 clear b1 b2 rk rv h1 B1
 cases mk with
 | true=>
  rw[if_pos hmk] at ho
  have CA:=trAsked_is K w0 hEv g hg0 s hs hPs blk hblk hld c d p (.slice va vm vc) o w2 B2 ⟨_,_,_,rfl⟩ h2 hp ho
  go_wp2_with fail
  refine CA.mono ?_
  rintro e w3 hpost
  clear CA
  cases o with
  | bad q e=>
   obtain ⟨rfl,k3⟩:=hpost
   exact ⟨rfl,rfl,k2.lx k3 k2.size⟩
  | ok x=>
   obtain ⟨cs,ds,v3,R,rfl,hNc,hNd,M⟩:=hpost
   obtain ⟨y0,y1,y2,y3,y4,y5,y6,ya,yb,yc,yd,ye,yf,yg,yh,yi,y7,y8,rfl⟩:=hNc.cells12
   obtain ⟨x0,x1,x2,x3,x4,x5,x6,xa,xb,xc,xd,xe,xf,xg,xh,xi,x7,x8,rfl⟩:=hNd.cells12
   have k3:=M.keep
   have z3:=k3.size
   have rk3:=(k3.block w.heap.size ⟨by omega,by omega⟩).trans rk2
   have rv3:=(k3.block (w.heap.size+1) ⟨by omega,by omega⟩).trans rv2
   have qk3:∀ j,w3.cell? ⟨w.heap.size,j,none⟩=(#[.int .i64 0,.int .i64 0,.int .i64 0,.int .i64 0,.string ⟨#[]⟩,.string ⟨#[]⟩,.string ⟨#[]⟩,.slice none 0 0,.slice none 0 0,.slice none 0 0,.bool false,.string ⟨#[]⟩]:Array Value)[j]?:=fun j=>cell_of_row w3 _ j _ _ _ rk3
   have fk3:∀ j,w3.frozen? ⟨w.heap.size,j,none⟩=false:=fun j=>frozen_of_row w3 _ j _ _ rk3
   have qv3:∀ j,w3.cell? ⟨w.heap.size+1,j,none⟩=(#[.int .i64 0,.int .i64 0,.int .i64 0,.int .i64 0,.string ⟨#[]⟩,.string ⟨#[]⟩,.string ⟨#[]⟩,.slice none 0 0,.slice none 0 0,.slice none 0 0,.bool false,.string ⟨#[]⟩]:Array Value)[j]?:=fun j=>cell_of_row w3 _ j _ _ _ rv3
   have fv3:∀ j,w3.frozen? ⟨w.heap.size+1,j,none⟩=false:=fun j=>frozen_of_row w3 _ j _ _ rv3
   have HRK:=Lib.hid rk3
   have HRV:=Lib.hid rv3
   have HM:=Lib.hid M
   have HNC:=Lib.hid hNc
   have HND:=Lib.hid hNd
   have HK:=Lib.hid k2
   clear M hNc hNd rk3 rv3 k2 k3 h2 B2 rk2 rv2
   go_wp2
   obtain ⟨w4,hw4⟩:∃ w4,w4=((((((((((((w3.setCell ⟨w.heap.size,0,none⟩ (.int .i64 y0)).setCell ⟨w.heap.size,1,none⟩ (.int .i64 y1)).setCell ⟨w.heap.size,2,none⟩ (.int .i64 y2)).setCell ⟨w.heap.size,3,none⟩ (.int .i64 y3)).setCell ⟨w.heap.size,4,none⟩ (.string y4)).setCell ⟨w.heap.size,5,none⟩ (.string y5)).setCell ⟨w.heap.size,6,none⟩ (.string y6)).setCell ⟨w.heap.size,7,none⟩ (.slice ya yb yc)).setCell ⟨w.heap.size,8,none⟩ (.slice yd ye yf)).setCell ⟨w.heap.size,9,none⟩ (.slice yg yh yi)).setCell ⟨w.heap.size,10,none⟩ (.bool y7)).setCell ⟨w.heap.size,11,none⟩ (.string y8)):=⟨_,rfl⟩
   have rk4:w4.heap[w.heap.size]?=some (.cells #[.int .i64 y0,.int .i64 y1,.int .i64 y2,.int .i64 y3,.string y4,.string y5,.string y6,.slice ya yb yc,.slice yd ye yf,.slice yg yh yi,.bool y7,.string y8] 27 (0,0)):=by rw[hw4];exact row12_set w3 (hg:=HRK.out) ..
   have s4:∀ k,¬ k=w.heap.size→w4.heap[k]?=w3.heap[k]?:=fun k hk=>by rw[hw4];exact row12_other w3 _ k hk ..
   have z4:w4.heap.size=w3.heap.size:=by rw[hw4,row12_size]
   have o4:Below w.heap.size w3 w4:=by rw[hw4];exact row12_below w3 _ _ (Nat.le_refl _) _ _ _ _ _ _ _ _ _ _ _ _
   rw[←hw4]
   clear hw4
   obtain ⟨w5,hw5⟩:∃ w5,w5=((((((((((((w4.setCell ⟨w.heap.size+1,0,none⟩ (.int .i64 x0)).setCell ⟨w.heap.size+1,1,none⟩ (.int .i64 x1)).setCell ⟨w.heap.size+1,2,none⟩ (.int .i64 x2)).setCell ⟨w.heap.size+1,3,none⟩ (.int .i64 x3)).setCell ⟨w.heap.size+1,4,none⟩ (.string x4)).setCell ⟨w.heap.size+1,5,none⟩ (.string x5)).setCell ⟨w.heap.size+1,6,none⟩ (.string x6)).setCell ⟨w.heap.size+1,7,none⟩ (.slice xa xb xc)).setCell ⟨w.heap.size+1,8,none⟩ (.slice xd xe xf)).setCell ⟨w.heap.size+1,9,none⟩ (.slice xg xh xi)).setCell ⟨w.heap.size+1,10,none⟩ (.bool x7)).setCell ⟨w.heap.size+1,11,none⟩ (.string x8)):=⟨_,rfl⟩
   have rv5:w5.heap[w.heap.size+1]?=some (.cells #[.int .i64 x0,.int .i64 x1,.int .i64 x2,.int .i64 x3,.string x4,.string x5,.string x6,.slice xa xb xc,.slice xd xe xf,.slice xg xh xi,.bool x7,.string x8] 27 (0,0)):=by rw[hw5];exact row12_set w4 (hg:=(s4 (w.heap.size+1) (by omega)).trans HRV.out) ..
   have s5:∀ k,¬ k=w.heap.size+1→w5.heap[k]?=w4.heap[k]?:=fun k hk=>by rw[hw5];exact row12_other w4 _ k hk ..
   have z5:w5.heap.size=w4.heap.size:=by rw[hw5,row12_size]
   have o5:Below w.heap.size w4 w5:=by rw[hw5];exact row12_below w4 _ _ (Nat.le_succ _) _ _ _ _ _ _ _ _ _ _ _ _
   rw[←hw5]
   clear hw5 qk3 fk3 qv3 fv3
   have rk5:=(s5 w.heap.size (by omega)).trans rk4
   have qk5:∀ j,w5.cell? ⟨w.heap.size,j,none⟩=(#[.int .i64 y0,.int .i64 y1,.int .i64 y2,.int .i64 y3,.string y4,.string y5,.string y6,.slice ya yb yc,.slice yd ye yf,.slice yg yh yi,.bool y7,.string y8]:Array Value)[j]?:=fun j=>cell_of_row w5 _ j _ _ _ rk5
   have qv5:∀ j,w5.cell? ⟨w.heap.size+1,j,none⟩=(#[.int .i64 x0,.int .i64 x1,.int .i64 x2,.int .i64 x3,.string x4,.string x5,.string x6,.slice xa xb xc,.slice xd xe xf,.slice xg xh xi,.bool x7,.string x8]:Array Value)[j]?:=fun j=>cell_of_row w5 _ j _ _ _ rv5
   refine bodyPost_ret (v:=.tuple #[.agg #[.int .i64 y0,.int .i64 y1,.int .i64 y2,.int .i64 y3,.string y4,.string y5,.string y6,.slice ya yb yc,.slice yd ye yf,.slice yg yh yi,.bool y7,.string y8],.agg #[.int .i64 x0,.int .i64 x1,.int .i64 x2,.int .i64 x3,.string x4,.string x5,.string x6,.slice xa xb xc,.slice xd xe xf,.slice xg xh xi,.bool x7,.string x8]]) (by simp[results,Tryz.results85,go_sem,qk5,qv5]) rfl ?_
   have s35:∀ k,¬ (k=w.heap.size∨k=w.heap.size+1)→w5.heap[k]?=w3.heap[k]?:=fun k hk=>(s5 k (fun e=>hk (.inr e))).trans (s4 k (fun e=>hk (.inl e)))
   have hRk:∀ k,R k→w.heap.size+2≤k:=fun k hk=>by have:=(HM.out.new k hk).1;omega
   exact ⟨_,_,v3,R,rfl,IsN.frame (fun k hk=>⟨hk,s35 k (by have:=hRk k hk;omega)⟩) _ _ HNC.out,IsN.frame (fun k hk=>⟨hk,s35 k (by have:=hRk k hk;omega)⟩) _ _ HND.out,
    (HM.out.mono HK.out).put (fun k=>k=w.heap.size∨k=w.heap.size+1) (fun k hk=>⟨by omega,by omega,fun h=>by have:=hRk k h;omega,fun h=>by have:=(HM.out.own k h).1;omega⟩) s35 (by omega) ⟨o5.os.trans o4.os,o5.tape.trans o4.tape,o5.output.trans o4.output⟩⟩
 | false=>
  rw[if_neg (by rw[hmk];decide)] at ho
  obtain ⟨ko,hko,hrest⟩:∃ ko,implP s d p ko∧(match ko with | .bad q e=>o=.bad q e | .ok k=>andR (nodP s blk 5 c d (k.2+1)) (fun v o=>o=.ok (k.1,v.1,v.2)) o):=by
   rcases ho with ⟨q,e,h1,rfl⟩|⟨x,h1,h2⟩
   ·exact ⟨_,h1,rfl⟩
   ·exact ⟨_,h1,h2⟩
  clear ho
  have CK:=trKeyM_is K w0 hEv g hg0 s hs hPs d p (.slice va vm vc) ko w2 B2 ⟨_,_,_,rfl⟩ h2 hko
  go_wp2_with fail
  refine CK.mono ?_
  rintro e w3 hpost
  clear CK
  cases ko with
  | bad q e=>
   obtain ⟨rfl,k3⟩:=hpost
   have hrest:o=.bad q e:=hrest
   subst hrest
   exact ⟨rfl,rfl,k2.lx k3 k2.size⟩
  | ok k=>
   obtain ⟨cs,R1,rfl,hN,hR,T3,k3⟩:=hpost
   obtain ⟨y0,y1,y2,y3,y4,y5,y6,ya,yb,yc,yd,ye,yf,yg,yh,yi,y7,y8,rfl⟩:=hN.cells12
   obtain ⟨ko2,hko2,ho2⟩:∃ ko2,nodP s blk 5 c d (k.2+1) ko2∧o=rdMap (fun v=>(k.1,v.1,v.2)) ko2:=by
    rcases hrest with ⟨q,e,h1,rfl⟩|⟨x,h1,rfl⟩
    ·exact ⟨_,h1,rfl⟩
    ·exact ⟨_,h1,rfl⟩
   subst ho2
   have hkp:k.2<s.size:=impl_lt hko
   have z3:=k3.size
   have rk3:=(k3.block w.heap.size ⟨by omega,by omega⟩).trans rk2
   have rv3:=(k3.block (w.heap.size+1) ⟨by omega,by omega⟩).trans rv2
   have qk3:∀ j,w3.cell? ⟨w.heap.size,j,none⟩=(#[.int .i64 0,.int .i64 0,.int .i64 0,.int .i64 0,.string ⟨#[]⟩,.string ⟨#[]⟩,.string ⟨#[]⟩,.slice none 0 0,.slice none 0 0,.slice none 0 0,.bool false,.string ⟨#[]⟩]:Array Value)[j]?:=fun j=>cell_of_row w3 _ j _ _ _ rk3
   have fk3:∀ j,w3.frozen? ⟨w.heap.size,j,none⟩=false:=fun j=>frozen_of_row w3 _ j _ _ rk3
   have k23:=k2.lx k3 k2.size
   have HRK:=Lib.hid rk3
   have HRV:=Lib.hid rv3
   have HN:=Lib.hid hN
   clear hN rk3 rv3 k2 k3 h2 B2 rk2 rv2 hrest
   go_upto_region 4 with fail
   obtain ⟨w4,hw4⟩:∃ w4,w4=((((((((((((w3.setCell ⟨w.heap.size,0,none⟩ (.int .i64 y0)).setCell ⟨w.heap.size,1,none⟩ (.int .i64 y1)).setCell ⟨w.heap.size,2,none⟩ (.int .i64 y2)).setCell ⟨w.heap.size,3,none⟩ (.int .i64 y3)).setCell ⟨w.heap.size,4,none⟩ (.string y4)).setCell ⟨w.heap.size,5,none⟩ (.string y5)).setCell ⟨w.heap.size,6,none⟩ (.string y6)).setCell ⟨w.heap.size,7,none⟩ (.slice ya yb yc)).setCell ⟨w.heap.size,8,none⟩ (.slice yd ye yf)).setCell ⟨w.heap.size,9,none⟩ (.slice yg yh yi)).setCell ⟨w.heap.size,10,none⟩ (.bool y7)).setCell ⟨w.heap.size,11,none⟩ (.string y8)):=⟨_,rfl⟩
   have rk4:w4.heap[w.heap.size]?=some (.cells #[.int .i64 y0,.int .i64 y1,.int .i64 y2,.int .i64 y3,.string y4,.string y5,.string y6,.slice ya yb yc,.slice yd ye yf,.slice yg yh yi,.bool y7,.string y8] 27 (0,0)):=by rw[hw4];exact row12_set w3 (hg:=HRK.out) ..
   have s4:∀ k,¬ k=w.heap.size→w4.heap[k]?=w3.heap[k]?:=fun k hk=>by rw[hw4];exact row12_other w3 _ k hk ..
   have z4:w4.heap.size=w3.heap.size:=by rw[hw4,row12_size]
   have o4:Below w.heap.size w3 w4:=by rw[hw4];exact row12_below w3 _ _ (Nat.le_refl _) _ _ _ _ _ _ _ _ _ _ _ _
   rw[←hw4]
   clear hw4 qk3 fk3
   have T4:TrAt g s k.2 (.slice va vm vc) w4:=(s4 g (by omega)).trans T3
   have k4:Keep (Lx g w.heap.size) w w4:=k23.trans (Q:=fun j=>j<w.heap.size) (Keep.of o4 (fun _ h=>h)) (fun _ hk=>hk.1)
   have rv4:=(s4 (w.heap.size+1) (by omega)).trans HRV.out
   have c4:=T4.cell
   have f4:=T4.free
   have hR2:∀ j,R1 j→w.heap.size+2≤j∧j<w4.heap.size:=fun j hj=>by have:=hR j hj;omega
   have N4:IsN R1 w4 k.1 [.int .i64 y0,.int .i64 y1,.int .i64 y2,.int .i64 y3,.string y4,.string y5,.string y6,.slice ya yb yc,.slice yd ye yf,.slice yg yh yi,.bool y7,.string y8]:=IsN.frame (fun j hj=>⟨hj,s4 j (by have:=hR2 j hj;omega)⟩) k.1 _ HN.out
   clear HN HRK HRV T3 k23 o4
   go_upto_region 5 with fail
   have hq1:(k.2:Int)+1=((k.2+1:Nat):Int):=by omega
   try rw[hq1]
   clear hq1
   obtain ⟨w5,hw5⟩:∃ w5,w5=w4.setCell ⟨g,1,none⟩ (.int .i64 ((k.2+1:Nat):Int)):=⟨_,rfl⟩
   have s5:∀ j,¬ j=g→w5.heap[j]?=w4.heap[j]?:=fun j hj=>by rw[hw5];exact heap_setCell_other _ _ _ _ hj
   have z5:w5.heap.size=w4.heap.size:=by rw[hw5];simp[World.setCell]
   have T5:TrAt g s (k.2+1) (.slice va vm vc) w5:=by rw[hw5];exact heap_setCell_same _ _ 1 _ _ _ T4
   have k5:Keep (Lx g w.heap.size) w w5:=k4.trans (by rw[hw5];exact tr_keep1 _ _ _) (fun _ hk=>hk)
   rw[←hw5]
   clear hw5 c4 f4
   have rk5:=(s5 w.heap.size (by omega)).trans rk4
   have rv5:=(s5 (w.heap.size+1) (by omega)).trans rv4
   have N5:IsN R1 w5 k.1 [.int .i64 y0,.int .i64 y1,.int .i64 y2,.int .i64 y3,.string y4,.string y5,.string y6,.slice ya yb yc,.slice yd ye yf,.slice yg yh yi,.bool y7,.string y8]:=IsN.frame (fun j hj=>⟨hj,s5 j (by have:=hR2 j hj;omega)⟩) k.1 _ N4
   have B5:Below w0.heap.size w0 w5:=hB.trans (k5.below (fun j hj=>⟨by have:=hB.size;omega,by omega⟩))
   have CN:Calls Tryz.prog 15 #[.pointer (some ⟨g,0,none⟩),.agg #[.int .i64 5,.int .i64 (c:Int),.int .i64 (d:Int)]] w5.drew fun e w'=>TrPost g w5.drew ko2 (NodG g s w5.drew) e w':=trNode_is K w0 hEv g hg0 s hs hPs blk hblk hld 5 c d (k.2+1) (.slice va vm vc) ko2 w5.drew (B5.trans (Below.refl _ _).drew) ⟨_,_,_,rfl⟩ T5 (by omega) hko2
   have qk5:∀ j,w5.cell? ⟨w.heap.size,j,none⟩=(#[.int .i64 y0,.int .i64 y1,.int .i64 y2,.int .i64 y3,.string y4,.string y5,.string y6,.slice ya yb yc,.slice yd ye yf,.slice yg yh yi,.bool y7,.string y8]:Array Value)[j]?:=fun j=>cell_of_row w5 _ j _ _ _ rk5
   have fk5:∀ j,w5.frozen? ⟨w.heap.size,j,none⟩=false:=fun j=>frozen_of_row w5 _ j _ _ rk5
   have z5a:w4.heap.size≤w5.heap.size:=Nat.le_of_eq z5.symm
   have z4a:w3.heap.size≤w4.heap.size:=Nat.le_of_eq z4.symm
   have z5b:w5.heap.size≤w4.heap.size:=Nat.le_of_eq z5
   have HRK:=Lib.hid rk5
   have HRV:=Lib.hid rv5
   have HK5:=Lib.hid k5
   have HN5:=Lib.hid N5
   clear rk5 rv5 k5 N5 rk4 rv4 N4 k4 T4 T5 s4 s5 z4 z5
   have eK0:=setCell_self (i:=0) (u:=.int .i64 y0) HRK.out rfl
   have eK1:=setCell_self (i:=1) (u:=.int .i64 y1) HRK.out rfl
   have eK2:=setCell_self (i:=2) (u:=.int .i64 y2) HRK.out rfl
   have eK3:=setCell_self (i:=3) (u:=.int .i64 y3) HRK.out rfl
   have eK4:=setCell_self (i:=4) (u:=.string y4) HRK.out rfl
   have eK5:=setCell_self (i:=5) (u:=.string y5) HRK.out rfl
   have eK6:=setCell_self (i:=6) (u:=.string y6) HRK.out rfl
   have eK7:=setCell_self (i:=7) (u:=.slice ya yb yc) HRK.out rfl
   have eK8:=setCell_self (i:=8) (u:=.slice yd ye yf) HRK.out rfl
   have eK9:=setCell_self (i:=9) (u:=.slice yg yh yi) HRK.out rfl
   have eK10:=setCell_self (i:=10) (u:=.bool y7) HRK.out rfl
   have eK11:=setCell_self (i:=11) (u:=.string y8) HRK.out rfl
   cases ko2 with
   | bad r e=>
    go_region_dies
    all_goals
     refine CN.mono ?_
     rintro e wA ⟨rfl,kA⟩
     exact ⟨rfl,rfl,(HK5.out.lxB (Below.refl _ _).drew HK5.out.size).lx kA HK5.out.size⟩
   | ok x=>
    have CN:Calls Tryz.prog 15 #[.pointer (some ⟨g,0,none⟩),.agg #[.int .i64 5,.int .i64 (c:Int),.int .i64 (d:Int)]] w5.drew fun e w'=>NodG g s w5.drew x e w':=CN
    go_region_with (first|(go_at_call 15;refine CN.mono ?_;rintro e wA ⟨cs,v2,R2,rfl,hNA,M2⟩;obtain ⟨x0,x1,x2,x3,x4,x5,x6,xa,xb,xc,xd,xe,xf,xg,xh,xi,x7,x8,rfl⟩:=hNA.cells12;have kA:=M2.keep;have rkA:=(kA.block w.heap.size ⟨by show w.heap.size<w5.heap.size;omega,by omega⟩).trans HRK.out;have rvA:=(kA.block (w.heap.size+1) ⟨by show w.heap.size+1<w5.heap.size;omega,by omega⟩).trans HRV.out;have qkA:∀ j,wA.cell? ⟨w.heap.size,j,none⟩=(#[.int .i64 y0,.int .i64 y1,.int .i64 y2,.int .i64 y3,.string y4,.string y5,.string y6,.slice ya yb yc,.slice yd ye yf,.slice yg yh yi,.bool y7,.string y8]:Array Value)[j]?:=fun j=>cell_of_row wA _ j _ _ _ rkA;have fkA:∀ j,wA.frozen? ⟨w.heap.size,j,none⟩=false:=fun j=>frozen_of_row wA _ j _ _ rkA;have qvA:∀ j,wA.cell? ⟨w.heap.size+1,j,none⟩=(#[.int .i64 0,.int .i64 0,.int .i64 0,.int .i64 0,.string ⟨#[]⟩,.string ⟨#[]⟩,.string ⟨#[]⟩,.slice none 0 0,.slice none 0 0,.slice none 0 0,.bool false,.string ⟨#[]⟩]:Array Value)[j]?:=fun j=>cell_of_row wA _ j _ _ _ rvA;have fvA:∀ j,wA.frozen? ⟨w.heap.size+1,j,none⟩=false:=fun j=>frozen_of_row wA _ j _ _ rvA;have eA0:=setCell_self (i:=0) (u:=.int .i64 y0) rkA rfl;have eA1:=setCell_self (i:=1) (u:=.int .i64 y1) rkA rfl;have eA2:=setCell_self (i:=2) (u:=.int .i64 y2) rkA rfl;have eA3:=setCell_self (i:=3) (u:=.int .i64 y3) rkA rfl;have eA4:=setCell_self (i:=4) (u:=.string y4) rkA rfl;have eA5:=setCell_self (i:=5) (u:=.string y5) rkA rfl;have eA6:=setCell_self (i:=6) (u:=.string y6) rkA rfl;have eA7:=setCell_self (i:=7) (u:=.slice ya yb yc) rkA rfl;have eA8:=setCell_self (i:=8) (u:=.slice yd ye yf) rkA rfl;have eA9:=setCell_self (i:=9) (u:=.slice yg yh yi) rkA rfl;have eA10:=setCell_self (i:=10) (u:=.bool y7) rkA rfl;have eA11:=setCell_self (i:=11) (u:=.string y8) rkA rfl))
    all_goals
     obtain ⟨wB,hwB⟩:∃ wB,wB=((((((((((((wA.setCell ⟨w.heap.size+1,0,none⟩ (.int .i64 x0)).setCell ⟨w.heap.size+1,1,none⟩ (.int .i64 x1)).setCell ⟨w.heap.size+1,2,none⟩ (.int .i64 x2)).setCell ⟨w.heap.size+1,3,none⟩ (.int .i64 x3)).setCell ⟨w.heap.size+1,4,none⟩ (.string x4)).setCell ⟨w.heap.size+1,5,none⟩ (.string x5)).setCell ⟨w.heap.size+1,6,none⟩ (.string x6)).setCell ⟨w.heap.size+1,7,none⟩ (.slice xa xb xc)).setCell ⟨w.heap.size+1,8,none⟩ (.slice xd xe xf)).setCell ⟨w.heap.size+1,9,none⟩ (.slice xg xh xi)).setCell ⟨w.heap.size+1,10,none⟩ (.bool x7)).setCell ⟨w.heap.size+1,11,none⟩ (.string x8)):=⟨_,rfl⟩
     have rvB:wB.heap[w.heap.size+1]?=some (.cells #[.int .i64 x0,.int .i64 x1,.int .i64 x2,.int .i64 x3,.string x4,.string x5,.string x6,.slice xa xb xc,.slice xd xe xf,.slice xg xh xi,.bool x7,.string x8] 27 (0,0)):=by rw[hwB];exact row12_set wA (hg:=rvA) ..
     have sB:∀ k,¬ k=w.heap.size+1→wB.heap[k]?=wA.heap[k]?:=fun k hk=>by rw[hwB];exact row12_other wA _ k hk ..
     have zB:wB.heap.size=wA.heap.size:=by rw[hwB,row12_size]
     have oB:Below (w.heap.size+1) wA wB:=by rw[hwB];exact row12_below wA _ _ (Nat.le_refl _) _ _ _ _ _ _ _ _ _ _ _ _
     rw[←hwB]
     clear hwB qkA fkA qvA fvA eA0 eA1 eA2 eA3 eA4 eA5 eA6 eA7 eA8 eA9 eA10 eA11
     have rkB:=(sB w.heap.size (by omega)).trans rkA
     have qkB:∀ j,wB.cell? ⟨w.heap.size,j,none⟩=(#[.int .i64 y0,.int .i64 y1,.int .i64 y2,.int .i64 y3,.string y4,.string y5,.string y6,.slice ya yb yc,.slice yd ye yf,.slice yg yh yi,.bool y7,.string y8]:Array Value)[j]?:=fun j=>cell_of_row wB _ j _ _ _ rkB
     have qvB:∀ j,wB.cell? ⟨w.heap.size+1,j,none⟩=(#[.int .i64 x0,.int .i64 x1,.int .i64 x2,.int .i64 x3,.string x4,.string x5,.string x6,.slice xa xb xc,.slice xd xe xf,.slice xg xh xi,.bool x7,.string x8]:Array Value)[j]?:=fun j=>cell_of_row wB _ j _ _ _ rvB
     have zA:w5.heap.size≤wA.heap.size:=kA.size
     have k5d:Keep (Lx g w.heap.size) w w5.drew:=HK5.out.lxB (Below.refl _ _).drew HK5.out.size
     have HM2:=Lib.hid M2
     have HNA:=Lib.hid hNA
     have HKA:=Lib.hid kA
     clear M2 hNA kA rkA rvA rkB rvB
     go_wp2
     refine bodyPost_ret (v:=.tuple #[.agg #[.int .i64 y0,.int .i64 y1,.int .i64 y2,.int .i64 y3,.string y4,.string y5,.string y6,.slice ya yb yc,.slice yd ye yf,.slice yg yh yi,.bool y7,.string y8],.agg #[.int .i64 x0,.int .i64 x1,.int .i64 x2,.int .i64 x3,.string x4,.string x5,.string x6,.slice xa xb xc,.slice xd xe xf,.slice xg xh xi,.bool x7,.string x8]]) (by simp[results,Tryz.results85,go_sem,qkB,qvB]) rfl ?_
     have hR2n:∀ j,R2 j→w5.heap.size≤j∧j<wA.heap.size:=fun j hj=>HM2.out.new j hj
     have hv2n:∀ j,v2.ownBlock=some j→w5.heap.size≤j∧¬ R2 j:=fun j hj=>HM2.out.own j hj
     have MM:=(HM2.out.mono k5d).put (fun j=>j=w.heap.size+1) (fun j hj=>⟨by omega,by omega,fun h=>by have:=(hR2n j h).1;omega,fun h=>by have:=(hv2n j h).1;omega⟩) sB zB ⟨oB.os,oB.tape,oB.output⟩
     refine ⟨_,_,v2,fun j=>R1 j∨R2 j,rfl,IsN.frame (w:=w5) (fun j hj=>⟨.inl hj,(sB j (by have:=hR2 j hj;omega)).trans (HKA.out.block j ⟨by have:=hR2 j hj;show j<w5.heap.size;omega,by have:=hR2 j hj;omega⟩)⟩) _ _ HN5.out,IsN.frame (fun j hj=>⟨.inr hj,sB j (by have:=(hR2n j hj).1;omega)⟩) _ _ HNA.out,?_⟩
     exact ⟨MM.cells,MM.has,fun j hj=>⟨(MM.own j hj).1,fun h=>by
      rcases h with h|h
      ·have:=hR2 j h;have:=(hv2n j hj).1;omega
      ·exact (hv2n j hj).2 h⟩,fun j hj=>by
      rcases hj with h|h
      ·have:=hR2 j h;omega
      ·have:=hR2n j h;omega,MM.keep,MM.le,MM.few⟩
end Go.Proofs.YthcmkpiajkbpnaaGreatDoor
namespace Go.Proofs.YthcmkpiajkbpnaaGreatDoor
open Go.RowKit
def FarB (s:ByteArray) (blk:Nat→Nat→Rd Tre→Prop):Prop:=∀ d p x,p≤s.size→blk d p (.ok x)→p≤x.2.2∧x.2.2≤s.size
theorem cnt_far {s:ByteArray} {n:Int} {d p:Nat} {x:Tre} (h:cntP s n d p (.ok x)):p≤x.2.2∧x.2.2≤s.size:=by
 rcases h with ⟨_,_,_,e⟩|⟨y,h1,h⟩
 ·cases e
 ·rcases h with ⟨_,_,_,e⟩|⟨b,h2,e⟩
  ·cases e
  ·injection e with e;subst e
   have f1:=leaf_far h1
   have f2:=pass_far h2 f1.2
   rw[trailT_at]
   omega
theorem beg_far {s:ByteArray} {blk:Nat→Nat→Rd Tre→Prop} (hl:FarB s blk) {b:Nat} {n:Int} {d fro p:Nat} {x:Tre} (hp:p≤s.size) (h:bgnP s blk b n d fro p (.ok x)):p≤x.2.2∧x.2.2≤s.size:=by
 obtain ⟨op,_,h⟩:=h
 split at h
 ·split at h
  ·exact hl _ _ _ hp h
  ·split at h
   ·cases h
   ·rcases h with ⟨_,_,e⟩|⟨_,h⟩
    ·cases e
    ·exact hl _ _ _ hp h
 ·obtain ⟨A,T,E,C,hZ,h⟩:=h
  obtain ⟨E',rfl,e1,e2⟩:=hZ.far_le hp
  split at h
  ·cases h
  ·split at h
   ·exact cnt_far h
   ·rcases h with ⟨_,_,_,e⟩|⟨y,h1,e⟩
    ·cases e
    ·injection e with e;subst e
     show p≤y.1.2.2∧y.1.2.2≤s.size
     rw[Int.toNat_natCast] at h1
     rcases h1 with ⟨_,_,_,e⟩|⟨l,h2,h1⟩
     ·cases e
     ·have hf:=pass_far h2 e2
      split at h1
      ·injection h1 with h1;subst h1
       show p≤(emptyT _ _ _ _).2.2∧(emptyT _ _ _ _).2.2≤_
       rw[emptyT_at]
       omega
      ·have own:∀ {o},ownC s n d l o→o=.ok y→p≤y.1.2.2∧y.1.2.2≤s.size:=fun {o} ho he=>by
        subst he
        unfold ownC at ho
        split at ho
        ·cases ho
        ·rcases ho with ⟨_,_,_,e⟩|⟨z,h3,e⟩
         ·cases e
         ·injection e with e;subst e
          have:=cnt_far h3
          show p≤z.2.2∧z.2.2≤s.size
          omega
       unfold ownP at h1
       split at h1
       ·obtain ⟨op,_,h1⟩:=h1
        split at h1
        ·rcases h1 with ⟨_,_,_,e⟩|⟨z,h3,e⟩
         ·cases e
         ·injection e with e;subst e
          have:=hl _ _ _ hf.2 h3
          show p≤z.2.2∧z.2.2≤s.size
          omega
        ·exact own h1 rfl
       ·exact own h1 rfl
theorem nodP_far {s:ByteArray} {blk:Nat→Nat→Rd Tre→Prop} (hl:FarB s blk) {b:Nat} {n:Int} {d p:Nat} {x:Tre} (hp:p≤s.size) (h:nodP s blk b n d p (.ok x)):p≤x.2.2∧x.2.2≤s.size:=by
 rcases h with ⟨_,_,_,e⟩|⟨l,h1,h⟩
 ·cases e
 ·have hf:=pass_far h1 hp
  split at h
  ·injection h with h;subst h
   rw[emptyT_at]
   exact hf
  ·rcases h with ⟨_,_,_,e⟩|⟨y,h2,e⟩
   ·cases e
   ·injection e with e;subst e
    have:=beg_far hl hf.2 h2
    show p≤y.2.2∧y.2.2≤s.size
    omega
def SeqK (s:ByteArray) (blk:Nat→Nat→Rd Tre→Prop) (c deep:Nat) (o:Rd (List NT × Coms × Nat)):Nat→Nat→Coms→List NT→Prop
 | 0,_,_,_=>False
 | k+1,p,lead,kids=>(∃ q e,nodP s blk 2 c deep (p+1) (.bad q e)∧o=.bad q e)∨∃ x m j,nodP s blk 2 c deep (p+1) (.ok x)∧Abv s p j m ∧
   if colF s x.2.2=c∧markB s x.2.2 45=true then SeqK s blk c deep o k x.2.2 x.2.1 (kids++[x.1.withTop (lead++x.1.h.lead) m]) else o=.ok (kids++[x.1.withTop (lead++x.1.h.lead) m],x.2)
theorem SeqP.rounds {s:ByteArray} {blk:Nat→Nat→Rd Tre→Prop} {c deep:Nat} {o:Rd (List NT × Coms × Nat)} {p:Nat} {lead:Coms} {kids:List NT} (h:SeqP s blk c deep o p lead kids):∃ k,SeqK s blk c deep o k p lead kids:=by
 induction h with
 | bad h1 h2=>exact ⟨1,.inl ⟨_,_,h1,h2⟩⟩
 | stop h1 h2 h3 h4=>exact ⟨1,.inr ⟨_,_,_,h1,h2,by rw[if_neg (fun h=>h3.elim (fun e=>e h.1) (fun e=>by rw[h.2] at e;cases e))];exact h4⟩⟩
 | go h1 h2 h3 h4 _ ih=>
  obtain ⟨k,hk⟩:=ih
  exact ⟨k+1,.inr ⟨_,_,_,h1,h2,by rw[if_pos ⟨h3,h4⟩];exact hk⟩⟩
def MapK (s:ByteArray) (blk:Nat→Nat→Rd Tre→Prop) (c deep:Nat) (o:Rd (List NT × Coms × Nat)):Nat→Nat→Coms→List NT→Prop
 | 0,_,_,_=>False
 | k+1,p,lead,kids=>(∃ q e,pairP s blk c deep p (.bad q e)∧o=.bad q e)∨∃ x m j,pairP s blk c deep p (.ok x)∧Abv s p j m ∧
   if colF s x.2.2.2=c∧overB s x.2.2.2=false then ∃ r,KeyR s x.2.2.2 r∧if (r.isSome||markB s x.2.2.2 63)=true then MapK s blk c deep o k x.2.2.2 x.2.2.1 (kids++[x.1.withTop (lead++x.1.h.lead) m,x.2.1]) else o=.ok (kids++[x.1.withTop (lead++x.1.h.lead) m,x.2.1],x.2.2)
   else o=.ok (kids++[x.1.withTop (lead++x.1.h.lead) m,x.2.1],x.2.2)
theorem MapP.rounds {s:ByteArray} {blk:Nat→Nat→Rd Tre→Prop} {c deep:Nat} {o:Rd (List NT × Coms × Nat)} {p:Nat} {lead:Coms} {kids:List NT} (h:MapP s blk c deep o p lead kids):∃ k,MapK s blk c deep o k p lead kids:=by
 induction h with
 | bad h1 h2=>exact ⟨1,.inl ⟨_,_,h1,h2⟩⟩
 | stop h1 h2 h3 h4=>exact ⟨1,.inr ⟨_,_,_,h1,h2,by rw[if_neg (fun h=>h3.elim (fun e=>e h.1) (fun e=>by rw[h.2] at e;cases e))];exact h4⟩⟩
 | none h1 h2 h3 h4 h5 h6 h7=>exact ⟨1,.inr ⟨_,_,_,h1,h2,by rw[if_pos ⟨h3,h4⟩];exact ⟨_,h5,by rw[if_neg (by rw[h6];decide)];exact h7⟩⟩⟩
 | @go p lead kids x m j r h1 h2 h3 h4 h5 h6 _ ih=>
  obtain ⟨k,hk⟩:=ih
  refine ⟨k+1,.inr ⟨_,_,_,h1,h2,?_⟩⟩
  rw[if_pos ⟨h3,h4⟩]
  refine ⟨_,h5,?_⟩
  rw[if_pos (by
   rw[Bool.or_eq_true]
   refine h6.imp (fun h=>?_) id
   cases r with
   | none=>exact absurd rfl h
   | some _=>rfl)]
  exact hk
structure BlM (g:Nat) (s:ByteArray) (kd:Int) (p0:Nat) (w wr:World) (p:Nat) (v:Value) (L:Coms) (kids:List NT) (kv:Value) (cs:List Value) (R:Nat→Prop):Prop where
 row:wr.heap[w.heap.size+1]?=some (.cells #[.int .i64 kd,.int .i64 6,.int .i64 (p0:Int),.int .i64 0,.string ⟨#[]⟩,.string ⟨#[]⟩,.string ⟨#[]⟩,kv,.slice none 0 0,.slice none 0 0,.bool false,.string ⟨#[]⟩] 27 (0,0))
 res:wr.heap[w.heap.size]?=some (.cells #[.int .i64 0,.int .i64 0,.int .i64 0,.int .i64 0,.string ⟨#[]⟩,.string ⟨#[]⟩,.string ⟨#[]⟩,.slice none 0 0,.slice none 0 0,.slice none 0 0,.bool false,.string ⟨#[]⟩] 27 (0,0))
 m:TrM g s w wr p v L (fun k=>R k∨kv.ownBlock=some k)
 has:HasV 12 wr kv kids.length cs
 nodes:IsKL R wr cs kids
 old:∀ k,R k∨kv.ownBlock=some k∨v.ownBlock=some k→w.heap.size+2≤k
 apart:∀ k,R k→kv.ownBlock≠some k
theorem BlM.two {g:Nat} {s:ByteArray} {kd:Int} {p0:Nat} {w wr:World} {p:Nat} {v:Value} {L:Coms} {kids:List NT} {kv:Value} {cs:List Value} {R:Nat→Prop} (C:BlM g s kd p0 w wr p v L kids kv cs R):w.heap.size+2≤wr.heap.size:=(Array.getElem?_eq_some_iff.1 C.row).1
theorem BlM.post {g:Nat} {s:ByteArray} {kd:Int} {p0:Nat} {w wr w9:World} {p:Nat} {v:Value} {L:Coms} {kids:List NT} {kv:Value} {cs:List Value} {R:Nat→Prop} (C:BlM g s kd p0 w wr p v L kids kv cs R) (hg:g<w.heap.size) (hs:∀ k,¬ k=w.heap.size→w9.heap[k]?=wr.heap[k]?) (hz:w9.heap.size=wr.heap.size) (ho:w9.os=wr.os∧w9.tape=wr.tape∧w9.output=wr.output) :
  NodG g s w (.mk ⟨kd,6,p0,0,[],[],[],[],[],false,[]⟩ kids,L,p) (.returned (.agg #[.int .i64 kd,.int .i64 6,.int .i64 (p0:Int),.int .i64 0,.string ⟨#[]⟩,.string ⟨#[]⟩,.string ⟨#[]⟩,kv,.slice none 0 0,.slice none 0 0,.bool false,.string ⟨#[]⟩])) w9:=by
 have MP:=C.m.put (w12:=w9) (fun k=>k=w.heap.size) (fun k hk=>⟨by omega,by omega,fun h=>by have:=C.old k (h.elim .inl (fun h=>.inr (.inl h)));omega,fun h=>by have:=C.old k (.inr (.inr h));omega⟩) hs hz ho
 refine ⟨_,v,_,rfl,?_,MP⟩
 obtain ⟨ao,b,off,cap,rfl,hcm,hc,hlt⟩:=C.has
 refine IsN.shut (hd:=⟨kd,6,p0,0,[],[],[],[],[],false,[]⟩) (ComsR.nil _ _) (ComsR.nil _ _) ⟨ao,cap,rfl,hc.le,hcm,fun h0=>?_⟩
 have ha:=hc.addr (Nat.lt_of_lt_of_le h0 hc.le)
 have hb:=C.old b (.inr (.inl (by rw[ha];rfl)))
 refine ⟨b,off,ha,.inr (by rw[ha];rfl),IsKL.toKids _ off cs (IsKL.frame (fun k hk=>⟨.inl hk,hs k (by have:=C.old k (.inl hk);omega)⟩) _ _ C.nodes) fun j u hu=>?_⟩
 exact (World.cell?_of_block (a:=⟨b,off+j,none⟩) (hs b (by omega))).trans (hc.olds j u hu)
end Go.Proofs.YthcmkpiajkbpnaaGreatDoor
