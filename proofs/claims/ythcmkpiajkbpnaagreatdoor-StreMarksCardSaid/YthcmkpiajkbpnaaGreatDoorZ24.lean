/- Parts of the proof, put together from smaller texts (blanks that Lean does not want are struck). Conditions: those that each theorem writes out. -/
import Derived.Test.YthcmkpiajkbpnaaGreatDoorZ23
namespace Go.Proofs.YthcmkpiajkbpnaaGreatDoor
open Go.RowKit
set_option maxRecDepth 100000 in
set_option maxHeartbeats 1600000 in
theorem trNamed_bad (w0:World) (g:Nat) (s:ByteArray) (hs:s.size≤10000) (b:Nat) (n:Int) (d p:Nat) (v:Value) (o:Rd Tre) (w:World) (hB:Below w0.heap.size w0 w) (hv:∃ a n c,v=.slice a n c) (h:TrAt g s p v w) (A T:List UInt8) (E:Nat) (C:Int) (hZ:PropZ s (p:Int) false A T (E:Int) C) (hC:C≠0) (ho:o=.bad E C) :
  Calls Tryz.prog 31 #[.pointer (some ⟨g,0,none⟩),.agg #[.int .i64 (b:Int),.int .i64 n,.int .i64 (d:Int)]] w fun e w'=>TrPost g w o (NodG g s w) e w':=by
 have hg:=h.lt
 obtain ⟨W1,hW1⟩:∃ W1,W1=(w.alloc (.cells #[.int .i64 (b:Int),.int .i64 n,.int .i64 (d:Int)] 55)).alloc (.cells #[.int .i64 0,.int .i64 0,.int .i64 0,.int .i64 0,.string ⟨#[]⟩,.string ⟨#[]⟩,.string ⟨#[]⟩,.slice none 0 0,.slice none 0 0,.slice none 0 0,.bool false,.string ⟨#[]⟩] 27):=⟨_,rfl⟩
 have u1:W1.heap.size=w.heap.size+2:=by rw[hW1];simp
 have b1:Below w.heap.size w W1:=by rw[hW1];exact ((Below.refl _ _).alloc (Nat.le_refl _) _).alloc (by simp) _
 have rp:W1.heap[w.heap.size]?=some (.cells #[.int .i64 (b:Int),.int .i64 n,.int .i64 (d:Int)] 55 (0,0)):=by rw[hW1];exact (heap_alloc_old _ _ (by simp)).trans (heap_alloc_new w _)
 have ra:W1.heap[w.heap.size+1]?=some (.cells #[.int .i64 0,.int .i64 0,.int .i64 0,.int .i64 0,.string ⟨#[]⟩,.string ⟨#[]⟩,.string ⟨#[]⟩,.slice none 0 0,.slice none 0 0,.slice none 0 0,.bool false,.string ⟨#[]⟩] 27 (0,0)):=by
  rw[hW1]
  have:=heap_alloc_new (w.alloc (.cells #[.int .i64 (b:Int),.int .i64 n,.int .i64 (d:Int)] 55)) (.cells #[.int .i64 0,.int .i64 0,.int .i64 0,.int .i64 0,.string ⟨#[]⟩,.string ⟨#[]⟩,.string ⟨#[]⟩,.slice none 0 0,.slice none 0 0,.slice none 0 0,.bool false,.string ⟨#[]⟩] 27)
  simpa using this
 have h1:=h.below b1 hg
 have B1:Below w0.heap.size w0 W1:=hB.trans (b1.mono hB.size)
 have c1:=h1.cell
 obtain ⟨va,vm,vc,rfl⟩:=hv
 have HW:=Lib.hid hW1
 have HB1:=Lib.hid B1
 have HT1:=Lib.hid h1
 have CP:=propRead_is A T (E:Int) C s (p:Int) false W1 (by omega) hZ
 clear hW1 hZ h1 B1 h
 go_enter Tryz.func31,Tryz.ntmps31
 go_upto_region 1 with fail
 rw[←HW.out]
 go_wp2_with fail
 refine CP.mono ?_
 rintro e w2 ⟨rfl,b2⟩
 clear CP
 go_wp2_with fail
 refine (trExpect_bad E C hC _).mono ?_
 rintro e w3 ⟨rfl,rfl⟩
 subst ho
 exact ⟨rfl,rfl,(below_lx b1).lxB b2 b1.size⟩
set_option maxRecDepth 100000 in
set_option maxHeartbeats 1600000 in
theorem trNamed_bare {Ev:World→Prop} {P:ByteArray→Prop} (K:CntC Ev P) (w0:World) (hEv:Ev w0) (g:Nat) (s:ByteArray) (hs:s.size≤10000) (hPs:P s) (b:Nat) (n:Int) (d p:Nat) (v:Value) (o:Rd Tre) (w:World) (hB:Below w0.heap.size w0 w) (hv:∃ a n c,v=.slice a n c) (h:TrAt g s p v w) (hp:p<s.size) (A T:List UInt8) (hZ:PropZ s (p:Int) false A T (p:Int) 0) (ho:cntP s n d p o) :
  Calls Tryz.prog 31 #[.pointer (some ⟨g,0,none⟩),.agg #[.int .i64 (b:Int),.int .i64 n,.int .i64 (d:Int)]] w fun e w'=>TrPost g w o (NodG g s w) e w':=by
 have hg:=h.lt
 obtain ⟨W1,hW1⟩:∃ W1,W1=(w.alloc (.cells #[.int .i64 (b:Int),.int .i64 n,.int .i64 (d:Int)] 55)).alloc (.cells #[.int .i64 0,.int .i64 0,.int .i64 0,.int .i64 0,.string ⟨#[]⟩,.string ⟨#[]⟩,.string ⟨#[]⟩,.slice none 0 0,.slice none 0 0,.slice none 0 0,.bool false,.string ⟨#[]⟩] 27):=⟨_,rfl⟩
 have u1:W1.heap.size=w.heap.size+2:=by rw[hW1];simp
 have b1:Below w.heap.size w W1:=by rw[hW1];exact ((Below.refl _ _).alloc (Nat.le_refl _) _).alloc (by simp) _
 have rp:W1.heap[w.heap.size]?=some (.cells #[.int .i64 (b:Int),.int .i64 n,.int .i64 (d:Int)] 55 (0,0)):=by rw[hW1];exact (heap_alloc_old _ _ (by simp)).trans (heap_alloc_new w _)
 have ra:W1.heap[w.heap.size+1]?=some (.cells #[.int .i64 0,.int .i64 0,.int .i64 0,.int .i64 0,.string ⟨#[]⟩,.string ⟨#[]⟩,.string ⟨#[]⟩,.slice none 0 0,.slice none 0 0,.slice none 0 0,.bool false,.string ⟨#[]⟩] 27 (0,0)):=by
  rw[hW1]
  have:=heap_alloc_new (w.alloc (.cells #[.int .i64 (b:Int),.int .i64 n,.int .i64 (d:Int)] 55)) (.cells #[.int .i64 0,.int .i64 0,.int .i64 0,.int .i64 0,.string ⟨#[]⟩,.string ⟨#[]⟩,.string ⟨#[]⟩,.slice none 0 0,.slice none 0 0,.slice none 0 0,.bool false,.string ⟨#[]⟩] 27)
  simpa using this
 have h1:=h.below b1 hg
 have B1:Below w0.heap.size w0 W1:=hB.trans (b1.mono hB.size)
 have c1:=h1.cell
 obtain ⟨va,vm,vc,rfl⟩:=hv
 have HW:=Lib.hid hW1
 have HB1:=Lib.hid B1
 have HT1:=Lib.hid h1
 have CP:=propRead_is A T (p:Int) 0 s (p:Int) false W1 (by omega) hZ
 have CC:=fun W hW hT=>trContent_is K w0 hEv g s hs hPs b n d p (.slice va vm vc) o W hW ⟨_,_,_,rfl⟩ hT hp ho
 clear hW1 hZ h1 B1 h ho
 go_enter Tryz.func31,Tryz.ntmps31
 go_upto_region 1 with fail
 rw[←HW.out]
 go_wp2_with fail
 refine CP.mono ?_
 rintro e w2 ⟨rfl,b2⟩
 clear CP
 have sz2:=b2.size
 have h2:=HT1.out.below b2 HT1.out.lt
 have B2:=HB1.out.trans (b2.mono HB1.out.size)
 have k2:Keep (Lx g w.heap.size) w w2:=(below_lx b1).lxB b2 b1.size
 have qp2:∀ j,w2.cell? ⟨w.heap.size,j,none⟩=(#[.int .i64 (b:Int),.int .i64 n,.int .i64 (d:Int)]:Array Value)[j]?:=fun j=>(b2.cell (p:=⟨w.heap.size,j,none⟩) (by show w.heap.size<_;omega)).trans (cell_of_row W1 _ j _ _ _ rp)
 have ra2:=(b2.block (w.heap.size+1) (by omega)).trans ra
 have KS:=Lib.hid k2
 have HR:=Lib.hid ra2
 clear rp ra c1 b1 k2 ra2
 go_wp2_with fail
 refine (trExpect_ok p _).mono ?_
 rintro e w3 ⟨rfl,rfl⟩
 go_wp2_with fail
 refine (CC _ B2 h2).mono ?_
 rintro e w5 hpost
 have k2:=KS.out
 cases o with
 | bad q c=>
  obtain ⟨rfl,k5⟩:=hpost
  exact ⟨rfl,rfl,k2.lx k5 k2.size⟩
 | ok x=>
  obtain ⟨cs,v5,R,rfl,hN,M⟩:=hpost
  obtain ⟨y0,y1,y2,y3,y4,y5,y6,ya,yb,yc,yd,ye,yf,yg,yh,yi,y7,y8,rfl⟩:=hN.cells12
  have k5:=M.keep
  have z5:=k5.size
  have ra5:=(k5.block (w.heap.size+1) ⟨by omega,by omega⟩).trans HR.out
  have qa5:∀ j,w5.cell? ⟨w.heap.size+1,j,none⟩=(#[.int .i64 0,.int .i64 0,.int .i64 0,.int .i64 0,.string ⟨#[]⟩,.string ⟨#[]⟩,.string ⟨#[]⟩,.slice none 0 0,.slice none 0 0,.slice none 0 0,.bool false,.string ⟨#[]⟩]:Array Value)[j]?:=fun j=>cell_of_row w5 _ j _ _ _ ra5
  have fa5:∀ j,w5.frozen? ⟨w.heap.size+1,j,none⟩=false:=fun j=>frozen_of_row w5 _ j _ _ ra5
  have HRA5:=Lib.hid ra5
  have HM5:=Lib.hid M
  have HN5:=Lib.hid hN
  clear M hN k5 ra5
  go_wp2
  obtain ⟨w12,hw12⟩:∃ w12,w12=((((((((((((w5.setCell ⟨w.heap.size+1,0,none⟩ (.int .i64 y0)).setCell ⟨w.heap.size+1,1,none⟩ (.int .i64 y1)).setCell ⟨w.heap.size+1,2,none⟩ (.int .i64 y2)).setCell ⟨w.heap.size+1,3,none⟩ (.int .i64 y3)).setCell ⟨w.heap.size+1,4,none⟩ (.string y4)).setCell ⟨w.heap.size+1,5,none⟩ (.string y5)).setCell ⟨w.heap.size+1,6,none⟩ (.string y6)).setCell ⟨w.heap.size+1,7,none⟩ (.slice ya yb yc)).setCell ⟨w.heap.size+1,8,none⟩ (.slice yd ye yf)).setCell ⟨w.heap.size+1,9,none⟩ (.slice yg yh yi)).setCell ⟨w.heap.size+1,10,none⟩ (.bool y7)).setCell ⟨w.heap.size+1,11,none⟩ (.string y8)):=⟨_,rfl⟩
  have rw12:w12.heap[w.heap.size+1]?=some (.cells #[.int .i64 y0,.int .i64 y1,.int .i64 y2,.int .i64 y3,.string y4,.string y5,.string y6,.slice ya yb yc,.slice yd ye yf,.slice yg yh yi,.bool y7,.string y8] 27 (0,0)):=by rw[hw12];exact row12_set w5 (hg:=HRA5.out) ..
  have bw12:Below (w.heap.size+1) w5 w12:=by rw[hw12];exact row12_below w5 _ _ (Nat.le_refl _) _ _ _ _ _ _ _ _ _ _ _ _
  have zw12:w12.heap.size=w5.heap.size:=by rw[hw12,row12_size]
  have sw12:∀ k,¬ k=w.heap.size+1→w12.heap[k]?=w5.heap[k]?:=fun k hk=>by rw[hw12];exact row12_other w5 _ k hk ..
  rw[←hw12]
  clear hw12
  have hcz:∀ j,w12.cell? ⟨w.heap.size+1,j,none⟩=(#[.int .i64 y0,.int .i64 y1,.int .i64 y2,.int .i64 y3,.string y4,.string y5,.string y6,.slice ya yb yc,.slice yd ye yf,.slice yg yh yi,.bool y7,.string y8]:Array Value)[j]?:=fun j=>cell_of_row w12 _ j _ _ _ rw12
  refine bodyPost_ret (v:=.agg #[.int .i64 y0,.int .i64 y1,.int .i64 y2,.int .i64 y3,.string y4,.string y5,.string y6,.slice ya yb yc,.slice yd ye yf,.slice yg yh yi,.bool y7,.string y8]) (by simp[results,Tryz.results31,go_sem,hcz]) rfl ?_
  have M:=HM5.out
  have MP:=(M.mono k2).put (w12:=w12) (fun k=>k=w.heap.size+1) (fun k hk=>⟨by omega,by omega,fun h=>by have:=(M.new k h).1;omega,fun h=>by have:=(M.own k h).1;omega⟩) sw12 zw12 ⟨bw12.os,bw12.tape,bw12.output⟩
  exact ⟨_,v5,R,rfl,IsN.frame (fun k hk=>⟨hk,sw12 k (by have:=(M.new k hk).1;omega)⟩) x.1 _ HN5.out,MP⟩
theorem name_end {g:Nat} {s:ByteArray} {w w5 w12:World} {y:NT} {l:Coms} {p q nb:Nat} {L:Coms} {v:Value} {R:Nat→Prop} {A T:List UInt8} {c0 c1 c2 c3 c4 c5 c6 c7 c8 c9 c10 c11:Value} (M:TrM g s w w5 q v L R) (hN:IsN R w5 (y.withLead l) [c0,c1,c2,c3,c4,c5,c6,c7,c8,c9,c10,c11]) (hnb:w.heap.size≤nb) (hng:nb≠g) (hnR:¬ R nb∧¬ R (w.heap.size+1)) (hnV:v.ownBlock≠some nb∧v.ownBlock≠some (w.heap.size+1)) (hg:g<w.heap.size)
  (hs:∀ k,¬ k=w.heap.size+1→¬ k=nb→w12.heap[k]?=w5.heap[k]?) (hz:w12.heap.size=w5.heap.size) (ho:w12.os=w5.os∧w12.tape=w5.tape∧w12.output=w5.output) :
  NodG g s w (y.withHead A T p l,L,q) (.returned (.agg #[c0,c1,.int .i64 (p:Int),c3,.string ⟨A.toArray⟩,.string ⟨T.toArray⟩,c6,c7,c8,c9,c10,c11])) w12:=by
 have MP:=M.put (w12:=w12) (fun k=>k=w.heap.size+1∨k=nb) (fun k hk=>by
  rcases hk with rfl|rfl
  ·exact ⟨by omega,by omega,hnR.2,hnV.2⟩
  ·exact ⟨hnb,hng,hnR.1,hnV.1⟩) (fun k hk=>hs k (fun e=>hk (.inl e)) (fun e=>hk (.inr e))) hz ho
 refine ⟨_,v,R,rfl,?_,MP⟩
 obtain ⟨kv,lv,fv,e,h1,h2,h3⟩:=hN.open
 unfold headC at e
 simp only[List.cons.injEq,and_true] at e
 obtain ⟨rfl,rfl,rfl,rfl,rfl,rfl,rfl,rfl,rfl,rfl,rfl,rfl⟩:=e
 have fr:∀ b,R b→R b∧w12.heap[b]?=w5.heap[b]?:=fun b hb=>⟨hb,hs b (fun e=>hnR.2 (e ▸ hb)) (fun e=>hnR.1 (e ▸ hb))⟩
 exact IsN.shut (hd:={ y.h with anchor:=A,tag:=T,at':=p,lead:=l }) (h1.frame fr) (h2.frame fr) (h3.frame fr)
theorem empty_lead (key:Bool) (L:Coms) (S:Bool) (q:Nat):(emptyT key L S q).1.withLead []=(emptyT key L S q).1:=by
 unfold emptyT
 split <;> rfl
theorem empty_few (key:Bool) (L:Coms) (S:Bool) (q:Nat):(emptyT key L S q).2.1.length≤L.length:=by
 unfold emptyT
 split
 ·exact Nat.le_succ _
 ·exact Nat.le_refl _
set_option maxRecDepth 100000 in
set_option maxHeartbeats 3200000 in
theorem trNamed_props {Ev:World→Prop} {P:ByteArray→Prop} (K:CntC Ev P) (w0:World) (hEv:Ev w0) (g:Nat) (hg0:w0.heap.size≤g) (s:ByteArray) (hs:s.size≤10000) (hPs:P s) (blk:Nat→Nat→Rd Tre→Prop) (hblk:BlkC w0 g s blk) (b:Nat) (n:Int) (d p:Nat) (v:Value) (o:Rd Tre) (w:World) (hB:Below w0.heap.size w0 w) (hv:∃ a n c,v=.slice a n c) (h:TrAt g s p v w) (A T:List UInt8) (E:Nat) (hZ:PropZ s (p:Int) false A T (E:Int) 0) (hpE:p≠E) (hE:E≤s.size) (oo:Rd (Tre × Coms)) (hoo:andR (passR s E) (fun l o=>if missP s b n l.2.2=true then o=.ok (emptyT (decide (b=3)) l.1 l.2.1 l.2.2,[]) else ownP s blk n d E l o) oo) (ho:o=rdMap (fun x=>(x.1.1.withHead A T p x.2,x.1.2)) oo) :
  Calls Tryz.prog 31 #[.pointer (some ⟨g,0,none⟩),.agg #[.int .i64 (b:Int),.int .i64 n,.int .i64 (d:Int)]] w fun e w'=>TrPost g w o (NodG g s w) e w':=by
 have hg:=h.lt
 obtain ⟨W1,hW1⟩:∃ W1,W1=(w.alloc (.cells #[.int .i64 (b:Int),.int .i64 n,.int .i64 (d:Int)] 55)).alloc (.cells #[.int .i64 0,.int .i64 0,.int .i64 0,.int .i64 0,.string ⟨#[]⟩,.string ⟨#[]⟩,.string ⟨#[]⟩,.slice none 0 0,.slice none 0 0,.slice none 0 0,.bool false,.string ⟨#[]⟩] 27):=⟨_,rfl⟩
 have u1:W1.heap.size=w.heap.size+2:=by rw[hW1];simp
 have b1:Below w.heap.size w W1:=by rw[hW1];exact ((Below.refl _ _).alloc (Nat.le_refl _) _).alloc (by simp) _
 have rp:W1.heap[w.heap.size]?=some (.cells #[.int .i64 (b:Int),.int .i64 n,.int .i64 (d:Int)] 55 (0,0)):=by rw[hW1];exact (heap_alloc_old _ _ (by simp)).trans (heap_alloc_new w _)
 have ra:W1.heap[w.heap.size+1]?=some (.cells #[.int .i64 0,.int .i64 0,.int .i64 0,.int .i64 0,.string ⟨#[]⟩,.string ⟨#[]⟩,.string ⟨#[]⟩,.slice none 0 0,.slice none 0 0,.slice none 0 0,.bool false,.string ⟨#[]⟩] 27 (0,0)):=by
  rw[hW1]
  have:=heap_alloc_new (w.alloc (.cells #[.int .i64 (b:Int),.int .i64 n,.int .i64 (d:Int)] 55)) (.cells #[.int .i64 0,.int .i64 0,.int .i64 0,.int .i64 0,.string ⟨#[]⟩,.string ⟨#[]⟩,.string ⟨#[]⟩,.slice none 0 0,.slice none 0 0,.slice none 0 0,.bool false,.string ⟨#[]⟩] 27)
  simpa using this
 have h1:=h.below b1 hg
 have B1:Below w0.heap.size w0 W1:=hB.trans (b1.mono hB.size)
 have c1:=h1.cell
 obtain ⟨va,vm,vc,rfl⟩:=hv
 have HW:=Lib.hid hW1
 have HB1:=Lib.hid B1
 have HT1:=Lib.hid h1
 have CP:=propRead_is A T (E:Int) 0 s (p:Int) false W1 (by omega) hZ
 obtain ⟨XA,hXA⟩:∃ X:ByteArray,X=⟨A.toArray⟩:=⟨_,rfl⟩
 obtain ⟨XT,hXT⟩:∃ X:ByteArray,X=⟨T.toArray⟩:=⟨_,rfl⟩
 rw[←hXA,←hXT] at CP
 have HXA:=Lib.hid hXA
 have HXT:=Lib.hid hXT
 have hne:((E:Int)==(p:Int))=false:=by rw[beq_eq_false_iff_ne];omega
 clear hW1 hZ h1 B1 h hXA hXT hpE
 go_enter Tryz.func31,Tryz.ntmps31
 go_upto_region 1 with fail
 rw[←HW.out]
 go_wp2_with fail
 refine CP.mono ?_
 rintro e w2 ⟨rfl,b2⟩
 clear CP
 have sz2:=b2.size
 have h2:=HT1.out.below b2 HT1.out.lt
 have B2:=HB1.out.trans (b2.mono HB1.out.size)
 have k2:Keep (Lx g w.heap.size) w w2:=(below_lx b1).lxB b2 b1.size
 have rp2:=(b2.block w.heap.size (by omega)).trans rp
 have ra2:=(b2.block (w.heap.size+1) (by omega)).trans ra
 have c2:=h2.cell
 have f2:=h2.free
 have H2:=Lib.hid h2
 clear rp ra c1 b1 h2
 go_wp2_with fail
 refine (trExpect_ok E _).mono ?_
 rintro e w3 ⟨rfl,rfl⟩
 go_wp2_with fail
 obtain ⟨W3,hW3⟩:∃ W3,W3=w3.setCell ⟨g,1,none⟩ (.int .i64 (E:Int)):=⟨_,rfl⟩
 have s3:∀ k,k≠g→W3.heap[k]?=w3.heap[k]?:=fun k hk=>by rw[hW3];exact heap_setCell_other _ _ _ _ hk
 have z3:W3.heap.size=w3.heap.size:=by rw[hW3];simp[World.setCell]
 have h3:TrAt g s E (.slice va vm vc) W3:=by rw[hW3];exact heap_setCell_same _ _ 1 _ _ _ H2.out
 have k3:Keep (Lx g w.heap.size) w W3:=k2.trans (by rw[hW3];exact tr_keep1 _ _ _) (fun _ hk=>hk)
 have B3:Below w0.heap.size w0 W3:=by rw[hW3];exact B2.setCell (p:=⟨g,1,none⟩) hg0 _
 rw[←hW3]
 clear hW3 c2 f2 B2 k2
 have rp3:=(s3 w.heap.size (by omega)).trans rp2
 have ra3:=(s3 (w.heap.size+1) (by omega)).trans ra2
 clear rp2 ra2 s3
 rcases hoo with ⟨q,c,hps,rfl⟩|⟨l,hps,hoo⟩
 ·refine (trSkip_is g s E _ W3 hs hE ⟨_,_,_,rfl⟩ h3 _ hps).mono ?_
  rintro e w4 ⟨rfl,k4⟩
  subst ho
  exact ⟨rfl,rfl,k3.lx k4 k3.size⟩
 refine (trSkip_is g s E _ W3 hs hE ⟨_,_,_,rfl⟩ h3 _ hps).mono ?_
 rintro e w4 ⟨rfl,hnl,v4,M4⟩
 obtain ⟨L,S,q⟩:=l
 have hfar:=pass_far hps hE
 have hEq:E≤q:=hfar.1
 have hnw:=fun hq=>pass_nw hps hq
 have k4:=k3.lx M4.keep k3.size
 have z4:=M4.keep.size
 have zk3:=k3.size
 have rp4:=(M4.keep.block w.heap.size ⟨by omega,by omega⟩).trans rp3
 have ra4:=(M4.keep.block (w.heap.size+1) ⟨by omega,by omega⟩).trans ra3
 have B4:Below w0.heap.size w0 w4:=B3.trans (M4.keep.below (fun k hk=>⟨by have:=B3.size;omega,by omega⟩))
 obtain ⟨va4,vc4,rfl⟩:=M4.has.form
 obtain ⟨W5,hW5⟩:∃ W5,W5=w4.alloc (.cells #[.int .i64 0,.int .i64 0,.int .i64 0,.int .i64 0,.string ⟨#[]⟩,.string ⟨#[]⟩,.string ⟨#[]⟩,.slice none 0 0,.slice none 0 0,.slice none 0 0,.bool false,.string ⟨#[]⟩] 27):=⟨_,rfl⟩
 obtain ⟨nb,hnb⟩:∃ nb,nb=w4.heap.size:=⟨_,rfl⟩
 have b5:Below w4.heap.size w4 W5:=by rw[hW5];exact (Below.refl _ _).alloc (Nat.le_refl _) _
 have z5:W5.heap.size=nb+1:=by rw[hW5,hnb];simp
 have rn5:W5.heap[nb]?=some (.cells #[.int .i64 0,.int .i64 0,.int .i64 0,.int .i64 0,.string ⟨#[]⟩,.string ⟨#[]⟩,.string ⟨#[]⟩,.slice none 0 0,.slice none 0 0,.slice none 0 0,.bool false,.string ⟨#[]⟩] 27 (0,0)):=by rw[hW5,hnb];exact heap_alloc_new w4 _
 have M5:=M4.below b5
 have rp5:=(b5.block w.heap.size (by omega)).trans rp4
 have ra5:=(b5.block (w.heap.size+1) (by omega)).trans ra4
 have B5:=B4.trans (b5.mono B4.size)
 have k5:Keep (Lx g w.heap.size) w W5:=k4.lxB b5 k4.size
 have qp5:∀ j,W5.cell? ⟨w.heap.size,j,none⟩=(#[.int .i64 (b:Int),.int .i64 n,.int .i64 (d:Int)]:Array Value)[j]?:=fun j=>cell_of_row W5 _ j _ _ _ rp5
 have hnb1:w.heap.size+2≤nb:=by omega
 have hnb2:nb≠g:=by omega
 have hvo:∀ k,(Value.slice va4 L.length vc4).ownBlock=some k→w.heap.size+2≤k∧k<nb:=fun k hk=>⟨by have:=(M4.own k hk).1;omega,by have:=M4.has.own k hk;omega⟩
 have CM:=trMissing_is g s q _ W5 b n d M5.cells hs hfar.2
 have HW5:=Lib.hid hW5
 have HNB:=Lib.hid hnb
 have HM5:=Lib.hid M5
 have HB5:=Lib.hid B5
 have HK:=Lib.hid k5
 have RN:=Lib.hid rn5
 have RA:=Lib.hid ra5
 have RP:=Lib.hid rp5
 have hfew:=M4.few
 clear rp4 ra4 B4 k4 hW5 rn5 ra5 rp5 M5 B5 k5 b5 h3 B3 k3 rp3 ra3 M4 hnb
 go_upto_region 9 with fail
 rw[←HW5.out,←HNB.out]
 go_wp2_with fail
 refine CM.mono ?_
 rintro e w6 ⟨rfl,b6⟩
 clear CM
 have sz6:=b6.size
 have M6:=HM5.out.below b6
 have k6:Keep (Lx g w.heap.size) w w6:=HK.out.lxB b6 HK.out.size
 have RA6:=Lib.hid ((b6.block (w.heap.size+1) (by omega)).trans RA.out)
 have RN6:=Lib.hid ((b6.block nb (by omega)).trans RN.out)
 have qp6:∀ j,w6.cell? ⟨w.heap.size,j,none⟩=(#[.int .i64 (b:Int),.int .i64 n,.int .i64 (d:Int)]:Array Value)[j]?:=fun j=>cell_of_row w6 _ j _ _ _ ((b6.block w.heap.size (by omega)).trans RP.out)
 have B6:Below w0.heap.size w0 w6:=HB5.out.trans (b6.mono HB5.out.size)
 clear qp5
 cases hmi:missP s b n q with
 | true=>
  have hoo:oo=.ok (emptyT (decide (b=3)) L S q,[]):=by
   have:=hoo
   rw[if_pos hmi] at this
   exact this
  subst hoo
  have CE:=trEmpty_is g s q _ L w6 b n d S M6.cells M6.has (fun e=>by have:=hvo _ e;omega) hfew hnl hs
  go_wp2_with fail
  refine CE.mono ?_
  rintro e w5 ⟨cs,v5,R,rfl,hN,T5,HH5,hvv,hRn,k5⟩
  clear CE
  have hvq:∀ k,v5.ownBlock=some k→w.heap.size+2≤k∧k<nb:=fun k hk=>hvo k (by rw[←hvv];exact hk)
  have zk6:=k6.size
  have hRb:∀ k,R k→nb+1≤k:=fun k hk=>by have:=(hRn k hk).1;omega
  have M:TrM g s w w5 q v5 (emptyT (decide (b=3)) L S q).2.1 R:=⟨T5,HH5,fun k hk=>⟨by have:=hvq k hk;omega,fun h=>by have:=hvq k hk;have:=hRb k h;omega⟩,fun k hk=>⟨by have:=hRb k hk;omega,(hRn k hk).2⟩,k6.trans k5 (fun k hk=>⟨Nat.lt_of_lt_of_le hk.1 zk6,hk.2⟩),hfar.2,Nat.le_trans (empty_few _ _ _ _) hfew⟩
  have hN:IsN R w5 ((emptyT (decide (b=3)) L S q).1.withLead []) cs:=by rw[empty_lead];exact hN
  have hnbR:¬ R nb∧¬ R (w.heap.size+1):=⟨fun h=>by have:=hRb nb h;omega,fun h=>by have:=hRb _ h;omega⟩
  have hnbV:v5.ownBlock≠some nb∧v5.ownBlock≠some (w.heap.size+1):=⟨fun e=>by have:=hvq _ e;omega,fun e=>by have:=hvq _ e;omega⟩
  have RA:=RA6
  have RN:=RN6
  subst ho
  have ht:(emptyT (decide (b=3)) L S q).2.2=q:=emptyT_at _ _ _ _
  have M:TrM g s w w5 (emptyT (decide (b=3)) L S q).2.2 v5 (emptyT (decide (b=3)) L S q).2.1 R:=by rw[ht];exact M
  obtain ⟨y0,y1,y2,y3,y4,y5,y6,ya,yb,yc,yd,ye,yf,yg,yh,yi,y7,y8,rfl⟩:=hN.cells12
  have zk5:=k5.size
  have ra5:=(k5.block (w.heap.size+1) ⟨by omega,by omega⟩).trans RA.out
  have rn5:=(k5.block nb ⟨by omega,by omega⟩).trans RN.out
  have qn5:∀ j,w5.cell? ⟨nb,j,none⟩=(#[.int .i64 0,.int .i64 0,.int .i64 0,.int .i64 0,.string ⟨#[]⟩,.string ⟨#[]⟩,.string ⟨#[]⟩,.slice none 0 0,.slice none 0 0,.slice none 0 0,.bool false,.string ⟨#[]⟩]:Array Value)[j]?:=fun j=>cell_of_row w5 _ j _ _ _ rn5
  have fn5:∀ j,w5.frozen? ⟨nb,j,none⟩=false:=fun j=>frozen_of_row w5 _ j _ _ rn5
  have HRA5:=Lib.hid ra5
  have HRN5:=Lib.hid rn5
  have HM5:=Lib.hid M
  have HN5:=Lib.hid hN
  have HK5:=Lib.hid k5
  clear M hN k5 ra5 rn5
  go_upto_region 12 with fail
  obtain ⟨w6,hw6⟩:∃ w6,w6=((((((((((((w5.setCell ⟨nb,0,none⟩ (.int .i64 y0)).setCell ⟨nb,1,none⟩ (.int .i64 y1)).setCell ⟨nb,2,none⟩ (.int .i64 y2)).setCell ⟨nb,3,none⟩ (.int .i64 y3)).setCell ⟨nb,4,none⟩ (.string y4)).setCell ⟨nb,5,none⟩ (.string y5)).setCell ⟨nb,6,none⟩ (.string y6)).setCell ⟨nb,7,none⟩ (.slice ya yb yc)).setCell ⟨nb,8,none⟩ (.slice yd ye yf)).setCell ⟨nb,9,none⟩ (.slice yg yh yi)).setCell ⟨nb,10,none⟩ (.bool y7)).setCell ⟨nb,11,none⟩ (.string y8)):=⟨_,rfl⟩
  have rw6:w6.heap[nb]?=some (.cells #[.int .i64 y0,.int .i64 y1,.int .i64 y2,.int .i64 y3,.string y4,.string y5,.string y6,.slice ya yb yc,.slice yd ye yf,.slice yg yh yi,.bool y7,.string y8] 27 (0,0)):=by rw[hw6];exact row12_set w5 (hg:=HRN5.out) ..
  have bw6:Below (nb) w5 w6:=by rw[hw6];exact row12_below w5 _ _ (Nat.le_refl _) _ _ _ _ _ _ _ _ _ _ _ _
  have zw6:w6.heap.size=w5.heap.size:=by rw[hw6,row12_size]
  have sw6:∀ k,¬ k=nb→w6.heap[k]?=w5.heap[k]?:=fun k hk=>by rw[hw6];exact row12_other w5 _ k hk ..
  rw[←hw6]
  clear hw6
  have ra6:=(sw6 (w.heap.size+1) (by omega)).trans HRA5.out
  have qn6:∀ j,w6.cell? ⟨nb,j,none⟩=(#[.int .i64 y0,.int .i64 y1,.int .i64 y2,.int .i64 y3,.string y4,.string y5,.string y6,.slice ya yb yc,.slice yd ye yf,.slice yg yh yi,.bool y7,.string y8]:Array Value)[j]?:=fun j=>cell_of_row w6 _ j _ _ _ rw6
  have fn6:∀ j,w6.frozen? ⟨nb,j,none⟩=false:=fun j=>frozen_of_row w6 _ j _ _ rw6
  clear qn5 fn5
  go_upto_region 13 with fail
  obtain ⟨w7,hw7⟩:∃ w7,w7=((w6.setCell ⟨nb,2,none⟩ (.int .i64 (p:Int))).setCell ⟨nb,4,none⟩ (.string XA)).setCell ⟨nb,5,none⟩ (.string XT):=⟨_,rfl⟩
  have rw7:w7.heap[nb]?=some (.cells #[.int .i64 y0,.int .i64 y1,.int .i64 (p:Int),.int .i64 y3,.string XA,.string XT,.string y6,.slice ya yb yc,.slice yd ye yf,.slice yg yh yi,.bool y7,.string y8] 27 (0,0)):=by rw[hw7];exact heap_setCell_same _ _ 5 _ _ _ (heap_setCell_same _ _ 4 _ _ _ (heap_setCell_same _ _ 2 _ _ _ rw6))
  have sw7:∀ k,¬ k=nb→w7.heap[k]?=w6.heap[k]?:=fun k hk=>by rw[hw7,heap_setCell_other _ _ _ _ hk,heap_setCell_other _ _ _ _ hk,heap_setCell_other _ _ _ _ hk]
  have zw7:w7.heap.size=w6.heap.size:=by rw[hw7];simp[World.setCell]
  have ow7:w7.os=w6.os∧w7.tape=w6.tape∧w7.output=w6.output:=by rw[hw7];exact ⟨rfl,rfl,rfl⟩
  rw[←hw7]
  clear hw7
  have ra7:=(sw7 (w.heap.size+1) (by omega)).trans ra6
  have qn7:∀ j,w7.cell? ⟨nb,j,none⟩=(#[.int .i64 y0,.int .i64 y1,.int .i64 (p:Int),.int .i64 y3,.string XA,.string XT,.string y6,.slice ya yb yc,.slice yd ye yf,.slice yg yh yi,.bool y7,.string y8]:Array Value)[j]?:=fun j=>cell_of_row w7 _ j _ _ _ rw7
  have fn7:∀ j,w7.frozen? ⟨nb,j,none⟩=false:=fun j=>frozen_of_row w7 _ j _ _ rw7
  have qa7:∀ j,w7.cell? ⟨w.heap.size+1,j,none⟩=(#[.int .i64 0,.int .i64 0,.int .i64 0,.int .i64 0,.string ⟨#[]⟩,.string ⟨#[]⟩,.string ⟨#[]⟩,.slice none 0 0,.slice none 0 0,.slice none 0 0,.bool false,.string ⟨#[]⟩]:Array Value)[j]?:=fun j=>cell_of_row w7 _ j _ _ _ ra7
  have fa7:∀ j,w7.frozen? ⟨w.heap.size+1,j,none⟩=false:=fun j=>frozen_of_row w7 _ j _ _ ra7
  have HRA7:=Lib.hid ra7
  clear ra7 rw7 ra6 rw6 qn6 fn6
  go_wp2
  obtain ⟨w12,hw12⟩:∃ w12,w12=((((((((((((w7.setCell ⟨w.heap.size+1,0,none⟩ (.int .i64 y0)).setCell ⟨w.heap.size+1,1,none⟩ (.int .i64 y1)).setCell ⟨w.heap.size+1,2,none⟩ (.int .i64 (p:Int))).setCell ⟨w.heap.size+1,3,none⟩ (.int .i64 y3)).setCell ⟨w.heap.size+1,4,none⟩ (.string XA)).setCell ⟨w.heap.size+1,5,none⟩ (.string XT)).setCell ⟨w.heap.size+1,6,none⟩ (.string y6)).setCell ⟨w.heap.size+1,7,none⟩ (.slice ya yb yc)).setCell ⟨w.heap.size+1,8,none⟩ (.slice yd ye yf)).setCell ⟨w.heap.size+1,9,none⟩ (.slice yg yh yi)).setCell ⟨w.heap.size+1,10,none⟩ (.bool y7)).setCell ⟨w.heap.size+1,11,none⟩ (.string y8)):=⟨_,rfl⟩
  have rw12:w12.heap[w.heap.size+1]?=some (.cells #[.int .i64 y0,.int .i64 y1,.int .i64 (p:Int),.int .i64 y3,.string XA,.string XT,.string y6,.slice ya yb yc,.slice yd ye yf,.slice yg yh yi,.bool y7,.string y8] 27 (0,0)):=by rw[hw12];exact row12_set w7 (hg:=HRA7.out) ..
  have bw12:Below (w.heap.size+1) w7 w12:=by rw[hw12];exact row12_below w7 _ _ (Nat.le_refl _) _ _ _ _ _ _ _ _ _ _ _ _
  have zw12:w12.heap.size=w7.heap.size:=by rw[hw12,row12_size]
  have sw12:∀ k,¬ k=w.heap.size+1→w12.heap[k]?=w7.heap[k]?:=fun k hk=>by rw[hw12];exact row12_other w7 _ k hk ..
  rw[←hw12]
  clear hw12
  have hcz:∀ j,w12.cell? ⟨w.heap.size+1,j,none⟩=(#[.int .i64 y0,.int .i64 y1,.int .i64 (p:Int),.int .i64 y3,.string XA,.string XT,.string y6,.slice ya yb yc,.slice yd ye yf,.slice yg yh yi,.bool y7,.string y8]:Array Value)[j]?:=fun j=>cell_of_row w12 _ j _ _ _ rw12
  refine bodyPost_ret (v:=.agg #[.int .i64 y0,.int .i64 y1,.int .i64 (p:Int),.int .i64 y3,.string XA,.string XT,.string y6,.slice ya yb yc,.slice yd ye yf,.slice yg yh yi,.bool y7,.string y8]) (by simp[results,Tryz.results31,go_sem,hcz]) rfl ?_
  rw[HXA.out,HXT.out]
  exact name_end HM5.out HN5.out (by omega) hnb2 hnbR hnbV hg (fun k h1 h2=>(sw12 k h1).trans ((sw7 k h2).trans (sw6 k h2))) (by rw[zw12,zw7,zw6]) ⟨(bw12.os.trans ow7.1).trans bw6.os,(bw12.tape.trans ow7.2.1).trans bw6.tape,(bw12.output.trans ow7.2.2).trans bw6.output⟩
 | false=>
  have hoo:ownP s blk n d E (L,S,q) oo:=by
   have:=hoo
   rw[if_neg (by rw[hmi];decide)] at this
   exact this
  have hql:=over_lt (miss_no hmi).1
  have CO:=trOwned_is K w0 hEv g hg0 s hs hPs blk hblk b n d E q L S (.slice va4 L.length vc4) oo w6 B6 M6.cells M6.has (fun e=>by have:=hvo _ e;omega) hEq hql (hnw hql) hoo
  go_wp2_with fail
  refine CO.mono ?_
  rintro e w5 hpost
  clear CO
  cases oo with
  | bad r c=>
   obtain ⟨rfl,k5⟩:=hpost
   subst ho
   exact ⟨rfl,rfl,k6.lx k5 k6.size⟩
  | ok x=>
   obtain ⟨cs,v5,R0,rfl,hN,M0⟩:=hpost
   have zk6:=k6.size
   have k5:=M0.keep
   have hR0:∀ k,R0 k→nb+1≤k:=fun k hk=>by have:=(M0.new k hk).1;omega
   have hV0:∀ k,v5.ownBlock=some k→nb+1≤k:=fun k hk=>by have:=(M0.own k hk).1;omega
   obtain ⟨R,hR⟩:∃ R:Nat→Prop,R=fun k=>R0 k∨(Value.slice va4 L.length vc4).ownBlock=some k:=⟨_,rfl⟩
   have hRk:∀ k,R k→w.heap.size+2≤k∧k≠nb∧k<w5.heap.size:=fun k hk=>by
    rw[hR] at hk
    have:=k5.size
    rcases hk with hk|hk
    ·have:=hR0 k hk;have:=(M0.new k hk).2;omega
    ·have:=hvo k hk;omega
   rw[←hR] at hN
   have M:TrM g s w w5 x.1.2.2 v5 x.1.2.1 R:=⟨M0.cells,M0.has,fun k hk=>⟨by have:=hV0 k hk;omega,fun h=>by
    rw[hR] at h
    rcases h with h|h
    ·exact (M0.own k hk).2 h
    ·have:=hvo k h;have:=hV0 k hk;omega⟩,fun k hk=>⟨by have:=(hRk k hk).1;omega,(hRk k hk).2.2⟩,k6.lx k5 zk6,M0.le,M0.few⟩
   have hnbR:¬ R nb∧¬ R (w.heap.size+1):=⟨fun h=>(hRk _ h).2.1 rfl,fun h=>by have:=(hRk _ h).1;omega⟩
   have hnbV:v5.ownBlock≠some nb∧v5.ownBlock≠some (w.heap.size+1):=⟨fun e=>by have:=hV0 _ e;omega,fun e=>by have:=hV0 _ e;omega⟩
   have HR:=Lib.hid hR
   have RA:=RA6
   have RN:=RN6
   subst ho
   clear hR
   obtain ⟨y0,y1,y2,y3,y4,y5,y6,ya,yb,yc,yd,ye,yf,yg,yh,yi,y7,y8,rfl⟩:=hN.cells12
   have zk5:=k5.size
   have ra5:=(k5.block (w.heap.size+1) ⟨by omega,by omega⟩).trans RA.out
   have rn5:=(k5.block nb ⟨by omega,by omega⟩).trans RN.out
   have qn5:∀ j,w5.cell? ⟨nb,j,none⟩=(#[.int .i64 0,.int .i64 0,.int .i64 0,.int .i64 0,.string ⟨#[]⟩,.string ⟨#[]⟩,.string ⟨#[]⟩,.slice none 0 0,.slice none 0 0,.slice none 0 0,.bool false,.string ⟨#[]⟩]:Array Value)[j]?:=fun j=>cell_of_row w5 _ j _ _ _ rn5
   have fn5:∀ j,w5.frozen? ⟨nb,j,none⟩=false:=fun j=>frozen_of_row w5 _ j _ _ rn5
   have HRA5:=Lib.hid ra5
   have HRN5:=Lib.hid rn5
   have HM5:=Lib.hid M
   have HN5:=Lib.hid hN
   have HK5:=Lib.hid k5
   clear M hN k5 ra5 rn5
   go_upto_region 12 with fail
   obtain ⟨w6,hw6⟩:∃ w6,w6=((((((((((((w5.setCell ⟨nb,0,none⟩ (.int .i64 y0)).setCell ⟨nb,1,none⟩ (.int .i64 y1)).setCell ⟨nb,2,none⟩ (.int .i64 y2)).setCell ⟨nb,3,none⟩ (.int .i64 y3)).setCell ⟨nb,4,none⟩ (.string y4)).setCell ⟨nb,5,none⟩ (.string y5)).setCell ⟨nb,6,none⟩ (.string y6)).setCell ⟨nb,7,none⟩ (.slice ya yb yc)).setCell ⟨nb,8,none⟩ (.slice yd ye yf)).setCell ⟨nb,9,none⟩ (.slice yg yh yi)).setCell ⟨nb,10,none⟩ (.bool y7)).setCell ⟨nb,11,none⟩ (.string y8)):=⟨_,rfl⟩
   have rw6:w6.heap[nb]?=some (.cells #[.int .i64 y0,.int .i64 y1,.int .i64 y2,.int .i64 y3,.string y4,.string y5,.string y6,.slice ya yb yc,.slice yd ye yf,.slice yg yh yi,.bool y7,.string y8] 27 (0,0)):=by rw[hw6];exact row12_set w5 (hg:=HRN5.out) ..
   have bw6:Below (nb) w5 w6:=by rw[hw6];exact row12_below w5 _ _ (Nat.le_refl _) _ _ _ _ _ _ _ _ _ _ _ _
   have zw6:w6.heap.size=w5.heap.size:=by rw[hw6,row12_size]
   have sw6:∀ k,¬ k=nb→w6.heap[k]?=w5.heap[k]?:=fun k hk=>by rw[hw6];exact row12_other w5 _ k hk ..
   rw[←hw6]
   clear hw6
   have ra6:=(sw6 (w.heap.size+1) (by omega)).trans HRA5.out
   have qn6:∀ j,w6.cell? ⟨nb,j,none⟩=(#[.int .i64 y0,.int .i64 y1,.int .i64 y2,.int .i64 y3,.string y4,.string y5,.string y6,.slice ya yb yc,.slice yd ye yf,.slice yg yh yi,.bool y7,.string y8]:Array Value)[j]?:=fun j=>cell_of_row w6 _ j _ _ _ rw6
   have fn6:∀ j,w6.frozen? ⟨nb,j,none⟩=false:=fun j=>frozen_of_row w6 _ j _ _ rw6
   clear qn5 fn5
   go_upto_region 13 with fail
   obtain ⟨w7,hw7⟩:∃ w7,w7=((w6.setCell ⟨nb,2,none⟩ (.int .i64 (p:Int))).setCell ⟨nb,4,none⟩ (.string XA)).setCell ⟨nb,5,none⟩ (.string XT):=⟨_,rfl⟩
   have rw7:w7.heap[nb]?=some (.cells #[.int .i64 y0,.int .i64 y1,.int .i64 (p:Int),.int .i64 y3,.string XA,.string XT,.string y6,.slice ya yb yc,.slice yd ye yf,.slice yg yh yi,.bool y7,.string y8] 27 (0,0)):=by rw[hw7];exact heap_setCell_same _ _ 5 _ _ _ (heap_setCell_same _ _ 4 _ _ _ (heap_setCell_same _ _ 2 _ _ _ rw6))
   have sw7:∀ k,¬ k=nb→w7.heap[k]?=w6.heap[k]?:=fun k hk=>by rw[hw7,heap_setCell_other _ _ _ _ hk,heap_setCell_other _ _ _ _ hk,heap_setCell_other _ _ _ _ hk]
   have zw7:w7.heap.size=w6.heap.size:=by rw[hw7];simp[World.setCell]
   have ow7:w7.os=w6.os∧w7.tape=w6.tape∧w7.output=w6.output:=by rw[hw7];exact ⟨rfl,rfl,rfl⟩
   rw[←hw7]
   clear hw7
   have ra7:=(sw7 (w.heap.size+1) (by omega)).trans ra6
   have qn7:∀ j,w7.cell? ⟨nb,j,none⟩=(#[.int .i64 y0,.int .i64 y1,.int .i64 (p:Int),.int .i64 y3,.string XA,.string XT,.string y6,.slice ya yb yc,.slice yd ye yf,.slice yg yh yi,.bool y7,.string y8]:Array Value)[j]?:=fun j=>cell_of_row w7 _ j _ _ _ rw7
   have fn7:∀ j,w7.frozen? ⟨nb,j,none⟩=false:=fun j=>frozen_of_row w7 _ j _ _ rw7
   have qa7:∀ j,w7.cell? ⟨w.heap.size+1,j,none⟩=(#[.int .i64 0,.int .i64 0,.int .i64 0,.int .i64 0,.string ⟨#[]⟩,.string ⟨#[]⟩,.string ⟨#[]⟩,.slice none 0 0,.slice none 0 0,.slice none 0 0,.bool false,.string ⟨#[]⟩]:Array Value)[j]?:=fun j=>cell_of_row w7 _ j _ _ _ ra7
   have fa7:∀ j,w7.frozen? ⟨w.heap.size+1,j,none⟩=false:=fun j=>frozen_of_row w7 _ j _ _ ra7
   have HRA7:=Lib.hid ra7
   clear ra7 rw7 ra6 rw6 qn6 fn6
   go_wp2
   obtain ⟨w12,hw12⟩:∃ w12,w12=((((((((((((w7.setCell ⟨w.heap.size+1,0,none⟩ (.int .i64 y0)).setCell ⟨w.heap.size+1,1,none⟩ (.int .i64 y1)).setCell ⟨w.heap.size+1,2,none⟩ (.int .i64 (p:Int))).setCell ⟨w.heap.size+1,3,none⟩ (.int .i64 y3)).setCell ⟨w.heap.size+1,4,none⟩ (.string XA)).setCell ⟨w.heap.size+1,5,none⟩ (.string XT)).setCell ⟨w.heap.size+1,6,none⟩ (.string y6)).setCell ⟨w.heap.size+1,7,none⟩ (.slice ya yb yc)).setCell ⟨w.heap.size+1,8,none⟩ (.slice yd ye yf)).setCell ⟨w.heap.size+1,9,none⟩ (.slice yg yh yi)).setCell ⟨w.heap.size+1,10,none⟩ (.bool y7)).setCell ⟨w.heap.size+1,11,none⟩ (.string y8)):=⟨_,rfl⟩
   have rw12:w12.heap[w.heap.size+1]?=some (.cells #[.int .i64 y0,.int .i64 y1,.int .i64 (p:Int),.int .i64 y3,.string XA,.string XT,.string y6,.slice ya yb yc,.slice yd ye yf,.slice yg yh yi,.bool y7,.string y8] 27 (0,0)):=by rw[hw12];exact row12_set w7 (hg:=HRA7.out) ..
   have bw12:Below (w.heap.size+1) w7 w12:=by rw[hw12];exact row12_below w7 _ _ (Nat.le_refl _) _ _ _ _ _ _ _ _ _ _ _ _
   have zw12:w12.heap.size=w7.heap.size:=by rw[hw12,row12_size]
   have sw12:∀ k,¬ k=w.heap.size+1→w12.heap[k]?=w7.heap[k]?:=fun k hk=>by rw[hw12];exact row12_other w7 _ k hk ..
   rw[←hw12]
   clear hw12
   have hcz:∀ j,w12.cell? ⟨w.heap.size+1,j,none⟩=(#[.int .i64 y0,.int .i64 y1,.int .i64 (p:Int),.int .i64 y3,.string XA,.string XT,.string y6,.slice ya yb yc,.slice yd ye yf,.slice yg yh yi,.bool y7,.string y8]:Array Value)[j]?:=fun j=>cell_of_row w12 _ j _ _ _ rw12
   refine bodyPost_ret (v:=.agg #[.int .i64 y0,.int .i64 y1,.int .i64 (p:Int),.int .i64 y3,.string XA,.string XT,.string y6,.slice ya yb yc,.slice yd ye yf,.slice yg yh yi,.bool y7,.string y8]) (by simp[results,Tryz.results31,go_sem,hcz]) rfl ?_
   rw[HXA.out,HXT.out]
   exact name_end HM5.out HN5.out (by omega) hnb2 hnbR hnbV hg (fun k h1 h2=>(sw12 k h1).trans ((sw7 k h2).trans (sw6 k h2))) (by rw[zw12,zw7,zw6]) ⟨(bw12.os.trans ow7.1).trans bw6.os,(bw12.tape.trans ow7.2.1).trans bw6.tape,(bw12.output.trans ow7.2.2).trans bw6.output⟩
set_option maxRecDepth 100000 in
theorem trNamed_is {Ev:World→Prop} {P:ByteArray→Prop} (K:CntC Ev P) (w0:World) (hEv:Ev w0) (g:Nat) (hg0:w0.heap.size≤g) (s:ByteArray) (hs:s.size≤10000) (hPs:P s) (blk:Nat→Nat→Rd Tre→Prop) (hblk:BlkC w0 g s blk) (b:Nat) (n:Int) (d p:Nat) (v:Value) (o:Rd Tre) (w:World) (hB:Below w0.heap.size w0 w) (hv:∃ a n c,v=.slice a n c) (h:TrAt g s p v w) (hp:p<s.size) (ho:nameP s blk b n d p o) :
  Calls Tryz.prog 31 #[.pointer (some ⟨g,0,none⟩),.agg #[.int .i64 (b:Int),.int .i64 n,.int .i64 (d:Int)]] w fun e w'=>TrPost g w o (NodG g s w) e w':=by
 obtain ⟨A,T,E,C,hZ,ho⟩:=ho
 obtain ⟨E',rfl,e1,e2⟩:=hZ.far_le (Nat.le_of_lt hp)
 rw[Int.toNat_natCast] at ho
 by_cases hC:C=0
 ·subst hC
  rw[if_neg (by decide)] at ho
  by_cases hE:(E':Int)=(p:Int)
  ·rw[if_pos hE] at ho
   rw[hE] at hZ
   exact trNamed_bare K w0 hEv g s hs hPs b n d p v o w hB hv h hp A T hZ ho
  ·rw[if_neg hE] at ho
   obtain ⟨oo,h1,h2⟩:∃ oo,andR (passR s E') (fun l o=>if missP s b n l.2.2=true then o=.ok (emptyT (decide (b=3)) l.1 l.2.1 l.2.2,[]) else ownP s blk n d E' l o) oo∧o=rdMap (fun x=>(x.1.1.withHead A T p x.2,x.1.2)) oo:=by
    rcases ho with ⟨q,c,h1,rfl⟩|⟨x,h1,rfl⟩
    ·exact ⟨_,h1,rfl⟩
    ·exact ⟨_,h1,rfl⟩
   exact trNamed_props K w0 hEv g hg0 s hs hPs blk hblk b n d p v o w hB hv h A T E' hZ (by omega) e2 oo h1 h2
 ·rw[if_pos hC] at ho
  exact trNamed_bad w0 g s hs b n d p v o w hB hv h A T E' C hZ hC ho
end Go.Proofs.YthcmkpiajkbpnaaGreatDoor
